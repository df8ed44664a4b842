/- Package sendq: mayStand, without, framesOf, New, Start, End, Frames, and all of nil. Conditions: those that each states. -/
import Derived.Test.YtgmejifacpefdaaSn
import Derived.Test.YtgmejifacpefdaaTail
namespace Go.Proofs.Ytgmejifacpefdaa.Sn
open Go.ChangeShapes Go.WideShapes Go.ChangeAt Go.RowKit Go.Deep Rk Rv
set_option linter.unusedVariables false
set_option linter.unusedSimpArgs false

theorem may_any (p : Pc) (hp : p.Ok) (w : World) :
    Calls Try.prog 24 #[.agg #[.int .i64 p.frame, .int .i64 p.off, .int .i64 p.len]] w fun e w' => e = .returned (.bool (decide (okP p))) ∧ Below w.heap.size w w' := by
  have b0 := (Below.refl w.heap.size w).alloc (Nat.le_refl _) (.cells #[.int .i64 p.frame, .int .i64 p.off, .int .i64 p.len] 59)
  have B0 := Lib.hid b0
  obtain ⟨o1, o2⟩ := hp.off
  clear hp b0
  obtain ⟨v, hv⟩ : ∃ v, decide (okP p) = v := ⟨_, rfl⟩
  rw [hv]
  have V := Lib.hid hv
  clear hv
  obtain ⟨f, o, n⟩ := p
  dsimp only at *
  by_cases g1 : f ≥ 0
  · by_cases g2 : f < 256
    · by_cases g3 : o ≥ 0
      · by_cases g4 : n ≥ 1
        · have x0 : IntKind.i64.wrap (256 - o) = 256 - o := IntWalk.i64_in _ (by omega)
          by_cases g5 : n ≤ 256 - o
          · obtain rfl : v = true := by rw [← V.out]; exact decide_eq_true (by unfold okP Pc.In; dsimp only; omega)
            clear o1 o2
            go_enter Try.func24, Try.ntmps24
            go_wp2
            go_ret
            exact ⟨rfl, B0.out⟩
          · obtain rfl : v = false := by rw [← V.out]; exact decide_eq_false (by unfold okP Pc.In; dsimp only; omega)
            clear o1 o2
            go_enter Try.func24, Try.ntmps24
            go_wp2
            go_ret
            exact ⟨rfl, B0.out⟩
        · obtain rfl : v = false := by rw [← V.out]; exact decide_eq_false (by unfold okP Pc.In; dsimp only; omega)
          clear o1 o2
          go_enter Try.func24, Try.ntmps24
          go_wp2
          go_ret
          exact ⟨rfl, B0.out⟩
      · obtain rfl : v = false := by rw [← V.out]; exact decide_eq_false (by unfold okP Pc.In; dsimp only; omega)
        clear o1 o2
        go_enter Try.func24, Try.ntmps24
        go_wp2
        go_ret
        exact ⟨rfl, B0.out⟩
    · obtain rfl : v = false := by rw [← V.out]; exact decide_eq_false (by unfold okP Pc.In; dsimp only; omega)
      clear o1 o2
      go_enter Try.func24, Try.ntmps24
      go_wp2
      go_ret
      exact ⟨rfl, B0.out⟩
  · obtain rfl : v = false := by rw [← V.out]; exact decide_eq_false (by unfold okP Pc.In; dsimp only; omega)
    clear o1 o2
    go_enter Try.func24, Try.ntmps24
    go_wp2
    go_ret
    exact ⟨rfl, B0.out⟩

theorem without_any (p : Pc) (k : Nat) (hp : okP p) (hk : (k : Int) ≤ p.len) (w : World) :
    Calls Try.prog 28 #[.agg #[.int .i64 p.frame, .int .i64 p.off, .int .i64 p.len], .int .i64 (k : Int)] w fun e w' => e = .returned (.agg #[.int .i64 (less p k).frame, .int .i64 (less p k).off, .int .i64 (less p k).len]) ∧ Below w.heap.size w w' := by
  unfold less
  unfold okP Pc.In at hp
  obtain ⟨f, o, n⟩ := p
  dsimp only at *
  have x0 : IntKind.i64.wrap (o + (k : Int)) = o + (k : Int) := IntWalk.i64_in _ (by omega)
  have x1 : IntKind.i64.wrap (n - (k : Int)) = n - (k : Int) := IntWalk.i64_in _ (by omega)
  have B0 := Lib.hid (Below.refl w.heap.size w)
  clear hp hk
  go_enter Try.func28, Try.ntmps28
  go_wp2
  have NB := Lib.hid ((B0.out.alloc (Nat.le_refl _) (.cells #[.int .i64 f, .int .i64 (o + (k : Int)), .int .i64 (n - (k : Int))] 59)).alloc (by simp) (.cells #[.int .i64 f, .int .i64 (o + (k : Int)), .int .i64 (n - (k : Int))] 59))
  have KB := Blk.new (w.alloc (.cells #[.int .i64 f, .int .i64 (o + (k : Int)), .int .i64 (n - (k : Int))] 59)) 59 #[.int .i64 f, .int .i64 (o + (k : Int)), .int .i64 (n - (k : Int))]
  rw [show (w.alloc (.cells #[.int .i64 f, .int .i64 (o + (k : Int)), .int .i64 (n - (k : Int))] 59)).heap.size = w.heap.size + 1 by simp] at KB
  refine bodyPost_ret (v := .agg #[.int .i64 f, .int .i64 (o + (k : Int)), .int .i64 (n - (k : Int))]) ?_ rfl ?_
  · exact results_cell_row Try.results28 _ _ (w.heap.size + 1) 59 _ (0, 0) _ rfl KB Try.underlying59 rfl piece_info
  exact ⟨rfl, NB.out⟩

theorem int_infos : (Try.prog.info? 3).map (fun i => (i.zero, i.size, i.bytes)) = some (some (.int .i64 0), 1, 8) := by kernel_rfl
set_option maxRecDepth 100000 in
set_option maxHeartbeats 2000000 in
theorem framesOf_any (A : Option Addr) (c : Nat) (l : List Pc) (w : World) (hp : RowG w 3 A l.length c (flatP l)) (hmax : l.length ≤ 100000) :
    Calls Try.prog 27 #[.slice A l.length c] w fun e w' => ∃ A' c', e = .returned (.slice A' l.length c') ∧ RowG w' 1 A' l.length c' (frsV l) ∧ (∀ a, A' = some a → w.heap.size ≤ a.block) ∧ Below w.heap.size w w' := by
  have P := Lib.hid (pcs_of_G hp)
  have B0 := Lib.hid (Below.refl w.heap.size w)
  have II := Lib.hid int_infos
  clear hp
  go_enter Try.func27, Try.ntmps27
  go_wp2
  go_loopw [3, 8] (fun out i wr => ∃ (j : Nat) (A' : Option Addr) (c' : Nat), j ≤ l.length ∧ i = .int .i64 (j : Int) ∧ out = .slice A' j c' ∧ Hid (Row wr w.heap.size 3 A' c' (frsV (l.take j))) ∧ Hid (Below w.heap.size w wr)) (fun _ i _ => l.length - (intOf i).toNat)
  case atStart => exact ⟨0, none, 0, Nat.zero_le _, rfl, rfl, Lib.hid (Row.nil _ _ _), B0⟩
  case round =>
    obtain ⟨j, A', c', hj, rfl, rfl, HO, HB⟩ := hrel
    clear B0
    have P1 := Lib.hid (P.out.new HB.out)
    by_cases hlt : j < l.length
    · have hlt' : (j : Int) < (l.length : Int) := by omega
      have j0 : (0 : Int) ≤ (j : Int) := by omega
      have xj := IntWalk.i64_in ((j : Int) + 1) (by omega)
      obtain ⟨b, o, rfl, hbl, hr⟩ := P1.out j hlt
      have LD := Lib.hid (show wr.rangeAt b (o + j * 3) [.int .i64 l[j].frame, .int .i64 l[j].off, .int .i64 l[j].len] from hr)
      have HT := Lib.hid (show frsV (l.take (j + 1)) = frsV (l.take j) ++ [.int .i64 l[j].frame] from by unfold frsV; rw [List.take_succ_eq_append_getElem hlt, List.map_append]; rfl)
      have HL := Lib.hid (show (frsV (l.take j)).length = j by rw [frsV_length, List.length_take]; omega)
      generalize frsV (l.take j) = fl at *
      generalize l[j].frame = qf at *
      generalize l[j].off = qo at *
      generalize l[j].len = qn at *
      clear hr hbl
      go_wp2_with (first
        | (refine wpList_load_mid rfl 59 (.tmp 10) rfl b (o + j * 3) rfl _ _ LD.out Try.underlying59 rfl piece_info ?_)
        | (at_builtin; refine Hid.out ?_)
        | fail)
      unfold Hid
      have NB := (Below.refl wr.heap.size wr).alloc (Nat.le_refl _) (.cells #[.int .i64 qf, .int .i64 qo, .int .i64 qn] 59)
      refine wpList_append_one rfl (.tmp 12) (.tmp 15) rfl Try.underlying39 (.int .i64 0) 8 rfl (by decide) II.out (A := A') (c := c') (xs := fl) (B := w.heap.size) (by rw [HL.out]; rfl) (HO.out.new NB) (by have := HB.out.size; simp; omega) (.int .i64 qf) rfl (by show Value.slice (some ⟨wr.heap.size + 1, 0, none⟩) 1 1 = _; simp) (by rw [HL.out]; omega) ?_
      intro A2 c2 w2 r2 k2 _
      rw [← HT.out] at r2 ⊢
      have HO2 := Lib.hid r2
      have e2 : (frsV (l.take (j + 1))).length = j + 1 := by rw [frsV_length, List.length_take]; omega
      rw [e2]
      have HB2 := Lib.hid (show Below w.heap.size w w2 from (HB.out.trans (NB.mono HB.out.size)).trans (k2.below (by have := HB.out.size; simp; omega) (fun k hk => ((HO.out.new NB).lt k hk).1)))
      clear r2 k2 e2 NB HO HB HT HL
      go_wp2
      go_roundw
      case rel => exact ⟨j + 1, A2, c2, by omega, by simp, rfl, HO2, HB2⟩
      case measure => simp [intOf]; omega
    · have hge : ¬ (j : Int) < (l.length : Int) := by omega
      obtain rfl : j = l.length := by omega
      have ho := HO.out
      rw [List.take_length] at ho
      have hown := ho.own
      rw [frsV_length] at hown
      obtain ⟨A3, c3, e3, h3, h4⟩ := RowG.of_owns hown
      cases e3
      have HG := Lib.hid h3
      have HN := Lib.hid h4
      clear ho hown h3 h4 HO
      go_wp2
      go_ret
      exact ⟨_, _, rfl, HG.out, fun a e => (HN.out a e).1, HB.out⟩

theorem new_any (w : World) : Calls Try.prog 9 #[] w fun e w' => e = .returned (.pointer (some ⟨w.heap.size, 0, none⟩)) ∧ LineAt w' (fun k => k = w.heap.size) w.heap.size [] 0 ∧ Below w.heap.size w w' := by
  have B0 := Lib.hid (Below.refl w.heap.size w)
  have FIN := Lib.hid (show LineAt (w.alloc (.cells #[.slice none 0 0, .int .i64 0] 62)) (fun k => k = w.heap.size) w.heap.size [] 0 from
    ⟨⟨none, 0, Blk.new _ _ _, RowV.nil _ _ _, fun k ⟨a, e, _⟩ => by cases e⟩, rfl, fun k hk => by rw [hk]; simp, fun p hp => (by cases hp), by simp, by omega⟩)
  go_enter Try.func9, Try.ntmps9
  go_wp2
  go_ret
  exact ⟨rfl, FIN.out, B0.out.alloc (Nat.le_refl _) _⟩

theorem start_any {w : World} {F : Nat → Prop} {g st : Nat} {l : List Pc} (h : LineAt w F g l st) :
    Calls Try.prog 20 #[.pointer (some ⟨g, 0, none⟩)] w fun e w' => e = .returned (.int .i64 (st : Int)) ∧ w' = w := by
  obtain ⟨A, c, h1, h2, h3⟩ := h.ex
  have c1 := (h1.cell 1).trans (show _ = some (.int .i64 (st : Int)) from rfl)
  clear h h1 h2 h3
  go_enter Try.func20, Try.ntmps20
  go_wp2
  go_ret
  exact ⟨rfl, rfl⟩
theorem end_any {w : World} {F : Nat → Prop} {g st : Nat} {l : List Pc} (h : LineAt w F g l st) :
    Calls Try.prog 21 #[.pointer (some ⟨g, 0, none⟩)] w fun e w' => e = .returned (.int .i64 ((st + total l : Nat) : Int)) ∧ Below w.heap.size w w' := by
  obtain ⟨A, c, h1, h2, h3⟩ := h.ex
  have c0 := (h1.cell 0).trans (show _ = some (.slice A l.length c) from rfl)
  have c1 := (h1.cell 1).trans (show _ = some (.int .i64 (st : Int)) from rfl)
  have sz := Lib.hid (fun W (k : Below w.heap.size w W) => size_any A c l W (pcs_of_G (h2.toG.new k)) (fun p hp => ok_Ok (h.ok p hp)) (by have := h.n160; omega))
  have hs := h.small
  have ht := total_ok h.ok h.n160
  rw [sizeR_ok h.ok h.n160] at sz
  have x0 : IntKind.i64.wrap ((st : Int) + (total l : Int)) = (st : Int) + (total l : Int) := IntWalk.i64_in _ (by omega)
  have hg := h1.lt
  rw [Int.natCast_add]
  clear h h1 h2 h3
  go_enter Try.func21, Try.ntmps21
  go_upto_region 3 with fail
  refine wp_region_held_drew (S := fun w' => Hid (Below w.heap.size w w')) (by kernel_rfl) (Lib.hid (below_drewN (Below.refl _ _) 1)) (fun hH => ?_)
  refine held_take (i := 0) (d := (some 5)) (v := ?_) rfl rfl (by kernel_rfl) (by kernel_rfl) (by kernel_rfl) (fun _ _ _ h => h) (by rfl) ?_ hH ?_
  rotate_left
  · intro w' hSw; (try dsimp only at hSw); go_simp <;> with_reducible rfl
  simp only [Act.put, List.setIfInBounds_toArray, List.set_cons_zero, List.set_cons_succ]
  refine held_take (i := 1) (d := (some 6)) (v := ?_) rfl rfl (by kernel_rfl) (by kernel_rfl) (by kernel_rfl) (fun _ _ _ h => h) (by rfl) ?_ hH ?_
  rotate_left
  · intro w' hSw; (try dsimp only at hSw); go_simp <;> with_reducible rfl
  simp only [Act.put, List.setIfInBounds_toArray, List.set_cons_zero, List.set_cons_succ]
  refine held_take (i := 2) (d := (some 7)) (v := ?_) rfl rfl (by kernel_rfl) (by kernel_rfl) (by kernel_rfl) (fun _ _ _ h => h) (by rfl) ?_ hH ?_
  rotate_left
  · intro w' hSw; (try dsimp only at hSw); go_simp <;> with_reducible rfl
  simp only [Act.put, List.setIfInBounds_toArray, List.set_cons_zero, List.set_cons_succ]
  refine held_take (i := 3) (d := (some 8)) (v := ?_) rfl rfl (by kernel_rfl) (by kernel_rfl) (by kernel_rfl) (fun _ _ _ h => h) (by rfl) ?_ hH ?_
  rotate_left
  · intro w' hSw; have z := (World.cell?_of_block (w := w) (w' := w') (hSw.out.block _ hg)).trans c1; clear hSw; go_simp <;> with_reducible rfl
  simp only [Act.put, List.setIfInBounds_toArray, List.set_cons_zero, List.set_cons_succ]
  refine held_take (i := 4) (d := (some 9)) (v := ?_) rfl rfl (by kernel_rfl) (by kernel_rfl) (by kernel_rfl) (fun _ _ _ h => h) (by rfl) ?_ hH ?_
  rotate_left
  · intro w' hSw; (try dsimp only at hSw); go_simp <;> with_reducible rfl
  simp only [Act.put, List.setIfInBounds_toArray, List.set_cons_zero, List.set_cons_succ]
  refine held_take (i := 5) (d := (some 10)) (v := ?_) rfl rfl (by kernel_rfl) (by kernel_rfl) (by kernel_rfl) (fun _ _ _ h => h) (by rfl) ?_ hH ?_
  rotate_left
  · intro w' hSw; (try dsimp only at hSw); go_simp <;> with_reducible rfl
  simp only [Act.put, List.setIfInBounds_toArray, List.set_cons_zero, List.set_cons_succ]
  refine held_take (i := 6) (d := (some 11)) (v := ?_) rfl rfl (by kernel_rfl) (by kernel_rfl) (by kernel_rfl) (fun _ _ _ h => h) (by rfl) ?_ hH ?_
  rotate_left
  · intro w' hSw; (try dsimp only at hSw); go_simp <;> with_reducible rfl
  simp only [Act.put, List.setIfInBounds_toArray, List.set_cons_zero, List.set_cons_succ]
  refine held_take (i := 7) (d := (some 12)) (v := ?_) rfl rfl (by kernel_rfl) (by kernel_rfl) (by kernel_rfl) (fun _ _ _ h => h) (by rfl) ?_ hH ?_
  rotate_left
  · intro w' hSw; have z := (World.cell?_of_block (w := w) (w' := w') (hSw.out.block _ hg)).trans c0; clear hSw; go_simp <;> with_reducible rfl
  simp only [Act.put, List.setIfInBounds_toArray, List.set_cons_zero, List.set_cons_succ]
  refine held_one (i := 8) (by kernel_rfl) rfl (by rfl) ?_
  go_simp
  refine (sz.out _ hH.out).mono ?_; rintro e wq ⟨rfl, hb⟩
  have hH : Hid (Below w.heap.size w wq) := Lib.hid (hH.out.trans (hb.mono hH.out.size))
  clear hb
  refine ⟨hH, ?_⟩
  (try simp only [Act.put, List.setIfInBounds_toArray, List.set_cons_zero, List.set_cons_succ])
  refine held_take (i := 9) (d := (some 14)) (v := ?_) rfl rfl (by kernel_rfl) (by kernel_rfl) (by kernel_rfl) (fun _ _ _ h => h) (by rfl) ?_ hH ?_
  rotate_left
  · intro w' hSw; (try dsimp only at hSw); go_simp <;> with_reducible rfl
  simp only [Act.put, List.setIfInBounds_toArray, List.set_cons_zero, List.set_cons_succ]
  refine held_take (i := 10) (d := (some 2)) (v := ?_) rfl rfl (by kernel_rfl) (by kernel_rfl) (by kernel_rfl) (fun _ _ _ h => h) (by rfl) ?_ hH ?_
  rotate_left
  · intro w' hSw; (try dsimp only at hSw); go_simp <;> with_reducible rfl
  simp only [Act.put, List.setIfInBounds_toArray, List.set_cons_zero, List.set_cons_succ]
  refine wpAnyH_done (by kernel_rfl) ?_ _
  go_wp2
  go_ret
  exact ⟨rfl, hH.out⟩
theorem frames_any {w : World} {F : Nat → Prop} {g st : Nat} {l : List Pc} (h : LineAt w F g l st) :
    Calls Try.prog 22 #[.pointer (some ⟨g, 0, none⟩)] w fun e w' => ∃ A' c', e = .returned (.slice A' l.length c') ∧ RowG w' 1 A' l.length c' (frsV l) ∧ (∀ a, A' = some a → w.heap.size ≤ a.block) ∧ Below w.heap.size w w' := by
  obtain ⟨A, c, h1, h2, h3⟩ := h.ex
  have c0 := (h1.cell 0).trans (show _ = some (.slice A l.length c) from rfl)
  have FR := Lib.hid (framesOf_any A c l w h2.toG (by have := h.n160; omega))
  clear h h1 h2 h3
  go_enter Try.func22, Try.ntmps22
  go_wp2_with fail
  refine FR.out.mono ?_; rintro e w' ⟨A', c', rfl, h1, h2, h3⟩
  have H1 := Lib.hid h1
  have H2 := Lib.hid h2
  have H3 := Lib.hid h3
  clear h1 h2 h3
  go_wp2
  go_ret
  exact ⟨A', c', rfl, H1.out, H2.out, H3.out⟩

theorem start_nil (w : World) : Calls Try.prog 20 #[.pointer none] w fun e w' => e = .returned (.int .i64 0) ∧ w' = w := by
  go_enter Try.func20, Try.ntmps20
  go_wp2
  go_ret
  exact ⟨rfl, rfl⟩
theorem end_nil (w : World) : Calls Try.prog 21 #[.pointer none] w fun e w' => e = .returned (.int .i64 0) ∧ w' = w := by
  go_enter Try.func21, Try.ntmps21
  go_wp2
  go_ret
  exact ⟨rfl, rfl⟩
theorem frames_nil (w : World) : Calls Try.prog 22 #[.pointer none] w fun e w' => e = .returned (.slice none 0 0) ∧ w' = w := by
  go_enter Try.func22, Try.ntmps22
  go_wp2
  go_ret
  exact ⟨rfl, rfl⟩
theorem add_nil (v : Value) (w : World) : Calls Try.prog 10 #[.pointer none, v] w fun e w' => e = .returned (.int .i64 3) ∧ w' = w := by
  go_enter Try.func10, Try.ntmps10
  go_wp2
  go_ret
  exact ⟨rfl, rfl⟩
theorem ack_nil (n : Int) (w : World) : Calls Try.prog 13 #[.pointer none, .int .i64 n] w fun e w' => e = .returned (.tuple #[.slice none 0 0, .int .i64 3]) ∧ w' = w := by
  go_enter Try.func13, Try.ntmps13
  go_wp2
  go_ret2
  exact ⟨rfl, rfl⟩
theorem cut_nil (a n : Int) (w : World) : Calls Try.prog 16 #[.pointer none, .int .i64 a, .int .i64 n] w fun e w' => e = .returned (.tuple #[.slice none 0 0, .int .i64 3]) ∧ w' = w := by
  go_enter Try.func16, Try.ntmps16
  go_wp2
  go_ret2
  exact ⟨rfl, rfl⟩
end Go.Proofs.Ytgmejifacpefdaa.Sn
