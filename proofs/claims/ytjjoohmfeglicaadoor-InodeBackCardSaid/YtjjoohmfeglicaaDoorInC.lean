/- Layer 11: files of the document's type as the program's, and back; the same file twice. Conditions: those that each states. -/
import Derived.Test.YtjjoohmfeglicaaDoorInB
import Derived.Test.YtjjoohmfeglicaaDoorRef01
namespace Go.Proofs.YtjjoohmfeglicaaDoor.In
open Go.ChangeShapes Go.WideShapes Go.ChangeAt Go.RowKit Go.Deep Fl Rk Di
set_option linter.unusedVariables false
set_option linter.unusedSimpArgs false

theorem pair_cells {w : World} {A : Option Addr} {c : Nat} {l : List (Int × Int)} (h : RowG w 2 A l.length c (vq l)) {j : Nat} (hj : j < l.length) :
    ∃ b o, A = some ⟨b, o, none⟩ ∧ b < w.heap.size ∧ w.cell? ⟨b, o + j * 2, none⟩ = some (.int .i64 l[j].1) ∧ w.cell? ⟨b, o + j * 2 + 1, none⟩ = some (.int .i64 l[j].2) := by
  have hl : (vq l).length = l.length * 2 := flat_length (f := fun p : Int × Int => [Value.int .i64 p.1, .int .i64 p.2]) (sz := 2) (fun _ => rfl) l
  have g1 := flat_at (f := fun p : Int × Int => [Value.int .i64 p.1, .int .i64 p.2]) (sz := 2) (fun _ => rfl) l j 0 hj (by decide)
  have g2 := flat_at (f := fun p : Int × Int => [Value.int .i64 p.1, .int .i64 p.2]) (sz := 2) (fun _ => rfl) l j 1 hj (by decide)
  obtain ⟨b, o, rfl, hb, c0⟩ := h.cell (j := j * 2) (by omega)
  obtain ⟨b', o', e, _, c1⟩ := h.cell (j := j * 2 + 1) (by omega)
  cases e
  have e0 : (vq l)[j * 2]? = some (.int .i64 l[j].1) := g1
  have e1 : (vq l)[j * 2 + 1]? = some (.int .i64 l[j].2) := g2
  rw [List.getElem?_eq_getElem (by omega)] at e0 e1
  injection e0 with e0
  injection e1 with e1
  rw [e0] at c0
  rw [e1] at c1
  exact ⟨b, o, rfl, hb, c0, by rw [Nat.add_assoc]; exact c1⟩
theorem fls_snoc {l : List (Int × Int)} {j : Nat} (h : j < l.length) : vp (fls (l.take (j + 1))) = vp (fls (l.take j)) ++ [.complex .f64 (floatOfInt .f64 l[j].1) (floatOfInt .f64 l[j].2)] := by
  rw [List.take_succ_eq_append_getElem h]
  unfold fls vp
  rw [List.map_append, List.map_append]
  rfl
theorem fls_length (l : List (Int × Int)) : (fls l).length = l.length := by unfold fls; simp
theorem vq_snoc {l : List (Int × Int)} {j : Nat} (h : j < l.length) : vq (l.take (j + 1)) = vq (l.take j) ++ [.int .i64 l[j].1, .int .i64 l[j].2] := by
  rw [List.take_succ_eq_append_getElem h]
  unfold vq
  rw [List.flatMap_append]
  rfl
theorem rfile_info : (Tryd.prog.info? 28).map (·.size) = some 5 := by kernel_rfl

set_option maxRecDepth 100000 in
set_option maxHeartbeats 4000000 in
theorem of_any (v m q : Int) (A : Option Addr) (c : Nat) (bs : List Int) (A' : Option Addr) (c' : Nat) (ps : List (Int × Int)) (w : World) (h : RowG w 1 A bs.length c (vi bs)) (h' : RowG w 2 A' ps.length c' (vq ps)) (hl : ps.length ≤ 100) :
    Calls Tryd.prog 15 #[.agg #[.int .i64 v, .int .i64 m, .int .i64 q, .slice A bs.length c, .slice A' ps.length c']] w fun e w' => ∃ A2 c2, e = .returned (.agg #[.int .i64 v, .int .i64 m, .int .i64 q, .slice A bs.length c, .slice A2 (fls ps).length c2]) ∧
      RowG w' 1 A2 (fls ps).length c2 (vp (fls ps)) ∧ Below w.heap.size w w' := by
  have H' := Lib.hid h'
  clear h h'
  obtain ⟨i1, z1, inf1⟩ := cpx_info
  have INC := Lib.hid inf1
  clear inf1
  -- the three blocks: what came in, the result, the file that is made
  obtain ⟨W1, hW1⟩ : ∃ W, w.alloc (.cells #[.int .i64 v, .int .i64 m, .int .i64 q, .slice A bs.length c, .slice A' ps.length c'] 28) = W := ⟨_, rfl⟩
  obtain ⟨W2, hW2⟩ : ∃ W, W1.alloc (.cells #[.int .i64 0, .int .i64 0, .int .i64 0, .slice none 0 0, .slice none 0 0] 48) = W := ⟨_, rfl⟩
  obtain ⟨W3, hW3⟩ : ∃ W, W2.alloc (.cells #[.int .i64 v, .int .i64 m, .int .i64 q, .slice A bs.length c, .slice none 0 0] 48) = W := ⟨_, rfl⟩
  have s1 : W1.heap.size = w.heap.size + 1 := by rw [← hW1]; simp
  have s2 : W2.heap.size = w.heap.size + 2 := by rw [← hW2]; simp [s1]
  have s3 : W3.heap.size = w.heap.size + 3 := by rw [← hW3]; simp [s2]
  have b1 : Below w.heap.size w W1 := by rw [← hW1]; exact (Below.refl _ w).alloc (Nat.le_refl _) _
  have b2 : Below W1.heap.size W1 W2 := by rw [← hW2]; exact (Below.refl _ W1).alloc (Nat.le_refl _) _
  have b3 : Below W2.heap.size W2 W3 := by rw [← hW3]; exact (Below.refl _ W2).alloc (Nat.le_refl _) _
  have BB := Lib.hid (show Blk W3 w.heap.size 28 #[.int .i64 v, .int .i64 m, .int .i64 q, .slice A bs.length c, .slice A' ps.length c'] from ((show Blk W1 w.heap.size _ _ from by rw [← hW1]; exact Blk.new w _ _).older (older_below b2)).older (older_below b3))
  have RR := Lib.hid (show Blk W3 (w.heap.size + 1) 48 #[.int .i64 0, .int .i64 0, .int .i64 0, .slice none 0 0, .slice none 0 0] from (show Blk W2 (w.heap.size + 1) _ _ from by rw [← hW2, ← s1]; exact Blk.new W1 _ _).older (older_below b3))
  have BK := Lib.hid (show Blk W3 (w.heap.size + 2) 48 #[.int .i64 v, .int .i64 m, .int .i64 q, .slice A bs.length c, .slice none 0 0] from by rw [← hW3, ← s2]; exact Blk.new W2 _ _)
  have BL := Lib.hid (show Below w.heap.size w W3 from b1.trans ((b2.mono (by omega)).trans (b3.mono (by omega))))
  have S3 := Lib.hid s3
  have S2 := Lib.hid s2
  have HW1 := Lib.hid hW1
  have HW2 := Lib.hid hW2
  have HW3 := Lib.hid hW3
  clear hW1 hW2 hW3 b1 b2 b3 s1 s2 s3
  go_enter Tryd.func15, Tryd.ntmps15
  go_upto_region 2 with fail
  rw [HW1.out, HW2.out, HW3.out]
  obtain ⟨gr, hgr⟩ : ∃ g, w.heap.size + 1 + 1 = g := ⟨_, rfl⟩
  rw [show w.heap.size + 2 = w.heap.size + 1 + 1 from rfl, hgr] at BK
  rw [hgr]
  have HG := Lib.hid hgr
  clear HW1 HW2 HW3 hgr
  go_wp2
  go_loopw [4] (fun i wr => ∃ (j : Nat) (A2 : Option Addr) (c2 : Nat), i = .int .i64 (j : Int) ∧ j ≤ ps.length ∧ Hid (Blk wr gr 48 #[.int .i64 v, .int .i64 m, .int .i64 q, .slice A bs.length c, .slice A2 j c2]) ∧
      Hid (RowW wr 71 1 A2 j c2 (vp (fls (ps.take j)))) ∧ Hid (∀ b, inB A2 b → gr < b) ∧ Hid (Chg W3 wr (fun b => b = gr)) ∧ Hid (gr < wr.heap.size)) (fun i _ => ps.length - (intOf i).toNat)
  case atStart => exact ⟨0, none, 0, rfl, Nat.zero_le _, BK, Lib.hid (RowW.nil _ _ _), Lib.hid (fun b e => (inB_none b e).elim), Lib.hid (Chg.refl _ _), Lib.hid BK.out.lt⟩
  case round =>
    obtain ⟨j, A2, c2, rfl, hj, BK, RW, FR, KC, SZ⟩ := hrel
    have hG := HG.out
    have s3 := S3.out
    have BB2 := Lib.hid (BB.out.chg KC.out (by omega))
    have RR2 := Lib.hid (RR.out.chg KC.out (by omega))
    clear hG s3
    by_cases hlt : j < ps.length
    · have hlt' : (j : Int) < (ps.length : Int) := by omega
      have j0 : (0 : Int) ≤ (j : Int) := by omega
      have xj := IntWalk.i64_in ((j : Int) + 1) (by omega)
      have FS := Lib.hid (fls_snoc hlt)
      obtain ⟨b, o, rfl, hb, cx, cy⟩ := pair_cells ((H'.out.new BL.out).chg KC.out (fun a e h => by have := (H'.out.at_ a e (by omega)).2.1; have := HG.out; omega)) hlt
      generalize ps[j].1 = x at *
      generalize ps[j].2 = y at *
      have ca := (BK.out.cell 4).trans (show _ = some (.slice A2 j c2) from rfl)
      have cb := (BB2.out.cell 4).trans (show _ = some (.slice (some ⟨b, o, none⟩) ps.length c') from rfl)
      go_upto_region 5 with fail
      have hS := Lib.hid (show wr.drew.cell? ⟨gr, 4, none⟩ = some (.slice A2 j c2) ∧ wr.drew.cell? ⟨w.heap.size, 4, none⟩ = some (.slice (some ⟨b, o, none⟩) ps.length c') ∧ wr.drew.cell? ⟨b, o + j * 2, none⟩ = some (.int .i64 x) ∧ wr.drew.cell? ⟨b, o + j * 2 + 1, none⟩ = some (.int .i64 y) from ⟨ca, cb, cx, cy⟩)
      refine wp_head_held (S := fun w' => Hid (w'.cell? ⟨gr, 4, none⟩ = some (.slice A2 j c2) ∧ w'.cell? ⟨w.heap.size, 4, none⟩ = some (.slice (some ⟨b, o, none⟩) ps.length c') ∧ w'.cell? ⟨b, o + j * 2, none⟩ = some (.int .i64 x) ∧ w'.cell? ⟨b, o + j * 2 + 1, none⟩ = some (.int .i64 y))) 9 (by kernel_rfl) rfl rfl (by kernel_rfl) ?_
      simp only [List.take_succ_cons, List.take_zero, List.drop_succ_cons, List.drop_zero]
      refine held_take (i := 0) (d := (some 21)) (v := ?_) rfl rfl (by kernel_rfl) (by kernel_rfl) (by kernel_rfl) (fun _ _ _ h => h) (by rfl) ?_ hS ?_
      rotate_left
      · intro w' hSw; (try dsimp only at hSw); go_simp <;> with_reducible rfl
      simp only [Act.put, List.setIfInBounds_toArray, List.set_cons_zero, List.set_cons_succ]
      refine held_take (i := 1) (d := (some 22)) (v := ?_) rfl rfl (by kernel_rfl) (by kernel_rfl) (by kernel_rfl) (fun _ _ _ h => h) (by rfl) ?_ hS ?_
      rotate_left
      · intro w' hSw; obtain ⟨p0, p1, p2, p3⟩ := hSw.out; clear hSw; go_simp <;> with_reducible rfl
      simp only [Act.put, List.setIfInBounds_toArray, List.set_cons_zero, List.set_cons_succ]
      refine held_take (i := 2) (d := (some 23)) (v := ?_) rfl rfl (by kernel_rfl) (by kernel_rfl) (by kernel_rfl) (fun _ _ _ h => h) (by rfl) ?_ hS ?_
      rotate_left
      · intro w' hSw; (try dsimp only at hSw); go_simp <;> with_reducible rfl
      simp only [Act.put, List.setIfInBounds_toArray, List.set_cons_zero, List.set_cons_succ]
      refine held_take (i := 3) (d := (some 24)) (v := ?_) rfl rfl (by kernel_rfl) (by kernel_rfl) (by kernel_rfl) (fun _ _ _ h => h) (by rfl) ?_ hS ?_
      rotate_left
      · intro w' hSw; obtain ⟨p0, p1, p2, p3⟩ := hSw.out; clear hSw; go_simp <;> with_reducible rfl
      simp only [Act.put, List.setIfInBounds_toArray, List.set_cons_zero, List.set_cons_succ]
      refine held_take (i := 4) (d := (some 25)) (v := ?_) rfl rfl (by kernel_rfl) (by kernel_rfl) (by kernel_rfl) (fun _ _ _ h => h) (by rfl) ?_ hS ?_
      rotate_left
      · intro w' hSw; (try dsimp only at hSw); go_simp <;> with_reducible rfl
      simp only [Act.put, List.setIfInBounds_toArray, List.set_cons_zero, List.set_cons_succ]
      refine held_take (i := 5) (d := (some 26)) (v := ?_) rfl rfl (by kernel_rfl) (by kernel_rfl) (by kernel_rfl) (fun _ _ _ h => h) (by rfl) ?_ hS ?_
      rotate_left
      · intro w' hSw; clear hSw; go_simp <;> with_reducible rfl
      simp only [Act.put, List.setIfInBounds_toArray, List.set_cons_zero, List.set_cons_succ]
      refine held_take (i := 6) (d := (some 27)) (v := ?_) rfl rfl (by kernel_rfl) (by kernel_rfl) (by kernel_rfl) (fun _ _ _ h => h) (by rfl) ?_ hS ?_
      rotate_left
      · intro w' hSw; obtain ⟨p0, p1, p2, p3⟩ := hSw.out; clear hSw; go_simp <;> with_reducible rfl
      simp only [Act.put, List.setIfInBounds_toArray, List.set_cons_zero, List.set_cons_succ]
      refine held_one (i := 7) (by kernel_rfl) rfl (by rfl) ?_
      go_simp
      refine (number_w x y _).mono ?_; rintro e w5 ⟨rfl, rfl⟩
      have bN : Below wr.heap.size wr (wr.drew.alloc (.cells #[.int .i64 x, .int .i64 y] 74)) := (Below.refl wr.heap.size wr).drew.alloc (Nat.le_refl _) _
      have hS : Hid ((wr.drew.alloc (.cells #[.int .i64 x, .int .i64 y] 74)).cell? ⟨gr, 4, none⟩ = some (.slice A2 j c2) ∧ (wr.drew.alloc (.cells #[.int .i64 x, .int .i64 y] 74)).cell? ⟨w.heap.size, 4, none⟩ = some (.slice (some ⟨b, o, none⟩) ps.length c') ∧ (wr.drew.alloc (.cells #[.int .i64 x, .int .i64 y] 74)).cell? ⟨b, o + j * 2, none⟩ = some (.int .i64 x) ∧ (wr.drew.alloc (.cells #[.int .i64 x, .int .i64 y] 74)).cell? ⟨b, o + j * 2 + 1, none⟩ = some (.int .i64 y)) := Lib.hid ⟨((BK.out.older (older_below bN)).cell 4).trans rfl, ((BB2.out.older (older_below bN)).cell 4).trans rfl, (World.cell?_of_block (w := wr) (bN.block b hb)).trans cx, (World.cell?_of_block (w := wr) (bN.block b hb)).trans cy⟩
      have KN := Lib.hid bN
      refine ⟨hS, ?_⟩
      generalize wr.drew.alloc (.cells #[.int .i64 x, .int .i64 y] 74) = w5 at *
      clear bN
      (try simp only [Act.put, List.setIfInBounds_toArray, List.set_cons_zero, List.set_cons_succ])
      refine held_one (i := 8) (by kernel_rfl) rfl (by rfl) ?_
      go_simp
      have bM : Below w5.heap.size w5 (w5.alloc (.cells #[.complex .f64 (floatOfInt .f64 x) (floatOfInt .f64 y)] 71)) := (Below.refl w5.heap.size w5).alloc (Nat.le_refl _) _
      have zb := Nat.lt_of_lt_of_le hb KN.out.size
      have hS : Hid ((w5.alloc (.cells #[.complex .f64 (floatOfInt .f64 x) (floatOfInt .f64 y)] 71)).cell? ⟨gr, 4, none⟩ = some (.slice A2 j c2) ∧ (w5.alloc (.cells #[.complex .f64 (floatOfInt .f64 x) (floatOfInt .f64 y)] 71)).cell? ⟨w.heap.size, 4, none⟩ = some (.slice (some ⟨b, o, none⟩) ps.length c') ∧ (w5.alloc (.cells #[.complex .f64 (floatOfInt .f64 x) (floatOfInt .f64 y)] 71)).cell? ⟨b, o + j * 2, none⟩ = some (.int .i64 x) ∧ (w5.alloc (.cells #[.complex .f64 (floatOfInt .f64 x) (floatOfInt .f64 y)] 71)).cell? ⟨b, o + j * 2 + 1, none⟩ = some (.int .i64 y)) := Lib.hid ⟨(((BK.out.older (older_below KN.out)).older (older_below bM)).cell 4).trans rfl, (((BB2.out.older (older_below KN.out)).older (older_below bM)).cell 4).trans rfl, (World.cell?_of_block (w := w5) (bM.block b zb)).trans hS.out.2.2.1, (World.cell?_of_block (w := w5) (bM.block b zb)).trans hS.out.2.2.2⟩
      refine ⟨hS, ?_⟩
      have KQ := Lib.hid (Chg.of_new KN.out (fun _ => False))
      have RO := Lib.hid ((RW.out.chg KQ.out (fun _ _ h => h))).own
      clear bM
      (try simp only [Act.put, List.setIfInBounds_toArray, List.set_cons_zero, List.set_cons_succ])
      refine wpAnyH_done (by kernel_rfl) ?_ _
      show wpList _ _ _ _ _ _
      go_wp2_with (refine wpList_append_W rfl _ _ 46 71 rfl Tryd.underlying46 i1 z1 1 16 INC.out.1 INC.out.2.1 INC.out.2.2.2.1 INC.out.2.2.2.2 INC.out.2.2.1 (by decide) (by decide) rfl RO.out [.complex .f64 (floatOfInt .f64 x) (floatOfInt .f64 y)] rfl rfl (one_val _ rfl) (by omega) ?_; refine Hid.out ?_)
      unfold Hid
      intro h6 d6 wA oA kA atA
      have OA := Lib.hid (show RowW wA 71 1 (some ⟨h6, 0, none⟩) (j + 1) d6 (vp (fls (ps.take (j + 1)))) from ⟨by rw [FS.out]; exact oA.own⟩)
      have KA := Lib.hid ((KQ.out.weak (S' := fun b => inB A2 b) (fun _ h => h.elim)).trans kA)
      have HH := Lib.hid (show gr < h6 from atA.elim (fun h => FR.out _ h) (fun h => by have h1 := KQ.out.size; have h2 := SZ.out; omega))
      have NGA := Lib.hid (show ¬ inB A2 gr from fun h => absurd (FR.out _ h) (Nat.lt_irrefl _))
      have BKA := Lib.hid (BK.out.chg KA.out NGA.out)
      have fzA := BKA.out.frozen 4
      have caA := (BKA.out.cell 4).trans (show _ = some (.slice A2 j c2) from rfl)
      have KT := Lib.hid (Chg.set wA 4 (.slice (some ⟨h6, 0, none⟩) (j + 1) d6) (g := gr) (S := fun b => b = gr) rfl)
      have BKB := Lib.hid (show Blk (wA.setCell ⟨gr, 4, none⟩ (.slice (some ⟨h6, 0, none⟩) (j + 1) d6)) gr 48 #[.int .i64 v, .int .i64 m, .int .i64 q, .slice A bs.length c, .slice (some ⟨h6, 0, none⟩) (j + 1) d6] from by simpa using BKA.out.put 4 (.slice (some ⟨h6, 0, none⟩) (j + 1) d6))
      have OB := Lib.hid (OA.out.chg KT.out (fun b e h => by have := inB_some e; have := HH.out; omega))
      have KB := Lib.hid (chg_cut (KC.out) (((KA.out.weak (S' := fun b => b = gr ∨ inB A2 b) (fun _ h => .inr h)).trans (KT.out.weak (fun _ h => .inl h)))) (fun b hb h => by
        rcases h with h | h
        · exact h
        · have := FR.out _ h; have := HG.out; have := S3.out; omega))
      clear kA atA oA ca cb cx cy hb hS
      go_wp2
      clear fzA caA
      generalize wA.setCell ⟨gr, 4, none⟩ (.slice (some ⟨h6, 0, none⟩) (j + 1) d6) = wB at *
      go_roundw
      case rel => exact ⟨j + 1, some ⟨h6, 0, none⟩, d6, by go_num, by omega, BKB, OB, Lib.hid (fun b e => by rw [inB_some e]; exact HH.out), KB, Lib.hid (BKB.out.lt)⟩
      case measure => simp [intOf]; omega
    · have hlt' : ¬ (j : Int) < (ps.length : Int) := by omega
      obtain rfl : j = ps.length := by omega
      have ca := (BK.out.cell 0).trans (show _ = some (.int .i64 v) from rfl)
      have cb := (BK.out.cell 1).trans (show _ = some (.int .i64 m) from rfl)
      have cc := (BK.out.cell 2).trans (show _ = some (.int .i64 q) from rfl)
      have cd := (BK.out.cell 3).trans (show _ = some (.slice A bs.length c) from rfl)
      have ce := (BK.out.cell 4).trans (show _ = some (.slice A2 ps.length c2) from rfl)
      have cf := (BB2.out.cell 4).trans (show _ = some (.slice A' ps.length c') from rfl)
      have KE := Lib.hid (Chg.setRow wr #[.int .i64 v, .int .i64 m, .int .i64 q, .slice A bs.length c, .slice A2 ps.length c2] (g := w.heap.size + 1) (S := fun b => b = w.heap.size + 1) rfl)
      go_upto_region 6 with fail
      go_wp2_with (refine wpList_store_row rfl 48 (.tmp 2) (.tmp 32) rfl (w.heap.size + 1) #[.int .i64 v, .int .i64 m, .int .i64 q, .slice A bs.length c, .slice A2 ps.length c2] rfl rfl 48 _ RR2.out file_info rfl (by simp [Value.oneCell']) ?_; refine Hid.out ?_)
      unfold Hid
      go_wp2
      refine bodyPost_ret (v := .agg #[.int .i64 v, .int .i64 m, .int .i64 q, .slice A bs.length c, .slice A2 ps.length c2]) (results_cell_row Tryd.results15 _ _ (w.heap.size + 1) 48 _ (0, 0) _ rfl (RR2.out.row _) Tryd.underlying48 rfl file_info) rfl ?_
      refine ⟨A2, c2, by rw [fls_length], ?_, ?_⟩
      · have hr := rowG_of (RW.out.chg KE.out (fun b e h => by have := FR.out b e; have := HG.out; omega))
        rw [List.take_length] at hr
        rw [fls_length]
        exact hr
      · have k := chg_cut (Chg.of_new BL.out (fun _ => False)) ((KC.out.weak (S' := fun b => b = gr ∨ b = w.heap.size + 1) (fun _ h => .inl h)).trans (KE.out.weak (fun _ h => .inr h))) (fun b hb h => by have := HG.out; omega)
        exact k.below (Nat.le_refl _) (fun _ h => h.elim)

theorem two_val (a b : Value) (ha : a.oneCell' = true) (hb : b.oneCell' = true) : ∀ u ∈ [a, b], u.oneCell' = true := by
  intro u hu
  rcases List.mem_cons.1 hu with e | e
  · rw [e]; exact ha
  · rw [List.mem_singleton.1 e]; exact hb
theorem pair_info : ∃ i0 z, Tryd.prog.info? 74 = some i0 ∧ i0.zero = some z ∧ z.cells.size = 2 ∧ i0.size = 2 ∧ i0.bytes = 16 := by
  obtain ⟨i, hi, hs⟩ := Option.map_eq_some_iff.1 (show (Tryd.prog.info? 74).map (fun i => (i.zero.map (·.cells.size), i.size, i.bytes)) = some (some 2, 2, 16) by kernel_rfl)
  simp only [Prod.mk.injEq] at hs
  obtain ⟨h0, h1, h2⟩ := hs
  obtain ⟨z, hz, hzs⟩ := Option.map_eq_some_iff.1 h0
  exact ⟨i, z, hi, hz, hzs, h1, h2⟩
theorem rep_word {z : Int} (h : Word z) : Rep (Ieee.double.read (fl z)) z := (read_fl (by have h1 : 0 ≤ z ∧ z ≤ 65535 := h; omega)).rep
set_option maxRecDepth 100000 in
set_option maxHeartbeats 4000000 in
theorem to_any (v m q : Int) (A : Option Addr) (c : Nat) (bs : List Int) (A' : Option Addr) (c' : Nat) (ps : List (Int × Int)) (w : World) (h' : RowG w 1 A' (fls ps).length c' (vp (fls ps))) (hl : ps.length ≤ 100) (hw : ∀ p ∈ ps, Word p.1 ∧ Word p.2) :
    Calls Tryd.prog 18 #[.agg #[.int .i64 v, .int .i64 m, .int .i64 q, .slice A bs.length c, .slice A' (fls ps).length c']] w fun e w' => ∃ A2 c2, e = .returned (.agg #[.int .i64 v, .int .i64 m, .int .i64 q, .slice A bs.length c, .slice A2 ps.length c2]) ∧
      RowG w' 2 A2 ps.length c2 (vq ps) ∧ Below w.heap.size w w' := by
  have H' := Lib.hid h'
  have HW := Lib.hid hw
  have LN := Lib.hid (fls_length ps)
  clear h' hw
  obtain ⟨i1, z1, inf1⟩ := pair_info
  have INC := Lib.hid inf1
  clear inf1
  obtain ⟨W1, hW1⟩ : ∃ W, w.alloc (.cells #[.int .i64 v, .int .i64 m, .int .i64 q, .slice A bs.length c, .slice A' (fls ps).length c'] 48) = W := ⟨_, rfl⟩
  obtain ⟨W2, hW2⟩ : ∃ W, W1.alloc (.cells #[.int .i64 0, .int .i64 0, .int .i64 0, .slice none 0 0, .slice none 0 0] 28) = W := ⟨_, rfl⟩
  obtain ⟨W3, hW3⟩ : ∃ W, W2.alloc (.cells #[.int .i64 v, .int .i64 m, .int .i64 q, .slice A bs.length c, .slice none 0 0] 28) = W := ⟨_, rfl⟩
  have s1 : W1.heap.size = w.heap.size + 1 := by rw [← hW1]; simp
  have s2 : W2.heap.size = w.heap.size + 2 := by rw [← hW2]; simp [s1]
  have s3 : W3.heap.size = w.heap.size + 3 := by rw [← hW3]; simp [s2]
  have b1 : Below w.heap.size w W1 := by rw [← hW1]; exact (Below.refl _ w).alloc (Nat.le_refl _) _
  have b2 : Below W1.heap.size W1 W2 := by rw [← hW2]; exact (Below.refl _ W1).alloc (Nat.le_refl _) _
  have b3 : Below W2.heap.size W2 W3 := by rw [← hW3]; exact (Below.refl _ W2).alloc (Nat.le_refl _) _
  have BB := Lib.hid (show Blk W3 w.heap.size 48 #[.int .i64 v, .int .i64 m, .int .i64 q, .slice A bs.length c, .slice A' (fls ps).length c'] from ((show Blk W1 w.heap.size _ _ from by rw [← hW1]; exact Blk.new w _ _).older (older_below b2)).older (older_below b3))
  have RR := Lib.hid (show Blk W3 (w.heap.size + 1) 28 #[.int .i64 0, .int .i64 0, .int .i64 0, .slice none 0 0, .slice none 0 0] from (show Blk W2 (w.heap.size + 1) _ _ from by rw [← hW2, ← s1]; exact Blk.new W1 _ _).older (older_below b3))
  have BK := Lib.hid (show Blk W3 (w.heap.size + 2) 28 #[.int .i64 v, .int .i64 m, .int .i64 q, .slice A bs.length c, .slice none 0 0] from by rw [← hW3, ← s2]; exact Blk.new W2 _ _)
  have BL := Lib.hid (show Below w.heap.size w W3 from b1.trans ((b2.mono (by omega)).trans (b3.mono (by omega))))
  have S3 := Lib.hid s3
  have S2 := Lib.hid s2
  have HW1 := Lib.hid hW1
  have HW2 := Lib.hid hW2
  have HW3 := Lib.hid hW3
  clear hW1 hW2 hW3 b1 b2 b3 s1 s2 s3
  go_enter Tryd.func18, Tryd.ntmps18
  go_upto_region 2 with fail
  rw [HW1.out, HW2.out, HW3.out]
  obtain ⟨gr, hgr⟩ : ∃ g, w.heap.size + 1 + 1 = g := ⟨_, rfl⟩
  rw [show w.heap.size + 2 = w.heap.size + 1 + 1 from rfl, hgr] at BK
  rw [hgr]
  have HG := Lib.hid hgr
  clear HW1 HW2 HW3 hgr
  go_wp2
  go_loopw [4] (fun i wr => ∃ (j : Nat) (A2 : Option Addr) (c2 : Nat), i = .int .i64 (j : Int) ∧ j ≤ ps.length ∧ Hid (Blk wr gr 28 #[.int .i64 v, .int .i64 m, .int .i64 q, .slice A bs.length c, .slice A2 j c2]) ∧
      Hid (RowW wr 74 2 A2 j c2 (vq (ps.take j))) ∧ Hid (∀ b, inB A2 b → gr < b) ∧ Hid (Chg W3 wr (fun b => b = gr)) ∧ Hid (gr < wr.heap.size)) (fun i _ => ps.length - (intOf i).toNat)
  case atStart => exact ⟨0, none, 0, rfl, Nat.zero_le _, BK, Lib.hid (RowW.nil _ _ _), Lib.hid (fun b e => (inB_none b e).elim), Lib.hid (Chg.refl _ _), Lib.hid BK.out.lt⟩
  case round =>
    obtain ⟨j, A2, c2, rfl, hj, BK, RW, FR, KC, SZ⟩ := hrel
    have hG := HG.out
    have s3 := S3.out
    have BB2 := Lib.hid (BB.out.chg KC.out (by omega))
    have RR2 := Lib.hid (RR.out.chg KC.out (by omega))
    clear hG s3
    have ln := LN.out
    by_cases hlt : j < ps.length
    · have hlt' : (j : Int) < ((fls ps).length : Int) := by omega
      have j0 : (0 : Int) ≤ (j : Int) := by omega
      have xj := IntWalk.i64_in ((j : Int) + 1) (by omega)
      have FS := Lib.hid (vq_snoc hlt)
      have hPW := HW.out _ (List.getElem_mem hlt)
      obtain ⟨b, o, rfl, hb, cx0⟩ := ((H'.out.new BL.out).chg KC.out (fun a e h => by have := (H'.out.at_ a e (by omega)).2.1; have := HG.out; omega)).cell (j := j) (by unfold vp; simp; omega)
      have eg : (vp (fls ps))[j]'(by unfold vp; simp; omega) = .complex .f64 (fl ps[j].1) (fl ps[j].2) := by unfold vp fls; simp
      rw [eg] at cx0
      clear eg
      have hX := rep_word hPW.1
      have hY := rep_word hPW.2
      have q1 : 0 ≤ ps[j].1 ∧ ps[j].1 ≤ 65535 := hPW.1
      have q2 : 0 ≤ ps[j].2 ∧ ps[j].2 ≤ 65535 := hPW.2
      have cx := fun w => run_convert_float_int (P := Tryd.prog) w 70 2 .f64 .i64 (fl ps[j].1) ps[j].1 (by kernel_rfl) Tryd.underlying2 (toInt64 hX (by omega) (by omega))
      have cy := fun w => run_convert_float_int (P := Tryd.prog) w 70 2 .f64 .i64 (fl ps[j].2) ps[j].2 (by kernel_rfl) Tryd.underlying2 (toInt64 hY (by omega) (by omega))
      clear hPW hX hY q1 q2
      generalize ps[j].1 = x at *
      generalize ps[j].2 = y at *
      have ca := (BK.out.cell 4).trans (show _ = some (.slice A2 j c2) from rfl)
      have cb := (BB2.out.cell 4).trans (show _ = some (.slice (some ⟨b, o, none⟩) (fls ps).length c') from rfl)
      have CX0 := Lib.hid cx0
      clear cx0 ln
      go_upto_region 5 with fail
      have CA := Lib.hid ca
      have CB := Lib.hid cb
      clear ca cb
      have hS := Lib.hid (show wr.drew.cell? ⟨gr, 4, none⟩ = some (.slice A2 j c2) ∧ wr.drew.cell? ⟨w.heap.size, 4, none⟩ = some (.slice (some ⟨b, o, none⟩) (fls ps).length c') ∧ wr.drew.cell? ⟨b, o + j, none⟩ = some (.complex .f64 (fl x) (fl y)) from ⟨CA.out, CB.out, CX0.out⟩)
      refine wp_head_held (S := fun w' => Hid (w'.cell? ⟨gr, 4, none⟩ = some (.slice A2 j c2) ∧ w'.cell? ⟨w.heap.size, 4, none⟩ = some (.slice (some ⟨b, o, none⟩) (fls ps).length c') ∧ w'.cell? ⟨b, o + j, none⟩ = some (.complex .f64 (fl x) (fl y)))) 18 (by kernel_rfl) rfl rfl (by kernel_rfl) ?_
      simp only [List.take_succ_cons, List.take_zero, List.drop_succ_cons, List.drop_zero]
      refine held_take (i := 0) (d := (some 21)) (v := ?_) rfl rfl (by kernel_rfl) (by kernel_rfl) (by kernel_rfl) (fun _ _ _ h => h) (by rfl) ?_ hS ?_
      rotate_left
      · intro w' hSw; (try dsimp only at hSw); go_simp <;> with_reducible rfl
      simp only [Act.put, List.setIfInBounds_toArray, List.set_cons_zero, List.set_cons_succ]
      refine held_take (i := 1) (d := (some 22)) (v := ?_) rfl rfl (by kernel_rfl) (by kernel_rfl) (by kernel_rfl) (fun _ _ _ h => h) (by rfl) ?_ hS ?_
      rotate_left
      · intro w' hSw; obtain ⟨p0, p1, p2⟩ := hSw.out; clear hSw; go_simp <;> with_reducible rfl
      simp only [Act.put, List.setIfInBounds_toArray, List.set_cons_zero, List.set_cons_succ]
      refine held_take (i := 2) (d := (some 23)) (v := ?_) rfl rfl (by kernel_rfl) (by kernel_rfl) (by kernel_rfl) (fun _ _ _ h => h) (by rfl) ?_ hS ?_
      rotate_left
      · intro w' hSw; (try dsimp only at hSw); go_simp <;> with_reducible rfl
      simp only [Act.put, List.setIfInBounds_toArray, List.set_cons_zero, List.set_cons_succ]
      refine held_take (i := 3) (d := (some 24)) (v := ?_) rfl rfl (by kernel_rfl) (by kernel_rfl) (by kernel_rfl) (fun _ _ _ h => h) (by rfl) ?_ hS ?_
      rotate_left
      · intro w' hSw; obtain ⟨p0, p1, p2⟩ := hSw.out; clear hSw; go_simp <;> with_reducible rfl
      simp only [Act.put, List.setIfInBounds_toArray, List.set_cons_zero, List.set_cons_succ]
      refine held_take (i := 4) (d := (some 25)) (v := ?_) rfl rfl (by kernel_rfl) (by kernel_rfl) (by kernel_rfl) (fun _ _ _ h => h) (by rfl) ?_ hS ?_
      rotate_left
      · intro w' hSw; (try dsimp only at hSw); go_simp <;> with_reducible rfl
      simp only [Act.put, List.setIfInBounds_toArray, List.set_cons_zero, List.set_cons_succ]
      refine held_take (i := 5) (d := (some 26)) (v := ?_) rfl rfl (by kernel_rfl) (by kernel_rfl) (by kernel_rfl) (fun _ _ _ h => h) (by rfl) ?_ hS ?_
      rotate_left
      · intro w' hSw; clear hSw; go_simp <;> with_reducible rfl
      simp only [Act.put, List.setIfInBounds_toArray, List.set_cons_zero, List.set_cons_succ]
      refine held_take (i := 6) (d := (some 27)) (v := ?_) rfl rfl (by kernel_rfl) (by kernel_rfl) (by kernel_rfl) (fun _ _ _ h => h) (by rfl) ?_ hS ?_
      rotate_left
      · intro w' hSw; obtain ⟨p0, p1, p2⟩ := hSw.out; clear hSw; go_simp <;> with_reducible rfl
      simp only [Act.put, List.setIfInBounds_toArray, List.set_cons_zero, List.set_cons_succ]
      refine held_take (i := 7) (d := (some 28)) (v := ?_) rfl rfl (by kernel_rfl) (by kernel_rfl) (by kernel_rfl) (fun _ _ _ h => h) (by rfl) ?_ hS ?_
      rotate_left
      · intro w' hSw; (try dsimp only at hSw); go_simp <;> with_reducible rfl
      simp only [Act.put, List.setIfInBounds_toArray, List.set_cons_zero, List.set_cons_succ]
      refine held_take (i := 8) (d := (some 29)) (v := ?_) rfl rfl (by kernel_rfl) (by kernel_rfl) (by kernel_rfl) (fun _ _ _ h => h) (by rfl) ?_ hS ?_
      rotate_left
      · intro w' hSw; clear hSw; have h := cx w'; go_simp; (first | exact h | rfl | simp [h])
      simp only [Act.put, List.setIfInBounds_toArray, List.set_cons_zero, List.set_cons_succ]
      refine held_take (i := 9) (d := (some 30)) (v := ?_) rfl rfl (by kernel_rfl) (by kernel_rfl) (by kernel_rfl) (fun _ _ _ h => h) (by rfl) ?_ hS ?_
      rotate_left
      · intro w' hSw; (try dsimp only at hSw); go_simp <;> with_reducible rfl
      simp only [Act.put, List.setIfInBounds_toArray, List.set_cons_zero, List.set_cons_succ]
      refine held_take (i := 10) (d := (some 31)) (v := ?_) rfl rfl (by kernel_rfl) (by kernel_rfl) (by kernel_rfl) (fun _ _ _ h => h) (by rfl) ?_ hS ?_
      rotate_left
      · intro w' hSw; obtain ⟨p0, p1, p2⟩ := hSw.out; clear hSw; go_simp <;> with_reducible rfl
      simp only [Act.put, List.setIfInBounds_toArray, List.set_cons_zero, List.set_cons_succ]
      refine held_take (i := 11) (d := (some 32)) (v := ?_) rfl rfl (by kernel_rfl) (by kernel_rfl) (by kernel_rfl) (fun _ _ _ h => h) (by rfl) ?_ hS ?_
      rotate_left
      · intro w' hSw; (try dsimp only at hSw); go_simp <;> with_reducible rfl
      simp only [Act.put, List.setIfInBounds_toArray, List.set_cons_zero, List.set_cons_succ]
      refine held_take (i := 12) (d := (some 33)) (v := ?_) rfl rfl (by kernel_rfl) (by kernel_rfl) (by kernel_rfl) (fun _ _ _ h => h) (by rfl) ?_ hS ?_
      rotate_left
      · intro w' hSw; (try dsimp only at hSw); go_simp <;> with_reducible rfl
      simp only [Act.put, List.setIfInBounds_toArray, List.set_cons_zero, List.set_cons_succ]
      refine held_take (i := 13) (d := (some 34)) (v := ?_) rfl rfl (by kernel_rfl) (by kernel_rfl) (by kernel_rfl) (fun _ _ _ h => h) (by rfl) ?_ hS ?_
      rotate_left
      · intro w' hSw; obtain ⟨p0, p1, p2⟩ := hSw.out; clear hSw; go_simp <;> with_reducible rfl
      simp only [Act.put, List.setIfInBounds_toArray, List.set_cons_zero, List.set_cons_succ]
      refine held_take (i := 14) (d := (some 35)) (v := ?_) rfl rfl (by kernel_rfl) (by kernel_rfl) (by kernel_rfl) (fun _ _ _ h => h) (by rfl) ?_ hS ?_
      rotate_left
      · intro w' hSw; (try dsimp only at hSw); go_simp <;> with_reducible rfl
      simp only [Act.put, List.setIfInBounds_toArray, List.set_cons_zero, List.set_cons_succ]
      refine held_take (i := 15) (d := (some 36)) (v := ?_) rfl rfl (by kernel_rfl) (by kernel_rfl) (by kernel_rfl) (fun _ _ _ h => h) (by rfl) ?_ hS ?_
      rotate_left
      · intro w' hSw; clear hSw; have h := cy w'; go_simp; (first | exact h | rfl | simp [h])
      simp only [Act.put, List.setIfInBounds_toArray, List.set_cons_zero, List.set_cons_succ]
      refine held_take (i := 16) (d := (some 37)) (v := ?_) rfl rfl (by kernel_rfl) (by kernel_rfl) (by kernel_rfl) (fun _ _ _ h => h) (by rfl) ?_ hS ?_
      rotate_left
      · intro w' hSw; (try dsimp only at hSw); go_simp <;> with_reducible rfl
      simp only [Act.put, List.setIfInBounds_toArray, List.set_cons_zero, List.set_cons_succ]
      refine held_one (i := 17) (by kernel_rfl) rfl (by rfl) ?_
      go_simp
      have bM : Below wr.heap.size wr (wr.drew.alloc (.cells #[.int .i64 x, .int .i64 y] 74)) := (Below.refl wr.heap.size wr).drew.alloc (Nat.le_refl _) _
      have hS : Hid ((wr.drew.alloc (.cells #[.int .i64 x, .int .i64 y] 74)).cell? ⟨gr, 4, none⟩ = some (.slice A2 j c2) ∧ (wr.drew.alloc (.cells #[.int .i64 x, .int .i64 y] 74)).cell? ⟨w.heap.size, 4, none⟩ = some (.slice (some ⟨b, o, none⟩) (fls ps).length c') ∧ (wr.drew.alloc (.cells #[.int .i64 x, .int .i64 y] 74)).cell? ⟨b, o + j, none⟩ = some (.complex .f64 (fl x) (fl y))) := Lib.hid ⟨((BK.out.older (older_below bM)).cell 4).trans rfl, ((BB2.out.older (older_below bM)).cell 4).trans rfl, (World.cell?_of_block (w := wr) (bM.block b hb)).trans CX0.out⟩
      refine ⟨Lib.hid ⟨hS.out.1, hS.out.2.1, CX0.out⟩, ?_⟩
      have KQ := Lib.hid ((Chg.refl wr (fun _ => False)).drew)
      have RO := Lib.hid ((RW.out.chg KQ.out (fun _ _ h => h))).own
      clear bM
      (try simp only [Act.put, List.setIfInBounds_toArray, List.set_cons_zero, List.set_cons_succ])
      refine wpAnyH_done (by kernel_rfl) ?_ _
      show wpList _ _ _ _ _ _
      go_wp2_with (refine wpList_append_W rfl _ _ 26 74 rfl Tryd.underlying26 i1 z1 2 16 INC.out.1 INC.out.2.1 INC.out.2.2.2.1 INC.out.2.2.2.2 INC.out.2.2.1 (by decide) (by decide) rfl RO.out [.int .i64 x, .int .i64 y] rfl rfl (two_val _ _ rfl rfl) (by omega) ?_; refine Hid.out ?_)
      unfold Hid
      intro h6 d6 wA oA kA atA
      have OA := Lib.hid (show RowW wA 74 2 (some ⟨h6, 0, none⟩) (j + 1) d6 (vq (ps.take (j + 1))) from ⟨by rw [FS.out]; exact oA.own⟩)
      have KA := Lib.hid ((KQ.out.weak (S' := fun b => inB A2 b) (fun _ h => h.elim)).trans kA)
      have HH := Lib.hid (show gr < h6 from atA.elim (fun h => FR.out _ h) (fun h => by have h1 := KQ.out.size; have h2 := SZ.out; omega))
      have NGA := Lib.hid (show ¬ inB A2 gr from fun h => absurd (FR.out _ h) (Nat.lt_irrefl _))
      have BKA := Lib.hid (BK.out.chg KA.out NGA.out)
      have fzA := BKA.out.frozen 4
      have caA := (BKA.out.cell 4).trans (show _ = some (.slice A2 j c2) from rfl)
      have KT := Lib.hid (Chg.set wA 4 (.slice (some ⟨h6, 0, none⟩) (j + 1) d6) (g := gr) (S := fun b => b = gr) rfl)
      have BKB := Lib.hid (show Blk (wA.setCell ⟨gr, 4, none⟩ (.slice (some ⟨h6, 0, none⟩) (j + 1) d6)) gr 28 #[.int .i64 v, .int .i64 m, .int .i64 q, .slice A bs.length c, .slice (some ⟨h6, 0, none⟩) (j + 1) d6] from by simpa using BKA.out.put 4 (.slice (some ⟨h6, 0, none⟩) (j + 1) d6))
      have OB := Lib.hid (OA.out.chg KT.out (fun b e h => by have := inB_some e; have := HH.out; omega))
      have KB := Lib.hid (chg_cut (KC.out) (((KA.out.weak (S' := fun b => b = gr ∨ inB A2 b) (fun _ h => .inr h)).trans (KT.out.weak (fun _ h => .inl h)))) (fun b hb h => by
        rcases h with h | h
        · exact h
        · have := FR.out _ h; have := HG.out; have := S3.out; omega))
      clear kA atA oA cx cy hb hS
      go_wp2
      clear fzA caA
      generalize wA.setCell ⟨gr, 4, none⟩ (.slice (some ⟨h6, 0, none⟩) (j + 1) d6) = wB at *
      go_roundw
      case rel => exact ⟨j + 1, some ⟨h6, 0, none⟩, d6, by go_num, by omega, BKB, OB, Lib.hid (fun b e => by rw [inB_some e]; exact HH.out), KB, Lib.hid (BKB.out.lt)⟩
      case measure => simp [intOf]; omega
    · have hlt' : ¬ (j : Int) < ((fls ps).length : Int) := by omega
      obtain rfl : j = ps.length := by omega
      have ca := (BK.out.cell 0).trans (show _ = some (.int .i64 v) from rfl)
      have cb := (BK.out.cell 1).trans (show _ = some (.int .i64 m) from rfl)
      have cc := (BK.out.cell 2).trans (show _ = some (.int .i64 q) from rfl)
      have cd := (BK.out.cell 3).trans (show _ = some (.slice A bs.length c) from rfl)
      have ce := (BK.out.cell 4).trans (show _ = some (.slice A2 ps.length c2) from rfl)
      have cf := (BB2.out.cell 4).trans (show _ = some (.slice A' (fls ps).length c') from rfl)
      have KE := Lib.hid (Chg.setRow wr #[.int .i64 v, .int .i64 m, .int .i64 q, .slice A bs.length c, .slice A2 ps.length c2] (g := w.heap.size + 1) (S := fun b => b = w.heap.size + 1) rfl)
      go_upto_region 6 with fail
      go_wp2_with (refine wpList_store_row rfl 28 (.tmp 2) (.tmp 41) rfl (w.heap.size + 1) #[.int .i64 v, .int .i64 m, .int .i64 q, .slice A bs.length c, .slice A2 ps.length c2] rfl rfl 28 _ RR2.out rfile_info rfl (by simp [Value.oneCell']) ?_; refine Hid.out ?_)
      unfold Hid
      go_wp2
      refine bodyPost_ret (v := .agg #[.int .i64 v, .int .i64 m, .int .i64 q, .slice A bs.length c, .slice A2 ps.length c2]) (results_cell_row Tryd.results18 _ _ (w.heap.size + 1) 28 _ (0, 0) _ rfl (RR2.out.row _) Tryd.underlying28 rfl rfile_info) rfl ?_
      refine ⟨A2, c2, rfl, ?_, ?_⟩
      · have hr := rowG_of (RW.out.chg KE.out (fun b e h => by have := FR.out b e; have := HG.out; omega))
        rw [List.take_length] at hr
        exact hr
      · have k := chg_cut (Chg.of_new BL.out (fun _ => False)) ((KC.out.weak (S' := fun b => b = gr ∨ b = w.heap.size + 1) (fun _ h => .inl h)).trans (KE.out.weak (fun _ h => .inr h))) (fun b hb h => by have := HG.out; omega)
        exact k.below (Nat.le_refl _) (fun _ h => h.elim)
set_option maxRecDepth 100000 in
set_option maxHeartbeats 4000000 in
theorem sameFile_same (v m q : Int) (A A' B B' : Option Addr) (c c' d d' : Nat) (bs : List Int) (ps : List (Int × Int)) (w : World) (h1 : RowG w 1 A bs.length c (vi bs)) (h2 : RowG w 1 B bs.length d (vi bs)) (h3 : RowG w 2 A' ps.length c' (vq ps)) (h4 : RowG w 2 B' ps.length d' (vq ps)) (hl : ps.length ≤ 100) :
    Calls Tryd.prog 17 #[.agg #[.int .i64 v, .int .i64 m, .int .i64 q, .slice A bs.length c, .slice A' ps.length c'], .agg #[.int .i64 v, .int .i64 m, .int .i64 q, .slice B bs.length d, .slice B' ps.length d']] w fun e w' => e = .returned (.bool true) ∧ Below w.heap.size w w' := by
  obtain ⟨W1, hW1⟩ : ∃ W, (w.alloc (.cells #[.int .i64 v, .int .i64 m, .int .i64 q, .slice A bs.length c, .slice A' ps.length c'] 28)).alloc (.cells #[.int .i64 v, .int .i64 m, .int .i64 q, .slice B bs.length d, .slice B' ps.length d'] 28) = W := ⟨_, rfl⟩
  have b0 : Below w.heap.size w W1 := by rw [← hW1]; exact ((Below.refl w.heap.size w).alloc (Nat.le_refl _) _).alloc (by simp) _
  have X1 := Lib.hid (show Blk W1 w.heap.size 28 #[.int .i64 v, .int .i64 m, .int .i64 q, .slice A bs.length c, .slice A' ps.length c'] from by rw [← hW1]; exact (Blk.new w _ _).alloc _)
  have X2 := Lib.hid (show Blk W1 (w.heap.size + 1) 28 #[.int .i64 v, .int .i64 m, .int .i64 q, .slice B bs.length d, .slice B' ps.length d'] from by rw [← hW1]; have := Blk.new (w.alloc (.cells #[.int .i64 v, .int .i64 m, .int .i64 q, .slice A bs.length c, .slice A' ps.length c'] 28)) 28 #[.int .i64 v, .int .i64 m, .int .i64 q, .slice B bs.length d, .slice B' ps.length d']; simpa using this)
  have IN := Lib.hid (fun W (k : Below w.heap.size w W) => ints_same A B c d bs W (h1.new k) (h2.new k))
  have B0 := Lib.hid b0
  have H3 := Lib.hid (h3.new b0)
  have H4 := Lib.hid (h4.new b0)
  have HW1 := Lib.hid hW1
  clear h1 h2 h3 h4 b0 hW1
  have a0 := (X1.out.cell 0).trans (show _ = some (.int .i64 v) from rfl)
  have a1 := (X1.out.cell 1).trans (show _ = some (.int .i64 m) from rfl)
  have a2 := (X1.out.cell 2).trans (show _ = some (.int .i64 q) from rfl)
  have a3 := (X1.out.cell 3).trans (show _ = some (.slice A bs.length c) from rfl)
  have a4 := (X1.out.cell 4).trans (show _ = some (.slice A' ps.length c') from rfl)
  have d0 := (X2.out.cell 0).trans (show _ = some (.int .i64 v) from rfl)
  have d1 := (X2.out.cell 1).trans (show _ = some (.int .i64 m) from rfl)
  have d2 := (X2.out.cell 2).trans (show _ = some (.int .i64 q) from rfl)
  have d3 := (X2.out.cell 3).trans (show _ = some (.slice B bs.length d) from rfl)
  have d4 := (X2.out.cell 4).trans (show _ = some (.slice B' ps.length d') from rfl)
  go_enter Tryd.func17, Tryd.ntmps17
  go_upto_region 1 with fail
  rw [HW1.out]
  go_wp2_with fail
  refine (IN.out _ B0.out).mono ?_; rintro e w1 ⟨rfl, m1, rfl⟩
  go_wp2
  go_loopw [5] (fun i wr => ∃ j n : Nat, j ≤ ps.length ∧ i = .int .i64 (j : Int) ∧ wr = W1.drewN n) (fun i _ => ps.length - (intOf i).toNat)
  case atStart => exact ⟨0, m1, Nat.zero_le _, rfl, rfl⟩
  case round =>
    obtain ⟨j, n, hj, rfl, rfl⟩ := hrel
    by_cases hlt : j < ps.length
    · have hlt' : (j : Int) < (ps.length : Int) := by omega
      have j0 : (0 : Int) ≤ (j : Int) := by omega
      have xj := IntWalk.i64_in ((j : Int) + 1) (by omega)
      obtain ⟨b, o, rfl, hb, c0, c1⟩ := pair_cells H3.out hlt
      obtain ⟨b', o', rfl, hb', e0, e1⟩ := pair_cells H4.out hlt
      generalize ps[j].1 = x at *
      generalize ps[j].2 = y at *
      go_wp2
      go_quiet (fail)
      go_wp2
      go_roundw
      case rel => exact ⟨j + 1, _, by omega, by go_num, rfl⟩
      case measure => simp [intOf]; omega
    · have hlt' : ¬ (j : Int) < (ps.length : Int) := by omega
      go_wp2
      go_ret
      exact ⟨rfl, below_drewN B0.out n⟩
end Go.Proofs.YtjjoohmfeglicaaDoor.In
