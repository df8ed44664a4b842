/- The document's answers of layer 15 (ipv4): Parse. Conditions: those that each states. -/
import Derived.Test.YtpnfmohejcdgfaaIp3
import Derived.Test.YtpnfmohejcdgfaaIp4
namespace Go.Proofs.Ytpnfmohejcdgfaa.Ip
open Go.ChangeShapes Go.WideShapes Go.ChangeAt Go.RowKit Go.Deep Rk Fl Gx Di
open Es hiding src_chg chg_below chg_of_row src_apart
set_option linter.unusedVariables false
set_option linter.unusedSimpArgs false

theorem dp_info : (Try.prog.info? 25).map (·.size) = some 6 := by kernel_rfl
abbrev dp0 : Array Value := #[.int .u16 0, .int .u8 0, .int .u8 0, .int .u32 0, .int .u32 0, .string ⟨#[]⟩]
/-- What the document's Parse tells of bytes l. -/
def DParsed (e : Ending) (l : List UInt8) : Prop :=
  (parErr l ≠ 0 ∧ e = .returned (.tuple #[.agg dp0, .int .i64 (parErr l)])) ∨
  (parErr l = 0 ∧ e = .returned (.tuple #[.agg (dpV (at2 l 4 2) (at2 l 8 1) (at2 l 9 1) (at2 l 12 4) (at2 l 16 4) ((l.drop (hlen l)).take (at2 l 2 2 - hlen l))), .int .i64 0]))
theorem at2_one (l : List UInt8) (i : Nat) (h : i < l.length) : at2 l i 1 = l[i].toNat := by
  unfold at2
  rw [List.drop_eq_getElem_cons h]
  show numB [l[i]] = _
  simp [numB]
theorem at2_two (l : List UInt8) (i : Nat) (h : i + 1 < l.length) : at2 l i 2 = l[i].toNat * 256 + l[i + 1].toNat := by
  unfold at2
  rw [List.drop_eq_getElem_cons (by omega), List.drop_eq_getElem_cons h]
  show numB [l[i], l[i + 1]] = _
  simp [numB]

set_option maxRecDepth 100000 in
set_option maxHeartbeats 4000000 in
theorem refParse_any (l : List UInt8) (w : World) (hl : l.length ≤ 1000000) :
    Calls Try.prog 15 #[.string ⟨l.toArray⟩] w fun e w' => DParsed e l ∧ Below w.heap.size w w' := by
  have b1 : Below w.heap.size w (w.alloc (.cells dp0 25)) := (Below.refl _ w).alloc (Nat.le_refl _) _
  have B1 := Lib.hid b1
  have K1 := Lib.hid (Blk.new w 25 dp0)
  have hs : (⟨l.toArray⟩ : ByteArray).size = l.length := rfl
  clear b1
  obtain ⟨W, hW⟩ : ∃ W, w.alloc (.cells dp0 25) = W := ⟨_, rfl⟩
  rw [hW] at K1 B1
  have HW := Lib.hid hW
  clear hW
  by_cases h1 : (l.length : Int) < 20
  · have E := Lib.hid (show parErr l = 50 from by unfold parErr; rw [if_pos (.inl (by omega))])
    go_enter Try.func15, Try.ntmps15
    go_upto_region 1 with fail
    rw [HW.out]
    have KZ := Lib.hid (below_setRow B1.out (Nat.le_refl w.heap.size) dp0)
    go_wp2_with (first
      | (refine wpList_store_row rfl 25 (.tmp 2) (.tmp 19) rfl w.heap.size dp0 rfl rfl 25 _ K1.out dp_info rfl (by simp [Value.oneCell']) ?_)
      | fail)
    refine bodyPost_ret (v := .tuple #[.agg dp0, .int .i64 50]) ?_ rfl ?_
    · exact results_cell_tmp Try.results15 _ _ w.heap.size 25 _ (0, 0) _ rfl (K1.out.row _) Try.underlying25 rfl dp_info
    exact ⟨.inl ⟨by rw [E.out]; decide, by rw [E.out]⟩, KZ.out⟩

  have hl20 : 20 ≤ l.length := by omega
  have hz0 : b0 l = l[0].toNat := by unfold b0; rw [List.getD_eq_getElem?_getD, List.getElem?_eq_getElem (by omega)]; rfl
  have g0 := bget l 0 (by omega) (by omega)
  have hq := l[0].toNat_lt
  by_cases h2 : (l[0].toNat : Int) < 69
  · have E := Lib.hid (show parErr l = 50 from by unfold parErr; rw [if_pos (.inr (.inl (by omega)))])
    go_enter Try.func15, Try.ntmps15
    go_upto_region 1 with fail
    rw [HW.out]
    have KZ := Lib.hid (below_setRow B1.out (Nat.le_refl w.heap.size) dp0)
    go_wp2_with (first
      | (refine wpList_store_row rfl 25 (.tmp 2) (.tmp 19) rfl w.heap.size dp0 rfl rfl 25 _ K1.out dp_info rfl (by simp [Value.oneCell']) ?_)
      | fail)
    refine bodyPost_ret (v := .tuple #[.agg dp0, .int .i64 50]) ?_ rfl ?_
    · exact results_cell_tmp Try.results15 _ _ w.heap.size 25 _ (0, 0) _ rfl (K1.out.row _) Try.underlying25 rfl dp_info
    exact ⟨.inl ⟨by rw [E.out]; decide, by rw [E.out]⟩, KZ.out⟩

  by_cases h3 : (l[0].toNat : Int) > 79
  · have E := Lib.hid (show parErr l = 50 from by unfold parErr; rw [if_pos (.inr (.inr (by omega)))])
    go_enter Try.func15, Try.ntmps15
    go_upto_region 1 with fail
    rw [HW.out]
    have KZ := Lib.hid (below_setRow B1.out (Nat.le_refl w.heap.size) dp0)
    go_wp2_with (first
      | (refine wpList_store_row rfl 25 (.tmp 2) (.tmp 19) rfl w.heap.size dp0 rfl rfl 25 _ K1.out dp_info rfl (by simp [Value.oneCell']) ?_)
      | fail)
    refine bodyPost_ret (v := .tuple #[.agg dp0, .int .i64 50]) ?_ rfl ?_
    · exact results_cell_tmp Try.results15 _ _ w.heap.size 25 _ (0, 0) _ rfl (K1.out.row _) Try.underlying25 rfl dp_info
    exact ⟨.inl ⟨by rw [E.out]; decide, by rw [E.out]⟩, KZ.out⟩

  have h64 : ((l[0].toNat : Int) - 64) * 4 = ((l[0].toNat % 16 * 4 : Nat) : Int) := by omega
  obtain ⟨m, hm⟩ : ∃ m : Nat, l[0].toNat % 16 * 4 = m := ⟨_, rfl⟩
  have hh : hlen l = m := by unfold hlen; rw [hz0]; exact hm
  have hm1 : (4 : Int) * ((l[0].toNat : Int) - 64) = (m : Int) := by omega
  have hm2 : 20 ≤ m ∧ m ≤ 60 := by omega
  have xx0 := IntWalk.i64_in ((l[0].toNat : Int) - 64) (by omega)
  have P1 := Lib.hid (show ¬ (l.length < 20 ∨ b0 l < 69 ∨ 79 < b0 l) from by omega)
  have HH := Lib.hid hh
  clear hm hz0 hh h64
  by_cases h4 : (l.length : Int) < (m : Int)
  · have E := Lib.hid (show parErr l = 50 from by unfold parErr; rw [if_neg P1.out, if_pos (by rw [HH.out]; omega)])
    go_enter Try.func15, Try.ntmps15
    go_upto_region 1 with fail
    rw [HW.out]
    have KZ := Lib.hid (below_setRow B1.out (Nat.le_refl w.heap.size) dp0)
    go_wp2_with (first
      | (refine wpList_store_row rfl 25 (.tmp 2) (.tmp 29) rfl w.heap.size dp0 rfl rfl 25 _ K1.out dp_info rfl (by simp [Value.oneCell']) ?_)
      | fail)
    refine bodyPost_ret (v := .tuple #[.agg dp0, .int .i64 50]) ?_ rfl ?_
    · exact results_cell_tmp Try.results15 _ _ w.heap.size 25 _ (0, 0) _ rfl (K1.out.row _) Try.underlying25 rfl dp_info
    exact ⟨.inl ⟨by rw [E.out]; decide, by rw [E.out]⟩, KZ.out⟩

  have hm0 : (0 : Int) ≤ (m : Int) := by omega
  have SL : ∀ W, (Instr.slice 9 (.string ⟨l.toArray⟩) none (some (.int .i64 (m : Int))) none).run Try.prog W = .ok (.string ⟨(l.take m).toArray⟩) W := fun W => run_front_text l m (by omega) W
  have SL : ∀ W, (Instr.sliceAt 9 (.string ⟨l.toArray⟩) none (some (.int .i64 (m : Int))) none).run Try.prog W = .ok (.string ⟨(l.take m).toArray⟩) W := fun W => (run_sliceAt_string (P := Try.prog) (w := W) 9 _ none (some (.int .i64 (m : Int))) none Try.underlying9).trans (SL W)
  have lm : (l.take m).length = m := by rw [List.length_take]; omega
  obtain ⟨A6, c6, w2, hconv, hsr, hb, -⟩ := conv_src ⟨(l.take m).toArray⟩ (by show (l.take m).length ≤ 1000000; omega) W
  replace hconv : (convert 9 27 (.string ⟨(l.take m).toArray⟩)).run Try.prog W = .ok (.slice A6 (l.take m).length c6) w2 := hconv
  replace hsr : Src w2 A6 (l.take m).length c6 (l.take m) := hsr
  rw [lm] at hconv hsr
  have SC := Lib.hid (scratch_any A6 m c6 (l.take m) w2 hsr.toBytes (by omega))
  have B2 := Lib.hid (B1.out.trans (hb.mono B1.out.size))
  have K2 := Lib.hid (K1.out.older (older_below hb))
  have hf := fo_le (256 * evs (l.take m) + ods (l.take m))
  clear hsr hb lm B1 K1
  go_enter Try.func15, Try.ntmps15
  go_upto_region 1 with fail
  rw [HW.out]
  clear HW
  go_wp2_with fail
  refine SC.out.mono ?_; rintro e wq ⟨rfl, rfl⟩
  clear SC hconv SL
  by_cases h5 : fo (256 * evs (l.take m) + ods (l.take m)) = 65535
  rotate_left
  · have E := Lib.hid (show parErr l = 51 from by unfold parErr; rw [if_neg P1.out, if_neg (by rw [HH.out]; omega), if_pos (by rw [HH.out]; exact h5)])
    obtain ⟨f, hff⟩ : ∃ f : Nat, fo (256 * evs (l.take m) + ods (l.take m)) = f := ⟨_, rfl⟩
    rw [hff] at h5 hf ⊢
    have hn : ¬ (65535 : Int) - (f : Int) = 0 := by omega
    have hn' : ((65535 : Int) - (f : Int) == 0) = false := by simpa using hn
    clear hff h5
    have KZ := Lib.hid (below_setRow B2.out (Nat.le_refl w.heap.size) dp0)
    go_wp2_with (first
      | (refine wpList_store_row rfl 25 (.tmp 2) (.tmp 36) rfl w.heap.size dp0 rfl rfl 25 _ K2.out dp_info rfl (by simp [Value.oneCell']) ?_)
      | fail)
    refine bodyPost_ret (v := .tuple #[.agg dp0, .int .i64 51]) ?_ rfl ?_
    · exact results_cell_tmp Try.results15 _ _ w.heap.size 25 _ (0, 0) _ rfl (K2.out.row _) Try.underlying25 rfl dp_info
    exact ⟨.inl ⟨by rw [E.out]; decide, by rw [E.out]⟩, KZ.out⟩

  rw [h5]
  have P2 := Lib.hid (show ¬ l.length < hlen l ∧ ¬ fo (tot (l.take (hlen l))) ≠ 65535 from by rw [HH.out]; exact ⟨by omega, fun h => h h5⟩)
  clear h5 hf
  have ER := Lib.hid (show parErr l = if at2 l 2 2 < m ∨ l.length < at2 l 2 2 ∨ ¬ (at2 l 6 2 = 0 ∨ at2 l 6 2 = 16384) then 50 else 0 from by
    have h1 := P1.out
    obtain ⟨h2, h3⟩ := P2.out
    unfold parErr
    rw [if_neg h1, if_neg h2, if_neg h3, HH.out])
  have e2 : at2 l 2 2 = l[2].toNat * 256 + l[3].toNat := at2_two l 2 (by omega)
  have e6 : at2 l 6 2 = l[6].toNat * 256 + l[7].toNat := at2_two l 6 (by omega)
  have E8 := Lib.hid (at2_one l 8 (by omega))
  have E9 := Lib.hid (at2_one l 9 (by omega))
  have q2 := l[2].toNat_lt
  have q3 := l[3].toNat_lt
  have q6 := l[6].toNat_lt
  have q7 := l[7].toNat_lt
  have b2 := bget l 2 (by omega) (by omega)
  have b3 := bget l 3 (by omega) (by omega)
  have b6 := bget l 6 (by omega) (by omega)
  have b7 := bget l 7 (by omega) (by omega)
  have b8 := bget l 8 (by omega) (by omega)
  have b9 := bget l 9 (by omega) (by omega)
  have l2 : (2 : Int) < (l.length : Int) := by omega
  have l3 : (3 : Int) < (l.length : Int) := by omega
  have l6 : (6 : Int) < (l.length : Int) := by omega
  have l7 : (7 : Int) < (l.length : Int) := by omega
  have l8 : (8 : Int) < (l.length : Int) := by omega
  have l9 : (9 : Int) < (l.length : Int) := by omega
  obtain ⟨av, hav⟩ : ∃ av, at2 l 2 2 = av := ⟨_, rfl⟩
  rw [hav] at ER e2
  have ea : (l[2].toNat : Int) * (256 : Int) + (l[3].toNat : Int) = (av : Int) := by omega
  have ha5 : av ≤ 65535 := by omega
  have i0 := IntWalk.i64_in ((l[2].toNat : Int) * 256) (by omega)
  have i1 := IntWalk.i64_in (av : Int) (by omega)
  have ii2 := IntWalk.i64_in (l[2].toNat : Int) (by omega)
  have ii3 := IntWalk.i64_in (l[3].toNat : Int) (by omega)
  have OK6 := Lib.hid (show (at2 l 6 2 = 0 ∨ at2 l 6 2 = 16384) ↔ (l[6].toNat = 0 ∨ l[6].toNat = 64) ∧ l[7].toNat = 0 from by omega)
  have HAV := Lib.hid hav
  clear e2 e6 hav hm1 xx0 g0 h2 h3 hq
  go_upto_region 8 with fail
  refine wp_region_held_drew (S := fun w' => Hid (Below w2.heap.size w2 w')) (by kernel_rfl) (Lib.hid ((Below.refl w2.heap.size w2).drew)) (fun hS => ?_)
  refine held_take (i := 0) (d := (some 37)) (v := ?_) rfl rfl (by kernel_rfl) (by kernel_rfl) (by kernel_rfl) (fun _ _ _ h => h) (by rfl) ?_ hS ?_
  rotate_left
  · intro w' hSw; (try dsimp only at hSw); go_simp <;> with_reducible rfl
  simp only [Act.put, List.setIfInBounds_toArray, List.set_cons_zero, List.set_cons_succ]
  refine held_take (i := 1) (d := (some 38)) (v := ?_) rfl rfl (by kernel_rfl) (by kernel_rfl) (by kernel_rfl) (fun _ _ _ h => h) (by rfl) ?_ hS ?_
  rotate_left
  · intro w' hSw; (try dsimp only at hSw); go_simp <;> with_reducible rfl
  simp only [Act.put, List.setIfInBounds_toArray, List.set_cons_zero, List.set_cons_succ]
  refine held_take (i := 2) (d := (some 39)) (v := ?_) rfl rfl (by kernel_rfl) (by kernel_rfl) (by kernel_rfl) (fun _ _ _ h => h) (by rfl) ?_ hS ?_
  rotate_left
  · intro w' hSw; (try dsimp only at hSw); go_simp <;> with_reducible rfl
  simp only [Act.put, List.setIfInBounds_toArray, List.set_cons_zero, List.set_cons_succ]
  refine held_take (i := 3) (d := (some 40)) (v := ?_) rfl rfl (by kernel_rfl) (by kernel_rfl) (by kernel_rfl) (fun _ _ _ h => h) (by rfl) ?_ hS ?_
  rotate_left
  · intro w' hSw; (try dsimp only at hSw); go_simp <;> with_reducible rfl
  simp only [Act.put, List.setIfInBounds_toArray, List.set_cons_zero, List.set_cons_succ]
  refine held_take (i := 4) (d := (some 41)) (v := ?_) rfl rfl (by kernel_rfl) (by kernel_rfl) (by kernel_rfl) (fun _ _ _ h => h) (by rfl) ?_ hS ?_
  rotate_left
  · intro w' hSw; (try dsimp only at hSw); go_simp <;> with_reducible rfl
  simp only [Act.put, List.setIfInBounds_toArray, List.set_cons_zero, List.set_cons_succ]
  refine held_take (i := 5) (d := (some 42)) (v := ?_) rfl rfl (by kernel_rfl) (by kernel_rfl) (by kernel_rfl) (fun _ _ _ h => h) (by rfl) ?_ hS ?_
  rotate_left
  · intro w' hSw; (try dsimp only at hSw); go_simp <;> with_reducible rfl
  simp only [Act.put, List.setIfInBounds_toArray, List.set_cons_zero, List.set_cons_succ]
  refine held_take (i := 6) (d := (some 43)) (v := ?_) rfl rfl (by kernel_rfl) (by kernel_rfl) (by kernel_rfl) (fun _ _ _ h => h) (by rfl) ?_ hS ?_
  rotate_left
  · intro w' hSw; (try dsimp only at hSw); go_simp <;> with_reducible rfl
  simp only [Act.put, List.setIfInBounds_toArray, List.set_cons_zero, List.set_cons_succ]
  refine held_take (i := 7) (d := (some 44)) (v := ?_) rfl rfl (by kernel_rfl) (by kernel_rfl) (by kernel_rfl) (fun _ _ _ h => h) (by rfl) ?_ hS ?_
  rotate_left
  · intro w' hSw; (try dsimp only at hSw); go_simp <;> with_reducible rfl
  simp only [Act.put, List.setIfInBounds_toArray, List.set_cons_zero, List.set_cons_succ]
  refine held_take (i := 8) (d := (some 5)) (v := ?_) rfl rfl (by kernel_rfl) (by kernel_rfl) (by kernel_rfl) (fun _ _ _ h => h) (by rfl) ?_ hS ?_
  rotate_left
  · intro w' hSw; (try dsimp only at hSw); go_simp <;> with_reducible rfl
  simp only [Act.put, List.setIfInBounds_toArray, List.set_cons_zero, List.set_cons_succ]
  refine wpAnyH_done (by kernel_rfl) ?_ _
  have B3 := Lib.hid (B2.out.trans (hS.out.mono B2.out.size))
  have K3 := Lib.hid (K2.out.older (older_below hS.out))
  clear i0 i1 ii2 ii3 b2 b3 q2 q3 ea B2 K2 hS
  generalize w2.drew = W2 at *
  by_cases h6 : (av : Int) < (m : Int)
  · have E := Lib.hid (show parErr l = 50 from by rw [ER.out, if_pos (.inl (by omega))])
    have KZ := Lib.hid (below_setRow B3.out (Nat.le_refl w.heap.size) dp0)
    go_wp2_with (first
      | (refine wpList_store_row rfl 25 (.tmp 2) (.tmp 69) rfl w.heap.size dp0 rfl rfl 25 _ K3.out dp_info rfl (by simp [Value.oneCell']) ?_)
      | fail)
    refine bodyPost_ret (v := .tuple #[.agg dp0, .int .i64 50]) ?_ rfl ?_
    · exact results_cell_tmp Try.results15 _ _ w.heap.size 25 _ (0, 0) _ rfl (K3.out.row _) Try.underlying25 rfl dp_info
    exact ⟨.inl ⟨by rw [E.out]; decide, by rw [E.out]⟩, KZ.out⟩

  by_cases h7 : (av : Int) > (l.length : Int)
  · have E := Lib.hid (show parErr l = 50 from by rw [ER.out, if_pos (.inr (.inl (by omega)))])
    have KZ := Lib.hid (below_setRow B3.out (Nat.le_refl w.heap.size) dp0)
    go_wp2_with (first
      | (refine wpList_store_row rfl 25 (.tmp 2) (.tmp 69) rfl w.heap.size dp0 rfl rfl 25 _ K3.out dp_info rfl (by simp [Value.oneCell']) ?_)
      | fail)
    refine bodyPost_ret (v := .tuple #[.agg dp0, .int .i64 50]) ?_ rfl ?_
    · exact results_cell_tmp Try.results15 _ _ w.heap.size 25 _ (0, 0) _ rfl (K3.out.row _) Try.underlying25 rfl dp_info
    exact ⟨.inl ⟨by rw [E.out]; decide, by rw [E.out]⟩, KZ.out⟩

  have EV := Lib.hid (show parErr l = if ¬ ((l[6].toNat = 0 ∨ l[6].toNat = 64) ∧ l[7].toNat = 0) then 50 else 0 from by
    rw [ER.out]
    by_cases hk : (l[6].toNat = 0 ∨ l[6].toNat = 64) ∧ l[7].toNat = 0
    · rw [if_neg (by intro h; rcases h with h | h | h; omega; omega; exact h (OK6.out.2 hk)), if_neg (fun h => h hk)]
    · rw [if_pos (.inr (.inr (fun h => hk (OK6.out.1 h)))), if_pos hk])
  clear ER OK6
  go_upto_region 9 with fail
  go_cut [68] (fun x wx => ∃ b : Bool, x = .bool b ∧ Hid ((b = false → ((l[6].toNat = 0 ∨ l[6].toNat = 64) ∧ l[7].toNat = 0)) ∧ (((l[6].toNat = 0 ∨ l[6].toNat = 64) ∧ l[7].toNat = 0) → b = false)) ∧ wx = W2)
  case first =>
    by_cases k7 : l[7].toNat = 0
    · have k7i : (l[7].toNat : Int) = 0 := by omega
      by_cases k6 : l[6].toNat = 0
      · have k6i : (l[6].toNat : Int) = 0 := by omega
        go_wp2
        go_meet
        exact ⟨_, rfl, Lib.hid ⟨fun _ => ⟨.inl k6, k7⟩, fun _ => rfl⟩, rfl⟩
      · have k6i : ¬ (l[6].toNat : Int) = 0 := by omega
        have k6b : ((l[6].toNat : Int) == 0) = false := by simpa using k6
        by_cases k4 : l[6].toNat = 64
        · have k4i : (l[6].toNat : Int) = 64 := by omega
          clear k6b k6i k6
          go_wp2
          go_meet
          exact ⟨_, rfl, Lib.hid ⟨fun _ => ⟨.inr k4, k7⟩, fun _ => rfl⟩, rfl⟩
        · have k4i : ¬ (l[6].toNat : Int) = 64 := by omega
          have k4b : ((l[6].toNat : Int) == 64) = false := by rw [beq_eq_false_iff_ne]; omega
          go_wp2
          go_meet
          exact ⟨_, rfl, Lib.hid ⟨fun h => absurd h (by first | decide | simpa using k7i), fun h => absurd h (by omega)⟩, rfl⟩
    · have k7i : ¬ (l[7].toNat : Int) = 0 := by omega
      have k7b : ((l[7].toNat : Int) == 0) = false := by rw [beq_eq_false_iff_ne]; omega
      by_cases k6 : l[6].toNat = 0
      · have k6i : (l[6].toNat : Int) = 0 := by omega
        go_wp2
        go_meet
        exact ⟨_, rfl, Lib.hid ⟨fun h => absurd h (by first | decide | simpa using k7i), fun h => absurd h (by omega)⟩, rfl⟩
      · have k6i : ¬ (l[6].toNat : Int) = 0 := by omega
        have k6b : ((l[6].toNat : Int) == 0) = false := by simpa using k6
        by_cases k4 : l[6].toNat = 64
        · have k4i : (l[6].toNat : Int) = 64 := by omega
          clear k6b k6i k6
          go_wp2
          go_meet
          exact ⟨_, rfl, Lib.hid ⟨fun h => absurd h (by first | decide | simpa using k7i), fun h => absurd h (by omega)⟩, rfl⟩
        · have k4i : ¬ (l[6].toNat : Int) = 64 := by omega
          have k4b : ((l[6].toNat : Int) == 64) = false := by rw [beq_eq_false_iff_ne]; omega
          go_wp2
          go_meet
          exact ⟨_, rfl, Lib.hid ⟨fun h => absurd h (by first | decide | simpa using k7i), fun h => absurd h (by omega)⟩, rfl⟩
  case rest =>
    obtain ⟨b, rfl, OB, rfl⟩ := hcut
    cases b with
    | true =>
      have E := Lib.hid (show parErr l = 50 from by rw [EV.out, if_pos (fun h => by have := OB.out.2 h; cases this)])
      have KZ := Lib.hid (below_setRow B3.out (Nat.le_refl w.heap.size) dp0)
      go_wp2_with (first
        | (refine wpList_store_row rfl 25 (.tmp 2) (.tmp 69) rfl w.heap.size dp0 rfl rfl 25 _ K3.out dp_info rfl (by simp [Value.oneCell']) ?_)
        | fail)
      refine bodyPost_ret (v := .tuple #[.agg dp0, .int .i64 50]) ?_ rfl ?_
      · exact results_cell_tmp Try.results15 _ _ w.heap.size 25 _ (0, 0) _ rfl (K3.out.row _) Try.underlying25 rfl dp_info
      exact ⟨.inl ⟨by rw [E.out]; decide, by rw [E.out]⟩, KZ.out⟩
    | false =>
      have E := Lib.hid (show parErr l = 0 from by rw [EV.out, if_neg (fun h => h (OB.out.1 rfl))])
      clear EV OB b6 b7 l6 l7 q6 q7
      have h6' : m ≤ av := by omega
      have h7' : av ≤ l.length := by omega
      have d1 : ∀ W, (Instr.slice 9 (.string ⟨l.toArray⟩) (some (.int .i64 4)) (some (.int .i64 6)) none).run Try.prog W = .ok (.string ⟨((l.drop 4).take 2).toArray⟩) W := fun W => run_cut_text l 4 6 (by omega) (by omega) hl W
      have d9 : ∀ W, (Instr.slice 9 (.string ⟨l.toArray⟩) (some (.int .i64 12)) (some (.int .i64 16)) none).run Try.prog W = .ok (.string ⟨((l.drop 12).take 4).toArray⟩) W := fun W => run_cut_text l 12 16 (by omega) (by omega) hl W
      have d13 : ∀ W, (Instr.slice 9 (.string ⟨l.toArray⟩) (some (.int .i64 16)) (some (.int .i64 20)) none).run Try.prog W = .ok (.string ⟨((l.drop 16).take 4).toArray⟩) W := fun W => run_cut_text l 16 20 (by omega) (by omega) hl W
      have d19 : ∀ W, (Instr.slice 9 (.string ⟨l.toArray⟩) (some (.int .i64 (m : Int))) (some (.int .i64 (av : Int))) none).run Try.prog W = .ok (.string ⟨((l.drop m).take (av - m)).toArray⟩) W := fun W => run_cut_text l m av h6' h7' hl W
      have e4 := at2_lt l 4 2
      have u4 := IntWalk.u16_in (numB ((l.drop 4).take 2) : Int) (by unfold at2 at e4; omega)
      have e12 := at2_lt l 12 4
      have u12 := IntWalk.u32_in (numB ((l.drop 12).take 4) : Int) (by unfold at2 at e12; omega)
      have e16 := at2_lt l 16 4
      have u16 := IntWalk.u32_in (numB ((l.drop 16).take 4) : Int) (by unfold at2 at e16; omega)
      go_upto_region 11 with fail
      have hS := Lib.hid ((Below.refl wc.heap.size wc).drew)
      refine wp_head_held (S := fun w' => Hid (Below wc.heap.size wc w')) 21 (by kernel_rfl) rfl rfl (by kernel_rfl) ?_
      simp only [List.take_succ_cons, List.take_zero, List.drop_succ_cons, List.drop_zero]
      refine held_take (i := 0) (d := (some 70)) (v := ?_) rfl rfl (by kernel_rfl) (by kernel_rfl) (by kernel_rfl) (fun _ _ _ h => h) (by rfl) ?_ hS ?_
      rotate_left
      · intro w' hSw; (try dsimp only at hSw); go_simp <;> with_reducible rfl
      simp only [Act.put, List.setIfInBounds_toArray, List.set_cons_zero, List.set_cons_succ]
      refine held_take (i := 1) (d := (some 71)) (v := .string ⟨((l.drop 4).take 2).toArray⟩) rfl rfl (by kernel_rfl) (by kernel_rfl) (by kernel_rfl) (fun _ _ _ h => h) (by rfl) (fun w' _ => exec_slice Try.underlying9 (y := .string ⟨l.toArray⟩) (lo' := some (.int .i64 4)) (hi' := some (.int .i64 6)) rfl rfl rfl rfl (d1 w')) hS ?_
      simp only [Act.put, List.setIfInBounds_toArray, List.set_cons_zero, List.set_cons_succ]
      refine held_take (i := 4) (d := (some 74)) (v := ?_) rfl rfl (by kernel_rfl) (by kernel_rfl) (by kernel_rfl) (fun _ _ _ h => h) (by rfl) ?_ hS ?_
      rotate_left
      · intro w' hSw; (try dsimp only at hSw); go_simp <;> with_reducible rfl
      simp only [Act.put, List.setIfInBounds_toArray, List.set_cons_zero, List.set_cons_succ]
      refine held_take (i := 5) (d := (some 75)) (v := ?_) rfl rfl (by kernel_rfl) (by kernel_rfl) (by kernel_rfl) (fun _ _ _ h => h) (by rfl) ?_ hS ?_
      rotate_left
      · intro w' hSw; (try dsimp only at hSw); go_simp <;> with_reducible rfl
      simp only [Act.put, List.setIfInBounds_toArray, List.set_cons_zero, List.set_cons_succ]
      refine held_take (i := 6) (d := (some 76)) (v := ?_) rfl rfl (by kernel_rfl) (by kernel_rfl) (by kernel_rfl) (fun _ _ _ h => h) (by rfl) ?_ hS ?_
      rotate_left
      · intro w' hSw; (try dsimp only at hSw); go_simp <;> with_reducible rfl
      simp only [Act.put, List.setIfInBounds_toArray, List.set_cons_zero, List.set_cons_succ]
      refine held_take (i := 7) (d := (some 77)) (v := ?_) rfl rfl (by kernel_rfl) (by kernel_rfl) (by kernel_rfl) (fun _ _ _ h => h) (by rfl) ?_ hS ?_
      rotate_left
      · intro w' hSw; (try dsimp only at hSw); go_simp <;> with_reducible rfl
      simp only [Act.put, List.setIfInBounds_toArray, List.set_cons_zero, List.set_cons_succ]
      refine held_take (i := 8) (d := (some 78)) (v := ?_) rfl rfl (by kernel_rfl) (by kernel_rfl) (by kernel_rfl) (fun _ _ _ h => h) (by rfl) ?_ hS ?_
      rotate_left
      · intro w' hSw; (try dsimp only at hSw); go_simp <;> with_reducible rfl
      simp only [Act.put, List.setIfInBounds_toArray, List.set_cons_zero, List.set_cons_succ]
      refine held_take (i := 9) (d := (some 79)) (v := .string ⟨((l.drop 12).take 4).toArray⟩) rfl rfl (by kernel_rfl) (by kernel_rfl) (by kernel_rfl) (fun _ _ _ h => h) (by rfl) (fun w' _ => exec_slice Try.underlying9 (y := .string ⟨l.toArray⟩) (lo' := some (.int .i64 12)) (hi' := some (.int .i64 16)) rfl rfl rfl rfl (d9 w')) hS ?_
      simp only [Act.put, List.setIfInBounds_toArray, List.set_cons_zero, List.set_cons_succ]
      refine held_take (i := 12) (d := (some 82)) (v := ?_) rfl rfl (by kernel_rfl) (by kernel_rfl) (by kernel_rfl) (fun _ _ _ h => h) (by rfl) ?_ hS ?_
      rotate_left
      · intro w' hSw; (try dsimp only at hSw); go_simp <;> with_reducible rfl
      simp only [Act.put, List.setIfInBounds_toArray, List.set_cons_zero, List.set_cons_succ]
      refine held_take (i := 13) (d := (some 83)) (v := .string ⟨((l.drop 16).take 4).toArray⟩) rfl rfl (by kernel_rfl) (by kernel_rfl) (by kernel_rfl) (fun _ _ _ h => h) (by rfl) (fun w' _ => exec_slice Try.underlying9 (y := .string ⟨l.toArray⟩) (lo' := some (.int .i64 16)) (hi' := some (.int .i64 20)) rfl rfl rfl rfl (d13 w')) hS ?_
      simp only [Act.put, List.setIfInBounds_toArray, List.set_cons_zero, List.set_cons_succ]
      refine held_take (i := 16) (d := (some 86)) (v := ?_) rfl rfl (by kernel_rfl) (by kernel_rfl) (by kernel_rfl) (fun _ _ _ h => h) (by rfl) ?_ hS ?_
      rotate_left
      · intro w' hSw; (try dsimp only at hSw); go_simp <;> with_reducible rfl
      simp only [Act.put, List.setIfInBounds_toArray, List.set_cons_zero, List.set_cons_succ]
      refine held_take (i := 17) (d := (some 87)) (v := ?_) rfl rfl (by kernel_rfl) (by kernel_rfl) (by kernel_rfl) (fun _ _ _ h => h) (by rfl) ?_ hS ?_
      rotate_left
      · intro w' hSw; (try dsimp only at hSw); go_simp <;> with_reducible rfl
      simp only [Act.put, List.setIfInBounds_toArray, List.set_cons_zero, List.set_cons_succ]
      refine held_take (i := 18) (d := (some 88)) (v := ?_) rfl rfl (by kernel_rfl) (by kernel_rfl) (by kernel_rfl) (fun _ _ _ h => h) (by rfl) ?_ hS ?_
      rotate_left
      · intro w' hSw; (try dsimp only at hSw); go_simp <;> with_reducible rfl
      simp only [Act.put, List.setIfInBounds_toArray, List.set_cons_zero, List.set_cons_succ]
      refine held_take (i := 19) (d := (some 89)) (v := .string ⟨((l.drop m).take (av - m)).toArray⟩) rfl rfl (by kernel_rfl) (by kernel_rfl) (by kernel_rfl) (fun _ _ _ h => h) (by rfl) (fun w' _ => exec_slice Try.underlying9 (y := .string ⟨l.toArray⟩) (lo' := some (.int .i64 (m : Int))) (hi' := some (.int .i64 (av : Int))) rfl rfl rfl rfl (d19 w')) hS ?_
      simp only [Act.put, List.setIfInBounds_toArray, List.set_cons_zero, List.set_cons_succ]
      refine held_one (i := 2) (by kernel_rfl) rfl (by rfl) ?_
      go_simp
      refine (refNum_any _ (by simp <;> omega) _).mono ?_; rintro e wn ⟨rfl, rfl⟩
      refine ⟨hS, ?_⟩
      (try simp only [Act.put, List.setIfInBounds_toArray, List.set_cons_zero, List.set_cons_succ])
      refine held_take (i := 3) (d := (some 73)) (v := ?_) rfl rfl (by kernel_rfl) (by kernel_rfl) (by kernel_rfl) (fun _ _ _ h => h) (by rfl) ?_ hS ?_
      rotate_left
      · intro w' hSw; (try dsimp only at hSw); go_simp <;> with_reducible rfl
      simp only [Act.put, List.setIfInBounds_toArray, List.set_cons_zero, List.set_cons_succ]
      refine held_one (i := 10) (by kernel_rfl) rfl (by rfl) ?_
      go_simp
      refine (refNum_any _ (by simp <;> omega) _).mono ?_; rintro e wn ⟨rfl, rfl⟩
      refine ⟨hS, ?_⟩
      (try simp only [Act.put, List.setIfInBounds_toArray, List.set_cons_zero, List.set_cons_succ])
      refine held_take (i := 11) (d := (some 81)) (v := ?_) rfl rfl (by kernel_rfl) (by kernel_rfl) (by kernel_rfl) (fun _ _ _ h => h) (by rfl) ?_ hS ?_
      rotate_left
      · intro w' hSw; (try dsimp only at hSw); go_simp <;> with_reducible rfl
      simp only [Act.put, List.setIfInBounds_toArray, List.set_cons_zero, List.set_cons_succ]
      refine held_one (i := 14) (by kernel_rfl) rfl (by rfl) ?_
      go_simp
      refine (refNum_any _ (by simp <;> omega) _).mono ?_; rintro e wn ⟨rfl, rfl⟩
      refine ⟨hS, ?_⟩
      (try simp only [Act.put, List.setIfInBounds_toArray, List.set_cons_zero, List.set_cons_succ])
      refine held_take (i := 15) (d := (some 85)) (v := ?_) rfl rfl (by kernel_rfl) (by kernel_rfl) (by kernel_rfl) (fun _ _ _ h => h) (by rfl) ?_ hS ?_
      rotate_left
      · intro w' hSw; (try dsimp only at hSw); go_simp <;> with_reducible rfl
      simp only [Act.put, List.setIfInBounds_toArray, List.set_cons_zero, List.set_cons_succ]
      refine held_take (i := 20) (d := (some 90)) (v := ?_) rfl rfl (by kernel_rfl) (by kernel_rfl) (by kernel_rfl) (fun _ _ _ h => h) (by rfl) ?_ hS ?_
      rotate_left
      · intro w' hSw; (try dsimp only at hSw); go_simp <;> with_reducible rfl
      simp only [Act.put, List.setIfInBounds_toArray, List.set_cons_zero, List.set_cons_succ]
      refine wpAnyH_done (by kernel_rfl) ?_ _
      show wpList _ _ _ _ _ _
      have B4 := Lib.hid (B3.out.trans (hS.out.mono B3.out.size))
      have K4 := Lib.hid (K3.out.older (older_below hS.out))
      have KZ := Lib.hid (below_setRow B4.out (Nat.le_refl w.heap.size) (dpV (numB ((l.drop 4).take 2)) l[8].toNat l[9].toNat (numB ((l.drop 12).take 4)) (numB ((l.drop 16).take 4)) ((l.drop m).take (av - m))))
      go_wp2_with (first
        | (refine wpList_store_row rfl 25 (.tmp 2) (.tmp 90) rfl w.heap.size (dpV (numB ((l.drop 4).take 2)) l[8].toNat l[9].toNat (numB ((l.drop 12).take 4)) (numB ((l.drop 16).take 4)) ((l.drop m).take (av - m))) rfl rfl 25 _ K4.out dp_info rfl (by simp [Value.oneCell']) ?_)
        | fail)
      refine bodyPost_ret (v := .tuple #[.agg (dpV (numB ((l.drop 4).take 2)) l[8].toNat l[9].toNat (numB ((l.drop 12).take 4)) (numB ((l.drop 16).take 4)) ((l.drop m).take (av - m))), .int .i64 0]) ?_ rfl ?_
      · exact results_cell_tmp Try.results15 _ _ w.heap.size 25 _ (0, 0) _ rfl (K4.out.row _) Try.underlying25 rfl dp_info
      refine ⟨.inr ⟨E.out, ?_⟩, KZ.out⟩
      rw [HH.out, HAV.out, E8.out, E9.out]
      rfl
end Go.Proofs.Ytpnfmohejcdgfaa.Ip
