/- The document's answers of layer 14 (eth): Message, ForMe. Conditions: those that each states. -/
import Derived.Test.YtahmdogpnojcpaaEt7
namespace Go.Proofs.Ytahmdogpnojcpaa.Et
open Go.ChangeShapes Go.WideShapes Go.ChangeAt Go.RowKit Go.Deep Rk Es
set_option linter.unusedVariables false
set_option linter.unusedSimpArgs false

set_option maxRecDepth 100000 in
theorem refForMe_any (hm hi t f y : Nat) (l : List UInt8) (w : World) :
    Calls Try.prog 24 #[.agg (hoV hm hi), .agg (dpV t f y l)] w fun e w' => e = .returned (.bool (fmR t hm)) ∧ Below w.heap.size w w' := by
  have B0 := Lib.hid (((Below.refl w.heap.size w).alloc (Nat.le_refl _) (.cells (hoV hm hi) 54)).alloc (by simp) (.cells (dpV t f y l) 25))
  by_cases h1 : t = hm
  · subst h1
    have e : fmR t t = true := by simp [fmR]
    rw [e]
    go_enter Try.func24, Try.ntmps24
    go_wp2
    go_ret
    exact ⟨rfl, B0.out⟩
  · have h1' : ¬ (t : Int) = (hm : Int) := by omega
    by_cases h2 : t = 281474976710655
    · have e : fmR t hm = true := by simp [fmR, h2]
      rw [e]
      subst h2
      clear h1
      go_enter Try.func24, Try.ntmps24
      go_wp2
      go_ret
      exact ⟨by simp, B0.out⟩
    · have e : fmR t hm = false := by simp [fmR, h1, h2]
      rw [e]
      have h2' : ¬ (t : Int) = 281474976710655 := by omega
      have g1 : ((t : Int) == (hm : Int)) = false := by simpa using h1'
      have g2 : ((t : Int) == 281474976710655) = false := by simpa using h2'
      go_enter Try.func24, Try.ntmps24
      go_wp2
      go_ret
      exact ⟨by first | rfl | simp [g1, g2], B0.out⟩

set_option maxRecDepth 100000 in
set_option maxHeartbeats 4000000 in
theorem refMessage_any (o : Int) (m i m' i' : Nat) (hm : m ≤ 18446744073709551615) (hi : i ≤ 4294967295) (hm' : m' ≤ 18446744073709551615) (hi' : i' ≤ 4294967295) (w : World) :
    Calls Try.prog 18 #[.agg (arV o m i m' i')] w fun e w' => STold e (arMay o m m') (arL o m i m' i') 1 ∧ Below w.heap.size w w' := by
  have b1 : Below w.heap.size w (w.alloc (.cells (arV o m i m' i') 44)) := (Below.refl _ w).alloc (Nat.le_refl _) _
  have B1 := Lib.hid b1
  have K1 := Lib.hid (Blk.new w 44 (arV o m i m' i'))
  have P1 := Lib.hid (fun W => refPut_any m 6 W hm (by omega) (by omega))
  have P2 := Lib.hid (fun W => refPut_any m' 6 W hm' (by omega) (by omega))
  clear b1
  go_enter Try.func18, Try.ntmps18
  go_upto_region 1 with fail
  generalize hW : w.alloc (.cells (arV o m i m' i') 44) = W0 at *
  have z1 := (K1.out.cell 1).trans (show _ = some (.int .u64 (m : Int)) from rfl)
  go_wp2_with fail
  refine (P1.out W0).mono ?_
  rintro e w2 ⟨rfl, b2⟩
  have B2 := Lib.hid (B1.out.trans (b2.mono B1.out.size))
  have K2 := Lib.hid (K1.out.older (older_below b2))
  clear b2 K1 B1 z1 P1
  have z3 := (K2.out.cell 3).trans (show _ = some (.int .u64 (m' : Int)) from rfl)
  obtain ⟨s1, e1, hp1, hq1⟩ : ∃ (s1 : ByteArray) (e1 : Int), (if m < 256 ^ 6 then Value.tuple #[.string ⟨(be m 6).toArray⟩, .int .i64 0] else .tuple #[.string ⟨#[]⟩, .int .i64 1]) = .tuple #[.string s1, .int .i64 e1] ∧ ((m < 256 ^ 6 ∧ s1 = ⟨(be m 6).toArray⟩ ∧ e1 = 0) ∨ (¬ m < 256 ^ 6 ∧ e1 = 1)) := by
    by_cases h : m < 256 ^ 6
    · rw [if_pos h]; exact ⟨_, _, rfl, .inl ⟨h, rfl, rfl⟩⟩
    · rw [if_neg h]; exact ⟨_, _, rfl, .inr ⟨h, rfl⟩⟩
  rw [hp1]
  have Q1 := Lib.hid hq1
  clear hp1 hq1
  go_wp2_with fail
  refine (P2.out w2).mono ?_
  rintro e w3 ⟨rfl, b3⟩
  have B3 := Lib.hid (B2.out.trans (b3.mono B2.out.size))
  have K3 := Lib.hid (K2.out.older (older_below b3))
  clear b3 K2 B2 z3 P2
  obtain ⟨s2, e2, hp2, hq2⟩ : ∃ (s2 : ByteArray) (e2 : Int), (if m' < 256 ^ 6 then Value.tuple #[.string ⟨(be m' 6).toArray⟩, .int .i64 0] else .tuple #[.string ⟨#[]⟩, .int .i64 1]) = .tuple #[.string s2, .int .i64 e2] ∧ ((m' < 256 ^ 6 ∧ s2 = ⟨(be m' 6).toArray⟩ ∧ e2 = 0) ∨ (¬ m' < 256 ^ 6 ∧ e2 = 1)) := by
    by_cases h : m' < 256 ^ 6
    · rw [if_pos h]; exact ⟨_, _, rfl, .inl ⟨h, rfl, rfl⟩⟩
    · rw [if_neg h]; exact ⟨_, _, rfl, .inr ⟨h, rfl⟩⟩
  rw [hp2]
  have Q2 := Lib.hid hq2
  clear hp2 hq2
  have z0 := (K3.out.cell 0).trans (show _ = some (.int .i64 o) from rfl)
  by_cases ho : o < 1
  · have M := Lib.hid (show arMay o m m' = false from by unfold arMay; rw [decide_eq_false (by omega)]; rfl)
    go_wp2
    go_ret2
    exact ⟨by unfold STold; rw [M.out]; rfl, B3.out⟩
  by_cases ho2 : o > 2
  · have M := Lib.hid (show arMay o m m' = false from by unfold arMay; rw [decide_eq_false (by omega)]; rfl)
    go_wp2
    go_ret2
    exact ⟨by unfold STold; rw [M.out]; rfl, B3.out⟩
  rcases Q1.out with ⟨g1, rfl, rfl⟩ | ⟨g1, rfl⟩
  rotate_left
  · have M := Lib.hid (show arMay o m m' = false from by unfold arMay; rw [decide_eq_false g1]; simp)
    clear g1
    go_wp2
    go_ret2
    exact ⟨by unfold STold; rw [M.out]; rfl, B3.out⟩
  rcases Q2.out with ⟨g2, rfl, rfl⟩ | ⟨g2, rfl⟩
  rotate_left
  · have M := Lib.hid (show arMay o m m' = false from by unfold arMay; rw [decide_eq_false g2]; simp)
    clear g1 g2
    go_wp2
    go_ret2
    exact ⟨by unfold STold; rw [M.out]; rfl, B3.out⟩
  have M := Lib.hid (show arMay o m m' = true from by unfold arMay; rw [decide_eq_true g1, decide_eq_true g2, decide_eq_true (by omega)]; rfl)
  obtain ⟨k, rfl, hk⟩ : ∃ k : Nat, o = (k : Int) ∧ (k = 1 ∨ k = 2) := ⟨o.toNat, by omega, by omega⟩
  have P3 := Lib.hid (fun W => refP_any k 2 W (by omega) (by omega) (by omega) (by simp; omega))
  have P4 := Lib.hid (fun W => refP_any i 4 W (by omega) (by omega) (by omega) (by simp; omega))
  have P5 := Lib.hid (fun W => refP_any i' 4 W (by omega) (by omega) (by omega) (by simp; omega))
  have c0 := IntWalk.u64_in (k : Int) (by omega)
  have c1 := IntWalk.u64_in (i : Int) (by omega)
  have c2 := IntWalk.u64_in (i' : Int) (by omega)
  have AL := Lib.hid (show arL (k : Int) m i m' i' = arHead ++ (be k 2 ++ (be m 6 ++ (be i 4 ++ (be m' 6 ++ be i' 4)))) from rfl)
  have n1 : (be k 2).length = 2 := be_length k 2
  have n2 : (be m 6).length = 6 := be_length m 6
  have n3 : (be i 4).length = 4 := be_length i 4
  have n4 : (be m' 6).length = 6 := be_length m' 6
  have n5 : (be i' 4).length = 4 := be_length i' 4
  generalize be k 2 = X1 at *
  generalize be m 6 = X2 at *
  generalize be i 4 = X3 at *
  generalize be m' 6 = X4 at *
  generalize be i' 4 = X5 at *
  clear g1 g2 Q1 Q2
  go_upto_region 5 with fail
  generalize w3 = W at *
  have B0 := Lib.hid ((Below.refl W.heap.size W).drew)
  have K4 := K3
  clear z0
  have hS := B0
  refine wp_head_held (S := fun w' => Hid (Below W.heap.size W w')) 19 (by kernel_rfl) rfl rfl (by kernel_rfl) ?_
  simp only [List.take_succ_cons, List.take_zero, List.drop_succ_cons, List.drop_zero]
  refine held_take (i := 0) (d := (some 36)) (v := ?_) rfl rfl (by kernel_rfl) (by kernel_rfl) (by kernel_rfl) (fun _ _ _ h => h) (by rfl) ?_ hS ?_
  rotate_left
  · intro w' hSw; (try dsimp only at hSw); go_simp <;> with_reducible rfl
  simp only [Act.put, List.setIfInBounds_toArray, List.set_cons_zero, List.set_cons_succ]
  refine held_take (i := 5) (d := (some 41)) (v := ?_) rfl rfl (by kernel_rfl) (by kernel_rfl) (by kernel_rfl) (fun _ _ _ h => h) (by rfl) ?_ hS ?_
  rotate_left
  · intro w' hSw; (try dsimp only at hSw); go_simp <;> with_reducible rfl
  simp only [Act.put, List.setIfInBounds_toArray, List.set_cons_zero, List.set_cons_succ]
  refine held_take (i := 7) (d := (some 43)) (v := ?_) rfl rfl (by kernel_rfl) (by kernel_rfl) (by kernel_rfl) (fun _ _ _ h => h) (by rfl) ?_ hS ?_
  rotate_left
  · intro w' hSw; (try dsimp only at hSw); go_simp <;> with_reducible rfl
  simp only [Act.put, List.setIfInBounds_toArray, List.set_cons_zero, List.set_cons_succ]
  refine held_take (i := 12) (d := (some 48)) (v := ?_) rfl rfl (by kernel_rfl) (by kernel_rfl) (by kernel_rfl) (fun _ _ _ h => h) (by rfl) ?_ hS ?_
  rotate_left
  · intro w' hSw; (try dsimp only at hSw); go_simp <;> with_reducible rfl
  simp only [Act.put, List.setIfInBounds_toArray, List.set_cons_zero, List.set_cons_succ]
  refine held_take (i := 14) (d := (some 50)) (v := ?_) rfl rfl (by kernel_rfl) (by kernel_rfl) (by kernel_rfl) (fun _ _ _ h => h) (by rfl) ?_ hS ?_
  rotate_left
  · intro w' hSw; (try dsimp only at hSw); go_simp <;> with_reducible rfl
  simp only [Act.put, List.setIfInBounds_toArray, List.set_cons_zero, List.set_cons_succ]
  refine held_take (i := 1) (d := (some 37)) (v := ?_) rfl rfl (by kernel_rfl) (by kernel_rfl) (by kernel_rfl) (fun _ _ _ h => h) (by rfl) ?_ hS ?_
  rotate_left
  · intro w' hSw; have kb := hSw.out; clear hSw; have z0 := ((K4.out.older (older_below kb)).cell 0).trans (show _ = some (.int .i64 (k : Int)) from rfl); clear kb; go_simp <;> with_reducible rfl
  simp only [Act.put, List.setIfInBounds_toArray, List.set_cons_zero, List.set_cons_succ]
  refine held_take (i := 2) (d := (some 38)) (v := ?_) rfl rfl (by kernel_rfl) (by kernel_rfl) (by kernel_rfl) (fun _ _ _ h => h) (by rfl) ?_ hS ?_
  rotate_left
  · intro w' hSw; (try dsimp only at hSw); go_simp <;> with_reducible rfl
  simp only [Act.put, List.setIfInBounds_toArray, List.set_cons_zero, List.set_cons_succ]
  refine held_take (i := 8) (d := (some 44)) (v := ?_) rfl rfl (by kernel_rfl) (by kernel_rfl) (by kernel_rfl) (fun _ _ _ h => h) (by rfl) ?_ hS ?_
  rotate_left
  · intro w' hSw; have kb := hSw.out; clear hSw; have z2 := ((K4.out.older (older_below kb)).cell 2).trans (show _ = some (.int .u32 (i : Int)) from rfl); clear kb; go_simp <;> with_reducible rfl
  simp only [Act.put, List.setIfInBounds_toArray, List.set_cons_zero, List.set_cons_succ]
  refine held_take (i := 9) (d := (some 45)) (v := ?_) rfl rfl (by kernel_rfl) (by kernel_rfl) (by kernel_rfl) (fun _ _ _ h => h) (by rfl) ?_ hS ?_
  rotate_left
  · intro w' hSw; (try dsimp only at hSw); go_simp <;> with_reducible rfl
  simp only [Act.put, List.setIfInBounds_toArray, List.set_cons_zero, List.set_cons_succ]
  refine held_take (i := 15) (d := (some 51)) (v := ?_) rfl rfl (by kernel_rfl) (by kernel_rfl) (by kernel_rfl) (fun _ _ _ h => h) (by rfl) ?_ hS ?_
  rotate_left
  · intro w' hSw; have kb := hSw.out; clear hSw; have z4 := ((K4.out.older (older_below kb)).cell 4).trans (show _ = some (.int .u32 (i' : Int)) from rfl); clear kb; go_simp <;> with_reducible rfl
  simp only [Act.put, List.setIfInBounds_toArray, List.set_cons_zero, List.set_cons_succ]
  refine held_take (i := 16) (d := (some 52)) (v := ?_) rfl rfl (by kernel_rfl) (by kernel_rfl) (by kernel_rfl) (fun _ _ _ h => h) (by rfl) ?_ hS ?_
  rotate_left
  · intro w' hSw; (try dsimp only at hSw); go_simp <;> with_reducible rfl
  simp only [Act.put, List.setIfInBounds_toArray, List.set_cons_zero, List.set_cons_succ]
  refine held_one (i := 3) (by kernel_rfl) rfl (by rfl) ?_
  go_simp
  refine (P3.out _).mono ?_; rintro e wp3 ⟨rfl, bp3⟩
  have Bp3 := Lib.hid (B0.out.trans (bp3.mono B0.out.size))
  have hS : Hid (Below W.heap.size W wp3) := Bp3
  refine ⟨hS, ?_⟩
  clear bp3
  (try simp only [Act.put, List.setIfInBounds_toArray, List.set_cons_zero, List.set_cons_succ])
  refine held_take (i := 4) (d := (some 40)) (v := ?_) rfl rfl (by kernel_rfl) (by kernel_rfl) (by kernel_rfl) (fun _ _ _ h => h) (by rfl) ?_ hS ?_
  rotate_left
  · intro w' hSw; (try dsimp only at hSw); go_simp <;> with_reducible rfl
  simp only [Act.put, List.setIfInBounds_toArray, List.set_cons_zero, List.set_cons_succ]
  refine held_take (i := 6) (d := (some 42)) (v := ?_) rfl rfl (by kernel_rfl) (by kernel_rfl) (by kernel_rfl) (fun _ _ _ h => h) (by rfl) ?_ hS ?_
  rotate_left
  · intro w' hSw; (try dsimp only at hSw); go_simp <;> with_reducible rfl
  simp only [Act.put, List.setIfInBounds_toArray, List.set_cons_zero, List.set_cons_succ]
  refine held_one (i := 10) (by kernel_rfl) rfl (by rfl) ?_
  go_simp
  refine (P4.out _).mono ?_; rintro e wp10 ⟨rfl, bp10⟩
  have Bp10 := Lib.hid (Bp3.out.trans (bp10.mono Bp3.out.size))
  have hS : Hid (Below W.heap.size W wp10) := Bp10
  refine ⟨hS, ?_⟩
  clear bp10
  (try simp only [Act.put, List.setIfInBounds_toArray, List.set_cons_zero, List.set_cons_succ])
  refine held_take (i := 11) (d := (some 47)) (v := ?_) rfl rfl (by kernel_rfl) (by kernel_rfl) (by kernel_rfl) (fun _ _ _ h => h) (by rfl) ?_ hS ?_
  rotate_left
  · intro w' hSw; (try dsimp only at hSw); go_simp <;> with_reducible rfl
  simp only [Act.put, List.setIfInBounds_toArray, List.set_cons_zero, List.set_cons_succ]
  refine held_take (i := 13) (d := (some 49)) (v := ?_) rfl rfl (by kernel_rfl) (by kernel_rfl) (by kernel_rfl) (fun _ _ _ h => h) (by rfl) ?_ hS ?_
  rotate_left
  · intro w' hSw; (try dsimp only at hSw); go_simp <;> with_reducible rfl
  simp only [Act.put, List.setIfInBounds_toArray, List.set_cons_zero, List.set_cons_succ]
  refine held_one (i := 17) (by kernel_rfl) rfl (by rfl) ?_
  go_simp
  refine (P5.out _).mono ?_; rintro e wp17 ⟨rfl, bp17⟩
  have Bp17 := Lib.hid (Bp10.out.trans (bp17.mono Bp10.out.size))
  have hS : Hid (Below W.heap.size W wp17) := Bp17
  refine ⟨hS, ?_⟩
  clear bp17
  (try simp only [Act.put, List.setIfInBounds_toArray, List.set_cons_zero, List.set_cons_succ])
  refine held_take (i := 18) (d := (some 54)) (v := ?_) rfl rfl (by kernel_rfl) (by kernel_rfl) (by kernel_rfl) (fun _ _ _ h => h) (by rfl) ?_ hS ?_
  rotate_left
  · intro w' hSw; (try dsimp only at hSw); go_simp <;> with_reducible rfl
  simp only [Act.put, List.setIfInBounds_toArray, List.set_cons_zero, List.set_cons_succ]
  refine wpAnyH_done (by kernel_rfl) ?_ _
  show wpList _ _ _ _ _ _
  have BZ := Lib.hid (B3.out.trans (Bp17.out.mono B3.out.size))
  go_wp2
  go_ret2
  refine ⟨?_, BZ.out⟩
  unfold STold
  rw [M.out, AL.out]
  simp [arHead, ByteArray.mk_append_mk]
end Go.Proofs.Ytahmdogpnojcpaa.Et
