/- Whatever two floats and a number come in, 'pantlerlaw01.SumsWrong' returns true. No condition. -/
import Derived.Test.YtojbpjdppbfkhaaRef01
namespace Go.Proofs.Ytojbpjdppbfkhaa.sumsWrong
open Go.ChangeShapes Go.WideShapes Go.ChangeAt Go.RowKit Fl
set_option linter.unusedVariables false


theorem conv_of {x : Nat} {v : Int} (h : (Ieee.double.read x).toInt .zero = some v) (h0 : -9223372036854775808 ≤ v) (h1 : v ≤ 9223372036854775807) : floatToIntVal .f64 x .i64 = some v := by
  have : (FloatKind.f64.decode x).toInt .zero = some v := h
  unfold floatToIntVal
  rw [this]
  dsimp only
  rw [if_pos ⟨h0, h1⟩]

def geq0 (x : Nat) : Bool := FloatKind.f64.format.order x 0 == some .gt || FloatKind.f64.format.order x 0 == some .eq
def leq40 (x : Nat) : Bool := FloatKind.f64.format.order x 4787326403894837248 == some .lt || FloatKind.f64.format.order x 4787326403894837248 == some .eq

/-- Where the first tests tell that it is no part. -/
theorem no_part (w : World) (x y k : Nat) (hk : k ≤ 4294967295) (H : (geZ x && le40 x && geZ y && le40 y) = false) :
    Calls Try.prog 6 #[.float .f64 x, .float .f64 y, .int .u32 k] w fun e w' => e = .returned (.bool true) ∧ Below w.heap.size w w' := by
  have hm : mayB x y = false := by
    unfold mayB wholeB
    cases h1 : geZ x <;> cases h2 : le40 x <;> cases h3 : geZ y <;> cases h4 : le40 y <;> simp_all
  have hj : ∀ W, Calls Try.prog 20 #[.complex .f64 (floatOfInt .f64 (k : Int)) 4607182418800017408, .int .i64 3, .complex .f64 x y] W fun e w' => e = .returned (.tuple #[.complex .f64 0 0, .int .i64 1]) ∧ W = w' := fun W => join_bad _ _ _ _ _ W (.inr (.inr hm))
  have HM := Lib.hid hm
  have HJ := Lib.hid hj
  clear hm hj
  by_cases h1 : geZ x = true
  · have g1 : (FloatKind.f64.format.order x 0 == some .gt || FloatKind.f64.format.order x 0 == some .eq) = true := h1
    by_cases h2 : le40 x = true
    · have g2 : (FloatKind.f64.format.order x 4787326403894837248 == some .lt || FloatKind.f64.format.order x 4787326403894837248 == some .eq) = true := h2
      by_cases h3 : geZ y = true
      · have g3 : (FloatKind.f64.format.order y 0 == some .gt || FloatKind.f64.format.order y 0 == some .eq) = true := h3
        have h4 : le40 y = false := by rw [h1, h2, h3] at H; simpa using H
        have g4 : (FloatKind.f64.format.order y 4787326403894837248 == some .lt || FloatKind.f64.format.order y 4787326403894837248 == some .eq) = false := h4
        clear H h1 h2 h3 h4
        go_enter Try.func6, Try.ntmps6
        go_wp2_with (first | (go_at_call 8; refine (alive_any _).mono ?_; rintro e w1 ⟨rfl, b1⟩) | (go_at_call 13; refine (fold_bad _ _ _ HM.out).mono ?_; rintro e w' ⟨rfl, rfl⟩) | (go_at_call 14; refine (sum_bad _ _ _ HM.out).mono ?_; rintro e w' ⟨rfl, rfl⟩) | (go_at_call 20; refine (HJ.out _).mono ?_; rintro e w' ⟨rfl, rfl⟩))
        go_ret
        exact ⟨rfl, by assumption⟩
      · have g3 : (FloatKind.f64.format.order y 0 == some .gt || FloatKind.f64.format.order y 0 == some .eq) = false := Bool.eq_false_iff.2 h3
        clear H h1 h2 h3
        go_enter Try.func6, Try.ntmps6
        go_wp2_with (first | (go_at_call 8; refine (alive_any _).mono ?_; rintro e w1 ⟨rfl, b1⟩) | (go_at_call 13; refine (fold_bad _ _ _ HM.out).mono ?_; rintro e w' ⟨rfl, rfl⟩) | (go_at_call 14; refine (sum_bad _ _ _ HM.out).mono ?_; rintro e w' ⟨rfl, rfl⟩) | (go_at_call 20; refine (HJ.out _).mono ?_; rintro e w' ⟨rfl, rfl⟩))
        go_ret
        exact ⟨rfl, by assumption⟩
    · have g2 : (FloatKind.f64.format.order x 4787326403894837248 == some .lt || FloatKind.f64.format.order x 4787326403894837248 == some .eq) = false := Bool.eq_false_iff.2 h2
      clear H h1 h2
      go_enter Try.func6, Try.ntmps6
      go_wp2_with (first | (go_at_call 8; refine (alive_any _).mono ?_; rintro e w1 ⟨rfl, b1⟩) | (go_at_call 13; refine (fold_bad _ _ _ HM.out).mono ?_; rintro e w' ⟨rfl, rfl⟩) | (go_at_call 14; refine (sum_bad _ _ _ HM.out).mono ?_; rintro e w' ⟨rfl, rfl⟩) | (go_at_call 20; refine (HJ.out _).mono ?_; rintro e w' ⟨rfl, rfl⟩))
      go_ret
      exact ⟨rfl, by assumption⟩
  · have g1 : (FloatKind.f64.format.order x 0 == some .gt || FloatKind.f64.format.order x 0 == some .eq) = false := Bool.eq_false_iff.2 h1
    clear H h1
    go_enter Try.func6, Try.ntmps6
    go_wp2_with (first | (go_at_call 8; refine (alive_any _).mono ?_; rintro e w1 ⟨rfl, b1⟩) | (go_at_call 13; refine (fold_bad _ _ _ HM.out).mono ?_; rintro e w' ⟨rfl, rfl⟩) | (go_at_call 14; refine (sum_bad _ _ _ HM.out).mono ?_; rintro e w' ⟨rfl, rfl⟩) | (go_at_call 20; refine (HJ.out _).mono ?_; rintro e w' ⟨rfl, rfl⟩))
    go_ret
    exact ⟨rfl, by assumption⟩

theorem walk (w : World) (x : Nat) (wx : (Lit.float .f64 x).wf = true) (y : Nat) (wy : (Lit.float .f64 y).wf = true) (k : Int) (wk : (Lit.int .u32 k).wf = true) :
    Calls Try.prog 6 #[.float .f64 x, .float .f64 y, .int .u32 k] w fun e w' => e = .returned (.bool true) ∧ Below w.heap.size w w' := by
  obtain ⟨k, rfl, hk⟩ := wf_u32 wk
  clear wx wy wk
  by_cases H : (geZ x && le40 x && geZ y && le40 y) = true
  · simp only [Bool.and_eq_true] at H
    obtain ⟨⟨⟨h1, h2⟩, h3⟩, h4⟩ := H
    obtain ⟨n1, hn1, t1, _, e1, r1⟩ := between h1 h2
    obtain ⟨n2, hn2, t2, _, e2, r2⟩ := between h3 h4
    have W1 : wholeB x = (Ieee.double.order (fl n1) x == some .eq) := by unfold wholeB; rw [h1, h2, e1]; rfl
    have W2 : wholeB y = (Ieee.double.order (fl n2) y == some .eq) := by unfold wholeB; rw [h3, h4, e2]; rfl
    have cx := fun w => run_convert_float_int (P := Try.prog) w 33 2 .f64 .i64 x n1 (by kernel_rfl) Try.underlying2 (conv_of t1 (by omega) (by omega))
    have cy := fun w => run_convert_float_int (P := Try.prog) w 33 2 .f64 .i64 y n2 (by kernel_rfl) Try.underlying2 (conv_of t2 (by omega) (by omega))
    have g1 : (FloatKind.f64.format.order x 0 == some .gt || FloatKind.f64.format.order x 0 == some .eq) = true := h1
    have g2 : (FloatKind.f64.format.order x 4787326403894837248 == some .lt || FloatKind.f64.format.order x 4787326403894837248 == some .eq) = true := h2
    have g3 : (FloatKind.f64.format.order y 0 == some .gt || FloatKind.f64.format.order y 0 == some .eq) = true := h3
    have g4 : (FloatKind.f64.format.order y 4787326403894837248 == some .lt || FloatKind.f64.format.order y 4787326403894837248 == some .eq) = true := h4
    rw [e1] at r1
    rw [e2] at r2
    clear h1 h2 h3 h4 t1 t2 e1 e2
    cases E1 : (Ieee.double.order (fl n1) x == some .eq) with
    | false =>
      rw [E1] at W1
      have hm : mayB x y = false := by unfold mayB; rw [W1]; rfl
      have hj : ∀ W, Calls Try.prog 20 #[.complex .f64 (floatOfInt .f64 (k : Int)) 4607182418800017408, .int .i64 3, .complex .f64 x y] W fun e w' => e = .returned (.tuple #[.complex .f64 0 0, .int .i64 1]) ∧ W = w' := fun W => join_bad _ _ _ _ _ W (.inr (.inr hm))
      have HM := Lib.hid hm
      have HJ := Lib.hid hj
      have q1 : (FloatKind.f64.format.order (floatOfInt .f64 (n1 : Int)) x == some .eq) = false := E1
      clear hm hj W1 W2 r1 r2 E1
      go_enter Try.func6, Try.ntmps6
      go_wp2_with (first | (go_at_call 8; refine (alive_any _).mono ?_; rintro e w1 ⟨rfl, b1⟩) | (go_at_call 13; refine (fold_bad _ _ _ HM.out).mono ?_; rintro e w' ⟨rfl, rfl⟩) | (go_at_call 14; refine (sum_bad _ _ _ HM.out).mono ?_; rintro e w' ⟨rfl, rfl⟩) | (go_at_call 20; refine (HJ.out _).mono ?_; rintro e w' ⟨rfl, rfl⟩))
      go_ret
      exact ⟨rfl, by assumption⟩
    | true =>
      have q1 : (FloatKind.f64.format.order (floatOfInt .f64 (n1 : Int)) x == some .eq) = true := E1
      cases E2 : (Ieee.double.order (fl n2) y == some .eq) with
      | false =>
        rw [E2] at W2
        have hm : mayB x y = false := by unfold mayB; rw [W2]; simp
        have hj : ∀ W, Calls Try.prog 20 #[.complex .f64 (floatOfInt .f64 (k : Int)) 4607182418800017408, .int .i64 3, .complex .f64 x y] W fun e w' => e = .returned (.tuple #[.complex .f64 0 0, .int .i64 1]) ∧ W = w' := fun W => join_bad _ _ _ _ _ W (.inr (.inr hm))
        have HM := Lib.hid hm
        have HJ := Lib.hid hj
        have q2 : (FloatKind.f64.format.order (floatOfInt .f64 (n2 : Int)) y == some .eq) = false := E2
        clear hm hj W1 W2 r1 r2 E1 E2
        go_enter Try.func6, Try.ntmps6
        go_wp2_with (first | (go_at_call 8; refine (alive_any _).mono ?_; rintro e w1 ⟨rfl, b1⟩) | (go_at_call 13; refine (fold_bad _ _ _ HM.out).mono ?_; rintro e w' ⟨rfl, rfl⟩) | (go_at_call 14; refine (sum_bad _ _ _ HM.out).mono ?_; rintro e w' ⟨rfl, rfl⟩) | (go_at_call 20; refine (HJ.out _).mono ?_; rintro e w' ⟨rfl, rfl⟩))
        go_ret
        exact ⟨rfl, by assumption⟩
      | true =>
        have q2 : (FloatKind.f64.format.order (floatOfInt .f64 (n2 : Int)) y == some .eq) = true := E2
        have R1 := Lib.hid (r1 E1)
        have R2 := Lib.hid (r2 E2)
        obtain ⟨zr, zi, er, hz⟩ : ∃ zr zi er, joined k 1 n2 n1 = .tuple #[.complex .f64 zr zi, .int .i64 er] := by
          unfold joined; split
          · exact ⟨_, _, _, rfl⟩
          · exact ⟨_, _, _, rfl⟩
        have one : fl ((1 : Nat) : Int) = 4607182418800017408 := by decide +kernel
        have hj : ∀ W, Calls Try.prog 20 #[.complex .f64 (floatOfInt .f64 (k : Int)) 4607182418800017408, .int .i64 3, .complex .f64 x y] W fun e w' => e = .returned (.tuple #[.complex .f64 zr zi, .int .i64 er]) ∧ W = w' := fun W => by
          have J := join_ok k 1 n1 n2 x y 3 W R1.out R2.out (by omega) (by omega) (by omega) (by omega) (by omega)
          rw [one] at J
          simp only [show (3 : Nat) % 2 = 1 by decide, if_true, hz] at J
          exact J
        have HJ := Lib.hid hj
        clear hj W1 W2 r1 r2 E1 E2 hz one
        go_enter Try.func6, Try.ntmps6
        go_wp2_with (first | (go_at_call 8; refine (alive_any _).mono ?_; rintro e w1 ⟨rfl, b1⟩) | (go_at_call 13; refine (fold_ok _ _ n1 n2 _ R1.out R2.out (by assumption) (by assumption)).mono ?_; rintro e w' ⟨rfl, rfl⟩) | (go_at_call 14; refine (sum_ok _ _ n1 n2 _ R1.out R2.out (by assumption) (by assumption)).mono ?_; rintro e w' ⟨rfl, rfl⟩) | (go_at_call 20; refine (HJ.out _).mono ?_; rintro e w' ⟨rfl, rfl⟩))
        go_ret
        exact ⟨rfl, by assumption⟩
  · exact no_part w x y k hk (Bool.eq_false_iff.2 H)

set_option maxRecDepth 100000 in
theorem lifted (os : Os) (started : os.Started) (H : Type) (enc : TypeId × Value → H) :
    ReturnsInHanded {} Try.checked os 6 .any (Rows.sumsWrongSpec.pre6 enc Try.prog Try.f6 Rows.sumsWrongRow.domain false) (Rows.sumsWrongSpec.post enc Try.prog Try.f6 false true false false) := by
  refine returnsInHanded_of_change (C := Try.checked) own started (by kernel_rfl) Try.func6
    (ChangeSpec.witness6 (enc := enc) (C := Try.checked) false ⟨#[], #[.float .f64 0, .float .f64 0, .int .u32 0], []⟩ 8 (by kernel_rfl) (by kernel_rfl) (by kernel_rfl) (by kernel_rfl)) ?_
  intro W base args ds gs before hval0 hW hcnd _
  have hval : ∀ (j : Nat) t v, Try.f6.params[j]? = some t → args[j]? = some v → Value.okWide Try.prog W .any base t v := hval0
  have hW' := hW
  obtain ⟨p, q, hA0, hV, rfl, hfz, hnd⟩ := hW
  have hA : DataW.TrodAll enc Try.prog W 0 (fun _ => true) true Try.f6.params.toList args.toList ds p := hA0
  rw [Try.params6] at hA hval
  obtain ⟨v0, vs0, d0, ds0, p0, q0, hargs, rfl, rfl, h0, r0⟩ := trodAll_cons hA
  obtain ⟨v1, vs1, d1, ds1, p1, q1, rfl, rfl, rfl, h1, r1⟩ := trodAll_cons r0
  obtain ⟨v2, vs2, d2, ds2, p2, q2, rfl, rfl, rfl, h2, r2⟩ := trodAll_cons r1
  obtain ⟨rfl, rfl, rfl⟩ := trodAll_nil r2
  obtain rfl : args = #[v0, v1, v2] := by cases args; simp_all
  obtain ⟨a0, rfl, _, _, w0⟩ := open_float Try.underlying33 (hval 0 33 v0 rfl rfl) h0
  obtain ⟨a1, rfl, _, _, w1⟩ := open_float Try.underlying33 (hval 1 33 v1 rfl rfl) h1
  obtain ⟨a2, rfl, _, _, w2⟩ := open_int Try.underlying47 (hval 2 47 v2 rfl rfl) h2
  clear hA0 hval0
  exact law_close hW' laidOut (by kernel_rfl) rfl Try.underlying4 rfl ⟨rfl, rfl, rfl⟩ (walk W a0 w0 a1 w1 a2 w2)

theorem over : Rows.sumsWrongRow.holds Try.pinned (OpenSpec.ofChange Rows.sumsWrongSpec) :=
  OpenClaim.holds_of_wide 6 Try.f6 rfl rfl rfl rfl rfl rfl rfl ⟨rfl, rfl, rfl, rfl, rfl⟩ rfl rfl rfl rfl rfl (by kernel_rfl) Try.func6 (by kernel_rfl)
    (of_decide_eq_true (by kernel_rfl)) (by unfold Func.isWrapper; first | (rw [if_pos (by decide +kernel)]; kernel_rfl) | (rw [if_neg (by decide +kernel)]; exact ⟨rfl, rfl⟩))
    (fun os started H enc _ => lifted os started H enc)

theorem proved : Rows.SumsWrongSaid := over

end Go.Proofs.Ytojbpjdppbfkhaa.sumsWrong
