/- What each function of package sums does, said of its arguments. Conditions: those that each states. -/
import Derived.Test.YtgemmciokioaiaaGen
import Derived.Test.YtgemmciokioaiaaFl
import Derived.WalkSpells
import Derived.WalkLawsBesides
import Derived.Laws.ComplexArith
import Derived.Deep.QuietTactic
import Derived.BigQuiet
namespace Go.Proofs.Ytgemmciokioaiaa
open Go.ChangeShapes Go.WideShapes Go.ChangeAt Go.RowKit Fl

theorem arch_run (x : Nat) (w : World) (h : ∃ s m p, Ieee.double.read x = .number s m p) :
    (callFunc 46 #[.float .f64 x]).run Try.prog w = .ok (.value (.float .f64 (floorB x))) w := by
  obtain ⟨s, m, p, hr⟩ := h
  have hd : FloatKind.f64.decode x = .number s m p := hr
  have he : Extern.find Try.f46 = some (Extern.MathFloor.toIntegral "math.archFloor" .down) := by kernel_rfl
  rw [run_callFunc_extern Try.func46 (by kernel_rfl) (by kernel_rfl) (by kernel_rfl) he]
  have : (Extern.MathFloor.toIntegral "math.archFloor" .down #[.float .f64 x]).run Try.prog w = .ok (.float .f64 (floorB x)) w := by
    unfold floorB
    rw [hr]
    show Sem.run Try.prog (match FloatKind.f64.decode x with
      | .nan s t =>
        if FloatKind.f64.format.quiet t = t then pure (Value.float .f64 x) else do
        let kept ← choose (.extern "math.Floor,Ceil,Trunc,RoundToEven.signallingNaN kept" 2)
        pure (Value.float .f64 (if kept == 1 then x else FloatKind.f64.encode (.nan s (FloatKind.f64.format.quiet t))))
      | d => pure (Value.float .f64 (FloatKind.f64.encode (d.integral .down)))) w = _
    rw [hd]
    rfl
  rw [this]; rfl

theorem floor_any (x : Nat) (w : World) (h : ∃ s m p, Ieee.double.read x = .number s m p) :
    Calls Try.prog 45 #[.float .f64 x] w fun e w' => e = .returned (.float .f64 (floorB x)) ∧ w = w' := by
  have ha := fun w => arch_run x w h
  go_enter Try.func45, Try.ntmps45
  go_wp2
  go_ret
  exact ⟨rfl, rfl⟩

theorem whole_any (x : Nat) (w : World) : Calls Try.prog 43 #[.float .f64 x] w fun e w' => e = .returned (.bool (wholeB x)) ∧ w = w' := by
  by_cases h1 : geZ x = true
  · by_cases h2 : le40 x = true
    · obtain ⟨n, hn, hi, hf, he, hr⟩ := between h1 h2
      have hw : wholeB x = (Ieee.double.order x (floorB x) == some .eq) := by unfold wholeB; rw [h1, h2]; rfl
      rw [hw]
      clear hn hi he hr hw
      have g1 : (FloatKind.f64.format.order x 0 == some .gt || FloatKind.f64.format.order x 0 == some .eq) = true := h1
      have g2 : (FloatKind.f64.format.order x 4787326403894837248 == some .lt || FloatKind.f64.format.order x 4787326403894837248 == some .eq) = true := h2
      clear h1 h2
      go_enter Try.func43, Try.ntmps43
      go_wp2_with (go_at_call 45; refine (floor_any _ _ (by assumption)).mono ?_; rintro e w' ⟨rfl, rfl⟩)
      go_ret
      exact ⟨rfl, rfl⟩
    · have hw : wholeB x = false := by unfold wholeB; rw [Bool.eq_false_iff.2 h2]; simp
      rw [hw]
      have g1 : (FloatKind.f64.format.order x 0 == some .gt || FloatKind.f64.format.order x 0 == some .eq) = true := h1
      have g2 : (FloatKind.f64.format.order x 4787326403894837248 == some .lt || FloatKind.f64.format.order x 4787326403894837248 == some .eq) = false := Bool.eq_false_iff.2 h2
      clear h1 h2 hw
      go_enter Try.func43, Try.ntmps43
      go_wp2
      go_ret
      exact ⟨rfl, rfl⟩
  · have hw : wholeB x = false := by unfold wholeB; rw [Bool.eq_false_iff.2 h1]; simp
    rw [hw]
    have g1 : (FloatKind.f64.format.order x 0 == some .gt || FloatKind.f64.format.order x 0 == some .eq) = false := Bool.eq_false_iff.2 h1
    clear h1 hw
    go_enter Try.func43, Try.ntmps43
    go_wp2
    go_ret
    exact ⟨rfl, rfl⟩

def smB (x y : Nat) : Bool := wholeB x && wholeB y

theorem mayBe_any (x y : Nat) (w : World) : Calls Try.prog 33 #[.complex .f64 x y] w fun e w' => e = .returned (.bool (smB x y)) ∧ w = w' := by
  unfold smB
  by_cases h1 : wholeB x = true
  · go_enter Try.func33, Try.ntmps33
    go_wp2_with (go_at_call 43; refine (whole_any _ _).mono ?_; rintro e w' ⟨rfl, rfl⟩)
    go_ret
    exact ⟨by rw [h1, Bool.true_and]; rfl, rfl⟩
  · have h1 : wholeB x = false := Bool.eq_false_iff.2 h1
    go_enter Try.func33, Try.ntmps33
    go_wp2_with (go_at_call 43; refine (whole_any _ _).mono ?_; rintro e w' ⟨rfl, rfl⟩)
    go_ret
    exact ⟨by rw [h1, Bool.false_and]; rfl, rfl⟩

/-- One round of a fold, and the word that a number is folded to. -/
def fo (n : Nat) : Nat := if n = 0 then 0 else (n - 1) % 65535 + 1
theorem fo_small {n : Nat} (h : n ≤ 65535) : fo n = n := by unfold fo; split <;> omega
theorem fo_step {n : Nat} (h : 65535 < n) : fo (n % 65536 + n / 65536) = fo n ∧ n % 65536 + n / 65536 < n := by
  have e : n - 1 = (n % 65536 + n / 65536 - 1) + 65535 * (n / 65536) := by omega
  refine ⟨?_, by omega⟩
  unfold fo
  rw [if_neg (by omega), if_neg (by omega), e, Nat.add_mul_mod_self_left]
theorem fo_le (n : Nat) : fo n ≤ 65535 := by unfold fo; split <;> omega

theorem fold_bad (x y : Nat) (w : World) (h : smB x y = false) : Calls Try.prog 22 #[.complex .f64 x y] w fun e w' => e = .returned (.tuple #[.int .u16 0, .int .i64 1]) ∧ w = w' := by
  go_enter Try.func22, Try.ntmps22
  go_wp2_with (go_at_call 33; refine (mayBe_any _ _ _).mono ?_; rintro e w' ⟨rfl, rfl⟩)
  go_ret2
  exact ⟨rfl, rfl⟩

theorem fold_ok (x y : Nat) (a b : Nat) (w : World) (hx : Rep (Ieee.double.read x) (a : Int)) (hy : Rep (Ieee.double.read y) (b : Int)) (ha : a ≤ 1099511627776) (hb : b ≤ 1099511627776) :
    Calls Try.prog 22 #[.complex .f64 x y] w fun e w' => e = .returned (.tuple #[.int .u16 (fo (256 * a + b) : Nat), .int .i64 0]) ∧ w = w' := by
  have hm : smB x y = true := by
    unfold smB; rw [whole_rep hx, whole_rep hy]; simp; omega
  have cx := fun w => run_convert_float_int (P := Try.prog) w 39 2 .f64 .i64 x a (by kernel_rfl) Try.underlying2 (toInt64 hx (by omega) (by omega))
  have cy := fun w => run_convert_float_int (P := Try.prog) w 39 2 .f64 .i64 y b (by kernel_rfl) Try.underlying2 (toInt64 hy (by omega) (by omega))
  clear hx hy
  go_enter Try.func22, Try.ntmps22
  go_wp2_with (go_at_call 33; refine (mayBe_any _ _ _).mono ?_; rintro e w' ⟨rfl, rfl⟩)
  go_loop [4] (fun t => ∃ n : Nat, n ≤ 300000000000000 ∧ fo n = fo (256 * a + b) ∧ t = .int .i64 n) (fun t => (intOf t).toNat)
  case atStart => exact ⟨256 * a + b, by omega, rfl, by go_num⟩
  case round =>
    obtain ⟨n, hn, hf, rfl⟩ := hrel
    have HF := Lib.hid hf
    clear hf
    by_cases hlt : 65535 < n
    · have hlt' : (65535 : Int) < n := by omega
      have hs := fo_step hlt
      go_wp2
      go_round
      case rel => exact ⟨n % 65536 + n / 65536, by omega, by rw [hs.1, HF.out], by go_num⟩
      case measure => simp [intOf]; omega
    · have hlt' : ¬ (65535 : Int) < n := by omega
      go_wp2
      go_ret2
      have := fo_small (n := n) (by omega)
      rw [HF.out] at this
      exact ⟨by rw [this]; rfl, rfl⟩

theorem cadd {a b c d : Int} {y z : Nat} (t : TypeId) (ha : a.natAbs < 2 ^ 53) (hb : b.natAbs < 2 ^ 53) (hy : Rep (Ieee.double.read y) c) (hz : Rep (Ieee.double.read z) d) (hac : (a + c).natAbs < 2 ^ 53) (hbd : (b + d).natAbs < 2 ^ 53) (w : World) :
    (binOp .add t (.complex .f64 (fl a) (fl b)) (.complex .f64 y z)).run Try.prog w = .ok (.complex .f64 (fl (a + c)) (fl (b + d))) w := by
  refine run_complex_sum w .add (.inl rfl) t .f64 _ _ _ _ _ _ ?_
  unfold cSumBits floatBits
  have h1 : FloatKind.f64.format.add (fl a) y = some (fl (a + c)) := fl_add_rep ha hy hac
  have h2 : FloatKind.f64.format.add (fl b) z = some (fl (b + d)) := fl_add_rep hb hz hbd
  simp only [h1, h2, Option.bind_some]

theorem cadd_fl {a b c d : Int} (t : TypeId) (ha : a.natAbs < 2 ^ 53) (hb : b.natAbs < 2 ^ 53) (hc : c.natAbs < 2 ^ 53) (hd : d.natAbs < 2 ^ 53) (hac : (a + c).natAbs < 2 ^ 53) (hbd : (b + d).natAbs < 2 ^ 53) (w : World) :
    (binOp .add t (.complex .f64 (fl a) (fl b)) (.complex .f64 (fl c) (fl d))).run Try.prog w = .ok (.complex .f64 (fl (a + c)) (fl (b + d))) w :=
  cadd t ha hb (read_fl hc).rep (read_fl hd).rep hac hbd w

theorem sum_bad (x y : Nat) (w : World) (h : smB x y = false) : Calls Try.prog 27 #[.complex .f64 x y] w fun e w' => e = .returned (.tuple #[.int .u16 0, .int .i64 1]) ∧ w = w' := by
  go_enter Try.func27, Try.ntmps27
  go_wp2_with (go_at_call 22; refine (fold_bad _ _ _ (by assumption)).mono ?_; rintro e w' ⟨rfl, rfl⟩)
  go_ret2
  exact ⟨rfl, rfl⟩

theorem sum_ok (x y : Nat) (a b : Nat) (w : World) (hx : Rep (Ieee.double.read x) (a : Int)) (hy : Rep (Ieee.double.read y) (b : Int)) (ha : a ≤ 1099511627776) (hb : b ≤ 1099511627776) :
    Calls Try.prog 27 #[.complex .f64 x y] w fun e w' => e = .returned (.tuple #[.int .u16 (65535 - fo (256 * a + b) : Nat), .int .i64 0]) ∧ w = w' := by
  have hl := fo_le (256 * a + b)
  go_enter Try.func27, Try.ntmps27
  go_wp2_with (go_at_call 22; refine (fold_ok _ _ a b _ (by assumption) (by assumption) (by assumption) (by assumption)).mono ?_; rintro e w' ⟨rfl, rfl⟩)
  go_ret2
  refine ⟨?_, rfl⟩
  have : ((65535 - fo (256 * a + b) : Nat) : Int) = 65535 - (fo (256 * a + b) : Int) := by omega
  rw [this]; rfl

theorem and255 (n : Nat) (hn : n ≤ 65535) : bits .and .u16 (n : Int) 255 = ((n % 256 : Nat) : Int) := by
  show IntKind.u16.wrap ((BitVec.ofInt 16 (n : Int) &&& BitVec.ofInt 16 ((255 : Nat) : Int)).toNat : Int) = _
  rw [BitVec.toNat_and, BitVec.ofInt_natCast, BitVec.ofInt_natCast, BitVec.toNat_ofNat, BitVec.toNat_ofNat, IntKind.wrap_u16]
  have h1 : n % 2 ^ 16 = n := Nat.mod_eq_of_lt (by omega)
  have h2 : 255 % 2 ^ 16 = 2 ^ 8 - 1 := by decide
  rw [h1, h2, Nat.and_two_pow_sub_one_eq_mod]
  omega

theorem word_any (n : Nat) (hn : n ≤ 65535) (w : World) : Calls Try.prog 26 #[.int .u16 n] w fun e w' => e = .returned (.complex .f64 (fl (n / 256 : Nat)) (fl (n % 256 : Nat))) ∧ w = w' := by
  go_enter Try.func26, Try.ntmps26
  go_wp2
  go_ret
  refine ⟨?_, rfl⟩
  show Ending.returned (.complex .f64 (fl ((n : Int) / 256)) (fl (bits .and .u16 (n : Int) 255))) = _
  rw [and255 n hn]; rfl

theorem smB_rep {x y : Nat} {a b : Int} (hx : Rep (Ieee.double.read x) a) (hy : Rep (Ieee.double.read y) b) : smB x y = decide ((0 ≤ a ∧ a ≤ 1099511627776) ∧ (0 ≤ b ∧ b ≤ 1099511627776)) := by
  unfold smB; rw [whole_rep hx, whole_rep hy]; simp

theorem smB_nat {x y : Nat} {a b : Nat} (hx : Rep (Ieee.double.read x) (a : Int)) (hy : Rep (Ieee.double.read y) (b : Int)) (ha : a ≤ 1099511627776) (hb : b ≤ 1099511627776) : smB x y = true := by
  rw [smB_rep hx hy]; simp; omega

/-- What comes of two parts. -/
def smJ (a a' b b' : Nat) : Value := if a + b ≤ 1099511627776 ∧ a' + b' ≤ 1099511627776 then .tuple #[.complex .f64 (fl ((a : Int) + (b : Int))) (fl ((a' : Int) + (b' : Int))), .int .i64 0] else .tuple #[.complex .f64 0 0, .int .i64 1]

end Go.Proofs.Ytgemmciokioaiaa
