/- What the functions of package pantlerref01 do, said of their arguments. Conditions: those that each states. -/
import Derived.Test.YtgemmciokioaiaaPart
import Derived.RegionTactic
import Derived.ChangeAlike
namespace Go.Proofs.Ytgemmciokioaiaa
open Go.ChangeShapes Go.WideShapes Go.ChangeAt Go.RowKit Fl

def pair (a b : Int) : Value := .agg #[.int .i64 a, .int .i64 b]

theorem eqf (v : Int) (h : v.natAbs < 2 ^ 53) : (FloatKind.f64.format.order (fl v) (floatOfInt .f64 v) == some .eq) = true := by
  have : FloatKind.f64.format.order (fl v) (floatOfInt .f64 v) = some (compare v v) := fl_order h h
  rw [this]; simp [compare, compareOfLessAndEq]
theorem eqf' (v : Int) (h : v.natAbs < 2 ^ 53) : (FloatKind.f64.format.order (fl v) (fl v) == some .eq) = true := eqf v h
theorem eqf0 (v : Int) (h : v.natAbs < 2 ^ 53) : (FloatKind.f64.format.order (floatOfInt .f64 v) (floatOfInt .f64 v) == some .eq) = true := eqf v h

theorem rfold_any (a b : Nat) (ha : a ≤ 1099511627776) (hb : b ≤ 1099511627776) (w : World) : Calls Try.prog 17 #[.agg #[.int .i64 a, .int .i64 b]] w fun e w' => e = .returned (.int .i64 (fo (256 * a + b) : Nat)) ∧ Below w.heap.size w w' := by
  by_cases h : a * 256 + b = 0
  · have h' : (a : Int) * 256 + b = 0 := by omega
    obtain rfl : a = 0 := by omega
    obtain rfl : b = 0 := by omega
    go_enter Try.func17, Try.ntmps17
    go_wp2
    go_ret
    exact ⟨rfl, by go_grown⟩
  · have h' : ((a : Int) * 256 + b == 0) = false := by simp; omega
    have h1 : 0 ≤ (a : Int) * 256 + b - 1 := by omega
    have hf : ((fo (256 * a + b) : Nat) : Int) = ((a : Int) * 256 + b - 1) % 65535 + 1 := by unfold fo; rw [if_neg (by omega)]; omega
    have HF := Lib.hid hf
    clear hf h
    go_enter Try.func17, Try.ntmps17
    go_wp2
    go_ret
    refine ⟨?_, by go_grown⟩
    rw [HF.out]; rfl

def mayP (a b : Int) : Bool := decide ((0 ≤ a ∧ a ≤ 1099511627776) ∧ (0 ≤ b ∧ b ≤ 1099511627776))

theorem fo_add (S x : Nat) (hx : x ≤ 65535) : fo (S + x) = if 65536 ≤ fo S + x then fo S + x - 65535 else fo S + x := by
  unfold fo
  by_cases h : S = 0
  · subst h
    by_cases h0 : x = 0
    · subst h0; rfl
    · rw [if_pos rfl, if_neg (by omega), if_neg (by omega)]; omega
  · rw [if_neg h, if_neg (by omega)]
    split <;> omega

theorem scratch_any (A : Option Addr) (n c : Nat) (l : List UInt8) (w : World) (hb : Bytes w A n c l) (hn : n ≤ 16777216) :
    Calls Try.prog 20 #[.slice A n c] w fun e w' => e = .returned (.int .i64 (65535 - (fo (256 * evs l + ods l) : Nat))) ∧ w = w' := by
  have hlen := hb.len
  go_enter Try.func20, Try.ntmps20
  go_wp2
  go_loop [3, 4, 5] (fun t i _ => ∃ p : Nat, p ≤ n + 1 ∧ p % 2 = 0 ∧ i = .int .i64 p ∧ t = .int .i64 (fo (256 * evs (l.take p) + ods (l.take p)) : Nat)) (fun _ i _ => n - (intOf i).toNat)
  case atStart => exact ⟨0, by omega, rfl, rfl, rfl⟩
  case round =>
    obtain ⟨p, hp, hpe, rfl, rfl⟩ := hrel
    have hfo := fo_le (256 * evs (l.take p) + ods (l.take p))
    by_cases hlt : p + 1 < n
    · obtain ⟨b, o, hl0, rfl, hbk, hc0⟩ := hb.byte (k := p) (by omega)
      obtain ⟨b', o', hl1, hA, _, hc1⟩ := hb.byte (k := p + 1) (by omega)
      cases hA
      have ht := evs_two (l := l) (p := p) (by omega) hpe
      have hu := l[p].toNat_lt
      have hu1 := l[p+1].toNat_lt
      have hs := fo_add (256 * evs (l.take p) + ods (l.take p)) (256 * l[p].toNat + l[p+1].toNat) (by omega)
      have he : 256 * evs (l.take (p + 2)) + ods (l.take (p + 2)) = 256 * evs (l.take p) + ods (l.take p) + (256 * l[p].toNat + l[p+1].toNat) := by rw [ht.1, ht.2]; omega
      rw [← he] at hs
      have HS := Lib.hid hs
      clear hs ht he
      have i2 : (p : Int) + 1 < (n : Int) := by omega
      have i3 : 0 ≤ (p : Int) + 1 := by omega
      have i4 : ((p : Int) + 1).toNat = p + 1 := by omega
      by_cases hc : 65536 ≤ fo (256 * evs (l.take p) + ods (l.take p)) + (256 * l[p].toNat + l[p+1].toNat)
      · have hc' : (65536 : Int) ≤ (fo (256 * evs (l.take p) + ods (l.take p)) : Int) + ((l[p].toNat : Int) * 256 + (l[p+1].toNat : Int)) := by omega
        go_wp2
        go_round
        case rel => exact ⟨p + 2, by omega, by omega, by go_num, by rw [HS.out, if_pos hc]; go_num⟩
        case measure => simp [intOf]; omega
      · have hc' : ¬ (65536 : Int) ≤ (fo (256 * evs (l.take p) + ods (l.take p)) : Int) + ((l[p].toNat : Int) * 256 + (l[p+1].toNat : Int)) := by omega
        go_wp2
        go_round
        case rel => exact ⟨p + 2, by omega, by omega, by go_num, by rw [HS.out, if_neg hc]; go_num⟩
        case measure => simp [intOf]; omega
    · by_cases he : p + 1 = n
      · obtain rfl : n = p + 1 := he.symm
        obtain ⟨b, o, hl0, rfl, hbk, hc0⟩ := hb.byte (k := p) (by omega)
        have ht := evs_one (l := l) (p := p) (by omega) hpe
        have hu := l[p].toNat_lt
        have hs := fo_add (256 * evs (l.take p) + ods (l.take p)) (256 * l[p].toNat) (by omega)
        have h2 : l.take (p + 2) = l := List.take_of_length_le (by omega)
        have he : 256 * evs (l.take (p + 2)) + ods (l.take (p + 2)) = 256 * evs (l.take p) + ods (l.take p) + 256 * l[p].toNat := by rw [h2, ht.1, ht.2]; omega
        rw [← he] at hs
        have HS := Lib.hid hs
        clear hs ht he h2
        by_cases hc : 65536 ≤ fo (256 * evs (l.take p) + ods (l.take p)) + 256 * l[p].toNat
        · have hc' : (65536 : Int) ≤ (fo (256 * evs (l.take p) + ods (l.take p)) : Int) + (l[p].toNat : Int) * 256 := by omega
          go_wp2
          go_round
          case rel => exact ⟨p + 2, by omega, by omega, by go_num, by rw [HS.out, if_pos hc]; go_num⟩
          case measure => simp [intOf]; omega
        · have hc' : ¬ (65536 : Int) ≤ (fo (256 * evs (l.take p) + ods (l.take p)) : Int) + (l[p].toNat : Int) * 256 := by omega
          go_wp2
          go_round
          case rel => exact ⟨p + 2, by omega, by omega, by go_num, by rw [HS.out, if_neg hc]; go_num⟩
          case measure => simp [intOf]; omega
      · have ht : l.take p = l := List.take_of_length_le (by omega)
        rw [ht] at hfo ⊢
        have hge : n ≤ p := by omega
        clear ht hlt he
        go_wp2
        go_ret
        exact ⟨rfl, rfl⟩

end Go.Proofs.Ytgemmciokioaiaa
