/- What sums.Part and sums.Good do, said of the bytes of their argument. Conditions: those that each states. -/
import Derived.Test.YtgemmciokioaiaaSums
namespace Go.Proofs.Ytgemmciokioaiaa
open Go.ChangeShapes Go.WideShapes Go.ChangeAt Go.RowKit Fl

theorem ret_bool {a b : Bool} (h : a = b) : Ending.returned (.bool a) = .returned (.bool b) := by rw [h]

mutual
/-- The sum of the bytes at even places. -/
def evs : List UInt8 → Nat
  | [] => 0
  | a :: l => a.toNat + ods l
/-- The sum of the bytes at odd places. -/
def ods : List UInt8 → Nat
  | [] => 0
  | _ :: l => evs l
end

theorem evs_append (l r : List UInt8) : evs (l ++ r) = evs l + (if l.length % 2 = 0 then evs r else ods r) ∧ ods (l ++ r) = ods l + (if l.length % 2 = 0 then ods r else evs r) := by
  induction l with
  | nil => simp [evs, ods]
  | cons a l ih =>
    simp only [List.cons_append, evs, ods, ih.1, ih.2, List.length_cons]
    by_cases h : l.length % 2 = 0
    · have : ¬ (l.length + 1) % 2 = 0 := by omega
      rw [if_pos h, if_pos h, if_neg this, if_neg this]; omega
    · have : (l.length + 1) % 2 = 0 := by omega
      rw [if_neg h, if_neg h, if_pos this, if_pos this]; omega

theorem evs_le (l : List UInt8) : evs l + ods l ≤ 255 * l.length := by
  induction l with
  | nil => simp [evs, ods]
  | cons a l ih =>
    have := a.toNat_lt
    simp only [evs, ods, List.length_cons]; omega

theorem take_two {l : List UInt8} {p : Nat} (h : p + 1 < l.length) : l.take (p + 2) = l.take p ++ [l[p], l[p + 1]] := by
  have h1 : l.take (p + 2) = l.take (p + 1) ++ [l[p + 1]] := List.take_succ_eq_append_getElem h
  have h2 : l.take (p + 1) = l.take p ++ [l[p]] := List.take_succ_eq_append_getElem (by omega)
  rw [h1, h2, List.append_assoc]; rfl

theorem evs_two {l : List UInt8} {p : Nat} (h : p + 1 < l.length) (he : p % 2 = 0) : evs (l.take (p + 2)) = evs (l.take p) + l[p].toNat ∧ ods (l.take (p + 2)) = ods (l.take p) + l[p + 1].toNat := by
  rw [take_two h]
  have hl : (l.take p).length % 2 = 0 := by rw [List.length_take]; omega
  rw [(evs_append _ _).1, (evs_append _ _).2, if_pos hl, if_pos hl]
  simp [evs, ods]

theorem evs_one {l : List UInt8} {p : Nat} (h : p + 1 = l.length) (he : p % 2 = 0) : evs l = evs (l.take p) + l[p].toNat ∧ ods l = ods (l.take p) := by
  have e : l = l.take p ++ [l[p]] := by
    have := List.take_succ_eq_append_getElem (l := l) (i := p) (by omega)
    rw [h, List.take_length] at this
    exact this
  have hl : (l.take p).length % 2 = 0 := by rw [List.length_take]; omega
  have h1 := (evs_append (l.take p) [l[p]])
  rw [if_pos hl, if_pos hl, ← e] at h1
  refine ⟨h1.1.trans (by simp [evs, ods]), h1.2.trans (by simp [evs, ods])⟩

theorem evs_snoc {l : List UInt8} {p : Nat} (h : p < l.length) : evs (l.take (p + 1)) = evs (l.take p) + (if p % 2 = 0 then l[p].toNat else 0) ∧ ods (l.take (p + 1)) = ods (l.take p) + (if p % 2 = 0 then 0 else l[p].toNat) := by
  have h2 : l.take (p + 1) = l.take p ++ [l[p]] := List.take_succ_eq_append_getElem h
  have hl : (l.take p).length = p := by rw [List.length_take]; omega
  rw [h2, (evs_append _ _).1, (evs_append _ _).2, hl]
  simp [evs, ods]

theorem part_ok (A : Option Addr) (n c : Nat) (l : List UInt8) (w : World) (hb : Bytes w A n c l) (hn : n ≤ 16777216) :
    Calls Try.prog 12 #[.slice A n c] w fun e w' => e = .returned (.tuple #[.complex .f64 (fl (evs l)) (fl (ods l)), .int .i64 0]) ∧ ∃ m, w' = w.drewN m := by
  have hlen := hb.len
  go_enter Try.func12, Try.ntmps12
  go_wp2
  go_loopw [4, 5] (fun z i wr => ∃ p m : Nat, wr = w.drewN m ∧ p ≤ n ∧ p % 2 = 0 ∧ i = .int .i64 ((p : Int) + 1) ∧ z = .complex .f64 (fl (evs (l.take p))) (fl (ods (l.take p)))) (fun _ i _ => n - (intOf i).toNat)
  case atStart => exact ⟨0, 0, rfl, by omega, rfl, rfl, rfl⟩
  case round =>
    obtain ⟨p, m, rfl, hp, hpe, rfl, rfl⟩ := hrel
    by_cases hlt : p + 1 < n
    · obtain ⟨b, o, hl0, rfl, hbk, hc0⟩ := hb.byte (k := p) (by omega)
      obtain ⟨b', o', hl1, hA, _, hc1⟩ := hb.byte (k := p + 1) (by omega)
      cases hA
      have ht := evs_two (l := l) (p := p) (by omega) hpe
      have hle := evs_le (l.take p)
      have hll : (l.take p).length ≤ p := List.length_take_le _ _
      have hz : ∀ w, (binOp .add 40 (.complex .f64 (fl (evs (l.take p))) (fl (ods (l.take p)))) (.complex .f64 (floatOfInt .f64 (l[p].toNat : Int)) (floatOfInt .f64 (l[p + 1].toNat : Int)))).run Try.prog w = .ok (.complex .f64 (fl (evs (l.take p) + l[p].toNat : Int)) (fl (ods (l.take p) + l[p + 1].toNat : Int))) w := cadd_fl (a := evs (l.take p)) (b := ods (l.take p)) (c := (l[p].toNat : Int)) (d := (l[p + 1].toNat : Int)) 40 (by omega) (by omega) (by have := l[p].toNat_lt; omega) (by have := l[p+1].toNat_lt; omega) (by have := l[p].toNat_lt; omega) (by have := l[p+1].toNat_lt; omega)
      have HT := Lib.hid ht
      clear ht
      go_wp2
      have hw := IntWalk.i64_in (p : Int) (by omega)
      have i1 : p < n := by omega
      have i2 : (p : Int) + 1 < (n : Int) := by omega
      have i3 : 0 ≤ (p : Int) + 1 := by omega
      have i4 : ((p : Int) + 1).toNat = p + 1 := by omega
      go_quiet (fail)
      clear hw i4
      go_wp2
      go_roundw
      case rel => exact ⟨p + 2, _, rfl, by omega, by omega, by go_num, by rw [HT.out.1, HT.out.2]; rfl⟩
      case measure => simp [intOf]; omega
    · by_cases he : p + 1 = n
      · obtain rfl : n = p + 1 := he.symm
        obtain ⟨b, o, hl0, rfl, hbk, hc0⟩ := hb.byte (k := p) (by omega)
        have ht := evs_one (l := l) (p := p) (by omega) hpe
        have hle := evs_le (l.take p)
        have hll : (l.take p).length ≤ p := List.length_take_le _ _
        have hz : ∀ w, (binOp .add 40 (.complex .f64 (fl (evs (l.take p))) (fl (ods (l.take p)))) (.complex .f64 (floatOfInt .f64 (l[p].toNat : Int)) 0)).run Try.prog w = .ok (.complex .f64 (fl (evs (l.take p) + l[p].toNat : Int)) (fl (ods (l.take p) + 0 : Int))) w := cadd (a := evs (l.take p)) (b := ods (l.take p)) (y := fl (l[p].toNat : Int)) (c := (l[p].toNat : Int)) (d := 0) 40 (by omega) (by omega) (read_fl (by have := l[p].toNat_lt; omega)).rep rep0 (by have := l[p].toNat_lt; omega) (by omega)
        have HT := Lib.hid ht
        clear ht
        have hp1 : ((p : Int) + 1) % 2 = 1 := by omega
        have i1 : p < p + 1 := by omega
        have i2 : (p : Int) < (p : Int) + 1 := by omega
        go_wp2
        go_ret2
        refine ⟨?_, _, rfl⟩
        rw [HT.out.1, HT.out.2]; simp
      · obtain rfl : n = p := by omega
        have hp1 : ((n : Int) % 2 == 1) = false := by simp; omega
        have ht : l.take n = l := List.take_of_length_le (by omega)
        have HT := Lib.hid ht
        clear ht
        go_wp2
        go_ret2
        refine ⟨?_, _, rfl⟩
        rw [HT.out]; rfl

theorem part_b (A : Option Addr) (n c : Nat) (l : List UInt8) (w : World) (hb : Bytes w A n c l) (hn : n ≤ 16777216) :
    Calls Try.prog 12 #[.slice A n c] w fun e w' => e = .returned (.tuple #[.complex .f64 (fl (evs l)) (fl (ods l)), .int .i64 0]) ∧ Below w.heap.size w w' :=
  (part_ok A n c l w hb hn).mono fun _ _ ⟨he, m, hm⟩ => ⟨he, by rw [hm]; exact below_drewN (Below.refl _ _) m⟩

end Go.Proofs.Ytgemmciokioaiaa
