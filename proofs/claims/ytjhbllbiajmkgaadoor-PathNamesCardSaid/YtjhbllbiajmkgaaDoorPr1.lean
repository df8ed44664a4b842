/- The document's plain and digit. No condition. -/
import Derived.Test.YtjhbllbiajmkgaaDoorPa6
namespace Go.Proofs.YtjhbllbiajmkgaaDoor.Pt
open Go.ChangeShapes Go.WideShapes Go.ChangeAt Go.RowKit Go.Deep
set_option linter.unusedVariables false
def plainS : List UInt8 := [97, 98, 99, 100, 101, 102, 103, 104, 105, 106, 107, 108, 109, 110, 111, 112, 113, 114, 115, 116, 117, 118, 119, 120, 121, 122, 65, 66, 67, 68, 69, 70, 71, 72, 73, 74, 75, 76, 77, 78, 79, 80, 81, 82, 83, 84, 85, 86, 87, 88, 89, 90, 48, 49, 50, 51, 52, 53, 54, 55, 56, 57, 46, 45, 95]
def digitS : List UInt8 := [48, 49, 50, 51, 52, 53, 54, 55, 56, 57, 97, 98, 99, 100, 101, 102, 48, 49, 50, 51, 52, 53, 54, 55, 56, 57, 65, 66, 67, 68, 69, 70]
theorem plainS_in : ∀ k, (h : k < plainS.length) → plainC plainS[k] = true := by
  have : ∀ k : Fin 65, plainC (plainS[k.1]'k.2) = true := by decide +kernel
  exact fun k h => this ⟨k, h⟩
theorem plainS_out (c : UInt8) (h : ∀ k, (h : k < plainS.length) → plainS[k] ≠ c) : plainC c = false := by
  have h1 : ∀ x : Fin 256, plainC (UInt8.ofNat x.1) = true → (UInt8.ofNat x.1) ∈ plainS := by decide +kernel
  cases hp : plainC c with
  | false => rfl
  | true =>
    exfalso
    have h2 := h1 ⟨c.toNat, c.toNat_lt⟩
    have h3 : UInt8.ofNat c.toNat = c := by simp
    rw [h3] at h2
    obtain ⟨k, hk, e⟩ := List.mem_iff_getElem.1 (h2 hp)
    exact h k hk e
/-- A digit's number; below 0: it is none. -/
def digitR (c : UInt8) : Int := match hexV c with | some x => (x : Int) | none => -1
theorem digitS_in : ∀ k, (h : k < digitS.length) → digitR digitS[k] = ((k % 16 : Nat) : Int) := by
  have : ∀ k : Fin 32, digitR (digitS[k.1]'k.2) = ((k.1 % 16 : Nat) : Int) := by decide +kernel
  exact fun k h => this ⟨k, h⟩
theorem digitS_out (c : UInt8) (h : ∀ k, (h : k < digitS.length) → digitS[k] ≠ c) : digitR c = -1 := by
  have h1 : ∀ x : Fin 256, (hexV (UInt8.ofNat x.1)).isSome = true → (UInt8.ofNat x.1) ∈ digitS := by decide +kernel
  unfold digitR
  cases hp : hexV c with
  | none => rfl
  | some v =>
    exfalso
    have h2 := h1 ⟨c.toNat, c.toNat_lt⟩
    have h3 : UInt8.ofNat c.toNat = c := by simp
    rw [h3] at h2
    obtain ⟨k, hk, e⟩ := List.mem_iff_getElem.1 (h2 (by rw [hp]; rfl))
    exact h k hk e
set_option maxRecDepth 100000 in
theorem plain_any (c : UInt8) (w : World) : Calls Tryd.prog 16 #[.int .u8 (c.toNat : Int)] w fun e w' => e = .returned (.bool (plainC c)) ∧ w' = w := by
  have HIN := Lib.hid plainS_in
  have HOUT := Lib.hid (plainS_out c)
  go_enter Tryd.func16, Tryd.ntmps16
  go_upto_region 3 with fail
  rw [show (⟨([97, 98, 99, 100, 101, 102, 103, 104, 105, 106, 107, 108, 109, 110, 111, 112, 113, 114, 115, 116, 117, 118, 119, 120, 121, 122, 65, 66, 67, 68, 69, 70].append [71, 72, 73, 74, 75, 76, 77, 78, 79, 80, 81, 82, 83, 84, 85, 86, 87, 88, 89, 90, 48, 49, 50, 51, 52, 53, 54, 55, 56, 57, 46, 45, 95]).toArray⟩ : ByteArray) = ⟨plainS.toArray⟩ from rfl]
  have hlen : plainS.length = 65 := rfl
  have hsz : (⟨plainS.toArray⟩ : ByteArray).size = plainS.length := rfl
  generalize plainS = l at *
  go_loop [4] (fun i => ∃ j : Nat, j ≤ l.length ∧ i = .int .i64 (j : Int) ∧ Hid (∀ k (h : k < j) (h' : k < l.length), l[k] ≠ c)) (fun i => l.length - (intOf i).toNat)
  case atStart => exact ⟨0, Nat.zero_le _, rfl, Lib.hid (fun k h => absurd h (by omega))⟩
  case round =>
    obtain ⟨j, hj, rfl, HP⟩ := hrel
    have LEN := Lib.hid hlen
    clear hlen
    by_cases hlt : j < l.length
    · have hlt' : (j : Int) < (l.length : Int) := by omega
      have j0 : (0 : Int) ≤ (j : Int) := by omega
      have xj := IntWalk.i64_in ((j : Int) + 1) (by have := LEN.out; omega)
      by_cases hq : l[j] = c
      · have q : ((((⟨l.toArray⟩ : ByteArray)[j]'(by rw [hsz]; exact hlt)).toNat : Int) == (c.toNat : Int)) = true := by
          show ((l[j].toNat : Int) == (c.toNat : Int)) = true
          rw [hq, beq_iff_eq]
        have EV := Lib.hid (HIN.out j hlt)
        rw [hq] at EV
        skip
        clear hq
        go_wp2
        go_ret
        exact ⟨by rw [EV.out]; rfl, rfl⟩
      · have q : ((((⟨l.toArray⟩ : ByteArray)[j]'(by rw [hsz]; exact hlt)).toNat : Int) == (c.toNat : Int)) = false := by
          show ((l[j].toNat : Int) == (c.toNat : Int)) = false
          rw [beq_eq_false_iff_ne]
          intro h
          exact hq (UInt8.toNat_inj.1 (by omega))
        have HP2 := Lib.hid (show ∀ k (h : k < j + 1) (h' : k < l.length), l[k] ≠ c from fun k h h' => by
          by_cases e : k = j
          · subst e; exact hq
          · exact HP.out k (by omega) h')
        clear hq HP
        go_wp2
        go_round
        case rel => exact ⟨j + 1, by omega, by simp, HP2⟩
        case measure => simp [intOf]; omega
    · have hge : ¬ (j : Int) < (l.length : Int) := by omega
      have EV := Lib.hid (HOUT.out fun k hk => HP.out k (by omega) hk)
      go_wp2
      go_ret
      exact ⟨by rw [EV.out]; rfl, rfl⟩
set_option maxRecDepth 100000 in
theorem digit_any (c : UInt8) (w : World) : Calls Tryd.prog 24 #[.int .u8 (c.toNat : Int)] w fun e w' => e = .returned (.int .i64 (digitR c)) ∧ w' = w := by
  have HIN := Lib.hid digitS_in
  have HOUT := Lib.hid (digitS_out c)
  go_enter Tryd.func24, Tryd.ntmps24
  go_upto_region 3 with fail
  rw [show (⟨#[48, 49, 50, 51, 52, 53, 54, 55, 56, 57, 97, 98, 99, 100, 101, 102, 48, 49, 50, 51, 52, 53, 54, 55, 56, 57, 65, 66, 67, 68, 69, 70]⟩ : ByteArray) = ⟨digitS.toArray⟩ from rfl]
  have hlen : digitS.length = 32 := rfl
  have hsz : (⟨digitS.toArray⟩ : ByteArray).size = digitS.length := rfl
  generalize digitS = l at *
  go_loop [4] (fun i => ∃ j : Nat, j ≤ l.length ∧ i = .int .i64 (j : Int) ∧ Hid (∀ k (h : k < j) (h' : k < l.length), l[k] ≠ c)) (fun i => l.length - (intOf i).toNat)
  case atStart => exact ⟨0, Nat.zero_le _, rfl, Lib.hid (fun k h => absurd h (by omega))⟩
  case round =>
    obtain ⟨j, hj, rfl, HP⟩ := hrel
    have LEN := Lib.hid hlen
    clear hlen
    by_cases hlt : j < l.length
    · have hlt' : (j : Int) < (l.length : Int) := by omega
      have j0 : (0 : Int) ≤ (j : Int) := by omega
      have xj := IntWalk.i64_in ((j : Int) + 1) (by have := LEN.out; omega)
      by_cases hq : l[j] = c
      · have q : ((((⟨l.toArray⟩ : ByteArray)[j]'(by rw [hsz]; exact hlt)).toNat : Int) == (c.toNat : Int)) = true := by
          show ((l[j].toNat : Int) == (c.toNat : Int)) = true
          rw [hq, beq_iff_eq]
        have EV := Lib.hid (HIN.out j hlt)
        rw [hq] at EV
        have t1 : Int.tmod (j : Int) 16 = ((j % 16 : Nat) : Int) := by rw [Int.tmod_eq_emod_of_nonneg (by omega)]; omega
        clear hq
        go_wp2
        go_ret
        exact ⟨by rw [EV.out]; rfl, rfl⟩
      · have q : ((((⟨l.toArray⟩ : ByteArray)[j]'(by rw [hsz]; exact hlt)).toNat : Int) == (c.toNat : Int)) = false := by
          show ((l[j].toNat : Int) == (c.toNat : Int)) = false
          rw [beq_eq_false_iff_ne]
          intro h
          exact hq (UInt8.toNat_inj.1 (by omega))
        have HP2 := Lib.hid (show ∀ k (h : k < j + 1) (h' : k < l.length), l[k] ≠ c from fun k h h' => by
          by_cases e : k = j
          · subst e; exact hq
          · exact HP.out k (by omega) h')
        clear hq HP
        go_wp2
        go_round
        case rel => exact ⟨j + 1, by omega, by simp, HP2⟩
        case measure => simp [intOf]; omega
    · have hge : ¬ (j : Int) < (l.length : Int) := by omega
      have EV := Lib.hid (HOUT.out fun k hk => HP.out k (by omega) hk)
      go_wp2
      go_ret
      exact ⟨by rw [EV.out]; rfl, rfl⟩
end Go.Proofs.YtjhbllbiajmkgaaDoor.Pt
