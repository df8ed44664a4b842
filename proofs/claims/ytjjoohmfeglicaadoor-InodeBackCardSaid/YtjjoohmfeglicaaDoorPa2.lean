/- Package strconv's ParseUint at base 16, of two bytes; package path's first. Conditions: those that each states. -/
import Derived.Test.YtjjoohmfeglicaaDoorPa1
namespace Go.Proofs.YtjjoohmfeglicaaDoor.Pt
open Go.ChangeShapes Go.WideShapes Go.ChangeAt Go.RowKit Go.Deep
set_option linter.unusedVariables false
theorem low_val (c : UInt8) : bits .or .u8 (c.toNat : Int) 32 = ((c.toNat ||| 32 : Nat) : Int) := by
  have h : ∀ k : Fin 256, bits .or .u8 ((k.1 : Nat) : Int) 32 = ((k.1 ||| 32 : Nat) : Int) := by decide +kernel
  exact h ⟨c.toNat, c.toNat_lt⟩
theorem hexV_dig (c : UInt8) (h : 48 ≤ c.toNat ∧ c.toNat ≤ 57) : hexV c = some (c.toNat - 48) := by
  unfold hexV
  rw [if_pos (show 48 ≤ c ∧ c ≤ 57 from ⟨UInt8.le_iff_toNat_le.2 (by simpa using h.1), UInt8.le_iff_toNat_le.2 (by simpa using h.2)⟩)]
theorem hexV_let (c : UInt8) (h : ¬ (48 ≤ c.toNat ∧ c.toNat ≤ 57)) : hexV c = if 97 ≤ (c.toNat ||| 32) ∧ (c.toNat ||| 32) ≤ 102 then some ((c.toNat ||| 32) - 87) else none := by
  have h1 : ∀ k : Fin 256, ¬ (48 ≤ k.1 ∧ k.1 ≤ 57) → hexV (UInt8.ofNat k.1) = if 97 ≤ (k.1 ||| 32) ∧ (k.1 ||| 32) ≤ 102 then some ((k.1 ||| 32) - 87) else none := by decide +kernel
  have := h1 ⟨c.toNat, c.toNat_lt⟩ h
  simpa using this
theorem hexV_lt {c : UInt8} {x : Nat} (h : hexV c = some x) : x < 16 := by
  by_cases hd : 48 ≤ c.toNat ∧ c.toNat ≤ 57
  · rw [hexV_dig c hd] at h
    injection h with h
    omega
  · rw [hexV_let c hd] at h
    split at h
    · injection h with h; omega
    · cases h
theorem or_lt {k : Nat} (h : k < 256) : (k ||| 32) < 256 := Nat.or_lt_two_pow (n := 8) h (by decide)
theorem cut_str (l : List UInt8) (a b : Nat) : (⟨l.toArray⟩ : ByteArray).extract a b = ⟨((l.drop a).take (b - a)).toArray⟩ := by
  apply ByteArray.ext
  rw [← Array.toList_inj]
  exact Lib.extract_data ⟨l.toArray⟩ a b
/-- What first answers. -/
def firstAns (l : List UInt8) : Value := match firstR l with
  | some (c, r) => .tuple #[.int .u8 (c.toNat : Int), .string ⟨r.toArray⟩, .bool true]
  | none => .tuple #[.int .u8 0, .string ⟨#[]⟩, .bool false]
def pctAns (a b : UInt8) (r : List UInt8) : Value := match twoV a b with | some x => .tuple #[.int .u8 (x.toNat : Int), .string ⟨r.toArray⟩, .bool true] | none => .tuple #[.int .u8 0, .string ⟨#[]⟩, .bool false]
end Go.Proofs.YtjjoohmfeglicaaDoor.Pt
