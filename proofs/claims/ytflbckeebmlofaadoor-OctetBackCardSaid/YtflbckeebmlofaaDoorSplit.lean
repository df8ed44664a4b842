/- Plain facts on texts cut at a byte, and on decimal digits read again. No program's run in this text. -/
import Derived.Test.YtflbckeebmlofaaDoorGen
import Derived.Lib.Split
import Derived.Lib.IndexBytes
import Derived.Lib.ParseIntB
import Derived.Lib.ItoaNum
namespace Go.Proofs.YtflbckeebmlofaaDoor
open Go.RowKit

/-- The decimal digits of a byte. -/
theorem dig1 {n : Nat} (h : n < 10) : Lib.decDigits n = [UInt8.ofNat (48 + n)] := by rw [Lib.decDigits, dif_pos h]
theorem dig2 {n : Nat} (h0 : ¬ n < 10) (h : n < 100) : Lib.decDigits n = [UInt8.ofNat (48 + n / 10), UInt8.ofNat (48 + n % 10)] := by
  rw [Lib.decDigits, dif_neg h0, dig1 (by omega)]; rfl
theorem dig3 {n : Nat} (h0 : ¬ n < 100) (h : n < 1000) : Lib.decDigits n = [UInt8.ofNat (48 + n / 100), UInt8.ofNat (48 + n / 10 % 10), UInt8.ofNat (48 + n % 10)] := by
  rw [Lib.decDigits, dif_neg (by omega), dig2 (by omega) (by omega), Nat.div_div_eq_div_mul]; rfl
theorem dig_length {n : Nat} (h : n < 1000) : (Lib.decDigits n).length ≤ 3 := by
  by_cases h1 : n < 10
  · rw [dig1 h1]; simp
  · by_cases h2 : n < 100
    · rw [dig2 h1 h2]; simp
    · rw [dig3 h2 h]; simp
theorem digv {k : Nat} (h : k < 10) : (UInt8.ofNat (48 + k)).toNat = 48 + k := by simp [UInt8.toNat_ofNat']; omega
theorem dig_pure {n : Nat} (h : n < 1000) (c : UInt8) (hc : c.toNat < 48) : c ∉ Lib.decDigits n := by
  have ne : ∀ k, k < 10 → c ≠ UInt8.ofNat (48 + k) := fun k hk e => by
    have := digv hk
    rw [← e] at this; omega
  by_cases h1 : n < 10
  · rw [dig1 h1]; simp only [List.mem_singleton]; exact ne _ h1
  · by_cases h2 : n < 100
    · rw [dig2 h1 h2]; simp only [List.mem_cons, List.not_mem_nil, or_false, not_or]; exact ⟨ne _ (by omega), ne _ (by omega)⟩
    · rw [dig3 h2 h]; simp only [List.mem_cons, List.not_mem_nil, or_false, not_or]; exact ⟨ne _ (by omega), ne _ (by omega), ne _ (by omega)⟩
/-- They are read again. -/
theorem dig_read {n : Nat} (h : n < 256) : Lib.parseUintB 8 (Lib.decDigits n) = .ok n := by
  by_cases h1 : n < 10
  · rw [dig1 h1]
    have := digv h1
    simp only [Lib.parseUintB, Lib.parseUintM, List.cons_ne_nil, if_false, digv h1]
    rw [if_pos (by omega), if_neg (by omega), if_neg (by omega)]
    congr 1; omega
  · by_cases h2 : n < 100
    · rw [dig2 h1 h2]
      simp only [Lib.parseUintB, Lib.parseUintM, List.cons_ne_nil, if_false, digv (show n / 10 < 10 by omega), digv (show n % 10 < 10 by omega)]
      rw [if_pos (by omega), if_neg (by omega), if_neg (by omega), if_pos (by omega), if_neg (by omega), if_neg (by omega)]
      congr 1; omega
    · rw [dig3 h2 (by omega)]
      simp only [Lib.parseUintB, Lib.parseUintM, List.cons_ne_nil, if_false, digv (show n / 100 < 10 by omega), digv (show n / 10 % 10 < 10 by omega), digv (show n % 10 < 10 by omega)]
      rw [if_pos (by omega), if_neg (by omega), if_neg (by omega), if_pos (by omega), if_neg (by omega), if_neg (by omega), if_pos (by omega), if_neg (by omega), if_neg (by omega)]
      congr 1; omega

/-- Words with c between. -/
def joinW (c : UInt8) : List (List UInt8) → List UInt8
  | [] => []
  | [x] => x
  | x :: y :: r => x ++ c :: joinW c (y :: r)
theorem index_byte_none {l : List UInt8} {c : UInt8} (h : c ∉ l) : Lib.indexByte l c = -1 := by
  induction l with
  | nil => rfl
  | cons b l ih =>
    simp only [List.mem_cons, not_or] at h
    unfold Lib.indexByte
    rw [if_neg (by simpa using fun e => h.1 e.symm), ih h.2]; rfl
theorem index_byte_at {l r : List UInt8} {c : UInt8} (h : c ∉ l) : Lib.indexByte (l ++ c :: r) c = l.length := by
  induction l with
  | nil => simp [Lib.indexByte]
  | cons b l ih =>
    simp only [List.mem_cons, not_or] at h
    have hb : ¬ (b == c) = true := by simpa using fun e => h.1 e.symm
    have ih := ih h.2
    show Lib.indexByte (b :: (l ++ c :: r)) c = _
    unfold Lib.indexByte
    rw [if_neg hb, ih, if_neg (by simp)]
    simp
theorem split_words (c : UInt8) : ∀ (k : Nat) (ws : List (List UInt8)), ws ≠ [] → ws.length ≤ k + 1 → (∀ x ∈ ws, c ∉ x) → Lib.splitK [c] 0 k (joinW c ws) = ws
  | _, [], h, _, _ => absurd rfl h
  | 0, [x], _, _, _ => rfl
  | k + 1, [x], _, _, hc => by
    show Lib.splitK [c] 0 (k + 1) x = [x]
    unfold Lib.splitK
    rw [Lib.index_one, index_byte_none (hc x (by simp))]; rfl
  | 0, _ :: _ :: _, _, hl, _ => by simp at hl
  | k + 1, x :: y :: r, _, hl, hc => by
    have hx := hc x (by simp)
    have hi : Lib.index (x ++ c :: joinW c (y :: r)) [c] = x.length := by rw [Lib.index_one, index_byte_at hx]
    have ih := split_words c k (y :: r) (by simp) (by simpa using hl) (fun z hz => hc z (by simp [hz]))
    show Lib.splitK [c] 0 (k + 1) (x ++ c :: joinW c (y :: r)) = _
    unfold Lib.splitK
    rw [hi, if_neg (by simp)]
    simp only [Int.toNat_natCast, Nat.add_zero, List.length_singleton]
    rw [List.take_left, show x ++ c :: joinW c (y :: r) = (x ++ [c]) ++ joinW c (y :: r) by simp, List.drop_left' (by simp), ih]
/-- The same of the library's own cut. -/
theorem split_bytes (c : UInt8) (k : Nat) (ws : List (List UInt8)) (h : ws ≠ []) (hl : ws.length ≤ k + 1) (hc : ∀ x ∈ ws, c ∉ x) :
    Lib.splitB ⟨#[c]⟩ 0 k ⟨(joinW c ws).toArray⟩ = ws.map fun l => ⟨l.toArray⟩ := by
  have e := Lib.splitB_data ⟨#[c]⟩ 0 k ⟨(joinW c ws).toArray⟩
  rw [show (⟨#[c]⟩ : ByteArray).data.toList = [c] from rfl, show ((⟨(joinW c ws).toArray⟩ : ByteArray).data.toList) = joinW c ws by simp, split_words c k ws h hl hc] at e
  have e2 := congrArg (List.map fun l : List UInt8 => (⟨l.toArray⟩ : ByteArray)) e
  rw [List.map_map] at e2
  rw [← e2]
  have : ((fun l : List UInt8 => (⟨l.toArray⟩ : ByteArray)) ∘ fun b : ByteArray => b.data.toList) = id := by
    funext b; simp
  rw [this, List.map_id]
end Go.Proofs.YtflbckeebmlofaaDoor
