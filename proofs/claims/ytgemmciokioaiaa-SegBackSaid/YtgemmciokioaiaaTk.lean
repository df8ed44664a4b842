/- The document's own reader of layer 2: what it answers. Conditions: those that each states. -/
import Derived.Test.YtgemmciokioaiaaEy2
namespace Go.Proofs.Ytgemmciokioaiaa
open Go.ChangeShapes Go.WideShapes Go.ChangeAt Go.RowKit Go.Deep
set_option linter.unusedVariables false

theorem bget (r : List UInt8) (j : Nat) (h : j < (⟨r.toArray⟩ : ByteArray).size) (h' : j < r.length) : (⟨r.toArray⟩ : ByteArray)[j] = r[j] := rfl

/-- What a call to a reader that holds l and has met err tells, what it leaves, and its error. -/
def takeR (l : List UInt8) (err n : Int) (b : Bool) : List UInt8 × List UInt8 × Int :=
  if err ≠ 0 then ([], l, err) else if n < 0 ∨ (b = true ∧ (n < 1 ∨ 8 < n)) then ([], [], 1) else if (l.length : Int) < n then ([], [], 50) else (l.take n.toNat, l.drop n.toNat, 0)
theorem takeR_met {l : List UInt8} {err n : Int} {b : Bool} (h : err ≠ 0) : takeR l err n b = ([], l, err) := by simp [takeR, h]
theorem takeR_bad {l : List UInt8} {n : Int} {b : Bool} (h : n < 0 ∨ (b = true ∧ (n < 1 ∨ 8 < n))) : takeR l 0 n b = ([], [], 1) := by
  unfold takeR; rw [if_neg (by simp), if_pos h]
theorem takeR_few {l : List UInt8} {n : Int} {b : Bool} (h : ¬ (n < 0 ∨ (b = true ∧ (n < 1 ∨ 8 < n)))) (h2 : (l.length : Int) < n) : takeR l 0 n b = ([], [], 50) := by
  unfold takeR; rw [if_neg (by simp), if_neg h, if_pos h2]
theorem takeR_ok {l : List UInt8} {n : Int} {b : Bool} (h : ¬ (n < 0 ∨ (b = true ∧ (n < 1 ∨ 8 < n)))) (h2 : ¬ (l.length : Int) < n) : takeR l 0 n b = (l.take n.toNat, l.drop n.toNat, 0) := by
  unfold takeR; rw [if_neg (by simp), if_neg h, if_neg h2]
theorem takeR_inv (l : List UInt8) (err n : Int) (b : Bool) (h : err ≠ 0 → l = []) : (takeR l err n b).2.2 ≠ 0 → (takeR l err n b).2.1 = [] := by
  unfold takeR
  split
  · exact h
  · split
    · simp
    · split <;> simp
theorem takeR_len (l : List UInt8) (err n : Int) (b : Bool) : (takeR l err n b).1.length ≤ l.length ∧ (takeR l err n b).2.1.length ≤ l.length ∧ (b = true → (takeR l err n b).1.length ≤ 8) := by
  unfold takeR
  split
  · simp
  · split
    · simp
    · rename_i h
      split
      · simp
      · refine ⟨by simp; omega, by simp, fun hb => ?_⟩
        simp only [hb, true_and, not_or] at h
        simp
        omega

theorem num_of (B g : Nat) (l : List UInt8) (err n : Int) (w : World) (r r2 : List UInt8) (e2 : Int) (hr : takeR l err n true = (r, r2, e2)) (hl : r.length ≤ 8)
    (hn : Calls Try.prog 44 #[.pointer (some ⟨g, 0, none⟩), .int .i64 n, .int .i64 1, .int .i64 8] w fun e w' => ∃ A c, e = .returned (.slice A r.length c) ∧ Src w' A r.length c r ∧ (EyeAt w' B g r2 e2 ∧ w.grownBy w' (some g))) :
    Calls Try.prog 41 #[.pointer (some ⟨g, 0, none⟩), .int .i64 n] w fun e w' => e = .returned (.int .u64 (numB (takeR l err n true).1 : Int)) ∧ EyeAt w' B g (takeR l err n true).2.1 (takeR l err n true).2.2 ∧ w.grownBy w' (some g) := by
  rw [hr]
  exact num_from (some ⟨g, 0, none⟩) n w r (fun w' => EyeAt w' B g r2 e2 ∧ w.grownBy w' (some g)) hl hn
theorem num_any (B g : Nat) (l : List UInt8) (err n : Int) (w : World) (h : EyeAt w B g l err) (hi : err ≠ 0 → l = []) :
    Calls Try.prog 41 #[.pointer (some ⟨g, 0, none⟩), .int .i64 n] w fun e w' => e = .returned (.int .u64 (numB (takeR l err n true).1 : Int)) ∧ EyeAt w' B g (takeR l err n true).2.1 (takeR l err n true).2.2 ∧ w.grownBy w' (some g) := by
  by_cases h0 : err = 0
  · subst h0
    by_cases h1 : n < 0 ∨ (true = true ∧ (n < 1 ∨ 8 < n))
    · exact num_of B g l 0 n w [] [] 1 (takeR_bad h1) (by simp) ((next_stop B g l 0 n 1 8 w h 1 (.inr (.inl ⟨rfl, by omega, rfl⟩))).mono fun e w' ⟨h1, h2⟩ => ⟨none, 0, h1, Src.nil _, h2⟩)
    · obtain ⟨g0, g1, g8⟩ : ¬ n < 0 ∧ ¬ n < 1 ∧ ¬ 8 < n := ⟨fun h => h1 (.inl h), fun h => h1 (.inr ⟨rfl, .inl h⟩), fun h => h1 (.inr ⟨rfl, .inr h⟩)⟩
      by_cases h2 : (l.length : Int) < n
      · exact num_of B g l 0 n w [] [] 50 (takeR_few h1 h2) (by simp) ((next_stop B g l 0 n 1 8 w h 50 (.inr (.inr ⟨rfl, by omega, by omega, h2, rfl⟩))).mono fun e w' ⟨h1, h2⟩ => ⟨none, 0, h1, Src.nil _, h2⟩)
      · obtain ⟨k, rfl⟩ : ∃ k : Nat, n = k := ⟨n.toNat, by omega⟩
        have hk : (l.take k).length = k := by simp; omega
        refine num_of B g l 0 k w (l.take k) (l.drop k) 0 (by rw [takeR_ok h1 h2, Int.toNat_natCast]) (by omega) ?_
        rw [hk]
        exact (next_ok B g l k 1 8 w h (by omega) (by omega) (by omega)).mono fun e w' ⟨A, c, h1, h2, h3⟩ => ⟨A, c, h1, h2, h3⟩
  · exact num_of B g l err n w [] [] err (by rw [takeR_met h0, hi h0]) (by simp) ((next_stop B g l err n 1 8 w h err (.inl ⟨h0, rfl⟩)).mono fun e w' ⟨h1, h2⟩ => ⟨none, 0, h1, Src.nil _, h2⟩)

end Go.Proofs.Ytgemmciokioaiaa
