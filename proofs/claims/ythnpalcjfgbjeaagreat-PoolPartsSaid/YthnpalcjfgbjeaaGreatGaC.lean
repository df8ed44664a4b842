/- Package gather: Cut. Conditions: those that each states. -/
import Derived.Test.YthnpalcjfgbjeaaGreatGa1
import Derived.Deep.DeepCutAuto
import Derived.Deep.CutBlock
namespace Go.Proofs.YthnpalcjfgbjeaaGreat
open Go.ChangeShapes Go.WideShapes Go.ChangeAt Go.RowKit Go.Deep
set_option linter.unusedVariables false

theorem cutL_cons (p : Pc) (l : List Pc) (a n : Nat) : cutL (p :: l) a n =
    (if 0 < min n (p.len.toNat - min a p.len.toNat) then [⟨p.frame, p.off + (min a p.len.toNat : Nat), ((min n (p.len.toNat - min a p.len.toNat) : Nat) : Int)⟩] else []) ++
      cutL l (a - min a p.len.toNat) (n - min n (p.len.toNat - min a p.len.toNat)) := rfl
theorem cutL_append (l r : List Pc) (a n : Nat) : cutL (l ++ r) a n = cutL l a n ++ cutL r (a - total l) (n - (total l - a)) := by
  induction l generalizing a n with
  | nil => simp [cutL, total]
  | cons p l ih =>
    rw [List.cons_append, cutL_cons, cutL_cons, ih, List.append_assoc]
    simp only [total]
    have e1 : a - min a p.len.toNat - total l = a - (p.len.toNat + total l) := by omega
    have e2 : n - min n (p.len.toNat - min a p.len.toNat) - (total l - (a - min a p.len.toNat)) = n - (p.len.toNat + total l - a) := by omega
    rw [e1, e2]
/-- What one piece gives. -/
def cutOne (p : Pc) (f m : Nat) : List Pc := if 0 < min m (p.len.toNat - min f p.len.toNat) then [⟨p.frame, p.off + (min f p.len.toNat : Nat), ((min m (p.len.toNat - min f p.len.toNat) : Nat) : Int)⟩] else []
theorem cutL_step {l : List Pc} {j : Nat} (hj : j < l.length) (a n : Nat) : cutL (l.take (j + 1)) a n = cutL (l.take j) a n ++ cutOne l[j] (a - total (l.take j)) (n - (total (l.take j) - a)) := by
  rw [List.take_succ_eq_append_getElem hj, cutL_append, cutL_cons]
  unfold cutL cutOne
  rw [List.append_nil]
def Pc.Good (p : Pc) : Prop := 0 ≤ p.frame ∧ p.frame ≤ 256 ∧ p.In
instance (p : Pc) : Decidable p.Good := inferInstanceAs (Decidable (_ ∧ _))
def cutOk (l : List Pc) (a n : Int) : Prop := (∀ p ∈ l, p.Good) ∧ 0 ≤ a ∧ 0 ≤ n ∧ n ≤ sizeR l - a
def CutIs (w : World) (l : List Pc) (a n : Int) (e : Ending) (w' : World) : Prop :=
  ((cutOk l a n ∧ ∃ A c, e = .returned (.tuple #[.slice A (cutL l a.toNat n.toNat).length c, .int .i64 0]) ∧ Pcs w' A (cutL l a.toNat n.toNat)) ∨ (¬ cutOk l a n ∧ e = .returned (.tuple #[.slice none 0 0, .int .i64 1]))) ∧ Below w.heap.size w w'
theorem pcs_infos : (Tryz.prog.info? 90).map (fun i => (i.zero.map (·.cells.size), i.size, i.bytes)) = some (some 3, 3, 24) := by kernel_rfl
theorem pcs_info : ∃ i0 z, Tryz.prog.info? 90 = some i0 ∧ i0.zero = some z ∧ i0.size = 3 ∧ i0.bytes = 24 ∧ z.cells.size = 3 := by
  obtain ⟨i, hi, hs⟩ := Option.map_eq_some_iff.1 pcs_infos
  simp only [Prod.mk.injEq] at hs
  obtain ⟨h0, h1, h2⟩ := hs
  obtain ⟨z, hz, hzs⟩ := Option.map_eq_some_iff.1 h0
  exact ⟨i, z, hi, hz, h1, h2, hzs⟩
end Go.Proofs.YthnpalcjfgbjeaaGreat
