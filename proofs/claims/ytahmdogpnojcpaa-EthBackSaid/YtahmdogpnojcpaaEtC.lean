/- The program's answer and the document's, side by side (layer 14). Conditions: those that each states. -/
import Derived.Test.YtahmdogpnojcpaaEtB
import Derived.Test.YtahmdogpnojcpaaEtO
namespace Go.Proofs.Ytahmdogpnojcpaa.Et
open Go.ChangeShapes Go.WideShapes Go.ChangeAt Go.RowKit Go.Deep Rk Es Di
set_option linter.unusedVariables false
set_option linter.unusedSimpArgs false

def textOf (may : Bool) (l : List UInt8) : List UInt8 := if may then l else []
def errIf (may : Bool) (er : Int) : Int := if may then 0 else er
theorem Told.form {w w' : World} {e : Ending} {may : Bool} {l : List UInt8} {er : Int} (h : Told w w' e may l er) :
    ∃ A c, e = .returned (.tuple #[.slice A (textOf may l).length c, .int .i64 (errIf may er)]) ∧ Src w' A (textOf may l).length c (textOf may l) := by
  rcases h with ⟨rfl, rfl⟩ | ⟨rfl, g, c, rfl, O⟩
  · exact ⟨none, 0, rfl, Src.nil _⟩
  · exact ⟨_, _, rfl, O.src⟩
theorem STold.form {e : Ending} {may : Bool} {l : List UInt8} {er : Int} (h : STold e may l er) : e = .returned (.tuple #[.string ⟨(textOf may l).toArray⟩, .int .i64 (errIf may er)]) := by
  unfold STold at h
  cases may <;> exact h
theorem ar_form (l : List UInt8) : ∃ (o : Int) (m i m' i' : Nat), (∀ e, ArTold e l → e = .returned (.tuple #[.agg (arV o m i m' i'), .int .i64 (errIf (arOk l) 50)])) ∧ (∀ e, DArTold e l → e = .returned (.tuple #[.agg (arV o m i m' i'), .bool (arOk l)])) := by
  cases h : arOk l with
  | false =>
    refine ⟨0, 0, 0, 0, 0, fun e he => ?_, fun e he => ?_⟩
    · rcases he with ⟨_, rfl⟩ | ⟨h', _⟩
      · rfl
      · rw [h] at h'; cases h'
    · rcases he with ⟨_, rfl⟩ | ⟨h', _⟩
      · rfl
      · rw [h] at h'; cases h'
  | true =>
    refine ⟨arOp l, at2 l 8 6, at2 l 14 4, at2 l 18 6, at2 l 24 4, fun e he => ?_, fun e he => ?_⟩
    · rcases he with ⟨h', _⟩ | ⟨_, rfl⟩
      · rw [h] at h'; cases h'
      · rfl
    · rcases he with ⟨h', _⟩ | ⟨_, rfl⟩
      · rw [h] at h'; cases h'
      · rfl
theorem pk_form (l : List UInt8) : ∃ (t f y : Nat) (b : List UInt8), (∀ w w' e, Parsed w w' e l → ∃ A c, e = .returned (.tuple #[.agg (pkV t f y A b.length c), .int .i64 (parErr l.length)]) ∧ Src w' A b.length c b) ∧ (∀ e, DParsed e l → e = .returned (.tuple #[.agg (dpV t f y b), .int .i64 (parErr l.length)])) := by
  by_cases h : parErr l.length = 0
  · refine ⟨numB (l.take 6), numB ((l.drop 6).take 6), numB ((l.drop 12).take 2), l.drop 14, fun w w' e he => ?_, fun e he => ?_⟩
    · rcases he with ⟨h', _⟩ | ⟨_, A, c, rfl, s⟩
      · exact absurd h h'
      · have hl : (l.drop 14).length = l.length - 14 := by simp
        rw [h, hl]
        exact ⟨A, c, rfl, s⟩
    · rcases he with ⟨h', _⟩ | ⟨_, rfl⟩
      · exact absurd h h'
      · rw [h]
  · refine ⟨0, 0, 0, [], fun w w' e he => ?_, fun e he => ?_⟩
    · rcases he with ⟨_, rfl⟩ | ⟨h', _⟩
      · exact ⟨none, 0, rfl, Src.nil _⟩
      · exact absurd h' h
    · rcases he with ⟨_, rfl⟩ | ⟨h', _⟩
      · rfl
      · exact absurd h' h
theorem ans_form (hm hi t f y : Nat) (l : List UInt8) : ∃ (t' f' y' : Nat) (b : List UInt8), (∀ w w' e, AnsTold w w' e hm hi t f y l → ∃ A c, e = .returned (.tuple #[.agg (pkV t' f' y' A b.length c), .bool (ansMay hm hi t y l)]) ∧ Src w' A b.length c b) ∧ (∀ e, DAnsTold e hm hi t f y l → e = .returned (.tuple #[.agg (dpV t' f' y' b), .bool (ansMay hm hi t y l)])) := by
  cases h : ansMay hm hi t y l with
  | true =>
    refine ⟨f, hm, 2054, ansL hm hi l, fun w w' e he => ?_, fun e he => ?_⟩
    · rcases he with ⟨h', _⟩ | ⟨_, g, c, rfl, s⟩
      · rw [h] at h'; cases h'
      · have hl : (ansL hm hi l).length = 28 := arL_length _ _ _ _ _
        rw [hl]
        exact ⟨_, c, rfl, s⟩
    · rcases he with ⟨h', _⟩ | ⟨_, rfl⟩
      · rw [h] at h'; cases h'
      · rfl
  | false =>
    refine ⟨0, 0, 0, [], fun w w' e he => ?_, fun e he => ?_⟩
    · rcases he with ⟨_, rfl⟩ | ⟨h', _⟩
      · exact ⟨none, 0, rfl, Src.nil _⟩
      · rw [h] at h'; cases h'
    · rcases he with ⟨_, rfl⟩ | ⟨h', _⟩
      · rfl
      · rw [h] at h'; cases h'
theorem blk_of {B : Nat} {W w' : World} (h : Below B W w') (t : TypeId) (cs : Array Value) : Blk (w'.alloc (.cells cs t)) w'.heap.size t cs ∧ W.heap.size ≤ w'.heap.size := ⟨Blk.new _ _ _, h.size⟩
theorem src_row {w : World} {A : Option Addr} {n c g : Nat} {l : List UInt8} {t : TypeId} {cs : Array Value} (h : Src w A n c l) (hb : Blk w g t cs) (hc : ∀ v ∈ cs.toList, ∀ x, v ≠ .int .u8 x) (new : Array Value) : Src (w.setRow g new) A n c l :=
  src_chg h (Chg.setRow w new (g := g) (S := fun b => b = g) rfl) (src_apart h hb hc)
/-- A struct stored whole in a drawing region; the store has no place of its own. -/
theorem wp_store_row_n {P : Program} {o : Oper} {a : Act} {w : World} {K : Act → World → Prop} {Q : Exit → Act → World → Prop} (hd : o.dst = none) (ty : TypeId) (x y : Operand) (ho : o.op = .store ty x y)
    (g : Nat) (cells : Array Value) (hx : a.eval x = .pointer (some ⟨g, 0, none⟩)) (hy : a.eval y = .agg cells)
    (t : TypeId) (old : Array Value) (hg : w.heap[g]? = some (.cells old t (0, 0))) (hi : (P.info? ty).map (·.size) = some cells.size)
    (hold : old.size = cells.size) (h1 : cells.all (·.oneCell') = true) (h : K a (w.setRow g cells)) : o.wp P a w K Q :=
  wp_store_row ty x y ho g cells hx hy t old hg hi hold h1 (by rw [hd]; exact h)
theorem text_of (s : ByteArray) : ∃ l : List UInt8, s = ⟨l.toArray⟩ := ⟨s.data.toList, by simp⟩
end Go.Proofs.Ytahmdogpnojcpaa.Et
