/- Rings and rows of numbers and of texts, as lists; append of one more to such a row. Conditions: those that each states. -/
import Derived.Test.YtngheacdabjbaaaRef04
namespace Go.Proofs.Ytngheacdabjbaaa
open Go.ChangeShapes Go.WideShapes Go.ChangeAt Go.RowKit Go.Deep
set_option linter.unusedVariables false

abbrev V (l : List Int) : List Value := l.map (Value.int .i64)
abbrev VS (l : List ByteArray) : List Value := l.map Value.string
theorem V_get {l : List Int} {k : Nat} (h : k < l.length) : (V l)[k]? = some (.int .i64 l[k]) := by simp [V, List.getElem?_eq_getElem h]

section
variable {gs g rm taken : Nat} {l : List Int} {W : World}
theorem put_l (x : Int) (h : RingI.Ring W gs g rm taken (V (l.drop taken))) (ht : taken ≤ l.length) (h1 : l.length - taken < rm) (h2 : l.length < 1000000) :
    Calls Try.prog 9 #[.pointer (some ⟨g, 0, none⟩), .int .i64 x] W fun e w' => e = .returned (.tuple #[.int .i64 (l.length : Int), .int .i64 0]) ∧ RingI.Ring w' gs g rm taken (V ((l ++ [x]).drop taken)) ∧ Chg W w' (fun k => k = gs ∨ k = g) := by
  have hl : (V (l.drop taken)).length = l.length - taken := by simp [V]
  have := RingI.put_ok gs g rm taken (V (l.drop taken)) x W h (by omega) (by omega)
  have e1 : (taken : Int) + ((V (l.drop taken)).length : Int) = (l.length : Int) := by omega
  have e2 : V (l.drop taken) ++ [.int .i64 x] = V ((l ++ [x]).drop taken) := by rw [List.drop_append_of_le_length ht]; simp [V]
  rw [e1, e2] at this
  exact this
theorem take_l (h : RingI.Ring W gs g rm taken (V (l.drop taken))) (h1 : taken < l.length) :
    Calls Try.prog 11 #[.pointer (some ⟨g, 0, none⟩)] W fun e w' => e = .returned (.tuple #[.int .i64 l[taken], .int .i64 0]) ∧ RingI.Ring w' gs g rm (taken + 1) (V (l.drop (taken + 1))) ∧ Chg W w' (fun k => k = gs ∨ k = g) := by
  have e1 : V (l.drop taken) = .int .i64 l[taken] :: V (l.drop (taken + 1)) := by rw [List.drop_eq_getElem_cons h1]; rfl
  rw [e1] at h
  exact RingI.take_ok gs g rm taken _ _ W h
theorem at_l (t : Nat) (h : RingI.Ring W gs g rm taken (V (l.drop taken))) (h1 : taken ≤ t) (h2 : t < l.length) :
    Calls Try.prog 13 #[.pointer (some ⟨g, 0, none⟩), .int .i64 (t : Int)] W fun e w' => e = .returned (.tuple #[.int .i64 l[t], .int .i64 0]) ∧ ∃ m, w' = W.drewN m := by
  refine RingI.at_ok gs g rm taken _ t _ W h h1 ?_
  have e : t - taken < (l.drop taken).length := by simp; omega
  rw [V_get e]
  simp [show taken + (t - taken) = t by omega]
theorem full_l (x : Int) (h : RingI.Ring W gs g rm taken (V (l.drop taken))) (h1 : l.length - taken = rm) :
    Calls Try.prog 9 #[.pointer (some ⟨g, 0, none⟩), .int .i64 x] W fun e w' => e = .returned (.tuple #[.int .i64 0, .int .i64 10]) ∧ ∃ m, w' = W.drewN m :=
  RingI.put_full gs g rm taken _ x W h (by simp [V]; omega)
theorem empty_l (h : RingI.Ring W gs g rm taken (V (l.drop taken))) (h1 : taken = l.length) :
    Calls Try.prog 11 #[.pointer (some ⟨g, 0, none⟩)] W fun e w' => e = .returned (.tuple #[.int .i64 0, .int .i64 11]) ∧ w' = W := by
  subst h1
  rw [List.drop_length] at h
  exact RingI.take_empty gs g rm _ W h
end

/-- append(v, x) to a row that reads as a list. -/
theorem wpList_append_map {α : Type} (mk : α → Value) (hmk : ∀ x, (mk x).oneCell' = true) {P : Program} {ops : Array Oper} {rest : List Oper} {o : Oper} {a : Act} {Q : Exit → Act → World → Prop} {w : World} {T E : TypeId} (hgd : o.guard = none) (s x : Operand)
    (ho : o.op = .call { callee := .builtin .append, args := #[s, x], argTypes := #[T, T] }) (hT : P.underlying T = some (.slice E)) (z : Value) (bytes : Nat) (hz1 : z.cells.size = 1) (hby : bytes ≤ 16)
    (hi : (P.info? E).map (fun i => (i.zero, i.size, i.bytes)) = some (some z, 1, bytes))
    {B : Nat} {A : Option Addr} {c : Nat} {l : List α} (hs : a.eval s = .slice A l.length c) (hown : Row w B E A c (l.map mk)) (hbase : B ≤ w.heap.size)
    (u : α) (hx : a.eval x = .slice (some ⟨w.heap.size, 0, none⟩) 1 1) (hmax : l.length + 1 ≤ 1000000)
    (h : ∀ A' c2 w', Row w' B E A' c2 ((l ++ [u]).map mk) → Chg w w' (fun k => A.map (·.block) = some k) → (A'.map (·.block) = A.map (·.block) ∨ A'.map (·.block) = some (w.heap.size + 1)) →
      wpList P ops Q rest (a.put o.dst (.slice A' (l ++ [u]).length c2)) w') : wpList P ops Q (o :: rest) a (w.alloc (.cells #[mk u] E)) := by
  have hb : ∀ (A : Option Addr) n c, (Value.slice A n c).ownBlock = A.map (·.block) := fun A n c => by cases A <;> rfl
  refine wpList_append_one hgd s x ho hT z bytes hz1 hby hi (by rw [hs, List.length_map]) hown hbase (mk u) (hmk u) hx (by rw [List.length_map]; exact hmax) ?_
  intro A' c2 w' r k hat
  have e : l.map mk ++ [mk u] = (l ++ [u]).map mk := by simp
  rw [e] at r hat ⊢
  rw [hb, hb] at hat
  simp only [hb] at k
  have := h A' c2 w' r k hat
  rw [show ((l ++ [u]).map mk).length = (l ++ [u]).length from List.length_map _]
  exact this
theorem Row.blk {w : World} {B : Nat} {E : TypeId} {A : Option Addr} {c : Nat} {xs : List Value} (h : Row w B E A c xs) : ∀ b, A.map (·.block) = some b → B ≤ b ∧ b < w.heap.size := by
  intro b hb
  exact h.lt b (by cases A <;> simp_all [Value.ownBlock])
theorem Row.away {w w' : World} {B : Nat} {E : TypeId} {A : Option Addr} {c : Nat} {xs : List Value} {S : Nat → Prop} (h : Row w B E A c xs) (k : Chg w w' S) (hn : ∀ b, A.map (·.block) = some b → ¬ S b) : Row w' B E A c xs :=
  h.chg k fun b hb => hn b (by cases A <;> simp_all [Value.ownBlock])
end Go.Proofs.Ytngheacdabjbaaa
