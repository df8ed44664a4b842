/- Generic steps: bytes of a constant. Conditions: those that each states. -/
import Derived.Test.YtldmcoagjgeeoaaCom
import Derived.Test.YtldmcoagjgeeoaaTail
import Derived.Laws.BytesString
namespace Go.Proofs.Ytldmcoagjgeeoaa.Gx
open Go.ChangeShapes Go.WideShapes Go.ChangeAt Go.RowKit Go.Deep
set_option linter.unusedVariables false
set_option linter.unusedSimpArgs false

/-- Bytes of a constant: the row is marked. -/
theorem conv_fresh (cs : Array Value) (n c : Nat) (w : World) :
    (convert 33 33 (.slice (some ⟨w.heap.size, 0, none⟩) n c)).run Try.prog (w.alloc (.cells cs 5)) = .ok (.slice (some ⟨w.heap.size, 0, none⟩) n c) (w.alloc (.cells cs 5 (cs.size, cs.size + 1))) := by
  have hsh : (w.alloc (.cells cs 5)).shape? w.heap.size = some (5, cs.size) := by
    have : (w.alloc (.cells cs 5)).heap[w.heap.size]? = some (.cells cs 5) := heap_alloc_new w _
    unfold World.shape?
    rw [this]
  have hfr : ∀ n : Nat, (w.alloc (.cells cs 5)).freeze ⟨w.heap.size, n, none⟩ 1 = w.alloc (.cells cs 5 (n, n + 1)) := fun n => by
    have hm : ∀ (a : Array Obj) (x : Obj) (f : Obj → Obj), (a.push x).modify a.size f = a.push (f x) := by
      intro a x f
      apply Array.ext
      · simp
      · intro i h1 h2
        simp only [Array.getElem_modify, Array.getElem_push]
        by_cases h : a.size = i
        · subst h
          simp
        · have hi : i < a.size := by simp at h1; omega
          simp [h, hi]
    unfold World.freeze
    rw [if_neg (by decide)]
    show ({ w.alloc (.cells cs 5) with heap := (w.heap.push (.cells cs 5)).modify w.heap.size _ } : World) = _
    rw [hm]
    rfl
  simp [convert, run_underlying Try.underlying33, run_underlying Try.underlying5, markStringish, hsh]
  exact hfr _
theorem marked (w : World) (l : List UInt8) (hl : l.length ≤ 1000000) : Src (w.alloc (.cells (bys l).toArray 5 (l.length, l.length + 1))) (some ⟨w.heap.size, 0, none⟩) l.length l.length l := by
  have hb : (w.alloc (.cells (bys l).toArray 5 (l.length, l.length + 1))).heap[w.heap.size]? = some (.cells (bys l).toArray 5 (l.length, l.length + 1)) := heap_alloc_new w _
  refine ⟨⟨fun hp => ⟨_, 0, rfl, (Array.getElem?_eq_some_iff.1 hb).1, fun j hj => ?_⟩, rfl, Nat.le_refl _, ?_⟩, fun e => by cases e⟩
  · rw [cell_of_row _ _ _ _ _ _ hb, Nat.zero_add, List.getElem?_toArray, List.getElem?_eq_getElem hj]
  · omega
end Go.Proofs.Ytldmcoagjgeeoaa.Gx
