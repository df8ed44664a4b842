/- What comes in to layer 19's laws: slices of numbers, of Booleans, of calls. Conditions: those that each states. -/
import Derived.Test.YtldmcoagjgeeoaaGr0
namespace Go.Proofs.Ytldmcoagjgeeoaa.Ra
open Go.ChangeShapes Go.WideShapes Go.ChangeAt Go.RowKit Go.Deep Rk Gx
set_option linter.unusedVariables false
set_option linter.unusedSimpArgs false

def U16sC (x : Nat) : List Value := [.int .u16 (x : Int)]
theorem U16sC_len (x : Nat) : (U16sC x).length = 1 := rfl
set_option maxRecDepth 100000 in
theorem open_U16s {H : Type} {enc : TypeId × Value → H} {w : World} {base : Nat} {v : Value} {d : DataW H} {p : List MemPlace}
    (hv : Value.okWide Try.prog w .any base 23 v) (h : DataW.Trod enc Try.prog w 0 (fun _ => true) true 23 v d p) :
    ∃ A c l, v = .slice A (l : List (Nat)).length c ∧ RowG w 1 A l.length c (l.flatMap U16sC) ∧ ∀ a ∈ l, (fun (x : Nat) => x ≤ 65535) a := by
  obtain ⟨a, n, c, rfl⟩ := okWide_slice Try.underlying23 hv
  obtain ⟨fuel, hf⟩ := h
  obtain ⟨A, c', l, e, r, k⟩ := row_of_trod U16sC (fun (x : Nat) => x ≤ 65535) (sz := 1) (by decide) U16sC_len Try.underlying23 (by kernel_rfl) (fun fuel cs x hl h => by
    obtain ⟨b0, z0, _, x0⟩ := DataW.trod_int Try.underlying32 h
    obtain ⟨m0, rfl, r0⟩ := wf_u16 x0
    exact ⟨m0, by simpa [U16sC] using z0, r0⟩) hf
  simp [Value.cells] at e
  obtain ⟨rfl, rfl, rfl⟩ := e
  exact ⟨a, c, l, rfl, r, k⟩
theorem U16s_at0 {w : World} {A : Option Addr} {c : Nat} {l : List (Nat)} (h : RowG w 1 A l.length c (l.flatMap U16sC)) {i : Nat} (hi : i < l.length) : ∃ b o, A = some ⟨b, o, none⟩ ∧ b < w.heap.size ∧ w.cell? ⟨b, o + (i * 1 + 0), none⟩ = some (.int .u16 (l[i] : Int)) :=
  rowG_at U16sC_len h hi (j := 0) (by decide)
def BoolsC (x : Bool) : List Value := [.bool x]
theorem BoolsC_len (x : Bool) : (BoolsC x).length = 1 := rfl
set_option maxRecDepth 100000 in
theorem open_Bools {H : Type} {enc : TypeId × Value → H} {w : World} {base : Nat} {v : Value} {d : DataW H} {p : List MemPlace}
    (hv : Value.okWide Try.prog w .any base 72 v) (h : DataW.Trod enc Try.prog w 0 (fun _ => true) true 72 v d p) :
    ∃ A c l, v = .slice A (l : List (Bool)).length c ∧ RowG w 1 A l.length c (l.flatMap BoolsC) ∧ ∀ a ∈ l, (fun (x : Bool) => True) a := by
  obtain ⟨a, n, c, rfl⟩ := okWide_slice Try.underlying72 hv
  obtain ⟨fuel, hf⟩ := h
  obtain ⟨A, c', l, e, r, k⟩ := row_of_trod BoolsC (fun (x : Bool) => True) (sz := 1) (by decide) BoolsC_len Try.underlying72 (by kernel_rfl) (fun fuel cs x hl h => by
    obtain ⟨b0, z0, _⟩ := DataW.trod_bool Try.underlying4 h
    exact ⟨b0, by simpa [BoolsC] using z0, trivial⟩) hf
  simp [Value.cells] at e
  obtain ⟨rfl, rfl, rfl⟩ := e
  exact ⟨a, c, l, rfl, r, k⟩
theorem Bools_at0 {w : World} {A : Option Addr} {c : Nat} {l : List (Bool)} (h : RowG w 1 A l.length c (l.flatMap BoolsC)) {i : Nat} (hi : i < l.length) : ∃ b o, A = some ⟨b, o, none⟩ ∧ b < w.heap.size ∧ w.cell? ⟨b, o + (i * 1 + 0), none⟩ = some (.bool l[i]) :=
  rowG_at BoolsC_len h hi (j := 0) (by decide)
structure Act where
  pl : Int
  s : List UInt8
  take : Bool
def Act.cells (q : Act) : List Value := [.int .i64 q.pl, .string ⟨q.s.toArray⟩, .bool q.take]
theorem Act.len (q : Act) : q.cells.length = 3 := rfl
def Act.In (q : Act) : Prop := (-9223372036854775808 ≤ q.pl ∧ q.pl ≤ 9223372036854775807) ∧ (q.s.length ≤ maxLen) ∧ (True)
theorem Act_at0 {w : World} {A : Option Addr} {c : Nat} {l : List (Act)} (h : RowG w 3 A l.length c (l.flatMap Act.cells)) {i : Nat} (hi : i < l.length) : ∃ b o, A = some ⟨b, o, none⟩ ∧ b < w.heap.size ∧ w.cell? ⟨b, o + (i * 3 + 0), none⟩ = some (.int .i64 l[i].pl) :=
  rowG_at Act.len h hi (j := 0) (by decide)
theorem Act_at1 {w : World} {A : Option Addr} {c : Nat} {l : List (Act)} (h : RowG w 3 A l.length c (l.flatMap Act.cells)) {i : Nat} (hi : i < l.length) : ∃ b o, A = some ⟨b, o, none⟩ ∧ b < w.heap.size ∧ w.cell? ⟨b, o + (i * 3 + 1), none⟩ = some (.string ⟨l[i].s.toArray⟩) :=
  rowG_at Act.len h hi (j := 1) (by decide)
theorem Act_at2 {w : World} {A : Option Addr} {c : Nat} {l : List (Act)} (h : RowG w 3 A l.length c (l.flatMap Act.cells)) {i : Nat} (hi : i < l.length) : ∃ b o, A = some ⟨b, o, none⟩ ∧ b < w.heap.size ∧ w.cell? ⟨b, o + (i * 3 + 2), none⟩ = some (.bool l[i].take) :=
  rowG_at Act.len h hi (j := 2) (by decide)
end Go.Proofs.Ytldmcoagjgeeoaa.Ra
