/-
  No cell of these rows narrows 'for every input' (looked for: loops, veiled, ifaces, maps, wideKeys, modest, calm, conditions, laid).
  DERIVED. THE GIVEN ROWS OF THIS SEAT. 4 by the template 'for every input the law returns true; each argument reads behind the call as it read before'; 0 by the template 'total and deterministic' (their statements: YtcpnflkfaakngaaTotals.lean).
  GIVEN WITH THE SEED: the statements are not yours to turn. If you find one false, say at which input.
  Laid BY PROGRAM, IN A SANDBOX (cutbox-rows.mjs): the forced cells as the released guide's own fill.sh prints them over the translation c0d823840814f1f9… (all of the seat's roots in one cut). By AI agents, Wed Nov 11 2026. No macro, syntax, notation, axiom, sorry.
-/
import Derived.Test.YtcpnflkfaakngaaChecked
import GoSem.Claim
import GoSem.ClaimJoined
import GoSem.ClaimMapViews
import Derived.JoinedTies
import Derived.KernelRfl
namespace Go.Proofs.Ytcpnflkfaakngaa
/- THE CELL 'sum', in the pinned program and in every row, IS THE sha256 OF THE DUMP (.gsa) THAT YtcpnflkfaakngaaProg.lean LOADS. Nothing in Lean hashes anything: it is a label: what it is worth is what the hold of that sum in a sandbox is worth. -/
noncomputable def Try.pinned : Pinned := { name := "ytcpnflkfaakngaa", sum := "c0d823840814f1f9803746a15789b369fdf81fb4bff04b79e0a3f908fbedc27d", checked := Try.checked }
namespace Rows
def none {H : Type} : Left H := { results := [], args := [] }

/-- 'pantlerlaw18.SeqnoTells': WHATEVER THE INPUT: true; the input reads as it did. -/
def seqnoTellsSpec : ChangeSpec := { name := "seqnoTells", fn := fun _ => fun
  | [d1, d2, d3] => { results := [.lit (.bool true)], args := [d1, d2, d3] }
  | _ => none }
def seqnoTellsRow : OpenClaim := { program := "ytcpnflkfaakngaa", sum := "c0d823840814f1f9803746a15789b369fdf81fb4bff04b79e0a3f908fbedc27d", func := "pantler/pantlerlaw18.SeqnoTells", spec := "seqnoTells", apart := false }
def SeqnoTellsSaid : Prop := seqnoTellsRow.holds Try.pinned (OpenSpec.ofChange seqnoTellsSpec)

/-- ITS FALSE NEIGHBOUR: 'it returns false'. Refute it at one input. -/
def seqnoTellsWrong : ChangeSpec := { name := "seqnoTells", fn := fun _ => fun
  | [d1, d2, d3] => { results := [.lit (.bool false)], args := [d1, d2, d3] }
  | _ => none }
def SeqnoTellsWrongFalsely : Prop := seqnoTellsRow.holds Try.pinned (OpenSpec.ofChange seqnoTellsWrong)

/-- 'pantlerlaw18.SeqnoOffsets': WHATEVER THE INPUT: true; the input reads as it did. -/
def seqnoOffsetsSpec : ChangeSpec := { name := "seqnoOffsets", fn := fun _ => fun
  | [d1, d2, d3] => { results := [.lit (.bool true)], args := [d1, d2, d3] }
  | _ => none }
def seqnoOffsetsRow : OpenClaim := { program := "ytcpnflkfaakngaa", sum := "c0d823840814f1f9803746a15789b369fdf81fb4bff04b79e0a3f908fbedc27d", func := "pantler/pantlerlaw18.SeqnoOffsets", spec := "seqnoOffsets", apart := false }
def SeqnoOffsetsSaid : Prop := seqnoOffsetsRow.holds Try.pinned (OpenSpec.ofChange seqnoOffsetsSpec)

/-- ITS FALSE NEIGHBOUR: 'it returns false'. Refute it at one input. -/
def seqnoOffsetsWrong : ChangeSpec := { name := "seqnoOffsets", fn := fun _ => fun
  | [d1, d2, d3] => { results := [.lit (.bool false)], args := [d1, d2, d3] }
  | _ => none }
def SeqnoOffsetsWrongFalsely : Prop := seqnoOffsetsRow.holds Try.pinned (OpenSpec.ofChange seqnoOffsetsWrong)

/-- 'pantlerlaw18.SeqnoBack': WHATEVER THE INPUT: true; the input reads as it did. -/
def seqnoBackSpec : ChangeSpec := { name := "seqnoBack", fn := fun _ => fun
  | [d1, d2, d3, d4] => { results := [.lit (.bool true)], args := [d1, d2, d3, d4] }
  | _ => none }
def seqnoBackRow : OpenClaim := { program := "ytcpnflkfaakngaa", sum := "c0d823840814f1f9803746a15789b369fdf81fb4bff04b79e0a3f908fbedc27d", func := "pantler/pantlerlaw18.SeqnoBack", spec := "seqnoBack", apart := false }
def SeqnoBackSaid : Prop := seqnoBackRow.holds Try.pinned (OpenSpec.ofChange seqnoBackSpec)

/-- ITS FALSE NEIGHBOUR: 'it returns false'. Refute it at one input. -/
def seqnoBackWrong : ChangeSpec := { name := "seqnoBack", fn := fun _ => fun
  | [d1, d2, d3, d4] => { results := [.lit (.bool false)], args := [d1, d2, d3, d4] }
  | _ => none }
def SeqnoBackWrongFalsely : Prop := seqnoBackRow.holds Try.pinned (OpenSpec.ofChange seqnoBackWrong)

/-- 'pantlerlaw18.SeqnoSpan': WHATEVER THE INPUT: true; the input reads as it did. -/
def seqnoSpanSpec : ChangeSpec := { name := "seqnoSpan", fn := fun _ => fun
  | [d1, d2, d3, d4] => { results := [.lit (.bool true)], args := [d1, d2, d3, d4] }
  | _ => none }
def seqnoSpanRow : OpenClaim := { program := "ytcpnflkfaakngaa", sum := "c0d823840814f1f9803746a15789b369fdf81fb4bff04b79e0a3f908fbedc27d", func := "pantler/pantlerlaw18.SeqnoSpan", spec := "seqnoSpan", apart := false }
def SeqnoSpanSaid : Prop := seqnoSpanRow.holds Try.pinned (OpenSpec.ofChange seqnoSpanSpec)

/-- ITS FALSE NEIGHBOUR: 'it returns false'. Refute it at one input. -/
def seqnoSpanWrong : ChangeSpec := { name := "seqnoSpan", fn := fun _ => fun
  | [d1, d2, d3, d4] => { results := [.lit (.bool false)], args := [d1, d2, d3, d4] }
  | _ => none }
def SeqnoSpanWrongFalsely : Prop := seqnoSpanRow.holds Try.pinned (OpenSpec.ofChange seqnoSpanWrong)

/- THE SECOND FORM. 'bulk': how many values and letters a reading holds, each counted each time it is reached (what is shared counts as often as it is met; a slice's spare places count too). A statement '..UptoSaid' is the law's where the arguments, and the package variables that the reading takes, are together of bulk at most 1048576: NARROWER than '..Said'. Prove '..Said' where nothing that the law and all that it calls make is longer than what came in: it says more and counts as full. Else prove '..UptoSaid'. A law counts once. -/
mutual
def uptoBulk {H : Type} : DataW H → Nat
  | .lit (.string bytes) => bytes.length + 1
  | .lit _ => 1
  | .nil => 1
  | .ptr d => uptoBulk d + 1
  | .slice elems spare => uptoBulkAll elems + uptoBulkAll spare + 1
  | .agg parts => uptoBulkAll parts + 1
  | .iface _ d => uptoBulk d + 1
  | .map entries => uptoBulkEntries entries + 1
  | .held _ => 1
def uptoBulkAll {H : Type} : List (DataW H) → Nat
  | [] => 0
  | d :: r => uptoBulk d + uptoBulkAll r
def uptoBulkEntries {H : Type} : List (Lit × DataW H) → Nat
  | [] => 0
  | x :: r => uptoBulkEntry x + uptoBulkEntries r
def uptoBulkEntry {H : Type} : Lit × DataW H → Nat
  | (.string bytes, d) => bytes.length + uptoBulk d + 1
  | (_, d) => uptoBulk d + 1
 end
def uptoSmall : (H : Type) → List (DataW H) → Bool := fun _ ds => decide (uptoBulkAll ds ≤ 1048576)
def OpenSpec.upto (s : _root_.Go.ChangeSpec) : _root_.Go.OpenSpec := { _root_.Go.OpenSpec.ofChange s with cond := some uptoSmall }

/-- 'pantlerlaw18.SeqnoTells', WHERE WHAT IT READS IS OF BULK AT MOST 1048576: true; the input reads as it did. -/
def seqnoTellsUptoRow : OpenClaim := { program := "ytcpnflkfaakngaa", sum := "c0d823840814f1f9803746a15789b369fdf81fb4bff04b79e0a3f908fbedc27d", func := "pantler/pantlerlaw18.SeqnoTells", spec := "seqnoTells", apart := false, narrowed := true }
def SeqnoTellsUptoSaid : Prop := seqnoTellsUptoRow.holds Try.pinned (OpenSpec.upto seqnoTellsSpec)

/-- 'pantlerlaw18.SeqnoOffsets', WHERE WHAT IT READS IS OF BULK AT MOST 1048576: true; the input reads as it did. -/
def seqnoOffsetsUptoRow : OpenClaim := { program := "ytcpnflkfaakngaa", sum := "c0d823840814f1f9803746a15789b369fdf81fb4bff04b79e0a3f908fbedc27d", func := "pantler/pantlerlaw18.SeqnoOffsets", spec := "seqnoOffsets", apart := false, narrowed := true }
def SeqnoOffsetsUptoSaid : Prop := seqnoOffsetsUptoRow.holds Try.pinned (OpenSpec.upto seqnoOffsetsSpec)

/-- 'pantlerlaw18.SeqnoBack', WHERE WHAT IT READS IS OF BULK AT MOST 1048576: true; the input reads as it did. -/
def seqnoBackUptoRow : OpenClaim := { program := "ytcpnflkfaakngaa", sum := "c0d823840814f1f9803746a15789b369fdf81fb4bff04b79e0a3f908fbedc27d", func := "pantler/pantlerlaw18.SeqnoBack", spec := "seqnoBack", apart := false, narrowed := true }
def SeqnoBackUptoSaid : Prop := seqnoBackUptoRow.holds Try.pinned (OpenSpec.upto seqnoBackSpec)

/-- 'pantlerlaw18.SeqnoSpan', WHERE WHAT IT READS IS OF BULK AT MOST 1048576: true; the input reads as it did. -/
def seqnoSpanUptoRow : OpenClaim := { program := "ytcpnflkfaakngaa", sum := "c0d823840814f1f9803746a15789b369fdf81fb4bff04b79e0a3f908fbedc27d", func := "pantler/pantlerlaw18.SeqnoSpan", spec := "seqnoSpan", apart := false, narrowed := true }
def SeqnoSpanUptoSaid : Prop := seqnoSpanUptoRow.holds Try.pinned (OpenSpec.upto seqnoSpanSpec)

end Rows
end Go.Proofs.Ytcpnflkfaakngaa
