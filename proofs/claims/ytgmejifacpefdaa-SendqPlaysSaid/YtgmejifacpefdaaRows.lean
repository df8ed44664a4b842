/-
  No cell of these rows narrows 'for every input' (looked for: loops, veiled, ifaces, maps, wideKeys, modest, calm, conditions, laid).
  DERIVED. THE GIVEN ROWS OF THIS SEAT. 4 by the template 'for every input the law returns true; each argument reads behind the call as it read before'; 0 by the template 'total and deterministic' (their statements: YtgmejifacpefdaaTotals.lean).
  GIVEN WITH THE SEED: the statements are not yours to turn. If you find one false, say at which input.
  Laid BY PROGRAM, IN A SANDBOX (cutbox-rows.mjs): the forced cells as the released guide's own fill.sh prints them over the translation 3716afec5efd930a… (all of the seat's roots in one cut). By AI agents, Wed Nov 11 2026. No macro, syntax, notation, axiom, sorry.
-/
import Derived.Test.YtgmejifacpefdaaChecked
import GoSem.Claim
import GoSem.ClaimJoined
import GoSem.ClaimMapViews
import Derived.JoinedTies
import Derived.KernelRfl
namespace Go.Proofs.Ytgmejifacpefdaa
/- THE CELL 'sum', in the pinned program and in every row, IS THE sha256 OF THE DUMP (.gsa) THAT YtgmejifacpefdaaProg.lean LOADS. Nothing in Lean hashes anything: it is a label: what it is worth is what the hold of that sum in a sandbox is worth. -/
noncomputable def Try.pinned : Pinned := { name := "ytgmejifacpefdaa", sum := "3716afec5efd930a4d78efcb5c3fcd7bb45acc7838dc092f25db03ec84628393", checked := Try.checked }
namespace Rows
def none {H : Type} : Left H := { results := [], args := [] }

/-- 'pantlerlaw21.SendqPlays': WHATEVER THE INPUT: true; the input reads as it did. -/
def sendqPlaysSpec : ChangeSpec := { name := "sendqPlays", fn := fun _ => fun
  | [d] => { results := [.lit (.bool true)], args := [d] }
  | _ => none }
def sendqPlaysRow : OpenClaim := { program := "ytgmejifacpefdaa", sum := "3716afec5efd930a4d78efcb5c3fcd7bb45acc7838dc092f25db03ec84628393", func := "pantler/pantlerlaw21.SendqPlays", spec := "sendqPlays", apart := false }
def SendqPlaysSaid : Prop := sendqPlaysRow.holds Try.pinned (OpenSpec.ofChange sendqPlaysSpec)

/-- ITS FALSE NEIGHBOUR: 'it returns false'. Refute it at one input. -/
def sendqPlaysWrong : ChangeSpec := { name := "sendqPlays", fn := fun _ => fun
  | [d] => { results := [.lit (.bool false)], args := [d] }
  | _ => none }
def SendqPlaysWrongFalsely : Prop := sendqPlaysRow.holds Try.pinned (OpenSpec.ofChange sendqPlaysWrong)

/-- 'pantlerlaw21.SendqOnce': WHATEVER THE INPUT: true; the input reads as it did. -/
def sendqOnceSpec : ChangeSpec := { name := "sendqOnce", fn := fun _ => fun
  | [d1, d2] => { results := [.lit (.bool true)], args := [d1, d2] }
  | _ => none }
def sendqOnceRow : OpenClaim := { program := "ytgmejifacpefdaa", sum := "3716afec5efd930a4d78efcb5c3fcd7bb45acc7838dc092f25db03ec84628393", func := "pantler/pantlerlaw21.SendqOnce", spec := "sendqOnce", apart := false }
def SendqOnceSaid : Prop := sendqOnceRow.holds Try.pinned (OpenSpec.ofChange sendqOnceSpec)

/-- ITS FALSE NEIGHBOUR: 'it returns false'. Refute it at one input. -/
def sendqOnceWrong : ChangeSpec := { name := "sendqOnce", fn := fun _ => fun
  | [d1, d2] => { results := [.lit (.bool false)], args := [d1, d2] }
  | _ => none }
def SendqOnceWrongFalsely : Prop := sendqOnceRow.holds Try.pinned (OpenSpec.ofChange sendqOnceWrong)

/-- 'pantlerlaw21.SendqNil': WHATEVER THE INPUT: true; the input reads as it did. -/
def sendqNilSpec : ChangeSpec := { name := "sendqNil", fn := fun _ => fun
  | [d] => { results := [.lit (.bool true)], args := [d] }
  | _ => none }
def sendqNilRow : OpenClaim := { program := "ytgmejifacpefdaa", sum := "3716afec5efd930a4d78efcb5c3fcd7bb45acc7838dc092f25db03ec84628393", func := "pantler/pantlerlaw21.SendqNil", spec := "sendqNil", apart := false }
def SendqNilSaid : Prop := sendqNilRow.holds Try.pinned (OpenSpec.ofChange sendqNilSpec)

/-- ITS FALSE NEIGHBOUR: 'it returns false'. Refute it at one input. -/
def sendqNilWrong : ChangeSpec := { name := "sendqNil", fn := fun _ => fun
  | [d] => { results := [.lit (.bool false)], args := [d] }
  | _ => none }
def SendqNilWrongFalsely : Prop := sendqNilRow.holds Try.pinned (OpenSpec.ofChange sendqNilWrong)

/-- 'pantlerlaw21.SendqSizes': WHATEVER THE INPUT: true; the input reads as it did. -/
def sendqSizesSpec : ChangeSpec := { name := "sendqSizes", fn := fun _ => fun
  | [d1, d2, d3, d4] => { results := [.lit (.bool true)], args := [d1, d2, d3, d4] }
  | _ => none }
def sendqSizesRow : OpenClaim := { program := "ytgmejifacpefdaa", sum := "3716afec5efd930a4d78efcb5c3fcd7bb45acc7838dc092f25db03ec84628393", func := "pantler/pantlerlaw21.SendqSizes", spec := "sendqSizes", apart := false }
def SendqSizesSaid : Prop := sendqSizesRow.holds Try.pinned (OpenSpec.ofChange sendqSizesSpec)

/-- ITS FALSE NEIGHBOUR: 'it returns false'. Refute it at one input. -/
def sendqSizesWrong : ChangeSpec := { name := "sendqSizes", fn := fun _ => fun
  | [d1, d2, d3, d4] => { results := [.lit (.bool false)], args := [d1, d2, d3, d4] }
  | _ => none }
def SendqSizesWrongFalsely : Prop := sendqSizesRow.holds Try.pinned (OpenSpec.ofChange sendqSizesWrong)

/- THE SECOND FORM. 'bulk': how many values and letters a reading holds, each counted each time it is reached (what is shared counts as often as it is met; a slice's spare places count too). A statement '..UptoSaid' is the law's where the arguments, and the package variables that the reading takes, are together of bulk at most 1048576: NARROWER than '..Said'. Prove '..Said' where nothing that the law and all that it calls make is longer than what came in: it says more and counts as full. Else prove '..UptoSaid'. A law counts once. -/
mutual
def uptoBulk {H : Type} : DataW H → Nat
  | .lit (.string bytes) => bytes.length + 1
  | .lit _ => 1
  | .nil => 1
  | .ptr d => uptoBulk d + 1
  | .slice elems spare => uptoBulkAll elems + uptoBulkAll spare + 1
  | .agg parts => uptoBulkAll parts + 1
  | .iface _ d => uptoBulk d + 1
  | .map entries => uptoBulkEntries entries + 1
  | .held _ => 1
def uptoBulkAll {H : Type} : List (DataW H) → Nat
  | [] => 0
  | d :: r => uptoBulk d + uptoBulkAll r
def uptoBulkEntries {H : Type} : List (Lit × DataW H) → Nat
  | [] => 0
  | x :: r => uptoBulkEntry x + uptoBulkEntries r
def uptoBulkEntry {H : Type} : Lit × DataW H → Nat
  | (.string bytes, d) => bytes.length + uptoBulk d + 1
  | (_, d) => uptoBulk d + 1
 end
def uptoSmall : (H : Type) → List (DataW H) → Bool := fun _ ds => decide (uptoBulkAll ds ≤ 1048576)
def OpenSpec.upto (s : _root_.Go.ChangeSpec) : _root_.Go.OpenSpec := { _root_.Go.OpenSpec.ofChange s with cond := some uptoSmall }

/-- 'pantlerlaw21.SendqPlays', WHERE WHAT IT READS IS OF BULK AT MOST 1048576: true; the input reads as it did. -/
def sendqPlaysUptoRow : OpenClaim := { program := "ytgmejifacpefdaa", sum := "3716afec5efd930a4d78efcb5c3fcd7bb45acc7838dc092f25db03ec84628393", func := "pantler/pantlerlaw21.SendqPlays", spec := "sendqPlays", apart := false, narrowed := true }
def SendqPlaysUptoSaid : Prop := sendqPlaysUptoRow.holds Try.pinned (OpenSpec.upto sendqPlaysSpec)

/-- 'pantlerlaw21.SendqOnce', WHERE WHAT IT READS IS OF BULK AT MOST 1048576: true; the input reads as it did. -/
def sendqOnceUptoRow : OpenClaim := { program := "ytgmejifacpefdaa", sum := "3716afec5efd930a4d78efcb5c3fcd7bb45acc7838dc092f25db03ec84628393", func := "pantler/pantlerlaw21.SendqOnce", spec := "sendqOnce", apart := false, narrowed := true }
def SendqOnceUptoSaid : Prop := sendqOnceUptoRow.holds Try.pinned (OpenSpec.upto sendqOnceSpec)

/-- 'pantlerlaw21.SendqNil', WHERE WHAT IT READS IS OF BULK AT MOST 1048576: true; the input reads as it did. -/
def sendqNilUptoRow : OpenClaim := { program := "ytgmejifacpefdaa", sum := "3716afec5efd930a4d78efcb5c3fcd7bb45acc7838dc092f25db03ec84628393", func := "pantler/pantlerlaw21.SendqNil", spec := "sendqNil", apart := false, narrowed := true }
def SendqNilUptoSaid : Prop := sendqNilUptoRow.holds Try.pinned (OpenSpec.upto sendqNilSpec)

/-- 'pantlerlaw21.SendqSizes', WHERE WHAT IT READS IS OF BULK AT MOST 1048576: true; the input reads as it did. -/
def sendqSizesUptoRow : OpenClaim := { program := "ytgmejifacpefdaa", sum := "3716afec5efd930a4d78efcb5c3fcd7bb45acc7838dc092f25db03ec84628393", func := "pantler/pantlerlaw21.SendqSizes", spec := "sendqSizes", apart := false, narrowed := true }
def SendqSizesUptoSaid : Prop := sendqSizesUptoRow.holds Try.pinned (OpenSpec.upto sendqSizesSpec)

end Rows
end Go.Proofs.Ytgmejifacpefdaa
