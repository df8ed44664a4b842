/-
  No cell of these rows narrows 'for every input' (looked for: loops, veiled, ifaces, maps, wideKeys, modest, calm, conditions, laid).
  DERIVED. THE GIVEN ROWS OF THIS SEAT. 3 by the template 'for every input the law returns true; each argument reads behind the call as it read before'; 0 by the template 'total and deterministic' (their statements: YtlekcbgpjeiolaaTotals.lean).
  GIVEN WITH THE SEED: the statements are not yours to turn. If you find one false, say at which input.
  Laid BY PROGRAM, IN A SANDBOX (cutbox-rows.mjs): the forced cells as the released guide's own fill.sh prints them over the translation 4803b1784b452e31… (all of the seat's roots in one cut). By AI agents, Wed Nov 11 2026. No macro, syntax, notation, axiom, sorry.
-/
import Derived.Test.YtlekcbgpjeiolaaChecked
import GoSem.Claim
import GoSem.ClaimJoined
import GoSem.ClaimMapViews
import Derived.JoinedTies
import Derived.KernelRfl
namespace Go.Proofs.Ytlekcbgpjeiolaa
/- THE CELL 'sum', in the pinned program and in every row, IS THE sha256 OF THE DUMP (.gsa) THAT YtlekcbgpjeiolaaProg.lean LOADS. Nothing in Lean hashes anything: it is a label: what it is worth is what the hold of that sum in a sandbox is worth. -/
noncomputable def Try.pinned : Pinned := { name := "ytlekcbgpjeiolaa", sum := "4803b1784b452e310d45ab1c5c698340e851e87993d392b15d0137c141cbc9c0", checked := Try.checked }
namespace Rows
def none {H : Type} : Left H := { results := [], args := [] }

/-- 'pantlerlaw20.RtoPlays': WHATEVER THE INPUT: true; the input reads as it did. -/
def rtoPlaysSpec : ChangeSpec := { name := "rtoPlays", fn := fun _ => fun
  | [d] => { results := [.lit (.bool true)], args := [d] }
  | _ => none }
def rtoPlaysRow : OpenClaim := { program := "ytlekcbgpjeiolaa", sum := "4803b1784b452e310d45ab1c5c698340e851e87993d392b15d0137c141cbc9c0", func := "pantler/pantlerlaw20.RtoPlays", spec := "rtoPlays", apart := false }
def RtoPlaysSaid : Prop := rtoPlaysRow.holds Try.pinned (OpenSpec.ofChange rtoPlaysSpec)

/-- ITS FALSE NEIGHBOUR: 'it returns false'. Refute it at one input. -/
def rtoPlaysWrong : ChangeSpec := { name := "rtoPlays", fn := fun _ => fun
  | [d] => { results := [.lit (.bool false)], args := [d] }
  | _ => none }
def RtoPlaysWrongFalsely : Prop := rtoPlaysRow.holds Try.pinned (OpenSpec.ofChange rtoPlaysWrong)

/-- 'pantlerlaw20.RtoEnds': WHATEVER THE INPUT: true; the input reads as it did. -/
def rtoEndsSpec : ChangeSpec := { name := "rtoEnds", fn := fun _ => fun
  | [d1, d2] => { results := [.lit (.bool true)], args := [d1, d2] }
  | _ => none }
def rtoEndsRow : OpenClaim := { program := "ytlekcbgpjeiolaa", sum := "4803b1784b452e310d45ab1c5c698340e851e87993d392b15d0137c141cbc9c0", func := "pantler/pantlerlaw20.RtoEnds", spec := "rtoEnds", apart := false }
def RtoEndsSaid : Prop := rtoEndsRow.holds Try.pinned (OpenSpec.ofChange rtoEndsSpec)

/-- ITS FALSE NEIGHBOUR: 'it returns false'. Refute it at one input. -/
def rtoEndsWrong : ChangeSpec := { name := "rtoEnds", fn := fun _ => fun
  | [d1, d2] => { results := [.lit (.bool false)], args := [d1, d2] }
  | _ => none }
def RtoEndsWrongFalsely : Prop := rtoEndsRow.holds Try.pinned (OpenSpec.ofChange rtoEndsWrong)

/-- 'pantlerlaw20.RtoNil': WHATEVER THE INPUT: true; the input reads as it did. -/
def rtoNilSpec : ChangeSpec := { name := "rtoNil", fn := fun _ => fun
  | [d] => { results := [.lit (.bool true)], args := [d] }
  | _ => none }
def rtoNilRow : OpenClaim := { program := "ytlekcbgpjeiolaa", sum := "4803b1784b452e310d45ab1c5c698340e851e87993d392b15d0137c141cbc9c0", func := "pantler/pantlerlaw20.RtoNil", spec := "rtoNil", apart := false }
def RtoNilSaid : Prop := rtoNilRow.holds Try.pinned (OpenSpec.ofChange rtoNilSpec)

/-- ITS FALSE NEIGHBOUR: 'it returns false'. Refute it at one input. -/
def rtoNilWrong : ChangeSpec := { name := "rtoNil", fn := fun _ => fun
  | [d] => { results := [.lit (.bool false)], args := [d] }
  | _ => none }
def RtoNilWrongFalsely : Prop := rtoNilRow.holds Try.pinned (OpenSpec.ofChange rtoNilWrong)

/- THE SECOND FORM. 'bulk': how many values and letters a reading holds, each counted each time it is reached (what is shared counts as often as it is met; a slice's spare places count too). A statement '..UptoSaid' is the law's where the arguments, and the package variables that the reading takes, are together of bulk at most 1048576: NARROWER than '..Said'. Prove '..Said' where nothing that the law and all that it calls make is longer than what came in: it says more and counts as full. Else prove '..UptoSaid'. A law counts once. -/
mutual
def uptoBulk {H : Type} : DataW H → Nat
  | .lit (.string bytes) => bytes.length + 1
  | .lit _ => 1
  | .nil => 1
  | .ptr d => uptoBulk d + 1
  | .slice elems spare => uptoBulkAll elems + uptoBulkAll spare + 1
  | .agg parts => uptoBulkAll parts + 1
  | .iface _ d => uptoBulk d + 1
  | .map entries => uptoBulkEntries entries + 1
  | .held _ => 1
def uptoBulkAll {H : Type} : List (DataW H) → Nat
  | [] => 0
  | d :: r => uptoBulk d + uptoBulkAll r
def uptoBulkEntries {H : Type} : List (Lit × DataW H) → Nat
  | [] => 0
  | x :: r => uptoBulkEntry x + uptoBulkEntries r
def uptoBulkEntry {H : Type} : Lit × DataW H → Nat
  | (.string bytes, d) => bytes.length + uptoBulk d + 1
  | (_, d) => uptoBulk d + 1
 end
def uptoSmall : (H : Type) → List (DataW H) → Bool := fun _ ds => decide (uptoBulkAll ds ≤ 1048576)
def OpenSpec.upto (s : _root_.Go.ChangeSpec) : _root_.Go.OpenSpec := { _root_.Go.OpenSpec.ofChange s with cond := some uptoSmall }

/-- 'pantlerlaw20.RtoPlays', WHERE WHAT IT READS IS OF BULK AT MOST 1048576: true; the input reads as it did. -/
def rtoPlaysUptoRow : OpenClaim := { program := "ytlekcbgpjeiolaa", sum := "4803b1784b452e310d45ab1c5c698340e851e87993d392b15d0137c141cbc9c0", func := "pantler/pantlerlaw20.RtoPlays", spec := "rtoPlays", apart := false, narrowed := true }
def RtoPlaysUptoSaid : Prop := rtoPlaysUptoRow.holds Try.pinned (OpenSpec.upto rtoPlaysSpec)

/-- 'pantlerlaw20.RtoEnds', WHERE WHAT IT READS IS OF BULK AT MOST 1048576: true; the input reads as it did. -/
def rtoEndsUptoRow : OpenClaim := { program := "ytlekcbgpjeiolaa", sum := "4803b1784b452e310d45ab1c5c698340e851e87993d392b15d0137c141cbc9c0", func := "pantler/pantlerlaw20.RtoEnds", spec := "rtoEnds", apart := false, narrowed := true }
def RtoEndsUptoSaid : Prop := rtoEndsUptoRow.holds Try.pinned (OpenSpec.upto rtoEndsSpec)

/-- 'pantlerlaw20.RtoNil', WHERE WHAT IT READS IS OF BULK AT MOST 1048576: true; the input reads as it did. -/
def rtoNilUptoRow : OpenClaim := { program := "ytlekcbgpjeiolaa", sum := "4803b1784b452e310d45ab1c5c698340e851e87993d392b15d0137c141cbc9c0", func := "pantler/pantlerlaw20.RtoNil", spec := "rtoNil", apart := false, narrowed := true }
def RtoNilUptoSaid : Prop := rtoNilUptoRow.holds Try.pinned (OpenSpec.upto rtoNilSpec)

end Rows
end Go.Proofs.Ytlekcbgpjeiolaa
