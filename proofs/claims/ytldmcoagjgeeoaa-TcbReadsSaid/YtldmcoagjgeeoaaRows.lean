/-
  No cell of these rows narrows 'for every input' (looked for: loops, veiled, ifaces, maps, wideKeys, modest, calm, conditions, laid).
  DERIVED. THE GIVEN ROWS OF THIS SEAT. 3 by the template 'for every input the law returns true; each argument reads behind the call as it read before'; 0 by the template 'total and deterministic' (their statements: YtldmcoagjgeeoaaTotals.lean).
  GIVEN WITH THE SEED: the statements are not yours to turn. If you find one false, say at which input.
  Laid BY PROGRAM, IN A SANDBOX (cutbox-rows.mjs): the forced cells as the released guide's own fill.sh prints them over the translation 34a94aae55219d6b… (all of the seat's roots in one cut). By AI agents, Wed Nov 11 2026. No macro, syntax, notation, axiom, sorry.
-/
import Derived.Test.YtldmcoagjgeeoaaChecked
import GoSem.Claim
import GoSem.ClaimJoined
import GoSem.ClaimMapViews
import Derived.JoinedTies
import Derived.KernelRfl
namespace Go.Proofs.Ytldmcoagjgeeoaa
/- THE CELL 'sum', in the pinned program and in every row, IS THE sha256 OF THE DUMP (.gsa) THAT YtldmcoagjgeeoaaProg.lean LOADS. Nothing in Lean hashes anything: it is a label: what it is worth is what the hold of that sum in a sandbox is worth. -/
noncomputable def Try.pinned : Pinned := { name := "ytldmcoagjgeeoaa", sum := "34a94aae55219d6bd6660ae62f8231fe02baf9709c1a4d4508c8e5f8f1851e79", checked := Try.checked }
namespace Rows
def none {H : Type} : Left H := { results := [], args := [] }

/-- 'pantlerlaw22.TcbReads': WHATEVER THE INPUT: true; the input reads as it did. -/
def tcbReadsSpec : ChangeSpec := { name := "tcbReads", fn := fun _ => fun
  | [d1, d2, d3, d4, d5] => { results := [.lit (.bool true)], args := [d1, d2, d3, d4, d5] }
  | _ => none }
def tcbReadsRow : OpenClaim := { program := "ytldmcoagjgeeoaa", sum := "34a94aae55219d6bd6660ae62f8231fe02baf9709c1a4d4508c8e5f8f1851e79", func := "pantler/pantlerlaw22.TcbReads", spec := "tcbReads", apart := false }
def TcbReadsSaid : Prop := tcbReadsRow.holds Try.pinned (OpenSpec.ofChange tcbReadsSpec)

/-- ITS FALSE NEIGHBOUR: 'it returns false'. Refute it at one input. -/
def tcbReadsWrong : ChangeSpec := { name := "tcbReads", fn := fun _ => fun
  | [d1, d2, d3, d4, d5] => { results := [.lit (.bool false)], args := [d1, d2, d3, d4, d5] }
  | _ => none }
def TcbReadsWrongFalsely : Prop := tcbReadsRow.holds Try.pinned (OpenSpec.ofChange tcbReadsWrong)

/-- 'pantlerlaw22.TcbNil': WHATEVER THE INPUT: true; the input reads as it did. -/
def tcbNilSpec : ChangeSpec := { name := "tcbNil", fn := fun _ => fun
  | [d] => { results := [.lit (.bool true)], args := [d] }
  | _ => none }
def tcbNilRow : OpenClaim := { program := "ytldmcoagjgeeoaa", sum := "34a94aae55219d6bd6660ae62f8231fe02baf9709c1a4d4508c8e5f8f1851e79", func := "pantler/pantlerlaw22.TcbNil", spec := "tcbNil", apart := false }
def TcbNilSaid : Prop := tcbNilRow.holds Try.pinned (OpenSpec.ofChange tcbNilSpec)

/-- ITS FALSE NEIGHBOUR: 'it returns false'. Refute it at one input. -/
def tcbNilWrong : ChangeSpec := { name := "tcbNil", fn := fun _ => fun
  | [d] => { results := [.lit (.bool false)], args := [d] }
  | _ => none }
def TcbNilWrongFalsely : Prop := tcbNilRow.holds Try.pinned (OpenSpec.ofChange tcbNilWrong)

/-- 'pantlerlaw22.TcbShakes': WHATEVER THE INPUT: true; the input reads as it did. -/
def tcbShakesSpec : ChangeSpec := { name := "tcbShakes", fn := fun _ => fun
  | [d1, d2, d3, d4, d5] => { results := [.lit (.bool true)], args := [d1, d2, d3, d4, d5] }
  | _ => none }
def tcbShakesRow : OpenClaim := { program := "ytldmcoagjgeeoaa", sum := "34a94aae55219d6bd6660ae62f8231fe02baf9709c1a4d4508c8e5f8f1851e79", func := "pantler/pantlerlaw22.TcbShakes", spec := "tcbShakes", apart := false }
def TcbShakesSaid : Prop := tcbShakesRow.holds Try.pinned (OpenSpec.ofChange tcbShakesSpec)

/-- ITS FALSE NEIGHBOUR: 'it returns false'. Refute it at one input. -/
def tcbShakesWrong : ChangeSpec := { name := "tcbShakes", fn := fun _ => fun
  | [d1, d2, d3, d4, d5] => { results := [.lit (.bool false)], args := [d1, d2, d3, d4, d5] }
  | _ => none }
def TcbShakesWrongFalsely : Prop := tcbShakesRow.holds Try.pinned (OpenSpec.ofChange tcbShakesWrong)

/- THE SECOND FORM. 'bulk': how many values and letters a reading holds, each counted each time it is reached (what is shared counts as often as it is met; a slice's spare places count too). A statement '..UptoSaid' is the law's where the arguments, and the package variables that the reading takes, are together of bulk at most 1048576: NARROWER than '..Said'. Prove '..Said' where nothing that the law and all that it calls make is longer than what came in: it says more and counts as full. Else prove '..UptoSaid'. A law counts once. -/
mutual
def uptoBulk {H : Type} : DataW H → Nat
  | .lit (.string bytes) => bytes.length + 1
  | .lit _ => 1
  | .nil => 1
  | .ptr d => uptoBulk d + 1
  | .slice elems spare => uptoBulkAll elems + uptoBulkAll spare + 1
  | .agg parts => uptoBulkAll parts + 1
  | .iface _ d => uptoBulk d + 1
  | .map entries => uptoBulkEntries entries + 1
  | .held _ => 1
def uptoBulkAll {H : Type} : List (DataW H) → Nat
  | [] => 0
  | d :: r => uptoBulk d + uptoBulkAll r
def uptoBulkEntries {H : Type} : List (Lit × DataW H) → Nat
  | [] => 0
  | x :: r => uptoBulkEntry x + uptoBulkEntries r
def uptoBulkEntry {H : Type} : Lit × DataW H → Nat
  | (.string bytes, d) => bytes.length + uptoBulk d + 1
  | (_, d) => uptoBulk d + 1
 end
def uptoSmall : (H : Type) → List (DataW H) → Bool := fun _ ds => decide (uptoBulkAll ds ≤ 1048576)
def OpenSpec.upto (s : _root_.Go.ChangeSpec) : _root_.Go.OpenSpec := { _root_.Go.OpenSpec.ofChange s with cond := some uptoSmall }

/-- 'pantlerlaw22.TcbReads', WHERE WHAT IT READS IS OF BULK AT MOST 1048576: true; the input reads as it did. -/
def tcbReadsUptoRow : OpenClaim := { program := "ytldmcoagjgeeoaa", sum := "34a94aae55219d6bd6660ae62f8231fe02baf9709c1a4d4508c8e5f8f1851e79", func := "pantler/pantlerlaw22.TcbReads", spec := "tcbReads", apart := false, narrowed := true }
def TcbReadsUptoSaid : Prop := tcbReadsUptoRow.holds Try.pinned (OpenSpec.upto tcbReadsSpec)

/-- 'pantlerlaw22.TcbNil', WHERE WHAT IT READS IS OF BULK AT MOST 1048576: true; the input reads as it did. -/
def tcbNilUptoRow : OpenClaim := { program := "ytldmcoagjgeeoaa", sum := "34a94aae55219d6bd6660ae62f8231fe02baf9709c1a4d4508c8e5f8f1851e79", func := "pantler/pantlerlaw22.TcbNil", spec := "tcbNil", apart := false, narrowed := true }
def TcbNilUptoSaid : Prop := tcbNilUptoRow.holds Try.pinned (OpenSpec.upto tcbNilSpec)

/-- 'pantlerlaw22.TcbShakes', WHERE WHAT IT READS IS OF BULK AT MOST 1048576: true; the input reads as it did. -/
def tcbShakesUptoRow : OpenClaim := { program := "ytldmcoagjgeeoaa", sum := "34a94aae55219d6bd6660ae62f8231fe02baf9709c1a4d4508c8e5f8f1851e79", func := "pantler/pantlerlaw22.TcbShakes", spec := "tcbShakes", apart := false, narrowed := true }
def TcbShakesUptoSaid : Prop := tcbShakesUptoRow.holds Try.pinned (OpenSpec.upto tcbShakesSpec)

end Rows
end Go.Proofs.Ytldmcoagjgeeoaa
