/-
  No cell of these rows narrows 'for every input' (looked for: loops, veiled, ifaces, maps, wideKeys, modest, calm, conditions, laid).
  DERIVED. THE GIVEN ROWS OF THIS SEAT. 5 by the template 'for every input the law returns true; each argument reads behind the call as it read before'; 0 by the template 'total and deterministic' (their statements: YtahmdogpnojcpaaTotals.lean).
  GIVEN WITH THE SEED: the statements are not yours to turn. If you find one false, say at which input.
  Laid BY PROGRAM, IN A SANDBOX (cutbox-rows.mjs): the forced cells as the released guide's own fill.sh prints them over the translation 6659a3008d2db804… (all of the seat's roots in one cut). By AI agents, Wed Nov 11 2026. No macro, syntax, notation, axiom, sorry.
-/
import Derived.Test.YtahmdogpnojcpaaChecked
import GoSem.Claim
import GoSem.ClaimJoined
import GoSem.ClaimMapViews
import Derived.JoinedTies
import Derived.KernelRfl
namespace Go.Proofs.Ytahmdogpnojcpaa
/- THE CELL 'sum', in the pinned program and in every row, IS THE sha256 OF THE DUMP (.gsa) THAT YtahmdogpnojcpaaProg.lean LOADS. Nothing in Lean hashes anything: it is a label: what it is worth is what the hold of that sum in a sandbox is worth. -/
noncomputable def Try.pinned : Pinned := { name := "ytahmdogpnojcpaa", sum := "6659a3008d2db80477bdbb726acaf603ca2619de232804c2aa0522c6539810f2", checked := Try.checked }
namespace Rows
def none {H : Type} : Left H := { results := [], args := [] }

/-- 'pantlerlaw14.EthBytes': WHATEVER THE INPUT: true; the input reads as it did. -/
def ethBytesSpec : ChangeSpec := { name := "ethBytes", fn := fun _ => fun
  | [d1, d2] => { results := [.lit (.bool true)], args := [d1, d2] }
  | _ => none }
def ethBytesRow : OpenClaim := { program := "ytahmdogpnojcpaa", sum := "6659a3008d2db80477bdbb726acaf603ca2619de232804c2aa0522c6539810f2", func := "pantler/pantlerlaw14.EthBytes", spec := "ethBytes", apart := false }
def EthBytesSaid : Prop := ethBytesRow.holds Try.pinned (OpenSpec.ofChange ethBytesSpec)

/-- ITS FALSE NEIGHBOUR: 'it returns false'. Refute it at one input. -/
def ethBytesWrong : ChangeSpec := { name := "ethBytes", fn := fun _ => fun
  | [d1, d2] => { results := [.lit (.bool false)], args := [d1, d2] }
  | _ => none }
def EthBytesWrongFalsely : Prop := ethBytesRow.holds Try.pinned (OpenSpec.ofChange ethBytesWrong)

/-- 'pantlerlaw14.EthAsks': WHATEVER THE INPUT: true; the input reads as it did. -/
def ethAsksSpec : ChangeSpec := { name := "ethAsks", fn := fun _ => fun
  | [d1, d2] => { results := [.lit (.bool true)], args := [d1, d2] }
  | _ => none }
def ethAsksRow : OpenClaim := { program := "ytahmdogpnojcpaa", sum := "6659a3008d2db80477bdbb726acaf603ca2619de232804c2aa0522c6539810f2", func := "pantler/pantlerlaw14.EthAsks", spec := "ethAsks", apart := false }
def EthAsksSaid : Prop := ethAsksRow.holds Try.pinned (OpenSpec.ofChange ethAsksSpec)

/-- ITS FALSE NEIGHBOUR: 'it returns false'. Refute it at one input. -/
def ethAsksWrong : ChangeSpec := { name := "ethAsks", fn := fun _ => fun
  | [d1, d2] => { results := [.lit (.bool false)], args := [d1, d2] }
  | _ => none }
def EthAsksWrongFalsely : Prop := ethAsksRow.holds Try.pinned (OpenSpec.ofChange ethAsksWrong)

/-- 'pantlerlaw14.EthAnswers': WHATEVER THE INPUT: true; the input reads as it did. -/
def ethAnswersSpec : ChangeSpec := { name := "ethAnswers", fn := fun _ => fun
  | [d1, d2] => { results := [.lit (.bool true)], args := [d1, d2] }
  | _ => none }
def ethAnswersRow : OpenClaim := { program := "ytahmdogpnojcpaa", sum := "6659a3008d2db80477bdbb726acaf603ca2619de232804c2aa0522c6539810f2", func := "pantler/pantlerlaw14.EthAnswers", spec := "ethAnswers", apart := false }
def EthAnswersSaid : Prop := ethAnswersRow.holds Try.pinned (OpenSpec.ofChange ethAnswersSpec)

/-- ITS FALSE NEIGHBOUR: 'it returns false'. Refute it at one input. -/
def ethAnswersWrong : ChangeSpec := { name := "ethAnswers", fn := fun _ => fun
  | [d1, d2] => { results := [.lit (.bool false)], args := [d1, d2] }
  | _ => none }
def EthAnswersWrongFalsely : Prop := ethAnswersRow.holds Try.pinned (OpenSpec.ofChange ethAnswersWrong)

/-- 'pantlerlaw14.EthBack': WHATEVER THE INPUT: true; the input reads as it did. -/
def ethBackSpec : ChangeSpec := { name := "ethBack", fn := fun _ => fun
  | [d1, d2, d3, d4] => { results := [.lit (.bool true)], args := [d1, d2, d3, d4] }
  | _ => none }
def ethBackRow : OpenClaim := { program := "ytahmdogpnojcpaa", sum := "6659a3008d2db80477bdbb726acaf603ca2619de232804c2aa0522c6539810f2", func := "pantler/pantlerlaw14.EthBack", spec := "ethBack", apart := false }
def EthBackSaid : Prop := ethBackRow.holds Try.pinned (OpenSpec.ofChange ethBackSpec)

/-- ITS FALSE NEIGHBOUR: 'it returns false'. Refute it at one input. -/
def ethBackWrong : ChangeSpec := { name := "ethBack", fn := fun _ => fun
  | [d1, d2, d3, d4] => { results := [.lit (.bool false)], args := [d1, d2, d3, d4] }
  | _ => none }
def EthBackWrongFalsely : Prop := ethBackRow.holds Try.pinned (OpenSpec.ofChange ethBackWrong)

/-- 'pantlerlaw14.EthHeads': WHATEVER THE INPUT: true; the input reads as it did. -/
def ethHeadsSpec : ChangeSpec := { name := "ethHeads", fn := fun _ => fun
  | [d1, d2, d3] => { results := [.lit (.bool true)], args := [d1, d2, d3] }
  | _ => none }
def ethHeadsRow : OpenClaim := { program := "ytahmdogpnojcpaa", sum := "6659a3008d2db80477bdbb726acaf603ca2619de232804c2aa0522c6539810f2", func := "pantler/pantlerlaw14.EthHeads", spec := "ethHeads", apart := false }
def EthHeadsSaid : Prop := ethHeadsRow.holds Try.pinned (OpenSpec.ofChange ethHeadsSpec)

/-- ITS FALSE NEIGHBOUR: 'it returns false'. Refute it at one input. -/
def ethHeadsWrong : ChangeSpec := { name := "ethHeads", fn := fun _ => fun
  | [d1, d2, d3] => { results := [.lit (.bool false)], args := [d1, d2, d3] }
  | _ => none }
def EthHeadsWrongFalsely : Prop := ethHeadsRow.holds Try.pinned (OpenSpec.ofChange ethHeadsWrong)

/- THE SECOND FORM. 'bulk': how many values and letters a reading holds, each counted each time it is reached (what is shared counts as often as it is met; a slice's spare places count too). A statement '..UptoSaid' is the law's where the arguments, and the package variables that the reading takes, are together of bulk at most 1048576: NARROWER than '..Said'. Prove '..Said' where nothing that the law and all that it calls make is longer than what came in: it says more and counts as full. Else prove '..UptoSaid'. A law counts once. -/
mutual
def uptoBulk {H : Type} : DataW H → Nat
  | .lit (.string bytes) => bytes.length + 1
  | .lit _ => 1
  | .nil => 1
  | .ptr d => uptoBulk d + 1
  | .slice elems spare => uptoBulkAll elems + uptoBulkAll spare + 1
  | .agg parts => uptoBulkAll parts + 1
  | .iface _ d => uptoBulk d + 1
  | .map entries => uptoBulkEntries entries + 1
  | .held _ => 1
def uptoBulkAll {H : Type} : List (DataW H) → Nat
  | [] => 0
  | d :: r => uptoBulk d + uptoBulkAll r
def uptoBulkEntries {H : Type} : List (Lit × DataW H) → Nat
  | [] => 0
  | x :: r => uptoBulkEntry x + uptoBulkEntries r
def uptoBulkEntry {H : Type} : Lit × DataW H → Nat
  | (.string bytes, d) => bytes.length + uptoBulk d + 1
  | (_, d) => uptoBulk d + 1
 end
def uptoSmall : (H : Type) → List (DataW H) → Bool := fun _ ds => decide (uptoBulkAll ds ≤ 1048576)
def OpenSpec.upto (s : _root_.Go.ChangeSpec) : _root_.Go.OpenSpec := { _root_.Go.OpenSpec.ofChange s with cond := some uptoSmall }

/-- 'pantlerlaw14.EthBytes', WHERE WHAT IT READS IS OF BULK AT MOST 1048576: true; the input reads as it did. -/
def ethBytesUptoRow : OpenClaim := { program := "ytahmdogpnojcpaa", sum := "6659a3008d2db80477bdbb726acaf603ca2619de232804c2aa0522c6539810f2", func := "pantler/pantlerlaw14.EthBytes", spec := "ethBytes", apart := false, narrowed := true }
def EthBytesUptoSaid : Prop := ethBytesUptoRow.holds Try.pinned (OpenSpec.upto ethBytesSpec)

/-- 'pantlerlaw14.EthAsks', WHERE WHAT IT READS IS OF BULK AT MOST 1048576: true; the input reads as it did. -/
def ethAsksUptoRow : OpenClaim := { program := "ytahmdogpnojcpaa", sum := "6659a3008d2db80477bdbb726acaf603ca2619de232804c2aa0522c6539810f2", func := "pantler/pantlerlaw14.EthAsks", spec := "ethAsks", apart := false, narrowed := true }
def EthAsksUptoSaid : Prop := ethAsksUptoRow.holds Try.pinned (OpenSpec.upto ethAsksSpec)

/-- 'pantlerlaw14.EthAnswers', WHERE WHAT IT READS IS OF BULK AT MOST 1048576: true; the input reads as it did. -/
def ethAnswersUptoRow : OpenClaim := { program := "ytahmdogpnojcpaa", sum := "6659a3008d2db80477bdbb726acaf603ca2619de232804c2aa0522c6539810f2", func := "pantler/pantlerlaw14.EthAnswers", spec := "ethAnswers", apart := false, narrowed := true }
def EthAnswersUptoSaid : Prop := ethAnswersUptoRow.holds Try.pinned (OpenSpec.upto ethAnswersSpec)

/-- 'pantlerlaw14.EthBack', WHERE WHAT IT READS IS OF BULK AT MOST 1048576: true; the input reads as it did. -/
def ethBackUptoRow : OpenClaim := { program := "ytahmdogpnojcpaa", sum := "6659a3008d2db80477bdbb726acaf603ca2619de232804c2aa0522c6539810f2", func := "pantler/pantlerlaw14.EthBack", spec := "ethBack", apart := false, narrowed := true }
def EthBackUptoSaid : Prop := ethBackUptoRow.holds Try.pinned (OpenSpec.upto ethBackSpec)

/-- 'pantlerlaw14.EthHeads', WHERE WHAT IT READS IS OF BULK AT MOST 1048576: true; the input reads as it did. -/
def ethHeadsUptoRow : OpenClaim := { program := "ytahmdogpnojcpaa", sum := "6659a3008d2db80477bdbb726acaf603ca2619de232804c2aa0522c6539810f2", func := "pantler/pantlerlaw14.EthHeads", spec := "ethHeads", apart := false, narrowed := true }
def EthHeadsUptoSaid : Prop := ethHeadsUptoRow.holds Try.pinned (OpenSpec.upto ethHeadsSpec)

end Rows
end Go.Proofs.Ytahmdogpnojcpaa
