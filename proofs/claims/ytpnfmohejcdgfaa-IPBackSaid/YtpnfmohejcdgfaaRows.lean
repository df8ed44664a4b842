/-
  No cell of these rows narrows 'for every input' (looked for: loops, veiled, ifaces, maps, wideKeys, modest, calm, conditions, laid).
  DERIVED. THE GIVEN ROWS OF THIS SEAT. 5 by the template 'for every input the law returns true; each argument reads behind the call as it read before'; 0 by the template 'total and deterministic' (their statements: YtpnfmohejcdgfaaTotals.lean).
  GIVEN WITH THE SEED: the statements are not yours to turn. If you find one false, say at which input.
  Laid BY PROGRAM, IN A SANDBOX (cutbox-rows.mjs): the forced cells as the released guide's own fill.sh prints them over the translation f49f6f4ca9632b6d… (all of the seat's roots in one cut). By AI agents, Wed Nov 11 2026. No macro, syntax, notation, axiom, sorry.
-/
import Derived.Test.YtpnfmohejcdgfaaChecked
import GoSem.Claim
import GoSem.ClaimJoined
import GoSem.ClaimMapViews
import Derived.JoinedTies
import Derived.KernelRfl
namespace Go.Proofs.Ytpnfmohejcdgfaa
/- THE CELL 'sum', in the pinned program and in every row, IS THE sha256 OF THE DUMP (.gsa) THAT YtpnfmohejcdgfaaProg.lean LOADS. Nothing in Lean hashes anything: it is a label: what it is worth is what the hold of that sum in a sandbox is worth. -/
noncomputable def Try.pinned : Pinned := { name := "ytpnfmohejcdgfaa", sum := "f49f6f4ca9632b6d8ca68815ed4c00cafa924feb211479196ed88c986da22b0d", checked := Try.checked }
namespace Rows
def none {H : Type} : Left H := { results := [], args := [] }

/-- 'pantlerlaw15.IPBytes': WHATEVER THE INPUT: true; the input reads as it did. -/
def iPBytesSpec : ChangeSpec := { name := "iPBytes", fn := fun _ => fun
  | [d1, d2] => { results := [.lit (.bool true)], args := [d1, d2] }
  | _ => none }
def iPBytesRow : OpenClaim := { program := "ytpnfmohejcdgfaa", sum := "f49f6f4ca9632b6d8ca68815ed4c00cafa924feb211479196ed88c986da22b0d", func := "pantler/pantlerlaw15.IPBytes", spec := "iPBytes", inPlace := ["math.archFloor", "math.Float64bits", "math.Float64frombits", "math.archTrunc"], apart := false }
def IPBytesSaid : Prop := iPBytesRow.holds Try.pinned (OpenSpec.ofChange iPBytesSpec)

/-- ITS FALSE NEIGHBOUR: 'it returns false'. Refute it at one input. -/
def iPBytesWrong : ChangeSpec := { name := "iPBytes", fn := fun _ => fun
  | [d1, d2] => { results := [.lit (.bool false)], args := [d1, d2] }
  | _ => none }
def IPBytesWrongFalsely : Prop := iPBytesRow.holds Try.pinned (OpenSpec.ofChange iPBytesWrong)

/-- 'pantlerlaw15.IPParses': WHATEVER THE INPUT: true; the input reads as it did. -/
def iPParsesSpec : ChangeSpec := { name := "iPParses", fn := fun _ => fun
  | [d] => { results := [.lit (.bool true)], args := [d] }
  | _ => none }
def iPParsesRow : OpenClaim := { program := "ytpnfmohejcdgfaa", sum := "f49f6f4ca9632b6d8ca68815ed4c00cafa924feb211479196ed88c986da22b0d", func := "pantler/pantlerlaw15.IPParses", spec := "iPParses", inPlace := ["math.archFloor", "math.Float64bits", "math.Float64frombits", "math.archTrunc"], apart := false }
def IPParsesSaid : Prop := iPParsesRow.holds Try.pinned (OpenSpec.ofChange iPParsesSpec)

/-- ITS FALSE NEIGHBOUR: 'it returns false'. Refute it at one input. -/
def iPParsesWrong : ChangeSpec := { name := "iPParses", fn := fun _ => fun
  | [d] => { results := [.lit (.bool false)], args := [d] }
  | _ => none }
def IPParsesWrongFalsely : Prop := iPParsesRow.holds Try.pinned (OpenSpec.ofChange iPParsesWrong)

/-- 'pantlerlaw15.IPPseudo': WHATEVER THE INPUT: true; the input reads as it did. -/
def iPPseudoSpec : ChangeSpec := { name := "iPPseudo", fn := fun _ => fun
  | [d1, d2, d3, d4] => { results := [.lit (.bool true)], args := [d1, d2, d3, d4] }
  | _ => none }
def iPPseudoRow : OpenClaim := { program := "ytpnfmohejcdgfaa", sum := "f49f6f4ca9632b6d8ca68815ed4c00cafa924feb211479196ed88c986da22b0d", func := "pantler/pantlerlaw15.IPPseudo", spec := "iPPseudo", inPlace := ["math.archFloor", "math.Float64bits", "math.Float64frombits", "math.archTrunc"], apart := false }
def IPPseudoSaid : Prop := iPPseudoRow.holds Try.pinned (OpenSpec.ofChange iPPseudoSpec)

/-- ITS FALSE NEIGHBOUR: 'it returns false'. Refute it at one input. -/
def iPPseudoWrong : ChangeSpec := { name := "iPPseudo", fn := fun _ => fun
  | [d1, d2, d3, d4] => { results := [.lit (.bool false)], args := [d1, d2, d3, d4] }
  | _ => none }
def IPPseudoWrongFalsely : Prop := iPPseudoRow.holds Try.pinned (OpenSpec.ofChange iPPseudoWrong)

/-- 'pantlerlaw15.IPBack': WHATEVER THE INPUT: true; the input reads as it did. -/
def iPBackSpec : ChangeSpec := { name := "iPBack", fn := fun _ => fun
  | [d1, d2, d3, d4] => { results := [.lit (.bool true)], args := [d1, d2, d3, d4] }
  | _ => none }
def iPBackRow : OpenClaim := { program := "ytpnfmohejcdgfaa", sum := "f49f6f4ca9632b6d8ca68815ed4c00cafa924feb211479196ed88c986da22b0d", func := "pantler/pantlerlaw15.IPBack", spec := "iPBack", inPlace := ["math.archFloor", "math.Float64bits", "math.Float64frombits", "math.archTrunc"], apart := false }
def IPBackSaid : Prop := iPBackRow.holds Try.pinned (OpenSpec.ofChange iPBackSpec)

/-- ITS FALSE NEIGHBOUR: 'it returns false'. Refute it at one input. -/
def iPBackWrong : ChangeSpec := { name := "iPBack", fn := fun _ => fun
  | [d1, d2, d3, d4] => { results := [.lit (.bool false)], args := [d1, d2, d3, d4] }
  | _ => none }
def IPBackWrongFalsely : Prop := iPBackRow.holds Try.pinned (OpenSpec.ofChange iPBackWrong)

/-- 'pantlerlaw15.IPCut': WHATEVER THE INPUT: true; the input reads as it did. -/
def iPCutSpec : ChangeSpec := { name := "iPCut", fn := fun _ => fun
  | [d1, d2] => { results := [.lit (.bool true)], args := [d1, d2] }
  | _ => none }
def iPCutRow : OpenClaim := { program := "ytpnfmohejcdgfaa", sum := "f49f6f4ca9632b6d8ca68815ed4c00cafa924feb211479196ed88c986da22b0d", func := "pantler/pantlerlaw15.IPCut", spec := "iPCut", inPlace := ["math.archFloor", "math.Float64bits", "math.Float64frombits", "math.archTrunc"], apart := false }
def IPCutSaid : Prop := iPCutRow.holds Try.pinned (OpenSpec.ofChange iPCutSpec)

/-- ITS FALSE NEIGHBOUR: 'it returns false'. Refute it at one input. -/
def iPCutWrong : ChangeSpec := { name := "iPCut", fn := fun _ => fun
  | [d1, d2] => { results := [.lit (.bool false)], args := [d1, d2] }
  | _ => none }
def IPCutWrongFalsely : Prop := iPCutRow.holds Try.pinned (OpenSpec.ofChange iPCutWrong)

/- THE SECOND FORM. 'bulk': how many values and letters a reading holds, each counted each time it is reached (what is shared counts as often as it is met; a slice's spare places count too). A statement '..UptoSaid' is the law's where the arguments, and the package variables that the reading takes, are together of bulk at most 1048576: NARROWER than '..Said'. Prove '..Said' where nothing that the law and all that it calls make is longer than what came in: it says more and counts as full. Else prove '..UptoSaid'. A law counts once. -/
mutual
def uptoBulk {H : Type} : DataW H → Nat
  | .lit (.string bytes) => bytes.length + 1
  | .lit _ => 1
  | .nil => 1
  | .ptr d => uptoBulk d + 1
  | .slice elems spare => uptoBulkAll elems + uptoBulkAll spare + 1
  | .agg parts => uptoBulkAll parts + 1
  | .iface _ d => uptoBulk d + 1
  | .map entries => uptoBulkEntries entries + 1
  | .held _ => 1
def uptoBulkAll {H : Type} : List (DataW H) → Nat
  | [] => 0
  | d :: r => uptoBulk d + uptoBulkAll r
def uptoBulkEntries {H : Type} : List (Lit × DataW H) → Nat
  | [] => 0
  | x :: r => uptoBulkEntry x + uptoBulkEntries r
def uptoBulkEntry {H : Type} : Lit × DataW H → Nat
  | (.string bytes, d) => bytes.length + uptoBulk d + 1
  | (_, d) => uptoBulk d + 1
 end
def uptoSmall : (H : Type) → List (DataW H) → Bool := fun _ ds => decide (uptoBulkAll ds ≤ 1048576)
def OpenSpec.upto (s : _root_.Go.ChangeSpec) : _root_.Go.OpenSpec := { _root_.Go.OpenSpec.ofChange s with cond := some uptoSmall }

/-- 'pantlerlaw15.IPBytes', WHERE WHAT IT READS IS OF BULK AT MOST 1048576: true; the input reads as it did. -/
def iPBytesUptoRow : OpenClaim := { program := "ytpnfmohejcdgfaa", sum := "f49f6f4ca9632b6d8ca68815ed4c00cafa924feb211479196ed88c986da22b0d", func := "pantler/pantlerlaw15.IPBytes", spec := "iPBytes", inPlace := ["math.archFloor", "math.Float64bits", "math.Float64frombits", "math.archTrunc"], apart := false, narrowed := true }
def IPBytesUptoSaid : Prop := iPBytesUptoRow.holds Try.pinned (OpenSpec.upto iPBytesSpec)

/-- 'pantlerlaw15.IPParses', WHERE WHAT IT READS IS OF BULK AT MOST 1048576: true; the input reads as it did. -/
def iPParsesUptoRow : OpenClaim := { program := "ytpnfmohejcdgfaa", sum := "f49f6f4ca9632b6d8ca68815ed4c00cafa924feb211479196ed88c986da22b0d", func := "pantler/pantlerlaw15.IPParses", spec := "iPParses", inPlace := ["math.archFloor", "math.Float64bits", "math.Float64frombits", "math.archTrunc"], apart := false, narrowed := true }
def IPParsesUptoSaid : Prop := iPParsesUptoRow.holds Try.pinned (OpenSpec.upto iPParsesSpec)

/-- 'pantlerlaw15.IPPseudo', WHERE WHAT IT READS IS OF BULK AT MOST 1048576: true; the input reads as it did. -/
def iPPseudoUptoRow : OpenClaim := { program := "ytpnfmohejcdgfaa", sum := "f49f6f4ca9632b6d8ca68815ed4c00cafa924feb211479196ed88c986da22b0d", func := "pantler/pantlerlaw15.IPPseudo", spec := "iPPseudo", inPlace := ["math.archFloor", "math.Float64bits", "math.Float64frombits", "math.archTrunc"], apart := false, narrowed := true }
def IPPseudoUptoSaid : Prop := iPPseudoUptoRow.holds Try.pinned (OpenSpec.upto iPPseudoSpec)

/-- 'pantlerlaw15.IPBack', WHERE WHAT IT READS IS OF BULK AT MOST 1048576: true; the input reads as it did. -/
def iPBackUptoRow : OpenClaim := { program := "ytpnfmohejcdgfaa", sum := "f49f6f4ca9632b6d8ca68815ed4c00cafa924feb211479196ed88c986da22b0d", func := "pantler/pantlerlaw15.IPBack", spec := "iPBack", inPlace := ["math.archFloor", "math.Float64bits", "math.Float64frombits", "math.archTrunc"], apart := false, narrowed := true }
def IPBackUptoSaid : Prop := iPBackUptoRow.holds Try.pinned (OpenSpec.upto iPBackSpec)

/-- 'pantlerlaw15.IPCut', WHERE WHAT IT READS IS OF BULK AT MOST 1048576: true; the input reads as it did. -/
def iPCutUptoRow : OpenClaim := { program := "ytpnfmohejcdgfaa", sum := "f49f6f4ca9632b6d8ca68815ed4c00cafa924feb211479196ed88c986da22b0d", func := "pantler/pantlerlaw15.IPCut", spec := "iPCut", inPlace := ["math.archFloor", "math.Float64bits", "math.Float64frombits", "math.archTrunc"], apart := false, narrowed := true }
def IPCutUptoSaid : Prop := iPCutUptoRow.holds Try.pinned (OpenSpec.upto iPCutSpec)

end Rows
end Go.Proofs.Ytpnfmohejcdgfaa
