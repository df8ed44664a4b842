/-
  No cell of these rows narrows 'for every input' (looked for: loops, veiled, ifaces, maps, wideKeys, modest, calm, conditions, laid).
  DERIVED. THE GIVEN ROWS OF THIS SEAT. 3 by the template 'for every input the law returns true; each argument reads behind the call as it read before'; 0 by the template 'total and deterministic' (their statements: YtmalkimhngealaaTotals.lean).
  GIVEN WITH THE SEED: the statements are not yours to turn. If you find one false, say at which input.
  Laid BY PROGRAM, IN A SANDBOX (cutbox-rows.mjs): the forced cells as the released guide's own fill.sh prints them over the translation cd58395ef27ee072… (all of the seat's roots in one cut). By AI agents, Wed Nov 11 2026. No macro, syntax, notation, axiom, sorry.
-/
import Derived.Test.YtmalkimhngealaaChecked
import GoSem.Claim
import GoSem.ClaimJoined
import GoSem.ClaimMapViews
import Derived.JoinedTies
import Derived.KernelRfl
namespace Go.Proofs.Ytmalkimhngealaa
/- THE CELL 'sum', in the pinned program and in every row, IS THE sha256 OF THE DUMP (.gsa) THAT YtmalkimhngealaaProg.lean LOADS. Nothing in Lean hashes anything: it is a label: what it is worth is what the hold of that sum in a sandbox is worth. -/
noncomputable def Try.pinned : Pinned := { name := "ytmalkimhngealaa", sum := "cd58395ef27ee07299f51ef652cb4c0c512a5d09b11c26675f3101d429a09b3f", checked := Try.checked }
namespace Rows
def none {H : Type} : Left H := { results := [], args := [] }

/-- 'pantlerlaw07.FilterHosts': WHATEVER THE INPUT: true; the input reads as it did. -/
def filterHostsSpec : ChangeSpec := { name := "filterHosts", fn := fun _ => fun
  | [d1, d2] => { results := [.lit (.bool true)], args := [d1, d2] }
  | _ => none }
def filterHostsRow : OpenClaim := { program := "ytmalkimhngealaa", sum := "cd58395ef27ee07299f51ef652cb4c0c512a5d09b11c26675f3101d429a09b3f", func := "pantler/pantlerlaw07.FilterHosts", spec := "filterHosts", apart := false }
def FilterHostsSaid : Prop := filterHostsRow.holds Try.pinned (OpenSpec.ofChange filterHostsSpec)

/-- ITS FALSE NEIGHBOUR: 'it returns false'. Refute it at one input. -/
def filterHostsWrong : ChangeSpec := { name := "filterHosts", fn := fun _ => fun
  | [d1, d2] => { results := [.lit (.bool false)], args := [d1, d2] }
  | _ => none }
def FilterHostsWrongFalsely : Prop := filterHostsRow.holds Try.pinned (OpenSpec.ofChange filterHostsWrong)

/-- 'pantlerlaw07.FilterEnds': WHATEVER THE INPUT: true; the input reads as it did. -/
def filterEndsSpec : ChangeSpec := { name := "filterEnds", fn := fun _ => fun
  | [d1, d2, d3] => { results := [.lit (.bool true)], args := [d1, d2, d3] }
  | _ => none }
def filterEndsRow : OpenClaim := { program := "ytmalkimhngealaa", sum := "cd58395ef27ee07299f51ef652cb4c0c512a5d09b11c26675f3101d429a09b3f", func := "pantler/pantlerlaw07.FilterEnds", spec := "filterEnds", apart := false }
def FilterEndsSaid : Prop := filterEndsRow.holds Try.pinned (OpenSpec.ofChange filterEndsSpec)

/-- ITS FALSE NEIGHBOUR: 'it returns false'. Refute it at one input. -/
def filterEndsWrong : ChangeSpec := { name := "filterEnds", fn := fun _ => fun
  | [d1, d2, d3] => { results := [.lit (.bool false)], args := [d1, d2, d3] }
  | _ => none }
def FilterEndsWrongFalsely : Prop := filterEndsRow.holds Try.pinned (OpenSpec.ofChange filterEndsWrong)

/-- 'pantlerlaw07.FilterTail': WHATEVER THE INPUT: true; the input reads as it did. -/
def filterTailSpec : ChangeSpec := { name := "filterTail", fn := fun _ => fun
  | [d1, d2, d3] => { results := [.lit (.bool true)], args := [d1, d2, d3] }
  | _ => none }
def filterTailRow : OpenClaim := { program := "ytmalkimhngealaa", sum := "cd58395ef27ee07299f51ef652cb4c0c512a5d09b11c26675f3101d429a09b3f", func := "pantler/pantlerlaw07.FilterTail", spec := "filterTail", apart := false }
def FilterTailSaid : Prop := filterTailRow.holds Try.pinned (OpenSpec.ofChange filterTailSpec)

/-- ITS FALSE NEIGHBOUR: 'it returns false'. Refute it at one input. -/
def filterTailWrong : ChangeSpec := { name := "filterTail", fn := fun _ => fun
  | [d1, d2, d3] => { results := [.lit (.bool false)], args := [d1, d2, d3] }
  | _ => none }
def FilterTailWrongFalsely : Prop := filterTailRow.holds Try.pinned (OpenSpec.ofChange filterTailWrong)

/- THE SECOND FORM. 'bulk': how many values and letters a reading holds, each counted each time it is reached (what is shared counts as often as it is met; a slice's spare places count too). A statement '..UptoSaid' is the law's where the arguments, and the package variables that the reading takes, are together of bulk at most 1048576: NARROWER than '..Said'. Prove '..Said' where nothing that the law and all that it calls make is longer than what came in: it says more and counts as full. Else prove '..UptoSaid'. A law counts once. -/
mutual
def uptoBulk {H : Type} : DataW H → Nat
  | .lit (.string bytes) => bytes.length + 1
  | .lit _ => 1
  | .nil => 1
  | .ptr d => uptoBulk d + 1
  | .slice elems spare => uptoBulkAll elems + uptoBulkAll spare + 1
  | .agg parts => uptoBulkAll parts + 1
  | .iface _ d => uptoBulk d + 1
  | .map entries => uptoBulkEntries entries + 1
  | .held _ => 1
def uptoBulkAll {H : Type} : List (DataW H) → Nat
  | [] => 0
  | d :: r => uptoBulk d + uptoBulkAll r
def uptoBulkEntries {H : Type} : List (Lit × DataW H) → Nat
  | [] => 0
  | x :: r => uptoBulkEntry x + uptoBulkEntries r
def uptoBulkEntry {H : Type} : Lit × DataW H → Nat
  | (.string bytes, d) => bytes.length + uptoBulk d + 1
  | (_, d) => uptoBulk d + 1
 end
def uptoSmall : (H : Type) → List (DataW H) → Bool := fun _ ds => decide (uptoBulkAll ds ≤ 1048576)
def OpenSpec.upto (s : _root_.Go.ChangeSpec) : _root_.Go.OpenSpec := { _root_.Go.OpenSpec.ofChange s with cond := some uptoSmall }

/-- 'pantlerlaw07.FilterHosts', WHERE WHAT IT READS IS OF BULK AT MOST 1048576: true; the input reads as it did. -/
def filterHostsUptoRow : OpenClaim := { program := "ytmalkimhngealaa", sum := "cd58395ef27ee07299f51ef652cb4c0c512a5d09b11c26675f3101d429a09b3f", func := "pantler/pantlerlaw07.FilterHosts", spec := "filterHosts", apart := false, narrowed := true }
def FilterHostsUptoSaid : Prop := filterHostsUptoRow.holds Try.pinned (OpenSpec.upto filterHostsSpec)

/-- 'pantlerlaw07.FilterEnds', WHERE WHAT IT READS IS OF BULK AT MOST 1048576: true; the input reads as it did. -/
def filterEndsUptoRow : OpenClaim := { program := "ytmalkimhngealaa", sum := "cd58395ef27ee07299f51ef652cb4c0c512a5d09b11c26675f3101d429a09b3f", func := "pantler/pantlerlaw07.FilterEnds", spec := "filterEnds", apart := false, narrowed := true }
def FilterEndsUptoSaid : Prop := filterEndsUptoRow.holds Try.pinned (OpenSpec.upto filterEndsSpec)

/-- 'pantlerlaw07.FilterTail', WHERE WHAT IT READS IS OF BULK AT MOST 1048576: true; the input reads as it did. -/
def filterTailUptoRow : OpenClaim := { program := "ytmalkimhngealaa", sum := "cd58395ef27ee07299f51ef652cb4c0c512a5d09b11c26675f3101d429a09b3f", func := "pantler/pantlerlaw07.FilterTail", spec := "filterTail", apart := false, narrowed := true }
def FilterTailUptoSaid : Prop := filterTailUptoRow.holds Try.pinned (OpenSpec.upto filterTailSpec)

end Rows
end Go.Proofs.Ytmalkimhngealaa
