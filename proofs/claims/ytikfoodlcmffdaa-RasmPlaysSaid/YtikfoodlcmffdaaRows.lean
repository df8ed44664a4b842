/-
  No cell of these rows narrows 'for every input' (looked for: loops, veiled, ifaces, maps, wideKeys, modest, calm, conditions, laid).
  DERIVED. THE GIVEN ROWS OF THIS SEAT. 4 by the template 'for every input the law returns true; each argument reads behind the call as it read before'; 0 by the template 'total and deterministic' (their statements: YtikfoodlcmffdaaTotals.lean).
  GIVEN WITH THE SEED: the statements are not yours to turn. If you find one false, say at which input.
  Laid BY PROGRAM, IN A SANDBOX (cutbox-rows.mjs): the forced cells as the released guide's own fill.sh prints them over the translation f2245177d5d1c10e… (all of the seat's roots in one cut). By AI agents, Wed Nov 11 2026. No macro, syntax, notation, axiom, sorry.
-/
import Derived.Test.YtikfoodlcmffdaaChecked
import GoSem.Claim
import GoSem.ClaimJoined
import GoSem.ClaimMapViews
import Derived.JoinedTies
import Derived.KernelRfl
namespace Go.Proofs.Ytikfoodlcmffdaa
/- THE CELL 'sum', in the pinned program and in every row, IS THE sha256 OF THE DUMP (.gsa) THAT YtikfoodlcmffdaaProg.lean LOADS. Nothing in Lean hashes anything: it is a label: what it is worth is what the hold of that sum in a sandbox is worth. -/
noncomputable def Try.pinned : Pinned := { name := "ytikfoodlcmffdaa", sum := "f2245177d5d1c10e253a726feed0f0d9643e204f0545e2c8b94c2397c2402b41", checked := Try.checked }
namespace Rows
def none {H : Type} : Left H := { results := [], args := [] }

/-- 'pantlerlaw19.RasmPlays': WHATEVER THE INPUT: true; the input reads as it did. -/
def rasmPlaysSpec : ChangeSpec := { name := "rasmPlays", fn := fun _ => fun
  | [d1, d2] => { results := [.lit (.bool true)], args := [d1, d2] }
  | _ => none }
def rasmPlaysRow : OpenClaim := { program := "ytikfoodlcmffdaa", sum := "f2245177d5d1c10e253a726feed0f0d9643e204f0545e2c8b94c2397c2402b41", func := "pantler/pantlerlaw19.RasmPlays", spec := "rasmPlays", apart := false }
def RasmPlaysSaid : Prop := rasmPlaysRow.holds Try.pinned (OpenSpec.ofChange rasmPlaysSpec)

/-- ITS FALSE NEIGHBOUR: 'it returns false'. Refute it at one input. -/
def rasmPlaysWrong : ChangeSpec := { name := "rasmPlays", fn := fun _ => fun
  | [d1, d2] => { results := [.lit (.bool false)], args := [d1, d2] }
  | _ => none }
def RasmPlaysWrongFalsely : Prop := rasmPlaysRow.holds Try.pinned (OpenSpec.ofChange rasmPlaysWrong)

/-- 'pantlerlaw19.RasmStream': WHATEVER THE INPUT: true; the input reads as it did. -/
def rasmStreamSpec : ChangeSpec := { name := "rasmStream", fn := fun _ => fun
  | [d1, d2, d3, d4] => { results := [.lit (.bool true)], args := [d1, d2, d3, d4] }
  | _ => none }
def rasmStreamRow : OpenClaim := { program := "ytikfoodlcmffdaa", sum := "f2245177d5d1c10e253a726feed0f0d9643e204f0545e2c8b94c2397c2402b41", func := "pantler/pantlerlaw19.RasmStream", spec := "rasmStream", apart := false }
def RasmStreamSaid : Prop := rasmStreamRow.holds Try.pinned (OpenSpec.ofChange rasmStreamSpec)

/-- ITS FALSE NEIGHBOUR: 'it returns false'. Refute it at one input. -/
def rasmStreamWrong : ChangeSpec := { name := "rasmStream", fn := fun _ => fun
  | [d1, d2, d3, d4] => { results := [.lit (.bool false)], args := [d1, d2, d3, d4] }
  | _ => none }
def RasmStreamWrongFalsely : Prop := rasmStreamRow.holds Try.pinned (OpenSpec.ofChange rasmStreamWrong)

/-- 'pantlerlaw19.RasmNil': WHATEVER THE INPUT: true; the input reads as it did. -/
def rasmNilSpec : ChangeSpec := { name := "rasmNil", fn := fun _ => fun
  | [d1, d2] => { results := [.lit (.bool true)], args := [d1, d2] }
  | _ => none }
def rasmNilRow : OpenClaim := { program := "ytikfoodlcmffdaa", sum := "f2245177d5d1c10e253a726feed0f0d9643e204f0545e2c8b94c2397c2402b41", func := "pantler/pantlerlaw19.RasmNil", spec := "rasmNil", apart := false }
def RasmNilSaid : Prop := rasmNilRow.holds Try.pinned (OpenSpec.ofChange rasmNilSpec)

/-- ITS FALSE NEIGHBOUR: 'it returns false'. Refute it at one input. -/
def rasmNilWrong : ChangeSpec := { name := "rasmNil", fn := fun _ => fun
  | [d1, d2] => { results := [.lit (.bool false)], args := [d1, d2] }
  | _ => none }
def RasmNilWrongFalsely : Prop := rasmNilRow.holds Try.pinned (OpenSpec.ofChange rasmNilWrong)

/-- 'pantlerlaw19.RasmFirst': WHATEVER THE INPUT: true; the input reads as it did. -/
def rasmFirstSpec : ChangeSpec := { name := "rasmFirst", fn := fun _ => fun
  | [d1, d2, d3, d4] => { results := [.lit (.bool true)], args := [d1, d2, d3, d4] }
  | _ => none }
def rasmFirstRow : OpenClaim := { program := "ytikfoodlcmffdaa", sum := "f2245177d5d1c10e253a726feed0f0d9643e204f0545e2c8b94c2397c2402b41", func := "pantler/pantlerlaw19.RasmFirst", spec := "rasmFirst", apart := false }
def RasmFirstSaid : Prop := rasmFirstRow.holds Try.pinned (OpenSpec.ofChange rasmFirstSpec)

/-- ITS FALSE NEIGHBOUR: 'it returns false'. Refute it at one input. -/
def rasmFirstWrong : ChangeSpec := { name := "rasmFirst", fn := fun _ => fun
  | [d1, d2, d3, d4] => { results := [.lit (.bool false)], args := [d1, d2, d3, d4] }
  | _ => none }
def RasmFirstWrongFalsely : Prop := rasmFirstRow.holds Try.pinned (OpenSpec.ofChange rasmFirstWrong)

/- THE SECOND FORM. 'bulk': how many values and letters a reading holds, each counted each time it is reached (what is shared counts as often as it is met; a slice's spare places count too). A statement '..UptoSaid' is the law's where the arguments, and the package variables that the reading takes, are together of bulk at most 1048576: NARROWER than '..Said'. Prove '..Said' where nothing that the law and all that it calls make is longer than what came in: it says more and counts as full. Else prove '..UptoSaid'. A law counts once. -/
mutual
def uptoBulk {H : Type} : DataW H → Nat
  | .lit (.string bytes) => bytes.length + 1
  | .lit _ => 1
  | .nil => 1
  | .ptr d => uptoBulk d + 1
  | .slice elems spare => uptoBulkAll elems + uptoBulkAll spare + 1
  | .agg parts => uptoBulkAll parts + 1
  | .iface _ d => uptoBulk d + 1
  | .map entries => uptoBulkEntries entries + 1
  | .held _ => 1
def uptoBulkAll {H : Type} : List (DataW H) → Nat
  | [] => 0
  | d :: r => uptoBulk d + uptoBulkAll r
def uptoBulkEntries {H : Type} : List (Lit × DataW H) → Nat
  | [] => 0
  | x :: r => uptoBulkEntry x + uptoBulkEntries r
def uptoBulkEntry {H : Type} : Lit × DataW H → Nat
  | (.string bytes, d) => bytes.length + uptoBulk d + 1
  | (_, d) => uptoBulk d + 1
 end
def uptoSmall : (H : Type) → List (DataW H) → Bool := fun _ ds => decide (uptoBulkAll ds ≤ 1048576)
def OpenSpec.upto (s : _root_.Go.ChangeSpec) : _root_.Go.OpenSpec := { _root_.Go.OpenSpec.ofChange s with cond := some uptoSmall }

/-- 'pantlerlaw19.RasmPlays', WHERE WHAT IT READS IS OF BULK AT MOST 1048576: true; the input reads as it did. -/
def rasmPlaysUptoRow : OpenClaim := { program := "ytikfoodlcmffdaa", sum := "f2245177d5d1c10e253a726feed0f0d9643e204f0545e2c8b94c2397c2402b41", func := "pantler/pantlerlaw19.RasmPlays", spec := "rasmPlays", apart := false, narrowed := true }
def RasmPlaysUptoSaid : Prop := rasmPlaysUptoRow.holds Try.pinned (OpenSpec.upto rasmPlaysSpec)

/-- 'pantlerlaw19.RasmStream', WHERE WHAT IT READS IS OF BULK AT MOST 1048576: true; the input reads as it did. -/
def rasmStreamUptoRow : OpenClaim := { program := "ytikfoodlcmffdaa", sum := "f2245177d5d1c10e253a726feed0f0d9643e204f0545e2c8b94c2397c2402b41", func := "pantler/pantlerlaw19.RasmStream", spec := "rasmStream", apart := false, narrowed := true }
def RasmStreamUptoSaid : Prop := rasmStreamUptoRow.holds Try.pinned (OpenSpec.upto rasmStreamSpec)

/-- 'pantlerlaw19.RasmNil', WHERE WHAT IT READS IS OF BULK AT MOST 1048576: true; the input reads as it did. -/
def rasmNilUptoRow : OpenClaim := { program := "ytikfoodlcmffdaa", sum := "f2245177d5d1c10e253a726feed0f0d9643e204f0545e2c8b94c2397c2402b41", func := "pantler/pantlerlaw19.RasmNil", spec := "rasmNil", apart := false, narrowed := true }
def RasmNilUptoSaid : Prop := rasmNilUptoRow.holds Try.pinned (OpenSpec.upto rasmNilSpec)

/-- 'pantlerlaw19.RasmFirst', WHERE WHAT IT READS IS OF BULK AT MOST 1048576: true; the input reads as it did. -/
def rasmFirstUptoRow : OpenClaim := { program := "ytikfoodlcmffdaa", sum := "f2245177d5d1c10e253a726feed0f0d9643e204f0545e2c8b94c2397c2402b41", func := "pantler/pantlerlaw19.RasmFirst", spec := "rasmFirst", apart := false, narrowed := true }
def RasmFirstUptoSaid : Prop := rasmFirstUptoRow.holds Try.pinned (OpenSpec.upto rasmFirstSpec)

end Rows
end Go.Proofs.Ytikfoodlcmffdaa
