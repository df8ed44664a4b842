/-
  DERIVED. GIVEN WITH THE SEED: THE CARDS: each row of YtjjoohmfeglicaaDoorRows.lean that lists a variable, with what it lists TIED to the program's text (the seventh form; the later family's looks); each row that meets fmt, with fmt's text TOLD by the authors' own Lean function (tested against real Go, not proved from fmt's source: count such statements apart). THE CARD IS WHAT COUNTS. Prove the row's statement (the work); the ties are given (YtjjoohmfeglicaaDoorTie.lean); close each card by the builder's one call (the guide's Derived/Test/ToyasCard.lean, 'card_holds'). Laid BY PROGRAM, IN A SANDBOX (cutbox-door.mjs). By AI agents, Wed Nov 11 2026. No macro, syntax, notation, axiom, sorry.
-/
import Derived.Test.YtjjoohmfeglicaaDoorRows
import GoSem.ClaimSeven
namespace Go.Proofs.YtjjoohmfeglicaaDoor
namespace Rows

/-- THE TIED CARD OF 'pantlerlaw11.InodeBack'. -/
def inodeBackCard : Claim7 := { stood := { row := inodeBackRow, standIns := [], harness := (true, "e1aa72193bb7e0c8004ece5b776a8a1b28bb44ec771985f8b0e043ec10520152"), looks := false }, kinds := [], alts := [], laidByText := true, laidKinds := [.data, .pinned], laidTests := true, laidLooks := .later }
def InodeBackCardSaid : Prop := Claim7.holds Tryd.pinned (.plain (OpenSpec.ofChange inodeBackSpec)) inodeBackCard

/-- THE TIED CARD OF 'pantlerlaw11.InodeKinds'. -/
def inodeKindsCard : Claim7 := { stood := { row := inodeKindsRow, standIns := [], harness := (true, "e1aa72193bb7e0c8004ece5b776a8a1b28bb44ec771985f8b0e043ec10520152"), looks := false }, kinds := [], alts := [], laidByText := true, laidKinds := [.data, .pinned], laidTests := true, laidLooks := .later }
def InodeKindsCardSaid : Prop := Claim7.holds Tryd.pinned (.plain (OpenSpec.ofChange inodeKindsSpec)) inodeKindsCard

/-- THE SECOND FORM's CARD OF 'pantlerlaw11.InodeBack'. -/
def inodeBackUptoCard : Claim7 := { stood := { row := inodeBackUptoRow, standIns := [], harness := (true, "e1aa72193bb7e0c8004ece5b776a8a1b28bb44ec771985f8b0e043ec10520152"), looks := false }, kinds := [], alts := [], laidByText := true, laidKinds := [.data, .pinned], laidTests := true, laidLooks := .later }
def InodeBackUptoCardSaid : Prop := Claim7.holds Tryd.pinned (.plain (OpenSpec.upto inodeBackSpec)) inodeBackUptoCard

/-- THE SECOND FORM's CARD OF 'pantlerlaw11.InodeKinds'. -/
def inodeKindsUptoCard : Claim7 := { stood := { row := inodeKindsUptoRow, standIns := [], harness := (true, "e1aa72193bb7e0c8004ece5b776a8a1b28bb44ec771985f8b0e043ec10520152"), looks := false }, kinds := [], alts := [], laidByText := true, laidKinds := [.data, .pinned], laidTests := true, laidLooks := .later }
def InodeKindsUptoCardSaid : Prop := Claim7.holds Tryd.pinned (.plain (OpenSpec.upto inodeKindsSpec)) inodeKindsUptoCard
end Rows
end Go.Proofs.YtjjoohmfeglicaaDoor
