/-
  DERIVED. GIVEN WITH THE SEED: THE CARDS: each row of YtjhbllbiajmkgaaDoorRows.lean that lists a variable, with what it lists TIED to the program's text (the seventh form; the later family's looks); each row that meets fmt, with fmt's text TOLD by the authors' own Lean function (tested against real Go, not proved from fmt's source: count such statements apart). THE CARD IS WHAT COUNTS. Prove the row's statement (the work); the ties are given (YtjhbllbiajmkgaaDoorTie.lean); close each card by the builder's one call (the guide's Derived/Test/ToyasCard.lean, 'card_holds'). Laid BY PROGRAM, IN A SANDBOX (cutbox-door.mjs). By AI agents, Wed Nov 11 2026. No macro, syntax, notation, axiom, sorry.
-/
import Derived.Test.YtjhbllbiajmkgaaDoorRows
import GoSem.ClaimSeven
namespace Go.Proofs.YtjhbllbiajmkgaaDoor
namespace Rows

/-- THE TIED CARD OF 'pantlerlaw10.PathNames'. -/
def pathNamesCard : Claim7 := { stood := { row := pathNamesRow, standIns := [], harness := (true, "a190c57b041ab42fcd0809c8cec426ae227acae8c544906ff49073647525cc49"), looks := true }, kinds := [], alts := [], laidByText := true, laidKinds := [.data, .data, .data, .data, .sentinel, .sentinel, .pinned], laidTests := true, laidLooks := .later }
def PathNamesCardSaid : Prop := Claim7.holds Tryd.pinned (.plain (OpenSpec.ofChange pathNamesSpec)) pathNamesCard

/-- THE TIED CARD OF 'pantlerlaw10.PathTargets'. -/
def pathTargetsCard : Claim7 := { stood := { row := pathTargetsRow, standIns := [], harness := (true, "a190c57b041ab42fcd0809c8cec426ae227acae8c544906ff49073647525cc49"), looks := true }, kinds := [], alts := [], laidByText := true, laidKinds := [.data, .data, .data, .data, .sentinel, .sentinel, .pinned], laidTests := true, laidLooks := .later }
def PathTargetsCardSaid : Prop := Claim7.holds Tryd.pinned (.plain (OpenSpec.ofChange pathTargetsSpec)) pathTargetsCard

/-- THE TIED CARD OF 'pantlerlaw10.PathBack'. -/
def pathBackCard : Claim7 := { stood := { row := pathBackRow, standIns := [], harness := (true, "a190c57b041ab42fcd0809c8cec426ae227acae8c544906ff49073647525cc49"), looks := true }, kinds := [], alts := [], laidByText := true, laidKinds := [.data, .data, .data, .data, .sentinel, .sentinel, .pinned], laidTests := true, laidLooks := .later }
def PathBackCardSaid : Prop := Claim7.holds Tryd.pinned (.plain (OpenSpec.ofChange pathBackSpec)) pathBackCard

/-- THE TIED CARD OF 'pantlerlaw10.PathHex'. -/
def pathHexCard : Claim7 := { stood := { row := pathHexRow, standIns := [], harness := (true, "a190c57b041ab42fcd0809c8cec426ae227acae8c544906ff49073647525cc49"), looks := true }, kinds := [], alts := [], laidByText := true, laidKinds := [.data, .data, .data, .data, .sentinel, .sentinel, .pinned], laidTests := true, laidLooks := .later }
def PathHexCardSaid : Prop := Claim7.holds Tryd.pinned (.plain (OpenSpec.ofChange pathHexSpec)) pathHexCard

/-- THE TIED CARD OF 'pantlerlaw10.PathKinds'. -/
def pathKindsCard : Claim7 := { stood := { row := pathKindsRow, standIns := [], harness := (true, "a190c57b041ab42fcd0809c8cec426ae227acae8c544906ff49073647525cc49"), looks := true }, kinds := [], alts := [], laidByText := true, laidKinds := [.data, .data, .data, .data, .sentinel, .sentinel, .pinned], laidTests := true, laidLooks := .later }
def PathKindsCardSaid : Prop := Claim7.holds Tryd.pinned (.plain (OpenSpec.ofChange pathKindsSpec)) pathKindsCard

/-- THE SECOND FORM's CARD OF 'pantlerlaw10.PathNames'. -/
def pathNamesUptoCard : Claim7 := { stood := { row := pathNamesUptoRow, standIns := [], harness := (true, "a190c57b041ab42fcd0809c8cec426ae227acae8c544906ff49073647525cc49"), looks := true }, kinds := [], alts := [], laidByText := true, laidKinds := [.data, .data, .data, .data, .sentinel, .sentinel, .pinned], laidTests := true, laidLooks := .later }
def PathNamesUptoCardSaid : Prop := Claim7.holds Tryd.pinned (.plain (OpenSpec.upto pathNamesSpec)) pathNamesUptoCard

/-- THE SECOND FORM's CARD OF 'pantlerlaw10.PathTargets'. -/
def pathTargetsUptoCard : Claim7 := { stood := { row := pathTargetsUptoRow, standIns := [], harness := (true, "a190c57b041ab42fcd0809c8cec426ae227acae8c544906ff49073647525cc49"), looks := true }, kinds := [], alts := [], laidByText := true, laidKinds := [.data, .data, .data, .data, .sentinel, .sentinel, .pinned], laidTests := true, laidLooks := .later }
def PathTargetsUptoCardSaid : Prop := Claim7.holds Tryd.pinned (.plain (OpenSpec.upto pathTargetsSpec)) pathTargetsUptoCard

/-- THE SECOND FORM's CARD OF 'pantlerlaw10.PathBack'. -/
def pathBackUptoCard : Claim7 := { stood := { row := pathBackUptoRow, standIns := [], harness := (true, "a190c57b041ab42fcd0809c8cec426ae227acae8c544906ff49073647525cc49"), looks := true }, kinds := [], alts := [], laidByText := true, laidKinds := [.data, .data, .data, .data, .sentinel, .sentinel, .pinned], laidTests := true, laidLooks := .later }
def PathBackUptoCardSaid : Prop := Claim7.holds Tryd.pinned (.plain (OpenSpec.upto pathBackSpec)) pathBackUptoCard

/-- THE SECOND FORM's CARD OF 'pantlerlaw10.PathHex'. -/
def pathHexUptoCard : Claim7 := { stood := { row := pathHexUptoRow, standIns := [], harness := (true, "a190c57b041ab42fcd0809c8cec426ae227acae8c544906ff49073647525cc49"), looks := true }, kinds := [], alts := [], laidByText := true, laidKinds := [.data, .data, .data, .data, .sentinel, .sentinel, .pinned], laidTests := true, laidLooks := .later }
def PathHexUptoCardSaid : Prop := Claim7.holds Tryd.pinned (.plain (OpenSpec.upto pathHexSpec)) pathHexUptoCard

/-- THE SECOND FORM's CARD OF 'pantlerlaw10.PathKinds'. -/
def pathKindsUptoCard : Claim7 := { stood := { row := pathKindsUptoRow, standIns := [], harness := (true, "a190c57b041ab42fcd0809c8cec426ae227acae8c544906ff49073647525cc49"), looks := true }, kinds := [], alts := [], laidByText := true, laidKinds := [.data, .data, .data, .data, .sentinel, .sentinel, .pinned], laidTests := true, laidLooks := .later }
def PathKindsUptoCardSaid : Prop := Claim7.holds Tryd.pinned (.plain (OpenSpec.upto pathKindsSpec)) pathKindsUptoCard
end Rows
end Go.Proofs.YtjhbllbiajmkgaaDoor
