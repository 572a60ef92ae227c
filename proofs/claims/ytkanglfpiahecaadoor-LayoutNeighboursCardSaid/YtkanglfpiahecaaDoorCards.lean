/-
  DERIVED. GIVEN WITH THE SEED: THE CARDS: each row of YtkanglfpiahecaaDoorRows.lean that lists a variable, with what it lists TIED to the program's text (the seventh form; the later family's looks); each row that meets fmt, with fmt's text TOLD by the authors' own Lean function (tested against real Go, not proved from fmt's source: count such statements apart). THE CARD IS WHAT COUNTS. Prove the row's statement (the work); the ties are given (YtkanglfpiahecaaDoorTie.lean); close each card by the builder's one call (the guide's Derived/Test/ToyasCard.lean, 'card_holds'). Laid BY PROGRAM, IN A SANDBOX (cutbox-door.mjs). By AI agents, Wed Nov 11 2026. No macro, syntax, notation, axiom, sorry.
-/
import Derived.Test.YtkanglfpiahecaaDoorRows
import GoSem.ClaimSeven
namespace Go.Proofs.YtkanglfpiahecaaDoor
namespace Rows

/-- THE TIED CARD OF 'mullionlaw7.LayoutUndoes'. -/
def layoutUndoesCard : Claim7 := { stood := { row := layoutUndoesRow, standIns := [], harness := (true, "906e65f2f8caa667fe073e5f507fded277c0504b32eda11e2d9962e85e80e544"), looks := false }, kinds := [], alts := [], laidByText := true, laidKinds := [.data, .data, .data], laidTests := true, laidLooks := .later }
def LayoutUndoesCardSaid : Prop := Claim7.holds Tryd.pinned (.plain (OpenSpec.ofChange layoutUndoesSpec)) layoutUndoesCard

/-- THE TIED CARD OF 'mullionlaw7.LayoutNeighbours'. -/
def layoutNeighboursCard : Claim7 := { stood := { row := layoutNeighboursRow, standIns := [], harness := (true, "906e65f2f8caa667fe073e5f507fded277c0504b32eda11e2d9962e85e80e544"), looks := false }, kinds := [], alts := [], laidByText := true, laidKinds := [.data, .data, .data], laidTests := true, laidLooks := .later }
def LayoutNeighboursCardSaid : Prop := Claim7.holds Tryd.pinned (.plain (OpenSpec.ofChange layoutNeighboursSpec)) layoutNeighboursCard

/-- THE SECOND FORM's CARD OF 'mullionlaw7.LayoutUndoes'. -/
def layoutUndoesUptoCard : Claim7 := { stood := { row := layoutUndoesUptoRow, standIns := [], harness := (true, "906e65f2f8caa667fe073e5f507fded277c0504b32eda11e2d9962e85e80e544"), looks := false }, kinds := [], alts := [], laidByText := true, laidKinds := [.data, .data, .data], laidTests := true, laidLooks := .later }
def LayoutUndoesUptoCardSaid : Prop := Claim7.holds Tryd.pinned (.plain (OpenSpec.upto layoutUndoesSpec)) layoutUndoesUptoCard

/-- THE SECOND FORM's CARD OF 'mullionlaw7.LayoutNeighbours'. -/
def layoutNeighboursUptoCard : Claim7 := { stood := { row := layoutNeighboursUptoRow, standIns := [], harness := (true, "906e65f2f8caa667fe073e5f507fded277c0504b32eda11e2d9962e85e80e544"), looks := false }, kinds := [], alts := [], laidByText := true, laidKinds := [.data, .data, .data], laidTests := true, laidLooks := .later }
def LayoutNeighboursUptoCardSaid : Prop := Claim7.holds Tryd.pinned (.plain (OpenSpec.upto layoutNeighboursSpec)) layoutNeighboursUptoCard
end Rows
end Go.Proofs.YtkanglfpiahecaaDoor
