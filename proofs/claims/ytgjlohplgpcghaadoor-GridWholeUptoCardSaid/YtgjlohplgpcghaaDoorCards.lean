/-
  DERIVED. GIVEN WITH THE SEED: THE CARDS: each row of YtgjlohplgpcghaaDoorRows.lean that lists a variable, with what it lists TIED to the program's text (the seventh form; the later family's looks); each row that meets fmt, with fmt's text TOLD by the authors' own Lean function (tested against real Go, not proved from fmt's source: count such statements apart). THE CARD IS WHAT COUNTS. Prove the row's statement (the work); the ties are given (YtgjlohplgpcghaaDoorTie.lean); close each card by the builder's one call (the guide's Derived/Test/ToyasCard.lean, 'card_holds'). Laid BY PROGRAM, IN A SANDBOX (cutbox-door.mjs). By AI agents, Wed Nov 11 2026. No macro, syntax, notation, axiom, sorry.
-/
import Derived.Test.YtgjlohplgpcghaaDoorRows
import GoSem.ClaimSeven
namespace Go.Proofs.YtgjlohplgpcghaaDoor
namespace Rows

/-- THE TIED CARD OF 'mullionlaw4.GridWhole'. -/
def gridWholeCard : Claim7 := { stood := { row := gridWholeRow, standIns := [], harness := (true, "81652357eb3d2be4b907fd6fe84caa20ba20bebe5506286b1ab7de5bbc38a3fc"), looks := false }, kinds := [], alts := [], laidByText := true, laidKinds := [.data, .data, .pinned], laidTests := true, laidLooks := .later }
def GridWholeCardSaid : Prop := Claim7.holds Tryd.pinned (.plain (OpenSpec.ofChange gridWholeSpec)) gridWholeCard

/-- THE TIED CARD OF 'mullionlaw4.GridFlows'. -/
def gridFlowsCard : Claim7 := { stood := { row := gridFlowsRow, standIns := [], harness := (true, "81652357eb3d2be4b907fd6fe84caa20ba20bebe5506286b1ab7de5bbc38a3fc"), looks := false }, kinds := [], alts := [], laidByText := true, laidKinds := [.data, .data, .pinned], laidTests := true, laidLooks := .later }
def GridFlowsCardSaid : Prop := Claim7.holds Tryd.pinned (.plain (OpenSpec.ofChange gridFlowsSpec)) gridFlowsCard

/-- THE TIED CARD OF 'mullionlaw4.GridBack'. -/
def gridBackCard : Claim7 := { stood := { row := gridBackRow, standIns := [], harness := (true, "81652357eb3d2be4b907fd6fe84caa20ba20bebe5506286b1ab7de5bbc38a3fc"), looks := false }, kinds := [], alts := [], laidByText := true, laidKinds := [.data, .data, .pinned], laidTests := true, laidLooks := .later }
def GridBackCardSaid : Prop := Claim7.holds Tryd.pinned (.plain (OpenSpec.ofChange gridBackSpec)) gridBackCard

/-- THE TIED CARD OF 'mullionlaw4.GridMoves'. -/
def gridMovesCard : Claim7 := { stood := { row := gridMovesRow, standIns := [], harness := (true, "81652357eb3d2be4b907fd6fe84caa20ba20bebe5506286b1ab7de5bbc38a3fc"), looks := false }, kinds := [], alts := [], laidByText := true, laidKinds := [.data, .data, .pinned], laidTests := true, laidLooks := .later }
def GridMovesCardSaid : Prop := Claim7.holds Tryd.pinned (.plain (OpenSpec.ofChange gridMovesSpec)) gridMovesCard

/-- THE SECOND FORM's CARD OF 'mullionlaw4.GridWhole'. -/
def gridWholeUptoCard : Claim7 := { stood := { row := gridWholeUptoRow, standIns := [], harness := (true, "81652357eb3d2be4b907fd6fe84caa20ba20bebe5506286b1ab7de5bbc38a3fc"), looks := false }, kinds := [], alts := [], laidByText := true, laidKinds := [.data, .data, .pinned], laidTests := true, laidLooks := .later }
def GridWholeUptoCardSaid : Prop := Claim7.holds Tryd.pinned (.plain (OpenSpec.upto gridWholeSpec)) gridWholeUptoCard

/-- THE SECOND FORM's CARD OF 'mullionlaw4.GridFlows'. -/
def gridFlowsUptoCard : Claim7 := { stood := { row := gridFlowsUptoRow, standIns := [], harness := (true, "81652357eb3d2be4b907fd6fe84caa20ba20bebe5506286b1ab7de5bbc38a3fc"), looks := false }, kinds := [], alts := [], laidByText := true, laidKinds := [.data, .data, .pinned], laidTests := true, laidLooks := .later }
def GridFlowsUptoCardSaid : Prop := Claim7.holds Tryd.pinned (.plain (OpenSpec.upto gridFlowsSpec)) gridFlowsUptoCard

/-- THE SECOND FORM's CARD OF 'mullionlaw4.GridBack'. -/
def gridBackUptoCard : Claim7 := { stood := { row := gridBackUptoRow, standIns := [], harness := (true, "81652357eb3d2be4b907fd6fe84caa20ba20bebe5506286b1ab7de5bbc38a3fc"), looks := false }, kinds := [], alts := [], laidByText := true, laidKinds := [.data, .data, .pinned], laidTests := true, laidLooks := .later }
def GridBackUptoCardSaid : Prop := Claim7.holds Tryd.pinned (.plain (OpenSpec.upto gridBackSpec)) gridBackUptoCard

/-- THE SECOND FORM's CARD OF 'mullionlaw4.GridMoves'. -/
def gridMovesUptoCard : Claim7 := { stood := { row := gridMovesUptoRow, standIns := [], harness := (true, "81652357eb3d2be4b907fd6fe84caa20ba20bebe5506286b1ab7de5bbc38a3fc"), looks := false }, kinds := [], alts := [], laidByText := true, laidKinds := [.data, .data, .pinned], laidTests := true, laidLooks := .later }
def GridMovesUptoCardSaid : Prop := Claim7.holds Tryd.pinned (.plain (OpenSpec.upto gridMovesSpec)) gridMovesUptoCard
end Rows
end Go.Proofs.YtgjlohplgpcghaaDoor
