/-
  DERIVED. GIVEN WITH THE SEED: THE CARDS: each row of YtmnembhfbboljaaDoorRows.lean that lists a variable, with what it lists TIED to the program's text (the seventh form; the later family's looks); each row that meets fmt, with fmt's text TOLD by the authors' own Lean function (tested against real Go, not proved from fmt's source: count such statements apart). THE CARD IS WHAT COUNTS. Prove the row's statement (the work); the ties are given (YtmnembhfbboljaaDoorTie.lean); close each card by the builder's one call (the guide's Derived/Test/ToyasCard.lean, 'card_holds'). Laid BY PROGRAM, IN A SANDBOX (cutbox-door.mjs). By AI agents, Wed Nov 11 2026. No macro, syntax, notation, axiom, sorry.
-/
import Derived.Test.YtmnembhfbboljaaDoorRows
import GoSem.ClaimSeven
namespace Go.Proofs.YtmnembhfbboljaaDoor
namespace Rows

/-- THE TIED CARD OF 'mullionlaw1.CellDecodes'. -/
def cellDecodesCard : Claim7 := { stood := { row := cellDecodesRow, standIns := [], harness := (true, "fe28545c0b9c4cd66b71a4992efc446d4bdfee6f70d698f600a5f2a240c20f35"), looks := false }, kinds := [], alts := [], laidByText := true, laidKinds := [.data, .data], laidTests := true, laidLooks := .later }
def CellDecodesCardSaid : Prop := Claim7.holds Tryd.pinned (.plain (OpenSpec.ofChange cellDecodesSpec)) cellDecodesCard

/-- THE TIED CARD OF 'mullionlaw1.CellWidths'. -/
def cellWidthsCard : Claim7 := { stood := { row := cellWidthsRow, standIns := [], harness := (true, "fe28545c0b9c4cd66b71a4992efc446d4bdfee6f70d698f600a5f2a240c20f35"), looks := false }, kinds := [], alts := [], laidByText := true, laidKinds := [.data, .data], laidTests := true, laidLooks := .later }
def CellWidthsCardSaid : Prop := Claim7.holds Tryd.pinned (.plain (OpenSpec.ofChange cellWidthsSpec)) cellWidthsCard

/-- THE TIED CARD OF 'mullionlaw1.CellTexts'. -/
def cellTextsCard : Claim7 := { stood := { row := cellTextsRow, standIns := [], harness := (true, "fe28545c0b9c4cd66b71a4992efc446d4bdfee6f70d698f600a5f2a240c20f35"), looks := false }, kinds := [], alts := [], laidByText := true, laidKinds := [.data, .data], laidTests := true, laidLooks := .later }
def CellTextsCardSaid : Prop := Claim7.holds Tryd.pinned (.plain (OpenSpec.ofChange cellTextsSpec)) cellTextsCard

/-- THE TIED CARD OF 'mullionlaw1.CellBack'. -/
def cellBackCard : Claim7 := { stood := { row := cellBackRow, standIns := [], harness := (true, "fe28545c0b9c4cd66b71a4992efc446d4bdfee6f70d698f600a5f2a240c20f35"), looks := false }, kinds := [], alts := [], laidByText := true, laidKinds := [.data, .data], laidTests := true, laidLooks := .later }
def CellBackCardSaid : Prop := Claim7.holds Tryd.pinned (.plain (OpenSpec.ofChange cellBackSpec)) cellBackCard

/-- THE TIED CARD OF 'mullionlaw1.CellCuts'. -/
def cellCutsCard : Claim7 := { stood := { row := cellCutsRow, standIns := [], harness := (true, "fe28545c0b9c4cd66b71a4992efc446d4bdfee6f70d698f600a5f2a240c20f35"), looks := false }, kinds := [], alts := [], laidByText := true, laidKinds := [.data, .data], laidTests := true, laidLooks := .later }
def CellCutsCardSaid : Prop := Claim7.holds Tryd.pinned (.plain (OpenSpec.ofChange cellCutsSpec)) cellCutsCard

/-- THE TIED CARD OF 'mullionlaw1.CellJoins'. -/
def cellJoinsCard : Claim7 := { stood := { row := cellJoinsRow, standIns := [], harness := (true, "fe28545c0b9c4cd66b71a4992efc446d4bdfee6f70d698f600a5f2a240c20f35"), looks := false }, kinds := [], alts := [], laidByText := true, laidKinds := [.data, .data], laidTests := true, laidLooks := .later }
def CellJoinsCardSaid : Prop := Claim7.holds Tryd.pinned (.plain (OpenSpec.ofChange cellJoinsSpec)) cellJoinsCard

/-- THE SECOND FORM's CARD OF 'mullionlaw1.CellDecodes'. -/
def cellDecodesUptoCard : Claim7 := { stood := { row := cellDecodesUptoRow, standIns := [], harness := (true, "fe28545c0b9c4cd66b71a4992efc446d4bdfee6f70d698f600a5f2a240c20f35"), looks := false }, kinds := [], alts := [], laidByText := true, laidKinds := [.data, .data], laidTests := true, laidLooks := .later }
def CellDecodesUptoCardSaid : Prop := Claim7.holds Tryd.pinned (.plain (OpenSpec.upto cellDecodesSpec)) cellDecodesUptoCard

/-- THE SECOND FORM's CARD OF 'mullionlaw1.CellWidths'. -/
def cellWidthsUptoCard : Claim7 := { stood := { row := cellWidthsUptoRow, standIns := [], harness := (true, "fe28545c0b9c4cd66b71a4992efc446d4bdfee6f70d698f600a5f2a240c20f35"), looks := false }, kinds := [], alts := [], laidByText := true, laidKinds := [.data, .data], laidTests := true, laidLooks := .later }
def CellWidthsUptoCardSaid : Prop := Claim7.holds Tryd.pinned (.plain (OpenSpec.upto cellWidthsSpec)) cellWidthsUptoCard

/-- THE SECOND FORM's CARD OF 'mullionlaw1.CellTexts'. -/
def cellTextsUptoCard : Claim7 := { stood := { row := cellTextsUptoRow, standIns := [], harness := (true, "fe28545c0b9c4cd66b71a4992efc446d4bdfee6f70d698f600a5f2a240c20f35"), looks := false }, kinds := [], alts := [], laidByText := true, laidKinds := [.data, .data], laidTests := true, laidLooks := .later }
def CellTextsUptoCardSaid : Prop := Claim7.holds Tryd.pinned (.plain (OpenSpec.upto cellTextsSpec)) cellTextsUptoCard

/-- THE SECOND FORM's CARD OF 'mullionlaw1.CellBack'. -/
def cellBackUptoCard : Claim7 := { stood := { row := cellBackUptoRow, standIns := [], harness := (true, "fe28545c0b9c4cd66b71a4992efc446d4bdfee6f70d698f600a5f2a240c20f35"), looks := false }, kinds := [], alts := [], laidByText := true, laidKinds := [.data, .data], laidTests := true, laidLooks := .later }
def CellBackUptoCardSaid : Prop := Claim7.holds Tryd.pinned (.plain (OpenSpec.upto cellBackSpec)) cellBackUptoCard

/-- THE SECOND FORM's CARD OF 'mullionlaw1.CellCuts'. -/
def cellCutsUptoCard : Claim7 := { stood := { row := cellCutsUptoRow, standIns := [], harness := (true, "fe28545c0b9c4cd66b71a4992efc446d4bdfee6f70d698f600a5f2a240c20f35"), looks := false }, kinds := [], alts := [], laidByText := true, laidKinds := [.data, .data], laidTests := true, laidLooks := .later }
def CellCutsUptoCardSaid : Prop := Claim7.holds Tryd.pinned (.plain (OpenSpec.upto cellCutsSpec)) cellCutsUptoCard

/-- THE SECOND FORM's CARD OF 'mullionlaw1.CellJoins'. -/
def cellJoinsUptoCard : Claim7 := { stood := { row := cellJoinsUptoRow, standIns := [], harness := (true, "fe28545c0b9c4cd66b71a4992efc446d4bdfee6f70d698f600a5f2a240c20f35"), looks := false }, kinds := [], alts := [], laidByText := true, laidKinds := [.data, .data], laidTests := true, laidLooks := .later }
def CellJoinsUptoCardSaid : Prop := Claim7.holds Tryd.pinned (.plain (OpenSpec.upto cellJoinsSpec)) cellJoinsUptoCard
end Rows
end Go.Proofs.YtmnembhfbboljaaDoor
