/-
  DERIVED. GIVEN WITH THE SEED: THE CARDS: each row of YtajnlbfhcbkopaaDoorRows.lean that lists a variable, with what it lists TIED to the program's text (the seventh form; the later family's looks); each row that meets fmt, with fmt's text TOLD by the authors' own Lean function (tested against real Go, not proved from fmt's source: count such statements apart). THE CARD IS WHAT COUNTS. Prove the row's statement (the work); the ties are given (YtajnlbfhcbkopaaDoorTie.lean); close each card by the builder's one call (the guide's Derived/Test/ToyasCard.lean, 'card_holds'). Laid BY PROGRAM, IN A SANDBOX (cutbox-door.mjs). By AI agents, Wed Nov 11 2026. No macro, syntax, notation, axiom, sorry.
-/
import Derived.Test.YtajnlbfhcbkopaaDoorRows
import GoSem.ClaimSeven
namespace Go.Proofs.YtajnlbfhcbkopaaDoor
namespace Rows

/-- THE TIED CARD OF 'mullionlaw3.StyleColours'. -/
def styleColoursCard : Claim7 := { stood := { row := styleColoursRow, standIns := [], harness := (true, "e47632bc4523f7af7ea2da64ce69908ff83c5d65f1d8410db7f7cf0e8c3edb8b"), looks := true }, kinds := [], alts := [], laidByText := true, laidKinds := [.data, .data, .data, .sentinel, .sentinel, .data], laidTests := true, laidLooks := .later }
def StyleColoursCardSaid : Prop := Claim7.holds Tryd.pinned (.plain (OpenSpec.ofChange styleColoursSpec)) styleColoursCard

/-- THE TIED CARD OF 'mullionlaw3.StyleParses'. -/
def styleParsesCard : Claim7 := { stood := { row := styleParsesRow, standIns := [], harness := (true, "e47632bc4523f7af7ea2da64ce69908ff83c5d65f1d8410db7f7cf0e8c3edb8b"), looks := true }, kinds := [], alts := [], laidByText := true, laidKinds := [.data, .data, .data, .sentinel, .sentinel, .data], laidTests := true, laidLooks := .later }
def StyleParsesCardSaid : Prop := Claim7.holds Tryd.pinned (.plain (OpenSpec.ofChange styleParsesSpec)) styleParsesCard

/-- THE TIED CARD OF 'mullionlaw3.StylePrints'. -/
def stylePrintsCard : Claim7 := { stood := { row := stylePrintsRow, standIns := [], harness := (true, "e47632bc4523f7af7ea2da64ce69908ff83c5d65f1d8410db7f7cf0e8c3edb8b"), looks := true }, kinds := [], alts := [], laidByText := true, laidKinds := [.data, .data, .data, .sentinel, .sentinel, .data], laidTests := true, laidLooks := .later }
def StylePrintsCardSaid : Prop := Claim7.holds Tryd.pinned (.plain (OpenSpec.ofChange stylePrintsSpec)) stylePrintsCard

/-- THE TIED CARD OF 'mullionlaw3.StyleEscapes'. -/
def styleEscapesCard : Claim7 := { stood := { row := styleEscapesRow, standIns := [], harness := (true, "e47632bc4523f7af7ea2da64ce69908ff83c5d65f1d8410db7f7cf0e8c3edb8b"), looks := true }, kinds := [], alts := [], laidByText := true, laidKinds := [.data, .data, .data, .sentinel, .sentinel, .data], laidTests := true, laidLooks := .later }
def StyleEscapesCardSaid : Prop := Claim7.holds Tryd.pinned (.plain (OpenSpec.ofChange styleEscapesSpec)) styleEscapesCard

/-- THE TIED CARD OF 'mullionlaw3.StyleBack'. -/
def styleBackCard : Claim7 := { stood := { row := styleBackRow, standIns := [], harness := (true, "e47632bc4523f7af7ea2da64ce69908ff83c5d65f1d8410db7f7cf0e8c3edb8b"), looks := true }, kinds := [], alts := [], laidByText := true, laidKinds := [.data, .data, .data, .sentinel, .sentinel, .data], laidTests := true, laidLooks := .later }
def StyleBackCardSaid : Prop := Claim7.holds Tryd.pinned (.plain (OpenSpec.ofChange styleBackSpec)) styleBackCard

/-- THE TIED CARD OF 'mullionlaw3.StyleSteps'. -/
def styleStepsCard : Claim7 := { stood := { row := styleStepsRow, standIns := [], harness := (true, "e47632bc4523f7af7ea2da64ce69908ff83c5d65f1d8410db7f7cf0e8c3edb8b"), looks := true }, kinds := [], alts := [], laidByText := true, laidKinds := [.data, .data, .data, .sentinel, .sentinel, .data], laidTests := true, laidLooks := .later }
def StyleStepsCardSaid : Prop := Claim7.holds Tryd.pinned (.plain (OpenSpec.ofChange styleStepsSpec)) styleStepsCard

/-- THE SECOND FORM's CARD OF 'mullionlaw3.StyleColours'. -/
def styleColoursUptoCard : Claim7 := { stood := { row := styleColoursUptoRow, standIns := [], harness := (true, "e47632bc4523f7af7ea2da64ce69908ff83c5d65f1d8410db7f7cf0e8c3edb8b"), looks := true }, kinds := [], alts := [], laidByText := true, laidKinds := [.data, .data, .data, .sentinel, .sentinel, .data], laidTests := true, laidLooks := .later }
def StyleColoursUptoCardSaid : Prop := Claim7.holds Tryd.pinned (.plain (OpenSpec.upto styleColoursSpec)) styleColoursUptoCard

/-- THE SECOND FORM's CARD OF 'mullionlaw3.StyleParses'. -/
def styleParsesUptoCard : Claim7 := { stood := { row := styleParsesUptoRow, standIns := [], harness := (true, "e47632bc4523f7af7ea2da64ce69908ff83c5d65f1d8410db7f7cf0e8c3edb8b"), looks := true }, kinds := [], alts := [], laidByText := true, laidKinds := [.data, .data, .data, .sentinel, .sentinel, .data], laidTests := true, laidLooks := .later }
def StyleParsesUptoCardSaid : Prop := Claim7.holds Tryd.pinned (.plain (OpenSpec.upto styleParsesSpec)) styleParsesUptoCard

/-- THE SECOND FORM's CARD OF 'mullionlaw3.StylePrints'. -/
def stylePrintsUptoCard : Claim7 := { stood := { row := stylePrintsUptoRow, standIns := [], harness := (true, "e47632bc4523f7af7ea2da64ce69908ff83c5d65f1d8410db7f7cf0e8c3edb8b"), looks := true }, kinds := [], alts := [], laidByText := true, laidKinds := [.data, .data, .data, .sentinel, .sentinel, .data], laidTests := true, laidLooks := .later }
def StylePrintsUptoCardSaid : Prop := Claim7.holds Tryd.pinned (.plain (OpenSpec.upto stylePrintsSpec)) stylePrintsUptoCard

/-- THE SECOND FORM's CARD OF 'mullionlaw3.StyleEscapes'. -/
def styleEscapesUptoCard : Claim7 := { stood := { row := styleEscapesUptoRow, standIns := [], harness := (true, "e47632bc4523f7af7ea2da64ce69908ff83c5d65f1d8410db7f7cf0e8c3edb8b"), looks := true }, kinds := [], alts := [], laidByText := true, laidKinds := [.data, .data, .data, .sentinel, .sentinel, .data], laidTests := true, laidLooks := .later }
def StyleEscapesUptoCardSaid : Prop := Claim7.holds Tryd.pinned (.plain (OpenSpec.upto styleEscapesSpec)) styleEscapesUptoCard

/-- THE SECOND FORM's CARD OF 'mullionlaw3.StyleBack'. -/
def styleBackUptoCard : Claim7 := { stood := { row := styleBackUptoRow, standIns := [], harness := (true, "e47632bc4523f7af7ea2da64ce69908ff83c5d65f1d8410db7f7cf0e8c3edb8b"), looks := true }, kinds := [], alts := [], laidByText := true, laidKinds := [.data, .data, .data, .sentinel, .sentinel, .data], laidTests := true, laidLooks := .later }
def StyleBackUptoCardSaid : Prop := Claim7.holds Tryd.pinned (.plain (OpenSpec.upto styleBackSpec)) styleBackUptoCard

/-- THE SECOND FORM's CARD OF 'mullionlaw3.StyleSteps'. -/
def styleStepsUptoCard : Claim7 := { stood := { row := styleStepsUptoRow, standIns := [], harness := (true, "e47632bc4523f7af7ea2da64ce69908ff83c5d65f1d8410db7f7cf0e8c3edb8b"), looks := true }, kinds := [], alts := [], laidByText := true, laidKinds := [.data, .data, .data, .sentinel, .sentinel, .data], laidTests := true, laidLooks := .later }
def StyleStepsUptoCardSaid : Prop := Claim7.holds Tryd.pinned (.plain (OpenSpec.upto styleStepsSpec)) styleStepsUptoCard
end Rows
end Go.Proofs.YtajnlbfhcbkopaaDoor
