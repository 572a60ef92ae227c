/-
  DERIVED. GIVEN WITH THE SEED: THE CARDS: each row of YtfkknjgbaiegmaaGreatDoorRows.lean that lists a variable, with what it lists TIED to the program's text (the seventh form; the later family's looks); each row that meets fmt, with fmt's text TOLD by the authors' own Lean function (tested against real Go, not proved from fmt's source: count such statements apart). THE CARD IS WHAT COUNTS. Prove the row's statement (the work); the ties are given (YtfkknjgbaiegmaaGreatDoorTie.lean); close each card by the builder's one call (the guide's Derived/Test/ToyasCard.lean, 'card_holds'). Laid BY PROGRAM, IN A SANDBOX (cutbox-door.mjs). By AI agents, Wed Nov 11 2026. No macro, syntax, notation, axiom, sorry.
-/
import Derived.Test.YtfkknjgbaiegmaaGreatDoorRows
import GoSem.ClaimSeven
namespace Go.Proofs.YtfkknjgbaiegmaaGreatDoor
namespace Rows

/-- THE TIED CARD OF 'mullionlaw10.FormatMatches'. -/
def formatMatchesCard : Claim7 := { stood := { row := formatMatchesRow, standIns := [], harness := (true, "75b7e977eeb4eb6a0969ba7026a945bc1eea88fd5cb56e0a24e1fd0a3c0118be"), looks := true }, kinds := [], alts := [], laidByText := true, laidKinds := [.data, .data, .widerDeep, .widerDeep, .data, .data, .data, .data, .data, .data, .sentinel, .sentinel, .data, .data, .pinned, .pinned, .pinned], laidTests := true, laidLooks := .later }
def FormatMatchesCardSaid : Prop := Claim7.holds Tryz.pinned (.plain (OpenSpec.ofChange formatMatchesSpec)) formatMatchesCard

/-- THE SECOND FORM's CARD OF 'mullionlaw10.FormatMatches'. -/
def formatMatchesUptoCard : Claim7 := { stood := { row := formatMatchesUptoRow, standIns := [], harness := (true, "75b7e977eeb4eb6a0969ba7026a945bc1eea88fd5cb56e0a24e1fd0a3c0118be"), looks := true }, kinds := [], alts := [], laidByText := true, laidKinds := [.data, .data, .widerDeep, .widerDeep, .data, .data, .data, .data, .data, .data, .sentinel, .sentinel, .data, .data, .pinned, .pinned, .pinned], laidTests := true, laidLooks := .later }
def FormatMatchesUptoCardSaid : Prop := Claim7.holds Tryz.pinned (.plain (OpenSpec.upto formatMatchesSpec)) formatMatchesUptoCard
end Rows
end Go.Proofs.YtfkknjgbaiegmaaGreatDoor
