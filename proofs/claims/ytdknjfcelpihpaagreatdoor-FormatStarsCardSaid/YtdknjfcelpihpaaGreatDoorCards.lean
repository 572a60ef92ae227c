/-
  DERIVED. GIVEN WITH THE SEED: THE CARDS: each row of YtdknjfcelpihpaaGreatDoorRows.lean that lists a variable, with what it lists TIED to the program's text (the seventh form; the later family's looks); each row that meets fmt, with fmt's text TOLD by the authors' own Lean function (tested against real Go, not proved from fmt's source: count such statements apart). THE CARD IS WHAT COUNTS. Prove the row's statement (the work); the ties are given (YtdknjfcelpihpaaGreatDoorTie.lean); close each card by the builder's one call (the guide's Derived/Test/ToyasCard.lean, 'card_holds'). Laid BY PROGRAM, IN A SANDBOX (cutbox-door.mjs). By AI agents, Wed Nov 11 2026. No macro, syntax, notation, axiom, sorry.
-/
import Derived.Test.YtdknjfcelpihpaaGreatDoorRows
import GoSem.ClaimSeven
namespace Go.Proofs.YtdknjfcelpihpaaGreatDoor
namespace Rows

/-- THE TIED CARD OF 'mullionlaw10.FormatMatches'. -/
def formatMatchesCard : Claim7 := { stood := { row := formatMatchesRow, standIns := [], harness := (true, "3a492ce5757d8f175e0db8b0d58114212281283185c03f96769551b0b47d9e08"), looks := true }, kinds := [], alts := [], laidByText := true, laidKinds := [.data, .data, .widerDeep, .widerDeep, .data, .data, .data, .data, .data, .data, .sentinel, .sentinel, .data, .data, .pinned, .pinned, .pinned], laidTests := true, laidLooks := .later }
def FormatMatchesCardSaid : Prop := Claim7.holds Tryz.pinned (.plain (OpenSpec.ofChange formatMatchesSpec)) formatMatchesCard

/-- THE TIED CARD OF 'mullionlaw10.FormatStars'. -/
def formatStarsCard : Claim7 := { stood := { row := formatStarsRow, standIns := [], harness := (true, "3a492ce5757d8f175e0db8b0d58114212281283185c03f96769551b0b47d9e08"), looks := true }, kinds := [], alts := [], laidByText := true, laidKinds := [.data, .data, .widerDeep, .widerDeep, .data, .data, .data, .data, .data, .data, .sentinel, .sentinel, .data, .data, .pinned, .pinned, .pinned], laidTests := true, laidLooks := .later }
def FormatStarsCardSaid : Prop := Claim7.holds Tryz.pinned (.plain (OpenSpec.ofChange formatStarsSpec)) formatStarsCard

/-- THE TIED CARD OF 'mullionlaw10.FormatPlain'. -/
def formatPlainCard : Claim7 := { stood := { row := formatPlainRow, standIns := [], harness := (true, "3a492ce5757d8f175e0db8b0d58114212281283185c03f96769551b0b47d9e08"), looks := true }, kinds := [], alts := [], laidByText := true, laidKinds := [.data, .data, .widerDeep, .widerDeep, .data, .data, .data, .data, .data, .data, .sentinel, .sentinel, .data, .data, .pinned, .pinned, .pinned], laidTests := true, laidLooks := .later }
def FormatPlainCardSaid : Prop := Claim7.holds Tryz.pinned (.plain (OpenSpec.ofChange formatPlainSpec)) formatPlainCard

/-- THE TIED CARD OF 'mullionlaw10.FormatWays'. -/
def formatWaysCard : Claim7 := { stood := { row := formatWaysRow, standIns := [], harness := (true, "3a492ce5757d8f175e0db8b0d58114212281283185c03f96769551b0b47d9e08"), looks := true }, kinds := [], alts := [], laidByText := true, laidKinds := [.data, .data, .widerDeep, .widerDeep, .data, .data, .data, .data, .data, .data, .sentinel, .sentinel, .data, .data, .pinned, .pinned, .pinned], laidTests := true, laidLooks := .later }
def FormatWaysCardSaid : Prop := Claim7.holds Tryz.pinned (.plain (OpenSpec.ofChange formatWaysSpec)) formatWaysCard

/-- THE SECOND FORM's CARD OF 'mullionlaw10.FormatMatches'. -/
def formatMatchesUptoCard : Claim7 := { stood := { row := formatMatchesUptoRow, standIns := [], harness := (true, "3a492ce5757d8f175e0db8b0d58114212281283185c03f96769551b0b47d9e08"), looks := true }, kinds := [], alts := [], laidByText := true, laidKinds := [.data, .data, .widerDeep, .widerDeep, .data, .data, .data, .data, .data, .data, .sentinel, .sentinel, .data, .data, .pinned, .pinned, .pinned], laidTests := true, laidLooks := .later }
def FormatMatchesUptoCardSaid : Prop := Claim7.holds Tryz.pinned (.plain (OpenSpec.upto formatMatchesSpec)) formatMatchesUptoCard

/-- THE SECOND FORM's CARD OF 'mullionlaw10.FormatStars'. -/
def formatStarsUptoCard : Claim7 := { stood := { row := formatStarsUptoRow, standIns := [], harness := (true, "3a492ce5757d8f175e0db8b0d58114212281283185c03f96769551b0b47d9e08"), looks := true }, kinds := [], alts := [], laidByText := true, laidKinds := [.data, .data, .widerDeep, .widerDeep, .data, .data, .data, .data, .data, .data, .sentinel, .sentinel, .data, .data, .pinned, .pinned, .pinned], laidTests := true, laidLooks := .later }
def FormatStarsUptoCardSaid : Prop := Claim7.holds Tryz.pinned (.plain (OpenSpec.upto formatStarsSpec)) formatStarsUptoCard

/-- THE SECOND FORM's CARD OF 'mullionlaw10.FormatPlain'. -/
def formatPlainUptoCard : Claim7 := { stood := { row := formatPlainUptoRow, standIns := [], harness := (true, "3a492ce5757d8f175e0db8b0d58114212281283185c03f96769551b0b47d9e08"), looks := true }, kinds := [], alts := [], laidByText := true, laidKinds := [.data, .data, .widerDeep, .widerDeep, .data, .data, .data, .data, .data, .data, .sentinel, .sentinel, .data, .data, .pinned, .pinned, .pinned], laidTests := true, laidLooks := .later }
def FormatPlainUptoCardSaid : Prop := Claim7.holds Tryz.pinned (.plain (OpenSpec.upto formatPlainSpec)) formatPlainUptoCard

/-- THE SECOND FORM's CARD OF 'mullionlaw10.FormatWays'. -/
def formatWaysUptoCard : Claim7 := { stood := { row := formatWaysUptoRow, standIns := [], harness := (true, "3a492ce5757d8f175e0db8b0d58114212281283185c03f96769551b0b47d9e08"), looks := true }, kinds := [], alts := [], laidByText := true, laidKinds := [.data, .data, .widerDeep, .widerDeep, .data, .data, .data, .data, .data, .data, .sentinel, .sentinel, .data, .data, .pinned, .pinned, .pinned], laidTests := true, laidLooks := .later }
def FormatWaysUptoCardSaid : Prop := Claim7.holds Tryz.pinned (.plain (OpenSpec.upto formatWaysSpec)) formatWaysUptoCard
end Rows
end Go.Proofs.YtdknjfcelpihpaaGreatDoor
