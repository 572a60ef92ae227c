/-
  DERIVED. GIVEN WITH THE SEED: THE CARDS: each row of YthmadnadaakjaaaGreatDoorRows.lean that lists a variable, with what it lists TIED to the program's text (the seventh form; the later family's looks); each row that meets fmt, with fmt's text TOLD by the authors' own Lean function (tested against real Go, not proved from fmt's source: count such statements apart). THE CARD IS WHAT COUNTS. Prove the row's statement (the work); the ties are given (YthmadnadaakjaaaGreatDoorTie.lean); close each card by the builder's one call (the guide's Derived/Test/ToyasCard.lean, 'card_holds'). Laid BY PROGRAM, IN A SANDBOX (cutbox-door.mjs). By AI agents, Wed Nov 11 2026. No macro, syntax, notation, axiom, sorry.
-/
import Derived.Test.YthmadnadaakjaaaGreatDoorRows
import GoSem.ClaimSeven
namespace Go.Proofs.YthmadnadaakjaaaGreatDoor
namespace Rows

/-- THE TIED CARD OF 'mullionlaw8.OptionMany'. -/
def optionManyCard : Claim7 := { stood := { row := optionManyRow, standIns := [], harness := (true, "3126d8d751ce419652cf7bc3ed89d905e03a517d11afc6c0418783859ce5be9d"), looks := true }, kinds := [], alts := [], laidByText := true, laidKinds := [.data, .data, .data, .data, .sentinel, .sentinel, .data, .pinned], laidTests := true, laidLooks := .later }
def OptionManyCardSaid : Prop := Claim7.holds Tryz.pinned (.plain (OpenSpec.ofChange optionManySpec)) optionManyCard

/-- THE TIED CARD OF 'mullionlaw8.OptionEnv'. -/
def optionEnvCard : Claim7 := { stood := { row := optionEnvRow, standIns := [], harness := (true, "3126d8d751ce419652cf7bc3ed89d905e03a517d11afc6c0418783859ce5be9d"), looks := true }, kinds := [], alts := [], laidByText := true, laidKinds := [.data, .data, .data, .data, .sentinel, .sentinel, .data, .pinned], laidTests := true, laidLooks := .later }
def OptionEnvCardSaid : Prop := Claim7.holds Tryz.pinned (.plain (OpenSpec.ofChange optionEnvSpec)) optionEnvCard

/-- THE TIED CARD OF 'mullionlaw8.OptionBack'. -/
def optionBackCard : Claim7 := { stood := { row := optionBackRow, standIns := [], harness := (true, "3126d8d751ce419652cf7bc3ed89d905e03a517d11afc6c0418783859ce5be9d"), looks := true }, kinds := [], alts := [], laidByText := true, laidKinds := [.data, .data, .data, .data, .sentinel, .sentinel, .data, .pinned], laidTests := true, laidLooks := .later }
def OptionBackCardSaid : Prop := Claim7.holds Tryz.pinned (.plain (OpenSpec.ofChange optionBackSpec)) optionBackCard

/-- THE TIED CARD OF 'mullionlaw8.OptionHides'. -/
def optionHidesCard : Claim7 := { stood := { row := optionHidesRow, standIns := [], harness := (true, "3126d8d751ce419652cf7bc3ed89d905e03a517d11afc6c0418783859ce5be9d"), looks := true }, kinds := [], alts := [], laidByText := true, laidKinds := [.data, .data, .data, .data, .sentinel, .sentinel, .data, .pinned], laidTests := true, laidLooks := .later }
def OptionHidesCardSaid : Prop := Claim7.holds Tryz.pinned (.plain (OpenSpec.ofChange optionHidesSpec)) optionHidesCard

/-- THE SECOND FORM's CARD OF 'mullionlaw8.OptionMany'. -/
def optionManyUptoCard : Claim7 := { stood := { row := optionManyUptoRow, standIns := [], harness := (true, "3126d8d751ce419652cf7bc3ed89d905e03a517d11afc6c0418783859ce5be9d"), looks := true }, kinds := [], alts := [], laidByText := true, laidKinds := [.data, .data, .data, .data, .sentinel, .sentinel, .data, .pinned], laidTests := true, laidLooks := .later }
def OptionManyUptoCardSaid : Prop := Claim7.holds Tryz.pinned (.plain (OpenSpec.upto optionManySpec)) optionManyUptoCard

/-- THE SECOND FORM's CARD OF 'mullionlaw8.OptionEnv'. -/
def optionEnvUptoCard : Claim7 := { stood := { row := optionEnvUptoRow, standIns := [], harness := (true, "3126d8d751ce419652cf7bc3ed89d905e03a517d11afc6c0418783859ce5be9d"), looks := true }, kinds := [], alts := [], laidByText := true, laidKinds := [.data, .data, .data, .data, .sentinel, .sentinel, .data, .pinned], laidTests := true, laidLooks := .later }
def OptionEnvUptoCardSaid : Prop := Claim7.holds Tryz.pinned (.plain (OpenSpec.upto optionEnvSpec)) optionEnvUptoCard

/-- THE SECOND FORM's CARD OF 'mullionlaw8.OptionBack'. -/
def optionBackUptoCard : Claim7 := { stood := { row := optionBackUptoRow, standIns := [], harness := (true, "3126d8d751ce419652cf7bc3ed89d905e03a517d11afc6c0418783859ce5be9d"), looks := true }, kinds := [], alts := [], laidByText := true, laidKinds := [.data, .data, .data, .data, .sentinel, .sentinel, .data, .pinned], laidTests := true, laidLooks := .later }
def OptionBackUptoCardSaid : Prop := Claim7.holds Tryz.pinned (.plain (OpenSpec.upto optionBackSpec)) optionBackUptoCard

/-- THE SECOND FORM's CARD OF 'mullionlaw8.OptionHides'. -/
def optionHidesUptoCard : Claim7 := { stood := { row := optionHidesUptoRow, standIns := [], harness := (true, "3126d8d751ce419652cf7bc3ed89d905e03a517d11afc6c0418783859ce5be9d"), looks := true }, kinds := [], alts := [], laidByText := true, laidKinds := [.data, .data, .data, .data, .sentinel, .sentinel, .data, .pinned], laidTests := true, laidLooks := .later }
def OptionHidesUptoCardSaid : Prop := Claim7.holds Tryz.pinned (.plain (OpenSpec.upto optionHidesSpec)) optionHidesUptoCard
end Rows
end Go.Proofs.YthmadnadaakjaaaGreatDoor
