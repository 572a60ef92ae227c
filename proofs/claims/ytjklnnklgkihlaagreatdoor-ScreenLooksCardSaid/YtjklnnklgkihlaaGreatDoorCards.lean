/-
  DERIVED. GIVEN WITH THE SEED: THE CARDS: each row of YtjklnnklgkihlaaGreatDoorRows.lean that lists a variable, with what it lists TIED to the program's text (the seventh form; the later family's looks); each row that meets fmt, with fmt's text TOLD by the authors' own Lean function (tested against real Go, not proved from fmt's source: count such statements apart). THE CARD IS WHAT COUNTS. Prove the row's statement (the work); the ties are given (YtjklnnklgkihlaaGreatDoorTie.lean); close each card by the builder's one call (the guide's Derived/Test/ToyasCard.lean, 'card_holds'). Laid BY PROGRAM, IN A SANDBOX (cutbox-door.mjs). By AI agents, Wed Nov 11 2026. No macro, syntax, notation, axiom, sorry.
-/
import Derived.Test.YtjklnnklgkihlaaGreatDoorRows
import GoSem.ClaimSeven
namespace Go.Proofs.YtjklnnklgkihlaaGreatDoor
namespace Rows

/-- THE TIED CARD OF 'mullionlaw6.ScreenLooks'. -/
def screenLooksCard : Claim7 := { stood := { row := screenLooksRow, standIns := [], harness := (true, "bc73e2397e3472d08b5b7c368609af37d3f975c83aca64a216323f6d5e79471c"), looks := false }, kinds := [], alts := [], laidByText := true, laidKinds := [.data, .data, .data, .data, .data, .data, .data, .data, .pinned], laidTests := true, laidLooks := .later }
def ScreenLooksCardSaid : Prop := Claim7.holds Tryz.pinned (.plain (OpenSpec.ofChange screenLooksSpec)) screenLooksCard

/-- THE TIED CARD OF 'mullionlaw6.ScreenLines'. -/
def screenLinesCard : Claim7 := { stood := { row := screenLinesRow, standIns := [], harness := (true, "bc73e2397e3472d08b5b7c368609af37d3f975c83aca64a216323f6d5e79471c"), looks := false }, kinds := [], alts := [], laidByText := true, laidKinds := [.data, .data, .data, .data, .data, .data, .data, .data, .pinned], laidTests := true, laidLooks := .later }
def ScreenLinesCardSaid : Prop := Claim7.holds Tryz.pinned (.plain (OpenSpec.ofChange screenLinesSpec)) screenLinesCard

/-- THE SECOND FORM's CARD OF 'mullionlaw6.ScreenLooks'. -/
def screenLooksUptoCard : Claim7 := { stood := { row := screenLooksUptoRow, standIns := [], harness := (true, "bc73e2397e3472d08b5b7c368609af37d3f975c83aca64a216323f6d5e79471c"), looks := false }, kinds := [], alts := [], laidByText := true, laidKinds := [.data, .data, .data, .data, .data, .data, .data, .data, .pinned], laidTests := true, laidLooks := .later }
def ScreenLooksUptoCardSaid : Prop := Claim7.holds Tryz.pinned (.plain (OpenSpec.upto screenLooksSpec)) screenLooksUptoCard

/-- THE SECOND FORM's CARD OF 'mullionlaw6.ScreenLines'. -/
def screenLinesUptoCard : Claim7 := { stood := { row := screenLinesUptoRow, standIns := [], harness := (true, "bc73e2397e3472d08b5b7c368609af37d3f975c83aca64a216323f6d5e79471c"), looks := false }, kinds := [], alts := [], laidByText := true, laidKinds := [.data, .data, .data, .data, .data, .data, .data, .data, .pinned], laidTests := true, laidLooks := .later }
def ScreenLinesUptoCardSaid : Prop := Claim7.holds Tryz.pinned (.plain (OpenSpec.upto screenLinesSpec)) screenLinesUptoCard
end Rows
end Go.Proofs.YtjklnnklgkihlaaGreatDoor
