/-
  DERIVED. GIVEN WITH THE SEED: THE CARDS: each row of YtgnlfikkmomghaaGreatDoorRows.lean that lists a variable, with what it lists TIED to the program's text (the seventh form; the later family's looks); each row that meets fmt, with fmt's text TOLD by the authors' own Lean function (tested against real Go, not proved from fmt's source: count such statements apart). THE CARD IS WHAT COUNTS. Prove the row's statement (the work); the ties are given (YtgnlfikkmomghaaGreatDoorTie.lean); close each card by the builder's one call (the guide's Derived/Test/ToyasCard.lean, 'card_holds'). Laid BY PROGRAM, IN A SANDBOX (cutbox-door.mjs). By AI agents, Wed Nov 11 2026. No macro, syntax, notation, axiom, sorry.
-/
import Derived.Test.YtgnlfikkmomghaaGreatDoorRows
import GoSem.ClaimSeven
namespace Go.Proofs.YtgnlfikkmomghaaGreatDoor
namespace Rows

/-- THE TIED CARD OF 'mullionlaw8.OptionNew'. -/
def optionNewCard : Claim7 := { stood := { row := optionNewRow, standIns := [], harness := (true, "0d9981db928bdd6de42e2e2792fdf0e486197cf6d9fca5667ef7aa4373c39016"), looks := true }, kinds := [], alts := [], laidByText := true, laidKinds := [.data, .data, .data, .data, .sentinel, .sentinel, .data, .pinned], laidTests := true, laidLooks := .later }
def OptionNewCardSaid : Prop := Claim7.holds Tryz.pinned (.plain (OpenSpec.ofChange optionNewSpec)) optionNewCard

/-- THE TIED CARD OF 'mullionlaw8.OptionKnown'. -/
def optionKnownCard : Claim7 := { stood := { row := optionKnownRow, standIns := [], harness := (true, "0d9981db928bdd6de42e2e2792fdf0e486197cf6d9fca5667ef7aa4373c39016"), looks := true }, kinds := [], alts := [], laidByText := true, laidKinds := [.data, .data, .data, .data, .sentinel, .sentinel, .data, .pinned], laidTests := true, laidLooks := .later }
def OptionKnownCardSaid : Prop := Claim7.holds Tryz.pinned (.plain (OpenSpec.ofChange optionKnownSpec)) optionKnownCard

/-- THE TIED CARD OF 'mullionlaw8.OptionMany'. -/
def optionManyCard : Claim7 := { stood := { row := optionManyRow, standIns := [], harness := (true, "0d9981db928bdd6de42e2e2792fdf0e486197cf6d9fca5667ef7aa4373c39016"), looks := true }, kinds := [], alts := [], laidByText := true, laidKinds := [.data, .data, .data, .data, .sentinel, .sentinel, .data, .pinned], laidTests := true, laidLooks := .later }
def OptionManyCardSaid : Prop := Claim7.holds Tryz.pinned (.plain (OpenSpec.ofChange optionManySpec)) optionManyCard

/-- THE TIED CARD OF 'mullionlaw8.OptionEnv'. -/
def optionEnvCard : Claim7 := { stood := { row := optionEnvRow, standIns := [], harness := (true, "0d9981db928bdd6de42e2e2792fdf0e486197cf6d9fca5667ef7aa4373c39016"), looks := true }, kinds := [], alts := [], laidByText := true, laidKinds := [.data, .data, .data, .data, .sentinel, .sentinel, .data, .pinned], laidTests := true, laidLooks := .later }
def OptionEnvCardSaid : Prop := Claim7.holds Tryz.pinned (.plain (OpenSpec.ofChange optionEnvSpec)) optionEnvCard

/-- THE TIED CARD OF 'mullionlaw8.OptionBack'. -/
def optionBackCard : Claim7 := { stood := { row := optionBackRow, standIns := [], harness := (true, "0d9981db928bdd6de42e2e2792fdf0e486197cf6d9fca5667ef7aa4373c39016"), looks := true }, kinds := [], alts := [], laidByText := true, laidKinds := [.data, .data, .data, .data, .sentinel, .sentinel, .data, .pinned], laidTests := true, laidLooks := .later }
def OptionBackCardSaid : Prop := Claim7.holds Tryz.pinned (.plain (OpenSpec.ofChange optionBackSpec)) optionBackCard

/-- THE TIED CARD OF 'mullionlaw8.OptionHides'. -/
def optionHidesCard : Claim7 := { stood := { row := optionHidesRow, standIns := [], harness := (true, "0d9981db928bdd6de42e2e2792fdf0e486197cf6d9fca5667ef7aa4373c39016"), looks := true }, kinds := [], alts := [], laidByText := true, laidKinds := [.data, .data, .data, .data, .sentinel, .sentinel, .data, .pinned], laidTests := true, laidLooks := .later }
def OptionHidesCardSaid : Prop := Claim7.holds Tryz.pinned (.plain (OpenSpec.ofChange optionHidesSpec)) optionHidesCard

/-- THE SECOND FORM's CARD OF 'mullionlaw8.OptionNew'. -/
def optionNewUptoCard : Claim7 := { stood := { row := optionNewUptoRow, standIns := [], harness := (true, "0d9981db928bdd6de42e2e2792fdf0e486197cf6d9fca5667ef7aa4373c39016"), looks := true }, kinds := [], alts := [], laidByText := true, laidKinds := [.data, .data, .data, .data, .sentinel, .sentinel, .data, .pinned], laidTests := true, laidLooks := .later }
def OptionNewUptoCardSaid : Prop := Claim7.holds Tryz.pinned (.plain (OpenSpec.upto optionNewSpec)) optionNewUptoCard

/-- THE SECOND FORM's CARD OF 'mullionlaw8.OptionKnown'. -/
def optionKnownUptoCard : Claim7 := { stood := { row := optionKnownUptoRow, standIns := [], harness := (true, "0d9981db928bdd6de42e2e2792fdf0e486197cf6d9fca5667ef7aa4373c39016"), looks := true }, kinds := [], alts := [], laidByText := true, laidKinds := [.data, .data, .data, .data, .sentinel, .sentinel, .data, .pinned], laidTests := true, laidLooks := .later }
def OptionKnownUptoCardSaid : Prop := Claim7.holds Tryz.pinned (.plain (OpenSpec.upto optionKnownSpec)) optionKnownUptoCard

/-- THE SECOND FORM's CARD OF 'mullionlaw8.OptionMany'. -/
def optionManyUptoCard : Claim7 := { stood := { row := optionManyUptoRow, standIns := [], harness := (true, "0d9981db928bdd6de42e2e2792fdf0e486197cf6d9fca5667ef7aa4373c39016"), looks := true }, kinds := [], alts := [], laidByText := true, laidKinds := [.data, .data, .data, .data, .sentinel, .sentinel, .data, .pinned], laidTests := true, laidLooks := .later }
def OptionManyUptoCardSaid : Prop := Claim7.holds Tryz.pinned (.plain (OpenSpec.upto optionManySpec)) optionManyUptoCard

/-- THE SECOND FORM's CARD OF 'mullionlaw8.OptionEnv'. -/
def optionEnvUptoCard : Claim7 := { stood := { row := optionEnvUptoRow, standIns := [], harness := (true, "0d9981db928bdd6de42e2e2792fdf0e486197cf6d9fca5667ef7aa4373c39016"), looks := true }, kinds := [], alts := [], laidByText := true, laidKinds := [.data, .data, .data, .data, .sentinel, .sentinel, .data, .pinned], laidTests := true, laidLooks := .later }
def OptionEnvUptoCardSaid : Prop := Claim7.holds Tryz.pinned (.plain (OpenSpec.upto optionEnvSpec)) optionEnvUptoCard

/-- THE SECOND FORM's CARD OF 'mullionlaw8.OptionBack'. -/
def optionBackUptoCard : Claim7 := { stood := { row := optionBackUptoRow, standIns := [], harness := (true, "0d9981db928bdd6de42e2e2792fdf0e486197cf6d9fca5667ef7aa4373c39016"), looks := true }, kinds := [], alts := [], laidByText := true, laidKinds := [.data, .data, .data, .data, .sentinel, .sentinel, .data, .pinned], laidTests := true, laidLooks := .later }
def OptionBackUptoCardSaid : Prop := Claim7.holds Tryz.pinned (.plain (OpenSpec.upto optionBackSpec)) optionBackUptoCard

/-- THE SECOND FORM's CARD OF 'mullionlaw8.OptionHides'. -/
def optionHidesUptoCard : Claim7 := { stood := { row := optionHidesUptoRow, standIns := [], harness := (true, "0d9981db928bdd6de42e2e2792fdf0e486197cf6d9fca5667ef7aa4373c39016"), looks := true }, kinds := [], alts := [], laidByText := true, laidKinds := [.data, .data, .data, .data, .sentinel, .sentinel, .data, .pinned], laidTests := true, laidLooks := .later }
def OptionHidesUptoCardSaid : Prop := Claim7.holds Tryz.pinned (.plain (OpenSpec.upto optionHidesSpec)) optionHidesUptoCard
end Rows
end Go.Proofs.YtgnlfikkmomghaaGreatDoor
