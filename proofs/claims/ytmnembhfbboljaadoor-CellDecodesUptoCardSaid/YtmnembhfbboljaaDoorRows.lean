/-
  NARROWER THAN 'FOR EVERY INPUT', by the rows' own cells (each row's printed sentence says how): CellDecodes: laid · CellWidths: laid · CellTexts: laid · CellBack: laid · CellCuts: laid · CellJoins: laid.
  DERIVED. THE GIVEN ROWS OF THIS SEAT. 6 by the template 'for every input the law returns true; each argument reads behind the call as it read before'; 0 by the template 'total and deterministic' (their statements: YtmnembhfbboljaaDoorTotals.lean).
  GIVEN WITH THE SEED: the statements are not yours to turn. If you find one false, say at which input.
  Laid BY PROGRAM, IN A SANDBOX (cutbox-rows.mjs): the forced cells as the released guide's own fill.sh prints them over the translation 7e6852dbf8054243… (all of the seat's roots in one cut). By AI agents, Wed Nov 11 2026. No macro, syntax, notation, axiom, sorry.
-/
import Derived.Test.YtmnembhfbboljaaDoorChecked
import GoSem.Claim
import GoSem.ClaimJoined
import GoSem.ClaimMapViews
import Derived.JoinedTies
import Derived.KernelRfl
namespace Go.Proofs.YtmnembhfbboljaaDoor
/- THE CELL 'sum', in the pinned program and in every row, IS THE sha256 OF THE DUMP (.gsa) THAT YtmnembhfbboljaaDoorProg.lean LOADS. Nothing in Lean hashes anything: it is a label: what it is worth is what the hold of that sum in a sandbox is worth. -/
noncomputable def Tryd.pinned : Pinned := { name := "ytmnembhfbboljaadoor", sum := "7e6852dbf8054243cf08b2d7c7756ea2467ae8d0aff29655f133d04e9c5b8728", checked := Tryd.checked }
namespace Rows
def none {H : Type} : Left H := { results := [], args := [] }

/- WHAT THE LISTED PACKAGE-LEVEL VARIABLES READ AS WHEN THE CALL BEGINS. Each datum BY PROGRAM (the guide's laid-datum.mjs) off the statement by which the dump's own 'gosem.cut.vars' lays the variable. In a bare row this is a premise. The card (YtmnembhfbboljaaDoorCards.lean) ties it to the program's text. -/
def laid_mullion_cell_openings {H : Type} : DataW H := .agg [.agg [.lit (.int .u8 194), .lit (.int .u8 223), .lit (.int .u8 128), .lit (.int .u8 191), .lit (.int .i64 0)], .agg [.lit (.int .u8 224), .lit (.int .u8 224), .lit (.int .u8 160), .lit (.int .u8 191), .lit (.int .i64 1)], .agg [.lit (.int .u8 225), .lit (.int .u8 236), .lit (.int .u8 128), .lit (.int .u8 191), .lit (.int .i64 1)], .agg [.lit (.int .u8 237), .lit (.int .u8 237), .lit (.int .u8 128), .lit (.int .u8 159), .lit (.int .i64 1)], .agg [.lit (.int .u8 238), .lit (.int .u8 239), .lit (.int .u8 128), .lit (.int .u8 191), .lit (.int .i64 1)], .agg [.lit (.int .u8 240), .lit (.int .u8 240), .lit (.int .u8 144), .lit (.int .u8 191), .lit (.int .i64 2)], .agg [.lit (.int .u8 241), .lit (.int .u8 243), .lit (.int .u8 128), .lit (.int .u8 191), .lit (.int .i64 2)], .agg [.lit (.int .u8 244), .lit (.int .u8 244), .lit (.int .u8 128), .lit (.int .u8 143), .lit (.int .i64 2)]]
def laid_mullion_cell_spans {H : Type} : DataW H := .agg [.agg [.lit (.int .i32 127), .lit (.int .i32 159), .lit (.int .i64 (-1))], .agg [.lit (.int .i32 768), .lit (.int .i32 879), .lit (.int .i64 0)], .agg [.lit (.int .i32 8203), .lit (.int .i32 8207), .lit (.int .i64 0)], .agg [.lit (.int .i32 65024), .lit (.int .i32 65039), .lit (.int .i64 0)], .agg [.lit (.int .i32 4352), .lit (.int .i32 4447), .lit (.int .i64 2)], .agg [.lit (.int .i32 11904), .lit (.int .i32 12350), .lit (.int .i64 2)], .agg [.lit (.int .i32 12353), .lit (.int .i32 13311), .lit (.int .i64 2)], .agg [.lit (.int .i32 13312), .lit (.int .i32 19903), .lit (.int .i64 2)], .agg [.lit (.int .i32 19968), .lit (.int .i32 40959), .lit (.int .i64 2)], .agg [.lit (.int .i32 40960), .lit (.int .i32 42191), .lit (.int .i64 2)], .agg [.lit (.int .i32 44032), .lit (.int .i32 55203), .lit (.int .i64 2)], .agg [.lit (.int .i32 63744), .lit (.int .i32 64255), .lit (.int .i64 2)], .agg [.lit (.int .i32 65072), .lit (.int .i32 65135), .lit (.int .i64 2)], .agg [.lit (.int .i32 65280), .lit (.int .i32 65376), .lit (.int .i64 2)], .agg [.lit (.int .i32 65504), .lit (.int .i32 65510), .lit (.int .i64 2)], .agg [.lit (.int .i32 127744), .lit (.int .i32 128591), .lit (.int .i64 2)], .agg [.lit (.int .i32 129280), .lit (.int .i32 129535), .lit (.int .i64 2)], .agg [.lit (.int .i32 131072), .lit (.int .i32 262141), .lit (.int .i64 2)]]

/-- 'mullionlaw1.CellDecodes': WHATEVER THE INPUT: true; the input reads as it did. -/
def cellDecodesSpec : ChangeSpec := { name := "cellDecodes", fn := fun _ => fun
  | [d1, d2] => { results := [.lit (.bool true)], args := [d1, d2] }
  | _ => none }
def cellDecodesRow : OpenClaim := { program := "ytmnembhfbboljaadoor", sum := "7e6852dbf8054243cf08b2d7c7756ea2467ae8d0aff29655f133d04e9c5b8728", func := "mullion/mullionlaw1.CellDecodes", spec := "cellDecodes", inPlace := ["internal/abi.NoEscape", "internal/bytealg.MakeNoZero"], named := ["mullion/cell.openings", "mullion/cell.spans"], apart := false, laid := [("mullion/cell.openings", laid_mullion_cell_openings), ("mullion/cell.spans", laid_mullion_cell_spans)] }
def CellDecodesSaid : Prop := cellDecodesRow.holds Tryd.pinned (OpenSpec.ofChange cellDecodesSpec)

/-- ITS FALSE NEIGHBOUR: 'it returns false'. Refute it at one input. -/
def cellDecodesWrong : ChangeSpec := { name := "cellDecodes", fn := fun _ => fun
  | [d1, d2] => { results := [.lit (.bool false)], args := [d1, d2] }
  | _ => none }
def CellDecodesWrongFalsely : Prop := cellDecodesRow.holds Tryd.pinned (OpenSpec.ofChange cellDecodesWrong)

/-- 'mullionlaw1.CellWidths': WHATEVER THE INPUT: true; the input reads as it did. -/
def cellWidthsSpec : ChangeSpec := { name := "cellWidths", fn := fun _ => fun
  | [d] => { results := [.lit (.bool true)], args := [d] }
  | _ => none }
def cellWidthsRow : OpenClaim := { program := "ytmnembhfbboljaadoor", sum := "7e6852dbf8054243cf08b2d7c7756ea2467ae8d0aff29655f133d04e9c5b8728", func := "mullion/mullionlaw1.CellWidths", spec := "cellWidths", inPlace := ["internal/abi.NoEscape", "internal/bytealg.MakeNoZero"], named := ["mullion/cell.openings", "mullion/cell.spans"], apart := false, laid := [("mullion/cell.openings", laid_mullion_cell_openings), ("mullion/cell.spans", laid_mullion_cell_spans)] }
def CellWidthsSaid : Prop := cellWidthsRow.holds Tryd.pinned (OpenSpec.ofChange cellWidthsSpec)

/-- ITS FALSE NEIGHBOUR: 'it returns false'. Refute it at one input. -/
def cellWidthsWrong : ChangeSpec := { name := "cellWidths", fn := fun _ => fun
  | [d] => { results := [.lit (.bool false)], args := [d] }
  | _ => none }
def CellWidthsWrongFalsely : Prop := cellWidthsRow.holds Tryd.pinned (OpenSpec.ofChange cellWidthsWrong)

/-- 'mullionlaw1.CellTexts': WHATEVER THE INPUT: true; the input reads as it did. -/
def cellTextsSpec : ChangeSpec := { name := "cellTexts", fn := fun _ => fun
  | [d1, d2] => { results := [.lit (.bool true)], args := [d1, d2] }
  | _ => none }
def cellTextsRow : OpenClaim := { program := "ytmnembhfbboljaadoor", sum := "7e6852dbf8054243cf08b2d7c7756ea2467ae8d0aff29655f133d04e9c5b8728", func := "mullion/mullionlaw1.CellTexts", spec := "cellTexts", inPlace := ["internal/abi.NoEscape", "internal/bytealg.MakeNoZero"], named := ["mullion/cell.openings", "mullion/cell.spans"], apart := false, laid := [("mullion/cell.openings", laid_mullion_cell_openings), ("mullion/cell.spans", laid_mullion_cell_spans)] }
def CellTextsSaid : Prop := cellTextsRow.holds Tryd.pinned (OpenSpec.ofChange cellTextsSpec)

/-- ITS FALSE NEIGHBOUR: 'it returns false'. Refute it at one input. -/
def cellTextsWrong : ChangeSpec := { name := "cellTexts", fn := fun _ => fun
  | [d1, d2] => { results := [.lit (.bool false)], args := [d1, d2] }
  | _ => none }
def CellTextsWrongFalsely : Prop := cellTextsRow.holds Tryd.pinned (OpenSpec.ofChange cellTextsWrong)

/-- 'mullionlaw1.CellBack': WHATEVER THE INPUT: true; the input reads as it did. -/
def cellBackSpec : ChangeSpec := { name := "cellBack", fn := fun _ => fun
  | [d] => { results := [.lit (.bool true)], args := [d] }
  | _ => none }
def cellBackRow : OpenClaim := { program := "ytmnembhfbboljaadoor", sum := "7e6852dbf8054243cf08b2d7c7756ea2467ae8d0aff29655f133d04e9c5b8728", func := "mullion/mullionlaw1.CellBack", spec := "cellBack", inPlace := ["internal/abi.NoEscape", "internal/bytealg.MakeNoZero"], named := ["mullion/cell.openings", "mullion/cell.spans"], apart := false, laid := [("mullion/cell.openings", laid_mullion_cell_openings), ("mullion/cell.spans", laid_mullion_cell_spans)] }
def CellBackSaid : Prop := cellBackRow.holds Tryd.pinned (OpenSpec.ofChange cellBackSpec)

/-- ITS FALSE NEIGHBOUR: 'it returns false'. Refute it at one input. -/
def cellBackWrong : ChangeSpec := { name := "cellBack", fn := fun _ => fun
  | [d] => { results := [.lit (.bool false)], args := [d] }
  | _ => none }
def CellBackWrongFalsely : Prop := cellBackRow.holds Tryd.pinned (OpenSpec.ofChange cellBackWrong)

/-- 'mullionlaw1.CellCuts': WHATEVER THE INPUT: true; the input reads as it did. -/
def cellCutsSpec : ChangeSpec := { name := "cellCuts", fn := fun _ => fun
  | [d1, d2] => { results := [.lit (.bool true)], args := [d1, d2] }
  | _ => none }
def cellCutsRow : OpenClaim := { program := "ytmnembhfbboljaadoor", sum := "7e6852dbf8054243cf08b2d7c7756ea2467ae8d0aff29655f133d04e9c5b8728", func := "mullion/mullionlaw1.CellCuts", spec := "cellCuts", inPlace := ["internal/abi.NoEscape", "internal/bytealg.MakeNoZero"], named := ["mullion/cell.openings", "mullion/cell.spans"], apart := false, laid := [("mullion/cell.openings", laid_mullion_cell_openings), ("mullion/cell.spans", laid_mullion_cell_spans)] }
def CellCutsSaid : Prop := cellCutsRow.holds Tryd.pinned (OpenSpec.ofChange cellCutsSpec)

/-- ITS FALSE NEIGHBOUR: 'it returns false'. Refute it at one input. -/
def cellCutsWrong : ChangeSpec := { name := "cellCuts", fn := fun _ => fun
  | [d1, d2] => { results := [.lit (.bool false)], args := [d1, d2] }
  | _ => none }
def CellCutsWrongFalsely : Prop := cellCutsRow.holds Tryd.pinned (OpenSpec.ofChange cellCutsWrong)

/-- 'mullionlaw1.CellJoins': WHATEVER THE INPUT: true; the input reads as it did. -/
def cellJoinsSpec : ChangeSpec := { name := "cellJoins", fn := fun _ => fun
  | [d1, d2] => { results := [.lit (.bool true)], args := [d1, d2] }
  | _ => none }
def cellJoinsRow : OpenClaim := { program := "ytmnembhfbboljaadoor", sum := "7e6852dbf8054243cf08b2d7c7756ea2467ae8d0aff29655f133d04e9c5b8728", func := "mullion/mullionlaw1.CellJoins", spec := "cellJoins", inPlace := ["internal/abi.NoEscape", "internal/bytealg.MakeNoZero"], named := ["mullion/cell.openings", "mullion/cell.spans"], apart := false, laid := [("mullion/cell.openings", laid_mullion_cell_openings), ("mullion/cell.spans", laid_mullion_cell_spans)] }
def CellJoinsSaid : Prop := cellJoinsRow.holds Tryd.pinned (OpenSpec.ofChange cellJoinsSpec)

/-- ITS FALSE NEIGHBOUR: 'it returns false'. Refute it at one input. -/
def cellJoinsWrong : ChangeSpec := { name := "cellJoins", fn := fun _ => fun
  | [d1, d2] => { results := [.lit (.bool false)], args := [d1, d2] }
  | _ => none }
def CellJoinsWrongFalsely : Prop := cellJoinsRow.holds Tryd.pinned (OpenSpec.ofChange cellJoinsWrong)

/- THE SECOND FORM. 'bulk': how many values and letters a reading holds, each counted each time it is reached (what is shared counts as often as it is met; a slice's spare places count too). A statement '..UptoSaid' is the law's where the arguments, and the package variables that the reading takes, are together of bulk at most 1048576: NARROWER than '..Said'. Prove '..Said' where nothing that the law and all that it calls make is longer than what came in: it says more and counts as full. Else prove '..UptoSaid'. A law counts once. -/
mutual
def uptoBulk {H : Type} : DataW H → Nat
  | .lit (.string bytes) => bytes.length + 1
  | .lit _ => 1
  | .nil => 1
  | .ptr d => uptoBulk d + 1
  | .slice elems spare => uptoBulkAll elems + uptoBulkAll spare + 1
  | .agg parts => uptoBulkAll parts + 1
  | .iface _ d => uptoBulk d + 1
  | .map entries => uptoBulkEntries entries + 1
  | .held _ => 1
def uptoBulkAll {H : Type} : List (DataW H) → Nat
  | [] => 0
  | d :: r => uptoBulk d + uptoBulkAll r
def uptoBulkEntries {H : Type} : List (Lit × DataW H) → Nat
  | [] => 0
  | x :: r => uptoBulkEntry x + uptoBulkEntries r
def uptoBulkEntry {H : Type} : Lit × DataW H → Nat
  | (.string bytes, d) => bytes.length + uptoBulk d + 1
  | (_, d) => uptoBulk d + 1
 end
def uptoSmall : (H : Type) → List (DataW H) → Bool := fun _ ds => decide (uptoBulkAll ds ≤ 1048576)
def OpenSpec.upto (s : _root_.Go.ChangeSpec) : _root_.Go.OpenSpec := { _root_.Go.OpenSpec.ofChange s with cond := some uptoSmall }

/-- 'mullionlaw1.CellDecodes', WHERE WHAT IT READS IS OF BULK AT MOST 1048576: true; the input reads as it did. -/
def cellDecodesUptoRow : OpenClaim := { program := "ytmnembhfbboljaadoor", sum := "7e6852dbf8054243cf08b2d7c7756ea2467ae8d0aff29655f133d04e9c5b8728", func := "mullion/mullionlaw1.CellDecodes", spec := "cellDecodes", inPlace := ["internal/abi.NoEscape", "internal/bytealg.MakeNoZero"], named := ["mullion/cell.openings", "mullion/cell.spans"], apart := false, laid := [("mullion/cell.openings", laid_mullion_cell_openings), ("mullion/cell.spans", laid_mullion_cell_spans)], narrowed := true }
def CellDecodesUptoSaid : Prop := cellDecodesUptoRow.holds Tryd.pinned (OpenSpec.upto cellDecodesSpec)

/-- 'mullionlaw1.CellWidths', WHERE WHAT IT READS IS OF BULK AT MOST 1048576: true; the input reads as it did. -/
def cellWidthsUptoRow : OpenClaim := { program := "ytmnembhfbboljaadoor", sum := "7e6852dbf8054243cf08b2d7c7756ea2467ae8d0aff29655f133d04e9c5b8728", func := "mullion/mullionlaw1.CellWidths", spec := "cellWidths", inPlace := ["internal/abi.NoEscape", "internal/bytealg.MakeNoZero"], named := ["mullion/cell.openings", "mullion/cell.spans"], apart := false, laid := [("mullion/cell.openings", laid_mullion_cell_openings), ("mullion/cell.spans", laid_mullion_cell_spans)], narrowed := true }
def CellWidthsUptoSaid : Prop := cellWidthsUptoRow.holds Tryd.pinned (OpenSpec.upto cellWidthsSpec)

/-- 'mullionlaw1.CellTexts', WHERE WHAT IT READS IS OF BULK AT MOST 1048576: true; the input reads as it did. -/
def cellTextsUptoRow : OpenClaim := { program := "ytmnembhfbboljaadoor", sum := "7e6852dbf8054243cf08b2d7c7756ea2467ae8d0aff29655f133d04e9c5b8728", func := "mullion/mullionlaw1.CellTexts", spec := "cellTexts", inPlace := ["internal/abi.NoEscape", "internal/bytealg.MakeNoZero"], named := ["mullion/cell.openings", "mullion/cell.spans"], apart := false, laid := [("mullion/cell.openings", laid_mullion_cell_openings), ("mullion/cell.spans", laid_mullion_cell_spans)], narrowed := true }
def CellTextsUptoSaid : Prop := cellTextsUptoRow.holds Tryd.pinned (OpenSpec.upto cellTextsSpec)

/-- 'mullionlaw1.CellBack', WHERE WHAT IT READS IS OF BULK AT MOST 1048576: true; the input reads as it did. -/
def cellBackUptoRow : OpenClaim := { program := "ytmnembhfbboljaadoor", sum := "7e6852dbf8054243cf08b2d7c7756ea2467ae8d0aff29655f133d04e9c5b8728", func := "mullion/mullionlaw1.CellBack", spec := "cellBack", inPlace := ["internal/abi.NoEscape", "internal/bytealg.MakeNoZero"], named := ["mullion/cell.openings", "mullion/cell.spans"], apart := false, laid := [("mullion/cell.openings", laid_mullion_cell_openings), ("mullion/cell.spans", laid_mullion_cell_spans)], narrowed := true }
def CellBackUptoSaid : Prop := cellBackUptoRow.holds Tryd.pinned (OpenSpec.upto cellBackSpec)

/-- 'mullionlaw1.CellCuts', WHERE WHAT IT READS IS OF BULK AT MOST 1048576: true; the input reads as it did. -/
def cellCutsUptoRow : OpenClaim := { program := "ytmnembhfbboljaadoor", sum := "7e6852dbf8054243cf08b2d7c7756ea2467ae8d0aff29655f133d04e9c5b8728", func := "mullion/mullionlaw1.CellCuts", spec := "cellCuts", inPlace := ["internal/abi.NoEscape", "internal/bytealg.MakeNoZero"], named := ["mullion/cell.openings", "mullion/cell.spans"], apart := false, laid := [("mullion/cell.openings", laid_mullion_cell_openings), ("mullion/cell.spans", laid_mullion_cell_spans)], narrowed := true }
def CellCutsUptoSaid : Prop := cellCutsUptoRow.holds Tryd.pinned (OpenSpec.upto cellCutsSpec)

/-- 'mullionlaw1.CellJoins', WHERE WHAT IT READS IS OF BULK AT MOST 1048576: true; the input reads as it did. -/
def cellJoinsUptoRow : OpenClaim := { program := "ytmnembhfbboljaadoor", sum := "7e6852dbf8054243cf08b2d7c7756ea2467ae8d0aff29655f133d04e9c5b8728", func := "mullion/mullionlaw1.CellJoins", spec := "cellJoins", inPlace := ["internal/abi.NoEscape", "internal/bytealg.MakeNoZero"], named := ["mullion/cell.openings", "mullion/cell.spans"], apart := false, laid := [("mullion/cell.openings", laid_mullion_cell_openings), ("mullion/cell.spans", laid_mullion_cell_spans)], narrowed := true }
def CellJoinsUptoSaid : Prop := cellJoinsUptoRow.holds Tryd.pinned (OpenSpec.upto cellJoinsSpec)

end Rows
end Go.Proofs.YtmnembhfbboljaaDoor
