/-
  NARROWER THAN 'FOR EVERY INPUT', by the rows' own cells (each row's printed sentence says how): GridWhole: laid · GridFlows: laid · GridBack: laid · GridMoves: laid.
  DERIVED. THE GIVEN ROWS OF THIS SEAT. 4 by the template 'for every input the law returns true; each argument reads behind the call as it read before'; 0 by the template 'total and deterministic' (their statements: YtgjlohplgpcghaaDoorTotals.lean).
  GIVEN WITH THE SEED: the statements are not yours to turn. If you find one false, say at which input.
  Laid BY PROGRAM, IN A SANDBOX (cutbox-rows.mjs): the forced cells as the released guide's own fill.sh prints them over the translation b97bc283769f0cfa… (all of the seat's roots in one cut). By AI agents, Wed Nov 11 2026. No macro, syntax, notation, axiom, sorry.
-/
import Derived.Test.YtgjlohplgpcghaaDoorChecked
import GoSem.PinnedTables
import GoSem.Claim
import GoSem.ClaimJoined
import GoSem.ClaimMapViews
import Derived.JoinedTies
import Derived.KernelRfl
namespace Go.Proofs.YtgjlohplgpcghaaDoor
/- THE CELL 'sum', in the pinned program and in every row, IS THE sha256 OF THE DUMP (.gsa) THAT YtgjlohplgpcghaaDoorProg.lean LOADS. Nothing in Lean hashes anything: it is a label: what it is worth is what the hold of that sum in a sandbox is worth. -/
noncomputable def Tryd.pinned : Pinned := { name := "ytgjlohplgpcghaadoor", sum := "b97bc283769f0cfa77866c02a0c03bbd9d1e15f7c1c577037f85f1612f2b8fa7", checked := Tryd.checked }
namespace Rows
def none {H : Type} : Left H := { results := [], args := [] }

/- WHAT THE LISTED PACKAGE-LEVEL VARIABLES READ AS WHEN THE CALL BEGINS. Each datum BY PROGRAM (the guide's laid-datum.mjs) off the statement by which the dump's own 'gosem.cut.vars' lays the variable. In a bare row this is a premise. The card (YtgjlohplgpcghaaDoorCards.lean) ties it to the program's text. -/
def laid_unicode_utf8_acceptRanges {H : Type} : DataW H := .agg [.agg [.lit (.int .u8 128), .lit (.int .u8 191)], .agg [.lit (.int .u8 160), .lit (.int .u8 191)], .agg [.lit (.int .u8 128), .lit (.int .u8 159)], .agg [.lit (.int .u8 144), .lit (.int .u8 191)], .agg [.lit (.int .u8 128), .lit (.int .u8 143)], .agg [.lit (.int .u8 0), .lit (.int .u8 0)], .agg [.lit (.int .u8 0), .lit (.int .u8 0)], .agg [.lit (.int .u8 0), .lit (.int .u8 0)], .agg [.lit (.int .u8 0), .lit (.int .u8 0)], .agg [.lit (.int .u8 0), .lit (.int .u8 0)], .agg [.lit (.int .u8 0), .lit (.int .u8 0)], .agg [.lit (.int .u8 0), .lit (.int .u8 0)], .agg [.lit (.int .u8 0), .lit (.int .u8 0)], .agg [.lit (.int .u8 0), .lit (.int .u8 0)], .agg [.lit (.int .u8 0), .lit (.int .u8 0)], .agg [.lit (.int .u8 0), .lit (.int .u8 0)]]
def laid_mullion_cell_spans {H : Type} : DataW H := .agg [.agg [.lit (.int .i32 127), .lit (.int .i32 159), .lit (.int .i64 (-1))], .agg [.lit (.int .i32 768), .lit (.int .i32 879), .lit (.int .i64 0)], .agg [.lit (.int .i32 8203), .lit (.int .i32 8207), .lit (.int .i64 0)], .agg [.lit (.int .i32 65024), .lit (.int .i32 65039), .lit (.int .i64 0)], .agg [.lit (.int .i32 4352), .lit (.int .i32 4447), .lit (.int .i64 2)], .agg [.lit (.int .i32 11904), .lit (.int .i32 12350), .lit (.int .i64 2)], .agg [.lit (.int .i32 12353), .lit (.int .i32 13311), .lit (.int .i64 2)], .agg [.lit (.int .i32 13312), .lit (.int .i32 19903), .lit (.int .i64 2)], .agg [.lit (.int .i32 19968), .lit (.int .i32 40959), .lit (.int .i64 2)], .agg [.lit (.int .i32 40960), .lit (.int .i32 42191), .lit (.int .i64 2)], .agg [.lit (.int .i32 44032), .lit (.int .i32 55203), .lit (.int .i64 2)], .agg [.lit (.int .i32 63744), .lit (.int .i32 64255), .lit (.int .i64 2)], .agg [.lit (.int .i32 65072), .lit (.int .i32 65135), .lit (.int .i64 2)], .agg [.lit (.int .i32 65280), .lit (.int .i32 65376), .lit (.int .i64 2)], .agg [.lit (.int .i32 65504), .lit (.int .i32 65510), .lit (.int .i64 2)], .agg [.lit (.int .i32 127744), .lit (.int .i32 128591), .lit (.int .i64 2)], .agg [.lit (.int .i32 129280), .lit (.int .i32 129535), .lit (.int .i64 2)], .agg [.lit (.int .i32 131072), .lit (.int .i32 262141), .lit (.int .i64 2)]]
/-- One of Go's own tables, pinned by name: the form's constant. -/
def laid_unicode_utf8_first : DataW Unit := Go.Pinned.utf8First

/-- 'mullionlaw4.GridWhole': WHATEVER THE INPUT: true; the input reads as it did. -/
def gridWholeSpec : ChangeSpec := { name := "gridWhole", fn := fun _ => fun
  | [d1, d2, d3, d4, d5] => { results := [.lit (.bool true)], args := [d1, d2, d3, d4, d5] }
  | _ => none }
def gridWholeRow : OpenClaim := { program := "ytgjlohplgpcghaadoor", sum := "b97bc283769f0cfa77866c02a0c03bbd9d1e15f7c1c577037f85f1612f2b8fa7", func := "mullion/mullionlaw4.GridWhole", spec := "gridWhole", inPlace := ["internal/abi.NoEscape", "internal/bytealg.IndexByteString", "internal/bytealg.IndexString"], named := ["mullion/cell.spans", "unicode/utf8.first", "unicode/utf8.acceptRanges", "internal/bytealg.MaxLen"], apart := false, laid := [("unicode/utf8.acceptRanges", laid_unicode_utf8_acceptRanges), ("mullion/cell.spans", laid_mullion_cell_spans), ("unicode/utf8.first", laid_unicode_utf8_first)] }
def GridWholeSaid : Prop := gridWholeRow.holds Tryd.pinned (OpenSpec.ofChange gridWholeSpec)

/-- ITS FALSE NEIGHBOUR: 'it returns false'. Refute it at one input. -/
def gridWholeWrong : ChangeSpec := { name := "gridWhole", fn := fun _ => fun
  | [d1, d2, d3, d4, d5] => { results := [.lit (.bool false)], args := [d1, d2, d3, d4, d5] }
  | _ => none }
def GridWholeWrongFalsely : Prop := gridWholeRow.holds Tryd.pinned (OpenSpec.ofChange gridWholeWrong)

/-- 'mullionlaw4.GridFlows': WHATEVER THE INPUT: true; the input reads as it did. -/
def gridFlowsSpec : ChangeSpec := { name := "gridFlows", fn := fun _ => fun
  | [d1, d2, d3, d4, d5, d6] => { results := [.lit (.bool true)], args := [d1, d2, d3, d4, d5, d6] }
  | _ => none }
def gridFlowsRow : OpenClaim := { program := "ytgjlohplgpcghaadoor", sum := "b97bc283769f0cfa77866c02a0c03bbd9d1e15f7c1c577037f85f1612f2b8fa7", func := "mullion/mullionlaw4.GridFlows", spec := "gridFlows", inPlace := ["internal/abi.NoEscape", "internal/bytealg.IndexByteString", "internal/bytealg.IndexString"], named := ["mullion/cell.spans", "unicode/utf8.first", "unicode/utf8.acceptRanges", "internal/bytealg.MaxLen"], apart := false, laid := [("unicode/utf8.acceptRanges", laid_unicode_utf8_acceptRanges), ("mullion/cell.spans", laid_mullion_cell_spans), ("unicode/utf8.first", laid_unicode_utf8_first)] }
def GridFlowsSaid : Prop := gridFlowsRow.holds Tryd.pinned (OpenSpec.ofChange gridFlowsSpec)

/-- ITS FALSE NEIGHBOUR: 'it returns false'. Refute it at one input. -/
def gridFlowsWrong : ChangeSpec := { name := "gridFlows", fn := fun _ => fun
  | [d1, d2, d3, d4, d5, d6] => { results := [.lit (.bool false)], args := [d1, d2, d3, d4, d5, d6] }
  | _ => none }
def GridFlowsWrongFalsely : Prop := gridFlowsRow.holds Tryd.pinned (OpenSpec.ofChange gridFlowsWrong)

/-- 'mullionlaw4.GridBack': WHATEVER THE INPUT: true; the input reads as it did. -/
def gridBackSpec : ChangeSpec := { name := "gridBack", fn := fun _ => fun
  | [d1, d2, d3, d4, d5] => { results := [.lit (.bool true)], args := [d1, d2, d3, d4, d5] }
  | _ => none }
def gridBackRow : OpenClaim := { program := "ytgjlohplgpcghaadoor", sum := "b97bc283769f0cfa77866c02a0c03bbd9d1e15f7c1c577037f85f1612f2b8fa7", func := "mullion/mullionlaw4.GridBack", spec := "gridBack", inPlace := ["internal/abi.NoEscape", "internal/bytealg.IndexByteString", "internal/bytealg.IndexString"], unfollowed := true, recurses := true, named := ["mullion/cell.spans", "unicode/utf8.first", "unicode/utf8.acceptRanges", "internal/bytealg.MaxLen"], apart := false, laid := [("unicode/utf8.acceptRanges", laid_unicode_utf8_acceptRanges), ("mullion/cell.spans", laid_mullion_cell_spans), ("unicode/utf8.first", laid_unicode_utf8_first)] }
def GridBackSaid : Prop := gridBackRow.holds Tryd.pinned (OpenSpec.ofChange gridBackSpec)

/-- ITS FALSE NEIGHBOUR: 'it returns false'. Refute it at one input. -/
def gridBackWrong : ChangeSpec := { name := "gridBack", fn := fun _ => fun
  | [d1, d2, d3, d4, d5] => { results := [.lit (.bool false)], args := [d1, d2, d3, d4, d5] }
  | _ => none }
def GridBackWrongFalsely : Prop := gridBackRow.holds Tryd.pinned (OpenSpec.ofChange gridBackWrong)

/-- 'mullionlaw4.GridMoves': WHATEVER THE INPUT: true; the input reads as it did. -/
def gridMovesSpec : ChangeSpec := { name := "gridMoves", fn := fun _ => fun
  | [d1, d2, d3, d4, d5, d6] => { results := [.lit (.bool true)], args := [d1, d2, d3, d4, d5, d6] }
  | _ => none }
def gridMovesRow : OpenClaim := { program := "ytgjlohplgpcghaadoor", sum := "b97bc283769f0cfa77866c02a0c03bbd9d1e15f7c1c577037f85f1612f2b8fa7", func := "mullion/mullionlaw4.GridMoves", spec := "gridMoves", inPlace := ["internal/abi.NoEscape", "internal/bytealg.IndexByteString", "internal/bytealg.IndexString"], named := ["mullion/cell.spans", "unicode/utf8.first", "unicode/utf8.acceptRanges", "internal/bytealg.MaxLen"], apart := false, laid := [("unicode/utf8.acceptRanges", laid_unicode_utf8_acceptRanges), ("mullion/cell.spans", laid_mullion_cell_spans), ("unicode/utf8.first", laid_unicode_utf8_first)] }
def GridMovesSaid : Prop := gridMovesRow.holds Tryd.pinned (OpenSpec.ofChange gridMovesSpec)

/-- ITS FALSE NEIGHBOUR: 'it returns false'. Refute it at one input. -/
def gridMovesWrong : ChangeSpec := { name := "gridMoves", fn := fun _ => fun
  | [d1, d2, d3, d4, d5, d6] => { results := [.lit (.bool false)], args := [d1, d2, d3, d4, d5, d6] }
  | _ => none }
def GridMovesWrongFalsely : Prop := gridMovesRow.holds Tryd.pinned (OpenSpec.ofChange gridMovesWrong)

/- THE SECOND FORM. 'bulk': how many values and letters a reading holds, each counted each time it is reached (what is shared counts as often as it is met; a slice's spare places count too). A statement '..UptoSaid' is the law's where the arguments, and the package variables that the reading takes, are together of bulk at most 1048576: NARROWER than '..Said'. Prove '..Said' where nothing that the law and all that it calls make is longer than what came in: it says more and counts as full. Else prove '..UptoSaid'. A law counts once. -/
mutual
def uptoBulk {H : Type} : DataW H → Nat
  | .lit (.string bytes) => bytes.length + 1
  | .lit _ => 1
  | .nil => 1
  | .ptr d => uptoBulk d + 1
  | .slice elems spare => uptoBulkAll elems + uptoBulkAll spare + 1
  | .agg parts => uptoBulkAll parts + 1
  | .iface _ d => uptoBulk d + 1
  | .map entries => uptoBulkEntries entries + 1
  | .held _ => 1
def uptoBulkAll {H : Type} : List (DataW H) → Nat
  | [] => 0
  | d :: r => uptoBulk d + uptoBulkAll r
def uptoBulkEntries {H : Type} : List (Lit × DataW H) → Nat
  | [] => 0
  | x :: r => uptoBulkEntry x + uptoBulkEntries r
def uptoBulkEntry {H : Type} : Lit × DataW H → Nat
  | (.string bytes, d) => bytes.length + uptoBulk d + 1
  | (_, d) => uptoBulk d + 1
 end
def uptoSmall : (H : Type) → List (DataW H) → Bool := fun _ ds => decide (uptoBulkAll ds ≤ 1048576)
def OpenSpec.upto (s : _root_.Go.ChangeSpec) : _root_.Go.OpenSpec := { _root_.Go.OpenSpec.ofChange s with cond := some uptoSmall }

/-- 'mullionlaw4.GridWhole', WHERE WHAT IT READS IS OF BULK AT MOST 1048576: true; the input reads as it did. -/
def gridWholeUptoRow : OpenClaim := { program := "ytgjlohplgpcghaadoor", sum := "b97bc283769f0cfa77866c02a0c03bbd9d1e15f7c1c577037f85f1612f2b8fa7", func := "mullion/mullionlaw4.GridWhole", spec := "gridWhole", inPlace := ["internal/abi.NoEscape", "internal/bytealg.IndexByteString", "internal/bytealg.IndexString"], named := ["mullion/cell.spans", "unicode/utf8.first", "unicode/utf8.acceptRanges", "internal/bytealg.MaxLen"], apart := false, laid := [("unicode/utf8.acceptRanges", laid_unicode_utf8_acceptRanges), ("mullion/cell.spans", laid_mullion_cell_spans), ("unicode/utf8.first", laid_unicode_utf8_first)], narrowed := true }
def GridWholeUptoSaid : Prop := gridWholeUptoRow.holds Tryd.pinned (OpenSpec.upto gridWholeSpec)

/-- 'mullionlaw4.GridFlows', WHERE WHAT IT READS IS OF BULK AT MOST 1048576: true; the input reads as it did. -/
def gridFlowsUptoRow : OpenClaim := { program := "ytgjlohplgpcghaadoor", sum := "b97bc283769f0cfa77866c02a0c03bbd9d1e15f7c1c577037f85f1612f2b8fa7", func := "mullion/mullionlaw4.GridFlows", spec := "gridFlows", inPlace := ["internal/abi.NoEscape", "internal/bytealg.IndexByteString", "internal/bytealg.IndexString"], named := ["mullion/cell.spans", "unicode/utf8.first", "unicode/utf8.acceptRanges", "internal/bytealg.MaxLen"], apart := false, laid := [("unicode/utf8.acceptRanges", laid_unicode_utf8_acceptRanges), ("mullion/cell.spans", laid_mullion_cell_spans), ("unicode/utf8.first", laid_unicode_utf8_first)], narrowed := true }
def GridFlowsUptoSaid : Prop := gridFlowsUptoRow.holds Tryd.pinned (OpenSpec.upto gridFlowsSpec)

/-- 'mullionlaw4.GridBack', WHERE WHAT IT READS IS OF BULK AT MOST 1048576: true; the input reads as it did. -/
def gridBackUptoRow : OpenClaim := { program := "ytgjlohplgpcghaadoor", sum := "b97bc283769f0cfa77866c02a0c03bbd9d1e15f7c1c577037f85f1612f2b8fa7", func := "mullion/mullionlaw4.GridBack", spec := "gridBack", inPlace := ["internal/abi.NoEscape", "internal/bytealg.IndexByteString", "internal/bytealg.IndexString"], unfollowed := true, recurses := true, named := ["mullion/cell.spans", "unicode/utf8.first", "unicode/utf8.acceptRanges", "internal/bytealg.MaxLen"], apart := false, laid := [("unicode/utf8.acceptRanges", laid_unicode_utf8_acceptRanges), ("mullion/cell.spans", laid_mullion_cell_spans), ("unicode/utf8.first", laid_unicode_utf8_first)], narrowed := true }
def GridBackUptoSaid : Prop := gridBackUptoRow.holds Tryd.pinned (OpenSpec.upto gridBackSpec)

/-- 'mullionlaw4.GridMoves', WHERE WHAT IT READS IS OF BULK AT MOST 1048576: true; the input reads as it did. -/
def gridMovesUptoRow : OpenClaim := { program := "ytgjlohplgpcghaadoor", sum := "b97bc283769f0cfa77866c02a0c03bbd9d1e15f7c1c577037f85f1612f2b8fa7", func := "mullion/mullionlaw4.GridMoves", spec := "gridMoves", inPlace := ["internal/abi.NoEscape", "internal/bytealg.IndexByteString", "internal/bytealg.IndexString"], named := ["mullion/cell.spans", "unicode/utf8.first", "unicode/utf8.acceptRanges", "internal/bytealg.MaxLen"], apart := false, laid := [("unicode/utf8.acceptRanges", laid_unicode_utf8_acceptRanges), ("mullion/cell.spans", laid_mullion_cell_spans), ("unicode/utf8.first", laid_unicode_utf8_first)], narrowed := true }
def GridMovesUptoSaid : Prop := gridMovesUptoRow.holds Tryd.pinned (OpenSpec.upto gridMovesSpec)

end Rows
end Go.Proofs.YtgjlohplgpcghaaDoor
