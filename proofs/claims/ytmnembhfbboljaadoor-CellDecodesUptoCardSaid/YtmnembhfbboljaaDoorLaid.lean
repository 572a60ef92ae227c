/- The program's two tables lie as its text lays them: what the rows' condition gives the walks, and a world that meets it. -/
import Derived.Test.YtmnembhfbboljaaDoorCards
import Derived.Test.YtmnembhfbboljaaDoorTie
import Derived.Test.YtmnembhfbboljaaDoorFlat
import Derived.Test.YtmnembhfbboljaaDoorMem
import Derived.ProofKit
import Derived.OpenShut
import Derived.Deep.DeepHandedRow
namespace Go.Proofs.YtmnembhfbboljaaDoor.Cel
open Go.RowKit

theorem gRows : Tryd.prog.globalNamed "mullion/cell.openings" = some 1 := by kernel_rfl
theorem gSpans : Tryd.prog.globalNamed "mullion/cell.spans" = some 0 := by kernel_rfl
theorem tRows : (Tryd.prog.globals[1]?).map (·.type) = some 73 := by kernel_rfl
theorem tSpans : (Tryd.prog.globals[0]?).map (·.type) = some 52 := by kernel_rfl
theorem tightRows : Flat.tight Tryd.prog 4 73 = true := by kernel_rfl
theorem tightSpans : Flat.tight Tryd.prog 4 52 = true := by kernel_rfl
theorem flatRows : (Flat.flat (Rows.laid_mullion_cell_openings (H := Unit))).toArray = rowCells := rfl
theorem flatSpans : (Flat.flat (Rows.laid_mullion_cell_spans (H := Unit))).toArray = spanCells := rfl

theorem tabs_of {W : World} (h : laidMetH Tryd.prog Rows.cellWidthsRow.laid W) : Tabs W ∧ low ≤ W.heap.size := by
  rw [MakeChecks.laidMetH_plain _ _ _ (by kernel_rfl)] at h
  obtain ⟨ps, ⟨g0, t0, cs0, f0, p0, q0, hg0, ht0, hv0, hd0, ⟨g1, t1, cs1, f1, p1, q1, hg1, ht1, hv1, hd1, _, _⟩, _⟩, _, _⟩ := h
  obtain rfl := Option.some.inj (gRows.symm.trans hg0)
  obtain rfl := Option.some.inj (gSpans.symm.trans hg1)
  obtain rfl := Option.some.inj (tRows.symm.trans ht0)
  obtain rfl := Option.some.inj (tSpans.symm.trans ht1)
  have h0 := Flat.cells_of_read gRows hv0 4 tightRows hd0
  have h1 := Flat.cells_of_read gSpans hv1 4 tightSpans hd1
  rw [flatRows] at h0
  rw [flatSpans] at h1
  refine ⟨⟨h1, h0⟩, ?_⟩
  obtain ⟨_, _, e0⟩ := h0
  obtain ⟨_, _, e1⟩ := h1
  have l0 := (Array.getElem?_eq_some_iff.1 e0).1
  have l1 := (Array.getElem?_eq_some_iff.1 e1).1
  unfold low
  omega

def held (cs : Array Value) : Obj → Obj
  | .cells _ t frozen => .cells cs t frozen
  | o => o
/-- A world for the witness: the settled one, the two variables holding what their initialisers lay. -/
noncomputable def laidWorld (os : Os) : World :=
  { World.holding Tryd.prog os ⟨#[], #[], []⟩ with heap := ((World.holding Tryd.prog os ⟨#[], #[], []⟩).heap.modify 1 (held rowCells)).modify 0 (held spanCells) }
theorem own : ownKnob Tryd.prog.godebug = none := by kernel_rfl
end Go.Proofs.YtmnembhfbboljaaDoor.Cel
