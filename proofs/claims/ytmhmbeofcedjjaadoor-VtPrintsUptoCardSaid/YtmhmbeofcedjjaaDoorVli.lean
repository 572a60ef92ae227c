/- The rows' condition gives the walks what they need of the tables; a world that meets it. -/
import Derived.Test.YtmhmbeofcedjjaaDoorCards
import Derived.Test.YtmhmbeofcedjjaaDoorTie
import Derived.Test.YtmhmbeofcedjjaaDoorFlat
import Derived.Test.YtmhmbeofcedjjaaDoorPost
import Derived.Test.YtmhmbeofcedjjaaDoorMem
import Derived.ProofKit
import Derived.OpenShut
import Derived.Lay
import Derived.LaidLaws
import Derived.Lib.SmallJoins
import Derived.ChangeMaps5
import Derived.Deep.DeepHandedRow
namespace Go.Proofs.YtmhmbeofcedjjaaDoor.Vt
open Go.RowKit Go.ChangeShapes Go.WideShapes Go.ChangeAt Go.Joins
open Cel (Tabs low rowCells dbCells u10Cells)

theorem gRows : Tryd.prog.globalNamed "mullion/cell.openings" = some 0 := by kernel_rfl
theorem gDb : Tryd.prog.globalNamed "math/bits.deBruijn64tab" = some 3 := by kernel_rfl
theorem gU10 : Tryd.prog.globalNamed "internal/strconv.uint64pow10" = some 1 := by kernel_rfl
theorem tRows : (Tryd.prog.globals[0]?).map (·.type) = some 83 := by kernel_rfl
theorem tDb : (Tryd.prog.globals[3]?).map (·.type) = some 97 := by kernel_rfl
theorem tU10 : (Tryd.prog.globals[1]?).map (·.type) = some 91 := by kernel_rfl
theorem tightRows : Flat.tight Tryd.prog 4 83 = true := by kernel_rfl
theorem tightDb : Flat.tight Tryd.prog 4 97 = true := by kernel_rfl
theorem tightU10 : Flat.tight Tryd.prog 4 91 = true := by kernel_rfl
set_option maxRecDepth 100000 in
theorem flatRows : (Flat.flat (Rows.laid_mullion_cell_openings (H := Unit))).toArray = rowCells := by kernel_rfl
set_option maxRecDepth 100000 in
theorem flatDb : (Flat.flat (Rows.laid_math_bits_deBruijn64tab (H := Unit))).toArray = dbCells := by kernel_rfl
set_option maxRecDepth 100000 in
theorem flatU10 : (Flat.flat (Rows.laid_internal_strconv_uint64pow10 (H := Unit))).toArray = u10Cells := by kernel_rfl
theorem tabs_of {W : World} (h : laidMetH Tryd.prog Rows.vtRecoversRow.laid W) : Tabs W ∧ low ≤ W.heap.size := by
  rw [MakeChecks.laidMetH_plain _ _ _ (by kernel_rfl)] at h
  obtain ⟨ps, ⟨ga, ta, csa, fa, pa, qa, hga, hta, hva, hda, ⟨gb, tb, csb, fb, pb, qb, hgb, htb, hvb, hdb, ⟨gc, tc, csc, fc, pc, qc, hgc, htc, hvc, hdc, ⟨gd, td, csd, fd, pd, qd, hgd, htd, hvd, hdd, _⟩, _⟩, _⟩, _⟩, _⟩ := h
  clear hga hta hva hda
  obtain rfl := Option.some.inj (gDb.symm.trans hgb)
  obtain rfl := Option.some.inj (gU10.symm.trans hgc)
  obtain rfl := Option.some.inj (gRows.symm.trans hgd)
  obtain rfl := Option.some.inj (tDb.symm.trans htb)
  obtain rfl := Option.some.inj (tU10.symm.trans htc)
  obtain rfl := Option.some.inj (tRows.symm.trans htd)
  have h1 := Flat.cells_of_read gDb hvb 4 tightDb hdb
  have h2 := Flat.cells_of_read gU10 hvc 4 tightU10 hdc
  have h3 := Flat.cells_of_read gRows hvd 4 tightRows hdd
  rw [flatDb] at h1
  rw [flatU10] at h2
  rw [flatRows] at h3
  refine ⟨⟨h3, h2, h1⟩, ?_⟩
  obtain ⟨_, _, e1⟩ := h1
  obtain ⟨_, _, e2⟩ := h2
  obtain ⟨_, _, e3⟩ := h3
  have l1 := (Array.getElem?_eq_some_iff.1 e1).1
  have l2 := (Array.getElem?_eq_some_iff.1 e2).1
  have l3 := (Array.getElem?_eq_some_iff.1 e3).1
  unfold low
  omega

/-- A world for the witness: the settled one, every listed variable as the row lists it. -/
noncomputable def laidWorld (os : Os) : World := World.laidAll Tryd.prog os Rows.vtRecoversRow.laid
theorem own : ownKnob Tryd.prog.godebug = none := by kernel_rfl
theorem laid_met (os : Os) (args : Array Value) : laidMet Tryd.prog Rows.vtRecoversRow.laid ((laidWorld os).forCall (fun _ _ => 0) ⟨#[], args, []⟩).memory := laidMet_laidAll _ (by kernel_rfl) (by kernel_rfl)
theorem shaped (os : Os) (args : Array Value) : ((laidWorld os).forCall (fun _ _ => 0) ⟨#[], args, []⟩).Shaped Tryd.prog := World.shaped_of_ZipB (by kernel_rfl) (by kernel_rfl)
theorem witness_row_shaped {H : Type} {enc : TypeId × Value → H} {C : Checked} {os : Os} {f : FuncId} {fn : Func} {s : OpenSpec} {conds : List PathCond} {apart : Bool} {laid : List (String × DataW Unit)} (w0 : World) (args : Array Value) (hos : w0.os = os)
    (hsh : (w0.forCall (fun _ _ => 0) ⟨#[], args, []⟩).Shaped C.prog)
    (hok : Input.okWideB C.prog (w0.forCall (fun _ _ => 0) ⟨#[], args, []⟩) f ⟨#[], args, []⟩ = true)
    (hrow : s.preRow enc C.prog fn conds apart laid (w0.forCall (fun _ _ => 0) ⟨#[], args, []⟩).memory args) :
    ∃ (w : World) (tape : Tape) (i : Input), w.os = os ∧ (w.forCall tape i).Shaped C.prog ∧ i.vars = [] ∧ Input.okWide C.prog (w.forCall tape i) .any w.heap.size f i ∧
      s.preRow enc C.prog fn conds apart laid (w.forCall tape i).memory i.args ∧ ({} : Assume).holds C.prog (lone (Frame.enter C.prog f i.args .normal) [] (w.forCall tape i)) :=
  ⟨w0, fun _ _ => 0, ⟨#[], args, []⟩, hos, hsh, (Input.okWide_of_okWideB (base := 0) hok).1, (Input.okWide_of_okWideB hok).2, hrow, by simp [Assume.holds]⟩
end Go.Proofs.YtmhmbeofcedjjaaDoor.Vt
