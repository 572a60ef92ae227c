/- The rows' condition gives the walks what they need of the tables; a world that meets it. -/
import Derived.Test.YtjklnnklgkihlaaGreatDoorCards
import Derived.Test.YtjklnnklgkihlaaGreatDoorTie
import Derived.Test.YtjklnnklgkihlaaGreatDoorPay
import Derived.Test.YtjklnnklgkihlaaGreatDoorPaz
import Derived.Test.YtjklnnklgkihlaaGreatDoorPNsx
import Derived.ProofKit
import Derived.OpenShut
import Derived.Lay
import Derived.LaidLaws
import Derived.Lib.SmallJoins
import Derived.ChangeMaps5
import Derived.Deep.DeepHandedRow
namespace Go.Proofs.YtjklnnklgkihlaaGreatDoor.Scr
open Go.RowKit Go.ChangeShapes Go.WideShapes Go.ChangeAt Go.Joins Cel Sty Grd

theorem gDb6 : Tryz.prog.globalNamed "math/bits.deBruijn64tab" = some 9 := by kernel_rfl
theorem tDb6 : (Tryz.prog.globals[9]?).map (·.type) = some 214 := by kernel_rfl
theorem tightDb6 : Flat.tight Tryz.prog 4 214 = true := by kernel_rfl
set_option maxRecDepth 100000 in
theorem flatDb6 : (Flat.flat (Rows.laid_math_bits_deBruijn64tab (H := Unit))).toArray = Cel.dbCells := by kernel_rfl
theorem gU106 : Tryz.prog.globalNamed "internal/strconv.uint64pow10" = some 4 := by kernel_rfl
theorem tU106 : (Tryz.prog.globals[4]?).map (·.type) = some 201 := by kernel_rfl
theorem tightU106 : Flat.tight Tryz.prog 4 201 = true := by kernel_rfl
set_option maxRecDepth 100000 in
theorem flatU106 : (Flat.flat (Rows.laid_internal_strconv_uint64pow10 (H := Unit))).toArray = Cel.u10Cells := by kernel_rfl
theorem gRo6 : Tryz.prog.globalNamed "mullion/cell.openings" = some 3 := by kernel_rfl
theorem tRo6 : (Tryz.prog.globals[3]?).map (·.type) = some 190 := by kernel_rfl
theorem tightRo6 : Flat.tight Tryz.prog 4 190 = true := by kernel_rfl
set_option maxRecDepth 100000 in
theorem flatRo6 : (Flat.flat (Rows.laid_mullion_cell_openings (H := Unit))).toArray = Cel.rowCells := by kernel_rfl
theorem gSp6 : Tryz.prog.globalNamed "mullion/cell.spans" = some 0 := by kernel_rfl
theorem tSp6 : (Tryz.prog.globals[0]?).map (·.type) = some 155 := by kernel_rfl
theorem tightSp6 : Flat.tight Tryz.prog 4 155 = true := by kernel_rfl
set_option maxRecDepth 100000 in
theorem flatSp6 : (Flat.flat (Rows.laid_mullion_cell_spans (H := Unit))).toArray = spanCells := by kernel_rfl
theorem gAt6 : Tryz.prog.globalNamed "mullion/screen.attributes" = some 7 := by kernel_rfl
theorem tAt6 : (Tryz.prog.globals[7]?).map (·.type) = some 211 := by kernel_rfl
theorem tightAt6 : Flat.tight Tryz.prog 4 211 = true := by kernel_rfl
set_option maxRecDepth 100000 in
theorem flatAt6 : (Flat.flat (Rows.laid_mullion_screen_attributes (H := Unit))).toArray = attrCells := by kernel_rfl
theorem tabled_of {W : World} (h : laidMetH Tryz.prog Rows.screenLinesRow.laid W) : Tabled W.heap.size W := by
  rw [MakeChecks.laidMetH_plain _ _ _ (by kernel_rfl)] at h
  obtain ⟨ps, ⟨ga, ta, csa, fa, pa, qa, hga, hta, hva, hda, ⟨gb, tb, csb, fb, pb, qb, hgb, htb, hvb, hdb, ⟨gc, tc, csc, fc, pc, qc, hgc, htc, hvc, hdc, ⟨gd, td, csd, fd, pd, qd, hgd, htd, hvd, hdd, ⟨ge, te, cse, fe, pe, qe, hge, hte, hve, hde, ⟨gf, tf, csf, ff, pf, qf, hgf, htf, hvf, hdf, ⟨gg, tg, csg, fg, pg, qg, hgg, htg, hvg, hdg, _⟩, _⟩, _⟩, _⟩, _⟩, _⟩, _⟩, _⟩ := h
  clear hga hta hva hda hgd htd hvd hdd
  obtain rfl := Option.some.inj (gDb6.symm.trans hgb)
  obtain rfl := Option.some.inj (tDb6.symm.trans htb)
  have hb := Flat.cells_of_read gDb6 hvb 4 tightDb6 hdb
  rw [flatDb6] at hb
  obtain rfl := Option.some.inj (gU106.symm.trans hgc)
  obtain rfl := Option.some.inj (tU106.symm.trans htc)
  have hc := Flat.cells_of_read gU106 hvc 4 tightU106 hdc
  rw [flatU106] at hc
  obtain rfl := Option.some.inj (gRo6.symm.trans hge)
  obtain rfl := Option.some.inj (tRo6.symm.trans hte)
  have he := Flat.cells_of_read gRo6 hve 4 tightRo6 hde
  rw [flatRo6] at he
  obtain rfl := Option.some.inj (gSp6.symm.trans hgf)
  obtain rfl := Option.some.inj (tSp6.symm.trans htf)
  have hf := Flat.cells_of_read gSp6 hvf 4 tightSp6 hdf
  rw [flatSp6] at hf
  obtain rfl := Option.some.inj (gAt6.symm.trans hgg)
  obtain rfl := Option.some.inj (tAt6.symm.trans htg)
  have hg := Flat.cells_of_read gAt6 hvg 4 tightAt6 hdg
  rw [flatAt6] at hg
  have lb : _ < W.heap.size := (Array.getElem?_eq_some_iff.1 hb.choose_spec.choose_spec).1
  have lc : _ < W.heap.size := (Array.getElem?_eq_some_iff.1 hc.choose_spec.choose_spec).1
  have le : _ < W.heap.size := (Array.getElem?_eq_some_iff.1 he.choose_spec.choose_spec).1
  have lf : _ < W.heap.size := (Array.getElem?_eq_some_iff.1 hf.choose_spec.choose_spec).1
  have lg : _ < W.heap.size := (Array.getElem?_eq_some_iff.1 hg.choose_spec.choose_spec).1
  exact ⟨⟨hf, lf⟩, ⟨hg, lg⟩, ⟨he, hc, hb⟩, by unfold Cel.low; omega⟩

/-- A world for the witness: the settled one, every listed variable as the row lists it. -/
noncomputable def laidWorld (os : Os) : World := World.laidAll Tryz.prog os Rows.screenLinesRow.laid
theorem own : ownKnob Tryz.prog.godebug = none := by kernel_rfl
theorem laid_met (os : Os) (args : Array Value) : laidMet Tryz.prog Rows.screenLinesRow.laid ((laidWorld os).forCall (fun _ _ => 0) ⟨#[], args, []⟩).memory := laidMet_laidAll _ (by kernel_rfl) (by kernel_rfl)
theorem shaped (os : Os) (args : Array Value) : ((laidWorld os).forCall (fun _ _ => 0) ⟨#[], args, []⟩).Shaped Tryz.prog := World.shaped_of_ZipB (by kernel_rfl) (by kernel_rfl)
theorem witness_row_shaped {H : Type} {enc : TypeId × Value → H} {C : Checked} {os : Os} {f : FuncId} {fn : Func} {s : OpenSpec} {conds : List PathCond} {apart : Bool} {laid : List (String × DataW Unit)} (w0 : World) (args : Array Value) (hos : w0.os = os)
    (hsh : (w0.forCall (fun _ _ => 0) ⟨#[], args, []⟩).Shaped C.prog)
    (hok : Input.okWideB C.prog (w0.forCall (fun _ _ => 0) ⟨#[], args, []⟩) f ⟨#[], args, []⟩ = true)
    (hrow : s.preRow enc C.prog fn conds apart laid (w0.forCall (fun _ _ => 0) ⟨#[], args, []⟩).memory args) :
    ∃ (w : World) (tape : Tape) (i : Input), w.os = os ∧ (w.forCall tape i).Shaped C.prog ∧ i.vars = [] ∧ Input.okWide C.prog (w.forCall tape i) .any w.heap.size f i ∧
      s.preRow enc C.prog fn conds apart laid (w.forCall tape i).memory i.args ∧ ({} : Assume).holds C.prog (lone (Frame.enter C.prog f i.args .normal) [] (w.forCall tape i)) :=
  ⟨w0, fun _ _ => 0, ⟨#[], args, []⟩, hos, hsh, (Input.okWide_of_okWideB (base := 0) hok).1, (Input.okWide_of_okWideB hok).2, hrow, by simp [Assume.holds]⟩
end Go.Proofs.YtjklnnklgkihlaaGreatDoor.Scr
