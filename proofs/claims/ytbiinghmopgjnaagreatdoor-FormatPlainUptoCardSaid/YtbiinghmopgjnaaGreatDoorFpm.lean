/- The rows' condition gives the walks what they need of the tables; a world that meets it. -/
import Derived.Test.YtbiinghmopgjnaaGreatDoorFlf
import Derived.Test.YtbiinghmopgjnaaGreatDoorFmm
import Derived.Test.YtbiinghmopgjnaaGreatDoorPost
import Derived.Shelf.Vars
import Derived.LaidLaws
import Derived.Lib.SmallJoins
import Derived.ChangeMaps5
namespace Go.Proofs.YtbiinghmopgjnaaGreatDoor.Fmt
open Go.RowKit Go.ChangeShapes Go.WideShapes Go.ChangeAt Go.Joins
open Cal (gInfo gOpt gF10 gU10 gP10 tInfo tOpt tF10 tU10 tP10 tightInfo tightOpt tightU10 tightP10 flatInfo flatOpt flatU10 flatP10 flatF10 floats_of_read var_heap all10 block_of cell_block tens)

theorem gRows : Tryz.prog.globalNamed "mullion/cell.openings" = some 9 := by kernel_rfl
theorem gSpans : Tryz.prog.globalNamed "mullion/cell.spans" = some 2 := by kernel_rfl
theorem tRows : (Tryz.prog.globals[9]?).map (·.type) = some 259 := by kernel_rfl
theorem tSpans : (Tryz.prog.globals[2]?).map (·.type) = some 189 := by kernel_rfl
theorem tightRows : Flat.tight Tryz.prog 4 259 = true := by kernel_rfl
theorem tightSpans : Flat.tight Tryz.prog 4 189 = true := by kernel_rfl
theorem flatRows : (Flat.flat (Rows.laid_mullion_cell_openings (H := Unit))).toArray = Cel.rowCells := rfl
theorem flatSpans : (Flat.flat (Rows.laid_mullion_cell_spans (H := Unit))).toArray = Cel.spanCells := rfl
/-- The kind of the variable that is not listed: whatever it holds is an int. -/
theorem most_of {W : World} (h : W.ShapedOpen Tryz.prog) : 0 < W.heap.size ∧ ∃ m, W.cell? ⟨0, 0, none⟩ = some (.int .i64 m) := by
  obtain ⟨m, hm⟩ := cell_of_shapedOpen_int (k := .i64) (t := 3) (zero := #[.int .i64 0]) h (g := 0) (of_decide_eq_true (by kernel_rfl)) (by kernel_rfl) rfl (by kernel_rfl) (by kernel_rfl) Tryz.underlying3
  exact ⟨cell_block hm, m, hm⟩

theorem tabs_of {W : World} (h : laidMetH Tryz.prog Rows.formatPlainRow.laid W) (hsh : W.ShapedOpen Tryz.prog) : TB W.heap.size W := by
  rw [MakeChecks.laidMetH_plain _ _ _ (by kernel_rfl)] at h
  obtain ⟨ps, ⟨gax, tax, csa, fax, pax, qax, hga, hta, hva, hda, ⟨gbx, tbx, csb, fbx, pbx, qbx, hgb, htb, hvb, hdb, ⟨gcx, tcx, csc, fcx, pcx, qcx, hgc, htc, hvc, hdc, ⟨gdx, tdx, csd, fdx, pdx, qdx, hgd, htd, hvd, hdd, ⟨gex, tex, cse, fex, pex, qex, hge, hte, hve, hde, ⟨gfx, tfx, csf, ffx, pfx, qfx, hgf, htf, hvf, hdf, ⟨ggx, tgx, csg, fgx, pgx, qgx, hgg, htg, hvg, hdg, ⟨ghx, thx, csh, fhx, phx, qhx, hgh, hth, hvh, hdh, ⟨gix, tix, csi, fix, pix, qix, hgi, hti, hvi, hdi, ⟨gjx, tjx, csj, fjx, pjx, qjx, hgj, htj, hvj, hdj, ⟨gkx, tkx, csk, fkx, pkx, qkx, hgk, htk, hvk, hdk, ⟨glx, tlx, csl, flx, plx, qlx, hgl, htl, hvl, hdl, ⟨gmx, tmx, csm, fmx, pmx, qmx, hgm, htm, hvm, hdm, ⟨gnx, tnx, csn, fnx, pnx, qnx, hgn, htn, hvn, hdn, ⟨gox, tox, cso, fox, pox, qox, hgo, hto, hvo, hdo, ⟨gpx, tpx, csp, fpx, ppx, qpx, hgp, htp, hvp, hdp, ⟨gqx, tqx, csq, fqx, pqx, qqx, hgq, htq, hvq, hdq, _, _⟩, _⟩, _⟩, _⟩, _⟩, _⟩, _⟩, _⟩, _⟩, _⟩, _⟩, _⟩, _⟩, _⟩, _⟩, _⟩, _⟩, _⟩ := h
  clear hga hta hva hda hgb htb hvb hdb hgc htc hvc hdc hgf htf hvf hdf hgh hth hvh hdh hgj htj hvj hdj hgk htk hvk hdk hgl htl hvl hdl hgo hto hvo hdo hgq htq hvq hdq
  obtain rfl := Option.some.inj (gInfo.symm.trans hgd)
  obtain rfl := Option.some.inj (gOpt.symm.trans hge)
  obtain rfl := Option.some.inj (gF10.symm.trans hgg)
  obtain rfl := Option.some.inj (gU10.symm.trans hgi)
  obtain rfl := Option.some.inj (gRows.symm.trans hgm)
  obtain rfl := Option.some.inj (gSpans.symm.trans hgn)
  obtain rfl := Option.some.inj (gP10.symm.trans hgp)
  obtain rfl := Option.some.inj (tInfo.symm.trans htd)
  obtain rfl := Option.some.inj (tOpt.symm.trans hte)
  obtain rfl := Option.some.inj (tF10.symm.trans htg)
  obtain rfl := Option.some.inj (tU10.symm.trans hti)
  obtain rfl := Option.some.inj (tRows.symm.trans htm)
  obtain rfl := Option.some.inj (tSpans.symm.trans htn)
  obtain rfl := Option.some.inj (tP10.symm.trans htp)
  have h1 := Flat.cells_of_read gOpt hve 4 tightOpt hde
  have h2 := Flat.cells_of_read gInfo hvd 4 tightInfo hdd
  have h3 := Flat.cells_of_read gU10 hvi 4 tightU10 hdi
  have h4 := Flat.cells_of_read gP10 hvp 4 tightP10 hdp
  have h8 := Flat.cells_of_read gRows hvm 4 tightRows hdm
  have h9 := Flat.cells_of_read gSpans hvn 4 tightSpans hdn
  rw [flatOpt] at h1
  rw [flatInfo] at h2
  rw [flatU10] at h3
  rw [flatP10] at h4
  rw [flatRows] at h8
  rw [flatSpans] at h9
  rw [flatF10] at hdg
  obtain ⟨a, c, hcs, hcell⟩ := floats_of_read Tryz.underlying297 Tryz.underlying84 (by kernel_rfl) hdg
  obtain ⟨t5, f5, h5⟩ := var_heap gF10 hvg
  have hl : all10.length = 23 := rfl
  rw [hl] at hcs
  have e5 : csg = #[.slice (some a) 23 c] := by
    cases csg
    simpa using hcs
  rw [e5] at h5
  have l1 := h1
  have l2 := h2
  have l3 := h3
  have l4 := h4
  have l8 := h8
  have l9 := h9
  obtain ⟨_, _, l1⟩ := l1
  obtain ⟨_, _, l2⟩ := l2
  obtain ⟨_, _, l3⟩ := l3
  obtain ⟨_, _, l4⟩ := l4
  obtain ⟨_, _, l8⟩ := l8
  obtain ⟨_, _, l9⟩ := l9
  refine ⟨⟨⟨block_of l4, block_of h5, block_of l3, block_of l2, block_of l1⟩, h1, h2, h3, h4, a, c, t5, f5, h5, ?_, fun i x hx => ?_⟩, ⟨h9, h8⟩, ?_, most_of hsh⟩
  · have := cell_block (hcell 0 (by decide))
    rwa [Addr.add_zero'] at this
  · obtain ⟨hi, hx2⟩ := List.getElem?_eq_some_iff.1 hx
    have hi2 : i < all10.length := by
      have : tens.length = 15 := rfl
      have : all10.length = 23 := rfl
      omega
    have hv := hcell i hi2
    rw [hv, ← hx2]
    congr 2
    exact List.getElem_append_left hi
  · have k8 := block_of l8
    have k9 := block_of l9
    unfold Cel.low
    omega

/-- A world for the witness: the settled one, every listed variable as the row lists it. -/
noncomputable def laidWorld (os : Os) : World := World.laidAll Tryz.prog os Rows.formatPlainRow.laid
theorem own : ownKnob Tryz.prog.godebug = none := by kernel_rfl
theorem laid_met (os : Os) (args : Array Value) : laidMet Tryz.prog Rows.formatPlainRow.laid ((laidWorld os).forCall (fun _ _ => 0) ⟨#[], args, []⟩).memory := laidMet_laidAll _ (by kernel_rfl) (by kernel_rfl)
theorem shaped (os : Os) (args : Array Value) : ((laidWorld os).forCall (fun _ _ => 0) ⟨#[], args, []⟩).Shaped Tryz.prog := World.shaped_of_ZipB (by kernel_rfl) (by kernel_rfl)
theorem witness_row_shaped {H : Type} {enc : TypeId × Value → H} {C : Checked} {os : Os} {f : FuncId} {fn : Func} {s : OpenSpec} {conds : List PathCond} {apart : Bool} {laid : List (String × DataW Unit)} (w0 : World) (args : Array Value) (hos : w0.os = os)
    (hsh : (w0.forCall (fun _ _ => 0) ⟨#[], args, []⟩).Shaped C.prog)
    (hok : Input.okWideB C.prog (w0.forCall (fun _ _ => 0) ⟨#[], args, []⟩) f ⟨#[], args, []⟩ = true)
    (hrow : s.preRow enc C.prog fn conds apart laid (w0.forCall (fun _ _ => 0) ⟨#[], args, []⟩).memory args) :
    ∃ (w : World) (tape : Tape) (i : Input), w.os = os ∧ (w.forCall tape i).Shaped C.prog ∧ i.vars = [] ∧ Input.okWide C.prog (w.forCall tape i) .any w.heap.size f i ∧
      s.preRow enc C.prog fn conds apart laid (w.forCall tape i).memory i.args ∧ ({} : Assume).holds C.prog (lone (Frame.enter C.prog f i.args .normal) [] (w.forCall tape i)) :=
  ⟨w0, fun _ _ => 0, ⟨#[], args, []⟩, hos, hsh, (Input.okWide_of_okWideB (base := 0) hok).1, (Input.okWide_of_okWideB hok).2, hrow, by simp [Assume.holds]⟩
end Go.Proofs.YtbiinghmopgjnaaGreatDoor.Fmt
