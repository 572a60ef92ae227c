/- strconv's tables lie as its text lays them: what the rows' condition gives the walks, and a world that meets it. -/
import Derived.Test.YtmljdclmcoedfaaGreatDoorLaf
import Derived.Test.YtmljdclmcoedfaaGreatDoorPost
namespace Go.Proofs.YtmljdclmcoedfaaGreatDoor.Cal
open Go.RowKit

theorem tabs_of {W : World} (h : laidMetH Tryz.prog Rows.calcOrderRow.laid W) : Tabs W.heap.size W := by
  rw [MakeChecks.laidMetH_plain _ _ _ (by kernel_rfl)] at h
  obtain ⟨ps, ⟨ga, ta, csa, fa, pa, qa, hga, hta, hva, hda, ⟨gb, tb, csb, fb, pb, qb, hgb, htb, hvb, hdb, ⟨gc, tc, csc, fc, pc, qc, hgc, htc, hvc, hdc, ⟨gd, td, csd, fd, pd, qd, hgd, htd, hvd, hdd, ⟨ge, te, cse, fe, pe, qe, hge, hte, hve, hde, ⟨gf, tf, csf, ff, pf, qf, hgf, htf, hvf, hdf, ⟨gg, tg, csg, fg, pg, qg, hgg, htg, hvg, hdg, ⟨gh, th, csh, fh, ph, qh, hgh, hth, hvh, hdh, ⟨gi, ti, csi, fi, pi, qi, hgi, hti, hvi, hdi, ⟨gj, tj, csj, fj, pj, qj, hgj, htj, hvj, hdj, ⟨gk, tk, csk, fk, pk, qk, hgk, htk, hvk, hdk, ⟨gl, tl, csl, fl, pl, ql, hgl, htl, hvl, hdl, ⟨gm, tm, csm, fm, pm, qm, hgm, htm, hvm, hdm, ⟨gn, tn, csn, fn, pn, qn, hgn, htn, hvn, hdn, _⟩, _⟩, _⟩, _⟩, _⟩, _⟩, _⟩, _⟩, _⟩, _⟩, _⟩, _⟩, _⟩, _⟩, _, _⟩ := h
  clear hga hta hva hda hgb htb hvb hdb hgc htc hvc hdc hgf htf hvf hdf hgh hth hvh hdh hgj htj hvj hdj hgk htk hvk hdk hgl htl hvl hdl hgm htm hvm hdm
  obtain rfl := Option.some.inj (gInfo.symm.trans hgd)
  obtain rfl := Option.some.inj (gOpt.symm.trans hge)
  obtain rfl := Option.some.inj (gF10.symm.trans hgg)
  obtain rfl := Option.some.inj (gU10.symm.trans hgi)
  obtain rfl := Option.some.inj (gP10.symm.trans hgn)
  obtain rfl := Option.some.inj (tInfo.symm.trans htd)
  obtain rfl := Option.some.inj (tOpt.symm.trans hte)
  obtain rfl := Option.some.inj (tF10.symm.trans htg)
  obtain rfl := Option.some.inj (tU10.symm.trans hti)
  obtain rfl := Option.some.inj (tP10.symm.trans htn)
  have h1 := Flat.cells_of_read gOpt hve 4 tightOpt hde
  have h2 := Flat.cells_of_read gInfo hvd 4 tightInfo hdd
  have h3 := Flat.cells_of_read gU10 hvi 4 tightU10 hdi
  have h4 := Flat.cells_of_read gP10 hvn 4 tightP10 hdn
  rw [flatOpt] at h1
  rw [flatInfo] at h2
  rw [flatU10] at h3
  rw [flatP10] at h4
  rw [flatF10] at hdg
  obtain ⟨a, c, hcs, hcell⟩ := floats_of_read Tryz.underlying210 Tryz.underlying23 (by kernel_rfl) hdg
  obtain ⟨t5, f5, h5⟩ := var_heap gF10 hvg
  have hl : all10.length = 23 := rfl
  rw [hl] at hcs
  have e5 : csg = #[.slice (some a) 23 c] := by
    cases csg
    simpa using hcs
  rw [e5] at h5
  have l1 := h1
  have l2 := h2
  have l3 := h3
  have l4 := h4
  obtain ⟨_, _, l1⟩ := l1
  obtain ⟨_, _, l2⟩ := l2
  obtain ⟨_, _, l3⟩ := l3
  obtain ⟨_, _, l4⟩ := l4
  refine ⟨⟨block_of l4, block_of h5, block_of l3, block_of l2, block_of l1⟩, h1, h2, h3, h4, a, c, t5, f5, h5, ?_, fun i x hx => ?_⟩
  · have := cell_block (hcell 0 (by decide))
    rwa [Addr.add_zero'] at this
  · obtain ⟨hi, hx2⟩ := List.getElem?_eq_some_iff.1 hx
    have hi2 : i < all10.length := by
      have : tens.length = 15 := rfl
      have : all10.length = 23 := rfl
      omega
    have hv := hcell i hi2
    rw [hv, ← hx2]
    congr 2
    exact List.getElem_append_left hi

/-- A world for the witness: the settled one, every listed variable as the row lists it. -/
noncomputable def laidWorld (os : Os) : World := World.laidAll Tryz.prog os Rows.calcOrderRow.laid
theorem own : ownKnob Tryz.prog.godebug = none := by kernel_rfl
theorem laid_met (os : Os) (args : Array Value) : laidMet Tryz.prog Rows.calcOrderRow.laid ((laidWorld os).forCall (fun _ _ => 0) ⟨#[], args, []⟩).memory := laidMet_laidAll _ (by kernel_rfl) (by kernel_rfl)
theorem shaped (os : Os) (args : Array Value) : ((laidWorld os).forCall (fun _ _ => 0) ⟨#[], args, []⟩).Shaped Tryz.prog := World.shaped_of_ZipB (by kernel_rfl) (by kernel_rfl)
theorem witness_row_shaped {H : Type} {enc : TypeId × Value → H} {C : Checked} {os : Os} {f : FuncId} {fn : Func} {s : OpenSpec} {conds : List PathCond} {apart : Bool} {laid : List (String × DataW Unit)} (w0 : World) (args : Array Value) (hos : w0.os = os)
    (hsh : (w0.forCall (fun _ _ => 0) ⟨#[], args, []⟩).Shaped C.prog)
    (hok : Input.okWideB C.prog (w0.forCall (fun _ _ => 0) ⟨#[], args, []⟩) f ⟨#[], args, []⟩ = true)
    (hrow : s.preRow enc C.prog fn conds apart laid (w0.forCall (fun _ _ => 0) ⟨#[], args, []⟩).memory args) :
    ∃ (w : World) (tape : Tape) (i : Input), w.os = os ∧ (w.forCall tape i).Shaped C.prog ∧ i.vars = [] ∧ Input.okWide C.prog (w.forCall tape i) .any w.heap.size f i ∧
      s.preRow enc C.prog fn conds apart laid (w.forCall tape i).memory i.args ∧ ({} : Assume).holds C.prog (lone (Frame.enter C.prog f i.args .normal) [] (w.forCall tape i)) :=
  ⟨w0, fun _ _ => 0, ⟨#[], args, []⟩, hos, hsh, (Input.okWide_of_okWideB (base := 0) hok).1, (Input.okWide_of_okWideB hok).2, hrow, by simp [Assume.holds]⟩
end Go.Proofs.YtmljdclmcoedfaaGreatDoor.Cal
