/- The rows' condition gives the walks what they need of the library's tables and errors; a world that meets it. -/
import Derived.Test.YtgnlfikkmomghaaGreatDoorCards
import Derived.Test.YtgnlfikkmomghaaGreatDoorTie
import Derived.Test.YtgnlfikkmomghaaGreatDoorFlat
import Derived.Test.YtgnlfikkmomghaaGreatDoorPost
import Derived.Test.YtgnlfikkmomghaaGreatDoorOln
import Derived.ProofKit
import Derived.OpenShut
import Derived.Lay
import Derived.LaidLaws
import Derived.Lib.SmallJoins
import Derived.ChangeMaps5
import Derived.Deep.DeepHandedRow
namespace Go.Proofs.YtgnlfikkmomghaaGreatDoor.Opt
open Go.RowKit Go.ChangeShapes Go.WideShapes Go.ChangeAt Go.Joins

theorem gNamed : Tryz.prog.globalNamed "mullion/style.named" = some 3 := by kernel_rfl
theorem gDb : Tryz.prog.globalNamed "math/bits.deBruijn64tab" = some 8 := by kernel_rfl
theorem gSyn : Tryz.prog.globalNamed "strconv.ErrSyntax" = some 0 := by kernel_rfl
theorem gRng : Tryz.prog.globalNamed "strconv.ErrRange" = some 1 := by kernel_rfl
theorem tNamed : (Tryz.prog.globals[3]?).map (·.type) = some 249 := by kernel_rfl
theorem tDb : (Tryz.prog.globals[8]?).map (·.type) = some 284 := by kernel_rfl
theorem tSyn : (Tryz.prog.globals[0]?).map (·.type) = some 84 := by kernel_rfl
theorem tRng : (Tryz.prog.globals[1]?).map (·.type) = some 84 := by kernel_rfl
theorem tU10 : (Tryz.prog.globals[6]?).map (·.type) = some 269 := by kernel_rfl
theorem tightNamed : Flat.tight Tryz.prog 4 249 = true := by kernel_rfl
theorem tightDb : Flat.tight Tryz.prog 4 284 = true := by kernel_rfl
theorem tightU10 : Flat.tight Tryz.prog 4 269 = true := by kernel_rfl
set_option maxRecDepth 100000 in
theorem flatNamed : (Flat.flat (Rows.laid_mullion_style_named (H := Unit))).toArray = namedCells := by kernel_rfl
set_option maxRecDepth 100000 in
theorem flatDb : (Flat.flat (Rows.laid_math_bits_deBruijn64tab (H := Unit))).toArray = dbCells := by kernel_rfl
set_option maxRecDepth 100000 in
theorem flatU10 : (Flat.flat (Rows.laid_internal_strconv_uint64pow10 (H := Unit))).toArray = u10Cells := by kernel_rfl
theorem block_of {w : World} {g : Nat} {o : Obj} (h : w.heap[g]? = some o) : g < w.heap.size := (Array.getElem?_eq_some_iff.1 h).1
theorem var_heap {P : Program} {w : World} {name : String} {g : Nat} {cs : Array Value} (hg : P.globalNamed name = some g) (hv : w.var? P name = some cs) : ∃ t fr, w.heap[g]? = some (.cells cs t fr) := by
  unfold World.var? at hv
  rw [hg] at hv
  simp only [Option.bind_some] at hv
  cases hh : w.heap[g]? with
  | none => rw [hh] at hv; simp at hv
  | some o =>
    rw [hh] at hv
    cases o with
    | cells cs' t' fr =>
      simp only [Option.some.injEq] at hv
      subst hv
      exact ⟨t', fr, rfl⟩
    | _ => simp at hv
theorem iface_cell {P : Program} {w : World} {base : Nat} {sp : Nat → Bool} {enc : TypeId × Value → Unit} {name : String} {g : Nat} {t : TypeId} {ms : Array (String × TypeId)} {f : Nat} {cs : Array Value} {nm : String} {d : DataW Unit} {p : List MemPlace}
    (hi : P.underlying t = some (.interface ms)) (hg : P.globalNamed name = some g) (hv : w.var? P name = some cs) (h : DataW.trod enc P w base sp false f t cs.toList = some (.iface nm d, p)) :
    g < w.heap.size ∧ ∃ te pe, w.cell? ⟨g, 0, none⟩ = some (.iface te pe) := by
  obtain ⟨t', fr, hh⟩ := var_heap hg hv
  obtain ⟨f1, u, v, e, hn, h1⟩ := iface_of_trod hi h
  obtain ⟨l⟩ := cs
  simp only at e
  subst e
  exact ⟨block_of hh, u, v, cell_of_row w g 0 _ t' fr hh⟩

theorem tabs_of {W : World} (h : laidMetH Tryz.prog Rows.optionNewRow.laid W) : Tabs W.heap.size W := by
  rw [MakeChecks.laidMetH_plain _ _ _ (by kernel_rfl)] at h
  obtain ⟨ps, ⟨ga, ta, csa, fa, pa, qa, hga, hta, hva, hda, ⟨gb, tb, csb, fb, pb, qb, hgb, htb, hvb, hdb, ⟨gc, tc, csc, fc, pc, qc, hgc, htc, hvc, hdc, ⟨gx, tx, csx, fx, px, qx, hgx, htx, hvx, hdx, ⟨gd, td, csd, fd, pd, qd, hgd, htd, hvd, hdd, ⟨ge, te, cse, fe, pe, qe, hge, hte, hve, hde, ⟨gf, tf, csf, ff, pf, qf, hgf, htf, hvf, hdf, _⟩, _⟩, _⟩, _⟩, _⟩, _⟩, _⟩, _⟩ := h
  clear hga hta hva hda hgx htx hvx hdx
  obtain rfl := Option.some.inj (gDb.symm.trans hgb)
  obtain rfl := Option.some.inj (gU10.symm.trans hgc)
  obtain rfl := Option.some.inj (gRng.symm.trans hgd)
  obtain rfl := Option.some.inj (gSyn.symm.trans hge)
  obtain rfl := Option.some.inj (gNamed.symm.trans hgf)
  obtain rfl := Option.some.inj (tDb.symm.trans htb)
  obtain rfl := Option.some.inj (tU10.symm.trans htc)
  obtain rfl := Option.some.inj (tRng.symm.trans htd)
  obtain rfl := Option.some.inj (tSyn.symm.trans hte)
  obtain rfl := Option.some.inj (tNamed.symm.trans htf)
  have h1 := Flat.cells_of_read gDb hvb 4 tightDb hdb
  have h2 := Flat.cells_of_read gU10 hvc 4 tightU10 hdc
  have h3 := Flat.cells_of_read gNamed hvf 4 tightNamed hdf
  rw [flatDb] at h1
  rw [flatU10] at h2
  rw [flatNamed] at h3
  obtain ⟨l4, h4⟩ := iface_cell Tryz.underlying84 gRng hvd hdd
  obtain ⟨l5, h5⟩ := iface_cell Tryz.underlying84 gSyn hve hde
  have l1 := h1
  have l2 := h2
  have l3 := h3
  obtain ⟨_, _, l1⟩ := l1
  obtain ⟨_, _, l2⟩ := l2
  obtain ⟨_, _, l3⟩ := l3
  exact ⟨⟨block_of l3, block_of l2, block_of l1, l5, l4⟩, h3, h2, h1, h5, h4⟩

/-- A world for the witness: the settled one, every listed variable as the row lists it. -/
noncomputable def laidWorld (os : Os) : World := World.laidAll Tryz.prog os Rows.optionNewRow.laid
theorem own : ownKnob Tryz.prog.godebug = none := by kernel_rfl
theorem laid_met (os : Os) (args : Array Value) : laidMet Tryz.prog Rows.optionNewRow.laid ((laidWorld os).forCall (fun _ _ => 0) ⟨#[], args, []⟩).memory := laidMet_laidAll _ (by kernel_rfl) (by kernel_rfl)
theorem shaped (os : Os) (args : Array Value) : ((laidWorld os).forCall (fun _ _ => 0) ⟨#[], args, []⟩).Shaped Tryz.prog := World.shaped_of_ZipB (by kernel_rfl) (by kernel_rfl)
theorem witness_row_shaped {H : Type} {enc : TypeId × Value → H} {C : Checked} {os : Os} {f : FuncId} {fn : Func} {s : OpenSpec} {conds : List PathCond} {apart : Bool} {laid : List (String × DataW Unit)} (w0 : World) (args : Array Value) (hos : w0.os = os)
    (hsh : (w0.forCall (fun _ _ => 0) ⟨#[], args, []⟩).Shaped C.prog)
    (hok : Input.okWideB C.prog (w0.forCall (fun _ _ => 0) ⟨#[], args, []⟩) f ⟨#[], args, []⟩ = true)
    (hrow : s.preRow enc C.prog fn conds apart laid (w0.forCall (fun _ _ => 0) ⟨#[], args, []⟩).memory args) :
    ∃ (w : World) (tape : Tape) (i : Input), w.os = os ∧ (w.forCall tape i).Shaped C.prog ∧ i.vars = [] ∧ Input.okWide C.prog (w.forCall tape i) .any w.heap.size f i ∧
      s.preRow enc C.prog fn conds apart laid (w.forCall tape i).memory i.args ∧ ({} : Assume).holds C.prog (lone (Frame.enter C.prog f i.args .normal) [] (w.forCall tape i)) :=
  ⟨w0, fun _ _ => 0, ⟨#[], args, []⟩, hos, hsh, (Input.okWide_of_okWideB (base := 0) hok).1, (Input.okWide_of_okWideB hok).2, hrow, by simp [Assume.holds]⟩
end Go.Proofs.YtgnlfikkmomghaaGreatDoor.Opt
