/- strconv's tables as the rows list them: their cells, one behind the other. -/
import Derived.Test.YtbiinghmopgjnaaGreatDoorCards
import Derived.Test.YtbiinghmopgjnaaGreatDoorTie
import Derived.Test.YtbiinghmopgjnaaGreatDoorFlat
import Derived.Test.YtbiinghmopgjnaaGreatDoorRec
import Derived.ProofKit
import Derived.OpenShut
import Derived.Lay
import Derived.Deep.DeepHandedRow
namespace Go.Proofs.YtbiinghmopgjnaaGreatDoor.Cal
open Go.RowKit

theorem gOpt : Tryz.prog.globalNamed "internal/strconv.optimize" = some 3 := by kernel_rfl
theorem gInfo : Tryz.prog.globalNamed "internal/strconv.float64info" = some 11 := by kernel_rfl
theorem gU10 : Tryz.prog.globalNamed "internal/strconv.uint64pow10" = some 4 := by kernel_rfl
theorem gP10 : Tryz.prog.globalNamed "internal/strconv.pow10Tab" = some 12 := by kernel_rfl
theorem gF10 : Tryz.prog.globalNamed "internal/strconv.float64pow10" = some 18 := by kernel_rfl
theorem tOpt : (Tryz.prog.globals[3]?).map (·.type) = some 4 := by kernel_rfl
theorem tInfo : (Tryz.prog.globals[11]?).map (·.type) = some 268 := by kernel_rfl
theorem tU10 : (Tryz.prog.globals[4]?).map (·.type) = some 217 := by kernel_rfl
theorem tP10 : (Tryz.prog.globals[12]?).map (·.type) = some 286 := by kernel_rfl
theorem tF10 : (Tryz.prog.globals[18]?).map (·.type) = some 297 := by kernel_rfl

/-- A slice of floats, read: where its cells lie. -/
theorem floats_of_read {P : Program} {w : World} {base : Nat} {spare : Nat → Bool} {held : Bool} {enc : TypeId × Value → Unit} {f : Nat} {t e : TypeId} {cs : List Value} {p : List MemPlace} {l : List Nat}
    (ht : P.underlying t = some (.slice e)) (he : P.underlying e = some (.float .f64)) (hc : P.cellsOf e = 1)
    (h : DataW.trod enc P w base spare held f t cs = some (.slice (l.map fun x => .lit (.float .f64 x)) [], p)) :
    ∃ (a : Addr) (c : Nat), cs = [.slice (some a) l.length c] ∧ ∀ i (hi : i < l.length), w.cell? (a.add i) = some (.float .f64 l[i]) := by
  rcases DataW.trod_slice ht h with ⟨_, h2⟩ | ⟨a, len, cap, elems, rest, n, _, rfl, hx, hb, _, _, hlen, hel, _, _⟩
  · cases h2
  · simp only [Prod.mk.injEq, DataW.slice.injEq] at hx
    obtain ⟨⟨h1, _⟩, _⟩ := hx
    have hl : len = l.length := by rw [← hlen]; have := congrArg List.length h1; simpa using this.symm
    subst hl
    refine ⟨a, cap, rfl, fun i hi => ?_⟩
    have h3 := hel i hi
    have h4 : i < elems.length := by omega
    rw [hc, Nat.mul_one, List.getElem?_eq_getElem h4] at h3
    have h5 : (elems[i]).1 = .lit (.float .f64 l[i]) := by
      have := congrArg (·[i]?) h1
      simp [h4, hi] at this
      exact this.symm
    obtain ⟨xs, hxs, htr⟩ := Option.bind_eq_some_iff.1 h3
    unfold World.cells? at hxs
    have hb2 : base ≤ (a.add i).block := by unfold Addr.add; split <;> exact hb
    rw [if_pos hb2] at hxs
    have : List.range 1 = [0] := rfl
    rw [this] at hxs
    simp only [List.mapM_cons, List.mapM_nil, Addr.add_zero'] at hxs
    cases hcell : w.cell? (a.add i) with
    | none => rw [hcell] at hxs; cases hxs
    | some v =>
      rw [hcell] at hxs
      have hxs2 : [v] = xs := by injection hxs
      subst hxs2
      cases n with
      | zero => simp [DataW.trod] at htr
      | succ n =>
        unfold DataW.trod at htr
        rw [he] at htr
        clear h h1 hel
        split at htr
        all_goals first | (exfalso; simp_all; done) | skip
        split at htr
        · injection htr with htr
          rw [← htr] at h5
          simp_all
        · cases htr

theorem tightOpt : Flat.tight Tryz.prog 4 4 = true := by kernel_rfl
theorem tightInfo : Flat.tight Tryz.prog 4 268 = true := by kernel_rfl
theorem tightU10 : Flat.tight Tryz.prog 4 217 = true := by kernel_rfl
theorem tightP10 : Flat.tight Tryz.prog 4 286 = true := by kernel_rfl
theorem flatOpt : (Flat.flat (Rows.laid_internal_strconv_optimize (H := Unit))).toArray = #[.bool true] := rfl
theorem flatInfo : (Flat.flat (Rows.laid_internal_strconv_float64info (H := Unit))).toArray = #[.int .u64 52, .int .u64 11, .int .i64 (-1023)] := rfl
set_option maxRecDepth 100000 in
theorem flatU10 : (Flat.flat (Rows.laid_internal_strconv_uint64pow10 (H := Unit))).toArray = u10Cells := by kernel_rfl
set_option maxRecDepth 100000 in
theorem flatP10 : (Flat.flat Rows.laid_internal_strconv_pow10Tab).toArray = p10Cells := by kernel_rfl
def all10 : List Nat := tens ++ [4831355200913801216, 4846369599423283200, 4861130398305394688, 4876203697187506176, 4891288408196988160, 4906019910204099648, 4921056587992461136, 4936209963552724370]
theorem flatF10 : (Rows.laid_internal_strconv_float64pow10 : DataW Unit) = .slice (all10.map fun x => .lit (.float .f64 x)) [] := by kernel_rfl
theorem block_of {w : World} {g : Nat} {o : Obj} (h : w.heap[g]? = some o) : g < w.heap.size := (Array.getElem?_eq_some_iff.1 h).1
theorem cell_block {w : World} {a : Addr} {v : Value} (h : w.cell? a = some v) : a.block < w.heap.size := by
  refine Nat.lt_of_not_le fun hh => ?_
  unfold World.cell? at h
  rw [Array.getElem?_eq_none hh] at h
  simp at h
theorem var_heap {P : Program} {w : World} {name : String} {g : Nat} {cs : Array Value} (hg : P.globalNamed name = some g) (hv : w.var? P name = some cs) : ∃ t fr, w.heap[g]? = some (.cells cs t fr) := by
  unfold World.var? at hv
  rw [hg] at hv
  simp only [Option.bind_some] at hv
  cases hh : w.heap[g]? with
  | none => rw [hh] at hv; simp at hv
  | some o =>
    rw [hh] at hv
    cases o with
    | cells cs' t' fr =>
      simp only [Option.some.injEq] at hv
      subst hv
      exact ⟨t', fr, rfl⟩
    | _ => simp at hv

end Go.Proofs.YtbiinghmopgjnaaGreatDoor.Cal
