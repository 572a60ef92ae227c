/- The rows' condition gives the walks the table of widths; a world that meets it; texts that came in. -/
import Derived.Test.YtgjlohplgpcghaaDoorCards
import Derived.Test.YtgjlohplgpcghaaDoorTie
import Derived.Test.YtgjlohplgpcghaaDoorFlat
import Derived.Test.YtgjlohplgpcghaaDoorPost
import Derived.Test.YtgjlohplgpcghaaDoorGfw
import Derived.ProofKit
import Derived.OpenShut
import Derived.Lay
import Derived.LaidLaws
import Derived.Lib.SmallJoins
import Derived.ChangeMaps5
import Derived.SliceStrings
import Derived.Deep.DeepHandedRow
namespace Go.Proofs.YtgjlohplgpcghaaDoor.Grd
open Go.RowKit Go.ChangeShapes Go.WideShapes Go.ChangeAt Go.Joins Cel Sty

theorem gSpans : Tryd.prog.globalNamed "mullion/cell.spans" = some 0 := by kernel_rfl
theorem tSpans : (Tryd.prog.globals[0]?).map (·.type) = some 123 := by kernel_rfl
theorem tightSpans : Flat.tight Tryd.prog 4 123 = true := by kernel_rfl
set_option maxRecDepth 100000 in
theorem flatSpans : (Flat.flat (Rows.laid_mullion_cell_spans (H := Unit))).toArray = spanCells := by kernel_rfl
theorem tabs_of {W : World} (h : laidMetH Tryd.prog Rows.gridMovesRow.laid W) : Tabs W.heap.size W := by
  rw [MakeChecks.laidMetH_plain _ _ _ (by kernel_rfl)] at h
  obtain ⟨ps, ⟨ga, ta, csa, fa, pa, qa, hga, hta, hva, hda, ⟨gb, tb, csb, fb, pb, qb, hgb, htb, hvb, hdb, _⟩, _⟩, _⟩ := h
  clear hga hta hva hda
  obtain rfl := Option.some.inj (gSpans.symm.trans hgb)
  obtain rfl := Option.some.inj (tSpans.symm.trans htb)
  have h1 := Flat.cells_of_read gSpans hvb 4 tightSpans hdb
  rw [flatSpans] at h1
  refine ⟨h1, ?_⟩
  obtain ⟨_, _, e1⟩ := h1
  exact (Array.getElem?_eq_some_iff.1 e1).1

/-- A world for the witness: the settled one, every listed variable as the row lists it. -/
noncomputable def laidWorld (os : Os) : World := World.laidAll Tryd.prog os Rows.gridMovesRow.laid
theorem own : ownKnob Tryd.prog.godebug = none := by kernel_rfl
theorem laid_met (os : Os) (args : Array Value) : laidMet Tryd.prog Rows.gridMovesRow.laid ((laidWorld os).forCall (fun _ _ => 0) ⟨#[], args, []⟩).memory := laidMet_laidAll _ (by kernel_rfl) (by kernel_rfl)
theorem shaped (os : Os) (args : Array Value) : ((laidWorld os).forCall (fun _ _ => 0) ⟨#[], args, []⟩).Shaped Tryd.prog := World.shaped_of_ZipB (by kernel_rfl) (by kernel_rfl)
theorem witness_row_shaped {H : Type} {enc : TypeId × Value → H} {C : Checked} {os : Os} {f : FuncId} {fn : Func} {s : OpenSpec} {conds : List PathCond} {apart : Bool} {laid : List (String × DataW Unit)} (w0 : World) (args : Array Value) (hos : w0.os = os)
    (hsh : (w0.forCall (fun _ _ => 0) ⟨#[], args, []⟩).Shaped C.prog)
    (hok : Input.okWideB C.prog (w0.forCall (fun _ _ => 0) ⟨#[], args, []⟩) f ⟨#[], args, []⟩ = true)
    (hrow : s.preRow enc C.prog fn conds apart laid (w0.forCall (fun _ _ => 0) ⟨#[], args, []⟩).memory args) :
    ∃ (w : World) (tape : Tape) (i : Input), w.os = os ∧ (w.forCall tape i).Shaped C.prog ∧ i.vars = [] ∧ Input.okWide C.prog (w.forCall tape i) .any w.heap.size f i ∧
      s.preRow enc C.prog fn conds apart laid (w.forCall tape i).memory i.args ∧ ({} : Assume).holds C.prog (lone (Frame.enter C.prog f i.args .normal) [] (w.forCall tape i)) :=
  ⟨w0, fun _ _ => 0, ⟨#[], args, []⟩, hos, hsh, (Input.okWide_of_okWideB (base := 0) hok).1, (Input.okWide_of_okWideB hok).2, hrow, by simp [Assume.holds]⟩
theorem bulk_strs {H : Type} : ∀ (ss : List ByteArray) (s : ByteArray), s ∈ ss → s.size ≤ Rows.uptoBulkAll (strs (H := H) ss)
  | [], _, h => by cases h
  | t :: ss, s, h => by
    unfold strs
    simp only [List.map_cons, Rows.uptoBulkAll, Rows.uptoBulk, Array.length_toList]
    rcases List.mem_cons.1 h with rfl | h
    · have : s.data.size = s.size := rfl
      omega
    · have := bulk_strs (H := H) ss s h
      unfold strs at this
      omega
set_option maxRecDepth 100000 in
/-- Texts that came in. -/
theorem open_texts {H : Type} {enc : TypeId × Value → H} {w : World} {r : Reach} {b0 : Nat} {v : Value} {d : DataW H} {p : List MemPlace}
    (hv : Value.okWide Tryd.prog w r b0 22 v) (h : DataW.Trod enc Tryd.prog w 0 (fun _ => true) true 22 v d p) :
    ∃ (A : Option Addr) (n c : Nat) (txt : Nat → ByteArray), v = .slice A n c ∧ RdT w A n txt ∧ n ≤ 9223372036854775807 ∧ ∀ k, k < n → (txt k).size ≤ Rows.uptoBulk d := by
  obtain ⟨a0, n0, c0, rfl⟩ := okWide_slice Tryd.underlying22 hv
  obtain ⟨fuel, hf⟩ := h
  rcases open_strings Tryd.underlying22 Tryd.underlying9 (by kernel_rfl) hf with ⟨e, _⟩ | ⟨a, len, cap, ss, e, _, hl, hm, hn, hx, hcell, hwf⟩
  · simp [Value.cells] at e
    obtain ⟨rfl, rfl, rfl⟩ := e
    exact ⟨none, 0, 0, fun _ => default, rfl, (fun k hk => by simp at hk), by simp, fun z hz => by simp at hz⟩
  · simp [Value.cells] at e
    obtain ⟨rfl, rfl, rfl⟩ := e
    simp only [Prod.mk.injEq] at hx
    obtain ⟨rfl, _⟩ := hx
    rw [if_pos rfl] at hn
    unfold maxLen at hm
    refine ⟨some a, n0, c0, fun k => ss.getD k ByteArray.empty, rfl, fun k hk => ?_, by omega, fun k hk => ?_⟩
    · have h0 := hcell 0 (by omega)
      have hk' := hcell k (by omega)
      obtain ⟨g, o, sp⟩ := a
      have e0 : (⟨g, o, sp⟩ : Addr).add 0 = ⟨g, o, sp⟩ := by unfold Addr.add; rw [if_pos rfl]
      rw [e0] at h0
      have hsp : sp = none := by
        unfold World.cell? at h0
        cases sp with
        | none => rfl
        | some x => simp at h0; split at h0 <;> simp at h0
      subst hsp
      have ek : (⟨g, o, none⟩ : Addr).add k = ⟨g, o + k, none⟩ := by unfold Addr.add; split <;> simp_all
      rw [ek] at hk'
      have hg : g < w.heap.size := by
        rcases Nat.lt_or_ge g w.heap.size with q | q
        · exact q
        · unfold World.cell? at hk'
          simp [Array.getElem?_eq_none q] at hk'
      exact ⟨g, o, rfl, hg, hk'⟩
    · have hks : k < ss.length := by omega
      have h1 := bulk_strs (H := H) (ss.take n0) (ss.getD k ByteArray.empty) (by
        rw [List.getD_eq_getElem?_getD, List.getElem?_eq_getElem hks, Option.getD_some]
        exact List.mem_take_iff_getElem.2 ⟨k, by omega, rfl⟩)
      simp only [Rows.uptoBulk]
      omega
end Go.Proofs.YtgjlohplgpcghaaDoor.Grd
