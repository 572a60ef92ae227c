/- Bools that came in. -/
import Derived.Test.YtgjlohplgpcghaaDoorGls
import Derived.Test.YtgjlohplgpcghaaDoorGfk
namespace Go.Proofs.YtgjlohplgpcghaaDoor.Grd
open Go.RowKit Go.ChangeShapes Go.WideShapes Go.ChangeAt Go.Joins Cel Sty

theorem k_bool : Tryd.prog.cellsOf 4 = 1 := by kernel_rfl
set_option maxRecDepth 100000 in
theorem open_bools {H : Type} {enc : TypeId × Value → H} {w : World} {r : Reach} {b0 : Nat} {v : Value} {d : DataW H} {p : List MemPlace}
    (hv : Value.okWide Tryd.prog w r b0 49 v) (h : DataW.Trod enc Tryd.prog w 0 (fun _ => true) true 49 v d p) :
    ∃ (A : Option Addr) (n c : Nat) (bl : Nat → Bool), v = .slice A n c ∧ RdB w A n bl ∧ n ≤ 9223372036854775807 := by
  obtain ⟨a0, n0, c0, rfl⟩ := okWide_slice Tryd.underlying49 hv
  obtain ⟨fuel, hf⟩ := h
  rcases DataW.trod_slice Tryd.underlying49 hf with ⟨e, _⟩ | ⟨a, len, cap, elems, rest, n, _, e, hx, _, hl, hm, hel, hat, _, _⟩
  · simp [Value.cells] at e
    obtain ⟨rfl, rfl, rfl⟩ := e
    exact ⟨none, 0, 0, fun _ => false, rfl, (fun k hk => by simp at hk), by simp⟩
  · simp [Value.cells] at e
    obtain ⟨rfl, rfl, rfl⟩ := e
    unfold maxLen at hm
    rw [k_bool] at hat
    have hex : ∀ k, ∃ b : Bool, k < n0 → w.cell? (a.add k) = some (.bool b) := fun k => by
      by_cases hk : k < n0
      · have h1 := hat k hk
        rw [List.getElem?_eq_getElem (show k < elems.length by omega), Nat.mul_one] at h1
        obtain ⟨cs, hcs, ht⟩ := Option.bind_eq_some_iff.1 h1
        obtain ⟨b, rfl, _⟩ := DataW.trod_bool Tryd.underlying4 ht
        exact ⟨b, fun _ => cell_of_cells?_one hcs⟩
      · exact ⟨false, fun h => absurd h hk⟩
    obtain ⟨bl, hbl⟩ : ∃ bl : Nat → Bool, ∀ k, k < n0 → w.cell? (a.add k) = some (.bool (bl k)) := ⟨fun k => Classical.choose (hex k), fun k => Classical.choose_spec (hex k)⟩
    clear hex hat hx hf hv
    refine ⟨some a, n0, c0, bl, rfl, fun k hk => ?_, by omega⟩
    have h0 := hbl 0 (by omega)
    have hk' := hbl k hk
    clear hbl
    obtain ⟨g, o, sp⟩ := a
    have e0 : (⟨g, o, sp⟩ : Addr).add 0 = ⟨g, o, sp⟩ := by unfold Addr.add; rw [if_pos rfl]
    rw [e0] at h0
    have hsp : sp = none := by
      unfold World.cell? at h0
      cases sp with
      | none => rfl
      | some x => simp at h0; split at h0 <;> simp at h0
    subst hsp
    have ek : (⟨g, o, none⟩ : Addr).add k = ⟨g, o + k, none⟩ := by unfold Addr.add; split <;> simp_all
    rw [ek] at hk'
    refine ⟨g, o, rfl, ?_, hk'⟩
    rcases Nat.lt_or_ge g w.heap.size with q | q
    · exact q
    · unfold World.cell? at hk'
      simp [Array.getElem?_eq_none q] at hk'
end Go.Proofs.YtgjlohplgpcghaaDoor.Grd
