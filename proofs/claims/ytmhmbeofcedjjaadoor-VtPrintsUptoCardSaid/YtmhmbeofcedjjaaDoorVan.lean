/- The walk of a Feed's adding of a byte to the numbers. -/
import Derived.Test.YtmhmbeofcedjjaaDoorVad
namespace Go.Proofs.YtmhmbeofcedjjaaDoor.Vt
open Go.RowKit
open Cel (Blk Kept Tabs low Owns At)

theorem num_end {K : Ctx} {w w2 : World} {C : Cfg} {v : Value} {x : Int} (hS : Sys K w C) (hbd : Bd { C.S with ps := withB C.S.ps x }) (hl : C.S.ps.length ≤ 33) (h1 : Ints w2 K.B v (withB C.S.ps x)) (h2 : Kept w.drew w2 (fun i => C.pv.ownBlock = some i)) (h3 : ∀ i, v.ownBlock = some i → C.pv.ownBlock = some i ∨ w.drew.heap.size ≤ i) :
    Left K w C { C.S with ps := withB C.S.ps x } [] (.returned (.tuple #[])) (w2.setCell ⟨K.pb, 5, none⟩ v) := by
  obtain ⟨s, f⟩ := hS.setN ((Kept.refl w _).drew.trans h2 fun i _ h => h) v { C.S with ps := withB C.S.ps x } h1 h3 rfl (withB_len hl).2 hbd
  exact ⟨rfl, _, s, f, rfl, rfl, rfl, (List.append_nil _).symm⟩
set_option maxRecDepth 100000 in
set_option maxHeartbeats 4000000 in
/-- A digit or a semicolon put to the numbers. -/
theorem add_num {K : Ctx} {w : World} {C : Cfg} (hS : Sys K w C) (hx : 48 ≤ C.x) (hb1 : isBet C.x = false) (hb2 : isMk C.x = false) (hbd : Bd { C.S with ps := withB C.S.ps C.x }) :
    Calls Tryd.prog 55 #[ptr K.fb] w (Left K w C { C.S with ps := withB C.S.ps C.x } []) := by
  have c0 : w.cell? ⟨K.fb, 0, none⟩ = some (ptr K.pb) := hS.fee.cell 0
  have c3 : w.cell? ⟨K.fb, 3, none⟩ = some (.int .u8 C.x) := hS.fee.cell 3
  have c5 : w.cell? ⟨K.pb, 5, none⟩ = some C.pv := hS.P.par.cell 5
  have hbt := isBetween_any C.x w
  have hmk := isMark_any C.x w
  have hl := hS.P.bd.pl
  have hwb := withByte_any (w := w.drew) (B := K.B) (v := C.pv) (l := C.S.ps) (by have := (hS.lt K.fb (.inr (.inl rfl))); have e : w.drew.heap.size = w.heap.size := rfl; omega) hS.P.prm.drew hS.P.pnil hS.P.bd.pl hS.P.bd.pz (x := C.x) hx hS.x1
  have hpa : Blk w.drew K.pb 47 (parL C.S C.pv C.tv K.db).toArray := hS.P.par
  have hnp : ∀ i, C.pv.ownBlock = some i → i ≠ K.pb := fun i hi q => hS.sep.vp (by rw [hi, q])
  have hfe : Blk w.drew K.fb 50 (feeL K C).toArray := hS.fee
  have hnf : ∀ i, C.pv.ownBlock = some i → i ≠ K.fb := fun i hi q => hS.sep.vf (by rw [hi, q])
  obtain ⟨A, c, hpv⟩ := own_slice hS.P.prm
  have HP := Lib.hid hpv
  have HB := Lib.hid hbd
  have H1 := Lib.hid hb1
  rw [hb1] at hbt
  rw [hb2] at hmk
  clear hb1 hb2 hbd hpv
  go_enter Tryd.func55, Tryd.ntmps55
  go_wp2_with fail
  refine hbt.mono ?_
  rintro e w1 ⟨rfl, rfl⟩
  go_wp2_with fail
  refine hmk.mono ?_
  rintro e w1 ⟨rfl, rfl⟩
  clear hbt hmk
  go_wp2_with fail
  go_region_with (go_at_call 63; refine hwb.mono ?_; rintro e w3 ⟨v3, rfl, ho3, hk3, hg3⟩; obtain ⟨A3, m3, n3, rfl⟩ := own_slice3 ho3; have hp3 := hk3.blk hpa (fun e => hnp _ e rfl); have p3 : w3.cell? ⟨K.pb, 5, none⟩ = some C.pv := hp3.cell 5; have r3 : w3.cell? ⟨K.fb, 0, none⟩ = some (ptr K.pb) := (hk3.blk hfe (fun e => hnf _ e rfl)).cell 0; have p3f : w3.frozen? ⟨K.pb, 5, none⟩ = false := hp3.frozen 5)
  all_goals
    go_end0
    exact num_end hS HB.out hl ho3 hk3 hg3
/-- A byte that fits put to a head. -/
theorem add_any {K : Ctx} {w : World} {C : Cfg} (hS : Sys K w C) (u : UInt8) (hu : C.x = (u.toNat : Int)) (hf : fits C.S C.x = true) (hx : isBet C.x = true ∨ isMk C.x = true ∨ 48 ≤ C.x) :
    Calls Tryd.prog 55 #[ptr K.fb] w (Left K w C (add C.S u) []) := by
  rw [hu] at hf hx
  have hbd := add_bd hS.P.bd hf hx
  by_cases h1 : isBet (u.toNat : Int) = true ∨ isMk (u.toNat : Int) = true
  · have e : add C.S u = { C.S with it := C.S.it ++ [u] } := by unfold add; rw [if_pos (by rcases h1 with h | h <;> simp [h])]
    rw [e] at hbd ⊢
    refine add_it hS u hu ?_ h1 hbd
    rcases h1 with h | h
    · unfold isBet at h; simp at h; omega
    · unfold isMk at h; simp at h; omega
  · have e1 : isBet (u.toNat : Int) = false := Bool.eq_false_iff.2 fun h => h1 (.inl h)
    have e2 : isMk (u.toNat : Int) = false := Bool.eq_false_iff.2 fun h => h1 (.inr h)
    have e : add C.S u = { C.S with ps := withB C.S.ps (u.toNat : Int) } := by unfold add; rw [if_neg (by simp [e1, e2])]
    have h48 : 48 ≤ (u.toNat : Int) := by
      rcases hx with h | h | h
      · rw [e1] at h; cases h
      · rw [e2] at h; cases h
      · exact h
    rw [e] at hbd ⊢
    rw [← hu] at e1 e2 h48 hbd ⊢
    exact add_num hS h48 e1 e2 hbd
end Go.Proofs.YtmhmbeofcedjjaaDoor.Vt
