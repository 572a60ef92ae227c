/- The walk of a Feed's adding of a byte to a head. -/
import Derived.Test.YtmhmbeofcedjjaaDoorVpu
import Derived.Test.YtmhmbeofcedjjaaDoorVfi
import Derived.Laws.Runes
namespace Go.Proofs.YtmhmbeofcedjjaaDoor.Vt
open Go.RowKit
open Cel (Blk Kept Tabs low Owns At)

theorem rune_bs (u : UInt8) (h : u.toNat < 128) : Utf8.encode (u.toNat : Int) = bs [u] := by
  have hv : Utf8.valid (u.toNat : Int) = true := by unfold Utf8.valid; simp; omega
  unfold Utf8.encode
  simp only [hv, if_true, Int.toNat_natCast, if_pos h]
  unfold bs
  simp
theorem it_end {K : Ctx} {w : World} {C : Cfg} {u : UInt8} (hS : Sys K w C) (hbd : Bd { C.S with it := C.S.it ++ [u] }) :
    Left K w C { C.S with it := C.S.it ++ [u] } [] (.returned (.tuple #[])) (w.drew.setCell ⟨K.pb, 6, none⟩ (.string (bs C.S.it ++ bs [u]))) := by
  have e : (parL C.S C.pv C.tv K.db).toArray.setIfInBounds 6 (.string (bs C.S.it ++ bs [u])) = (parL { C.S with it := C.S.it ++ [u] } C.pv C.tv K.db).toArray := by
    rw [bs_app]; unfold parL; generalize nm C.S.s = z; simp
  have hb : Blk w.drew K.pb 47 (parL C.S C.pv C.tv K.db).toArray := hS.P.par
  have hk : Kept w (w.drew.setCell ⟨K.pb, 6, none⟩ (.string (bs C.S.it ++ bs [u]))) (fun i => i = K.pb) := Kept.setCell (p := fun i => i = K.pb) (Kept.refl w _).drew (a := ⟨K.pb, 6, none⟩) rfl _
  obtain ⟨s, f⟩ := hS.setP hk { C.S with it := C.S.it ++ [u] } C.pv C.tv (blk_of (hb.set_ 6 _) e) rfl hbd (.inl ⟨rfl, rfl⟩) (.inl ⟨rfl, rfl⟩)
  exact ⟨rfl, _, s, f, rfl, rfl, rfl, (List.append_nil _).symm⟩
set_option maxRecDepth 100000 in
set_option maxHeartbeats 4000000 in
/-- A byte put to what stands between. -/
theorem add_it {K : Ctx} {w : World} {C : Cfg} (hS : Sys K w C) (u : UInt8) (hu : C.x = (u.toNat : Int)) (h1 : u.toNat < 128) (hb : isBet (u.toNat : Int) = true ∨ isMk (u.toNat : Int) = true) (hbd : Bd { C.S with it := C.S.it ++ [u] }) :
    Calls Tryd.prog 55 #[ptr K.fb] w (Left K w C { C.S with it := C.S.it ++ [u] } []) := by
  have c0 : w.cell? ⟨K.fb, 0, none⟩ = some (ptr K.pb) := hS.fee.cell 0
  have c3 : w.cell? ⟨K.fb, 3, none⟩ = some (.int .u8 C.x) := hS.fee.cell 3
  have c6 : w.cell? ⟨K.pb, 6, none⟩ = some (.string (bs C.S.it)) := hS.P.par.cell 6
  have f6 : w.frozen? ⟨K.pb, 6, none⟩ = false := hS.P.par.frozen 6
  have he : Utf8.encode (IntKind.i32.wrap C.x) = bs [u] := by rw [hu, show IntKind.i32.wrap (u.toNat : Int) = u.toNat by simp [IntKind.wrap, IntKind.signed, IntKind.bits]; omega]; exact rune_bs u h1
  have hz1 := bs_size C.S.it
  have hz2 : (bs [u]).size = 1 := bs_size [u]
  have hz3 := hS.P.bd.il
  have hz4 : ¬ 9223372036854775807 < C.S.it.length + 1 := by omega
  have hz5 : ¬ 9223372036854775807 < (bs C.S.it).size + (bs [u]).size := by omega
  have he2 : Utf8.encode (wrap32 C.x) = bs [u] := by rw [hu, show wrap32 (u.toNat : Int) = u.toNat by unfold wrap32; omega]; exact rune_bs u h1
  have hbt := isBetween_any C.x w
  have hmk := isMark_any C.x w
  have HB := Lib.hid hbd
  by_cases hb2 : isBet (u.toNat : Int) = true
  · rw [← hu] at hb2
    rw [hb2] at hbt
    clear hb hbd h1 hu hmk hb2
    go_enter Tryd.func55, Tryd.ntmps55
    go_wp2_with fail
    refine hbt.mono ?_
    rintro e w1 ⟨rfl, rfl⟩
    go_wp2_with fail
    go_region
    all_goals
      go_wp2
      go_end0
      exact it_end hS HB.out
  · have hb : isMk (u.toNat : Int) = true := hb.resolve_left hb2
    have hb2 := Bool.eq_false_iff.2 hb2
    rw [← hu] at hb hb2
    rw [hb2] at hbt
    rw [hb] at hmk
    clear hb hbd h1 hu hb2
    go_enter Tryd.func55, Tryd.ntmps55
    go_wp2_with fail
    refine hbt.mono ?_
    rintro e w1 ⟨rfl, rfl⟩
    go_wp2_with fail
    refine hmk.mono ?_
    rintro e w1 ⟨rfl, rfl⟩
    go_wp2_with fail
    go_region
    all_goals
      go_wp2
      go_end0
      exact it_end hS HB.out
end Go.Proofs.YtmhmbeofcedjjaaDoor.Vt
