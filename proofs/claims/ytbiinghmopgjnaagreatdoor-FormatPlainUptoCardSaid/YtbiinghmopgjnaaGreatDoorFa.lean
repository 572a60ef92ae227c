/- strconv's ftoa64 at two floats. -/
import Derived.Test.YtbiinghmopgjnaaGreatDoorFx
import Derived.Deep.RegionWith
namespace Go.Proofs.YtbiinghmopgjnaaGreatDoor.Cal
open Go.RowKit

theorem bits2_run (b : Nat) (w : World) : (callFunc 156 #[.float .f64 b]).run Tryz.prog w = .ok (.value (.int .u64 b)) w := by kernel_rfl
def zero24 : Array Value := #[.int .u8 0, .int .u8 0, .int .u8 0, .int .u8 0, .int .u8 0, .int .u8 0, .int .u8 0, .int .u8 0, .int .u8 0, .int .u8 0, .int .u8 0, .int .u8 0, .int .u8 0, .int .u8 0, .int .u8 0, .int .u8 0, .int .u8 0, .int .u8 0, .int .u8 0, .int .u8 0, .int .u8 0, .int .u8 0, .int .u8 0, .int .u8 0]
theorem own_below {w w' : World} {B g : Nat} {l : List UInt8} (h : OwnU w g l) (hb : Below B w w') (hg : g < B) : OwnU w' g l := by
  obtain ⟨h1, h2⟩ := h
  refine ⟨h1, ?_⟩
  rcases h2 with ⟨h2, _⟩ | ⟨g', cap, cur, hv, hbg, hh, r⟩
  · cases h2
  · refine Or.inr ⟨g', cap, cur, hv, hbg, ?_, r⟩
    injection hv with e1 _ _
    injection e1 with e1
    injection e1 with e1 _ _
    rw [← e1] at hh ⊢
    exact (hb.block g hg).trans hh
theorem own_grown {w w' : World} {g gb : Nat} {l : List UInt8} (h : OwnU w g l) (hb : w.grownBy w' (some gb)) (hne : g ≠ gb) : OwnU w' g l := by
  obtain ⟨h1, h2⟩ := h
  refine ⟨h1, ?_⟩
  rcases h2 with ⟨h2, _⟩ | ⟨g', cap, cur, hv, hbg, hh, r⟩
  · cases h2
  · refine Or.inr ⟨g', cap, cur, hv, hbg, ?_, r⟩
    injection hv with e1 _ _
    injection e1 with e1
    injection e1 with e1 _ _
    rw [← e1] at hh ⊢
    exact (hb.block g (Array.getElem?_eq_some_iff.1 hh).1 fun e => hne (Option.some.inj e)).trans hh
set_option maxRecDepth 100000 in
set_option maxHeartbeats 1000000 in
theorem ftoa_012 {B : Nat} (w : World) (ht : Tabs B w) (hB : B ≤ w.heap.size) (g : Nat) (hgw : g < w.heap.size) (hown : OwnU w g []) :
    Calls Tryz.prog 132 #[.slice (some ⟨g, 0, none⟩) 0 24, .float .f64 4593671619917905920, .int .u8 102, .int .i64 2] w fun e w' => e = .returned (.slice (some ⟨g, 0, none⟩) 4 24) ∧ OwnU w' g [48, 46, 49, 50] ∧ Below g w w' := by
  have hb := bits2_run
  have b1 : bits .and .i64 1020 2047 = 1020 := by kernel_rfl
  have b2 : bits .and .u64 4593671619917905920 4503599627370495 = 0 := by kernel_rfl
  have b3 : bits .or .u64 0 4503599627370496 = 4503599627370496 := by kernel_rfl
  obtain ⟨t, fr, ho⟩ := ht.opt
  have co : w.cell? ⟨3, 0, none⟩ = some (.bool true) := cell_of_row w _ 0 _ _ _ ho
  clear ho
  go_enter Tryz.func132, Tryz.ntmps132
  go_wp2_with fail
  go_quiet (fail)
  go_wp2_with fail
  refine (l10_3 _).mono ?_
  rintro e w' ⟨rfl, rfl⟩
  go_wp2_with fail
  refine (len64_4503599627370496 _).mono ?_
  rintro e w' ⟨rfl, rfl⟩
  have hB1 := (below_drewN (Below.refl w.heap.size w) nq).alloc (Nat.le_refl _) (.cells zero24 178)
  have ht1 := ht.below (hB1.mono hB)
  have hb1 := Blk.new (w.drewN nq) 178 zero24
  go_wp2_with fail
  refine (fw_b _ ht1 (by simp; omega)).mono ?_
  rintro e w1 ⟨rfl, hb2⟩
  have hbb2 := hB1.trans (hb2.mono (by simp))
  have ht2 := ht1.below (hb2.mono (by simp; omega))
  have hb3 := hb1.below hb2 (by simp)
  have ho2 : OwnU w1 g [] := own_below hown hbb2 hgw
  go_wp2_with fail
  have ht2' : Tabs B w1.drew := ht2.below ((Below.refl _ _).drew)
  have hb3' := hb3.drew
  go_region_with (first
    | (go_at_call 136; refine (numDigits_12 _ ht2').mono ?_; rintro e w' ⟨rfl, rfl⟩)
    | (go_at_call 162; refine (setDigits_12 _ _ _ hb3' rfl).mono ?_; rintro e w2 ⟨rfl, hb4, hg4⟩))
  have ho3 : OwnU w1.drew g [] := ho2
  have ho4 := own_grown ho3 hg4 (show g ≠ w.heap.size by omega)
  go_wp2_with fail
  refine (efg_012 _ g w.heap.size _ ho4 hb4 rfl rfl (by omega)).mono ?_
  rintro e w3 ⟨rfl, ho5, hg5⟩
  go_wp2_with fail
  go_ret
  have e1 : Below g w w1.drew := (hbb2.mono (Nat.le_of_lt hgw)).drew
  have e2 : Below g w w2 := e1.trans (grown_below hg4 (Nat.le_of_lt hgw) (by have := hbb2.size; simp; omega))
  exact ⟨rfl, ho5, e2.trans (grown_below hg5 (Nat.le_refl _) (by have := e2.size; omega))⟩
set_option maxRecDepth 100000 in
set_option maxHeartbeats 1000000 in
theorem ftoa_350 {B : Nat} (w : World) (ht : Tabs B w) (hB : B ≤ w.heap.size) (g : Nat) (hgw : g < w.heap.size) (hown : OwnU w g []) :
    Calls Tryz.prog 132 #[.slice (some ⟨g, 0, none⟩) 0 24, .float .f64 4615063718147915776, .int .u8 102, .int .i64 2] w fun e w' => e = .returned (.slice (some ⟨g, 0, none⟩) 4 24) ∧ OwnU w' g [51, 46, 53, 48] ∧ Below g w w' := by
  have hb := bits2_run
  have b1 : bits .and .i64 1024 2047 = 1024 := by kernel_rfl
  have b2 : bits .and .u64 4615063718147915776 4503599627370495 = 3377699720527872 := by kernel_rfl
  have b3 : bits .or .u64 3377699720527872 4503599627370496 = 7881299347898368 := by kernel_rfl
  obtain ⟨t, fr, ho⟩ := ht.opt
  have co : w.cell? ⟨3, 0, none⟩ = some (.bool true) := cell_of_row w _ 0 _ _ _ ho
  clear ho
  go_enter Tryz.func132, Tryz.ntmps132
  go_wp2_with fail
  go_quiet (fail)
  go_wp2_with fail
  refine (l10_2 _).mono ?_
  rintro e w' ⟨rfl, rfl⟩
  go_wp2_with fail
  refine (len64_7881299347898368 _).mono ?_
  rintro e w' ⟨rfl, rfl⟩
  have hB1 := (below_drewN (Below.refl w.heap.size w) nq).alloc (Nat.le_refl _) (.cells zero24 178)
  have ht1 := ht.below (hB1.mono hB)
  have hb1 := Blk.new (w.drewN nq) 178 zero24
  go_wp2_with fail
  refine (fw_a _ ht1 (by simp; omega)).mono ?_
  rintro e w1 ⟨rfl, hb2⟩
  have hbb2 := hB1.trans (hb2.mono (by simp))
  have ht2 := ht1.below (hb2.mono (by simp; omega))
  have hb3 := hb1.below hb2 (by simp)
  have ho2 : OwnU w1 g [] := own_below hown hbb2 hgw
  go_wp2_with fail
  have ht2' : Tabs B w1.drew := ht2.below ((Below.refl _ _).drew)
  have hb3' := hb3.drew
  go_region_with (first
    | (go_at_call 136; refine (numDigits_350 _ ht2').mono ?_; rintro e w' ⟨rfl, rfl⟩)
    | (go_at_call 162; refine (setDigits_350 _ _ _ hb3' rfl).mono ?_; rintro e w2 ⟨rfl, hb4, hg4⟩))
  have ho3 : OwnU w1.drew g [] := ho2
  have ho4 := own_grown ho3 hg4 (show g ≠ w.heap.size by omega)
  go_wp2_with fail
  refine (efg_350 _ g w.heap.size _ ho4 hb4 rfl rfl (by omega)).mono ?_
  rintro e w3 ⟨rfl, ho5, hg5⟩
  go_wp2_with fail
  go_ret
  have e1 : Below g w w1.drew := (hbb2.mono (Nat.le_of_lt hgw)).drew
  have e2 : Below g w w2 := e1.trans (grown_below hg4 (Nat.le_of_lt hgw) (by have := hbb2.size; simp; omega))
  exact ⟨rfl, ho5, e2.trans (grown_below hg5 (Nat.le_refl _) (by have := e2.size; omega))⟩
end Go.Proofs.YtbiinghmopgjnaaGreatDoor.Cal
