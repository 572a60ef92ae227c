/- The law StylePrints walked. -/
import Derived.Test.YtdbkccffepfenaaDoorRpi
namespace Go.Proofs.YtdbkccffepfenaaDoor.Sty
open Go.RowKit

set_option maxRecDepth 100000 in
set_option maxHeartbeats 1000000 in
theorem prints_walk {B : Nat} (fg bg at_ : Int) (w : World) (ht : Tabs B w) (hB : B ≤ w.heap.size) :
    Calls Tryd.prog 5 #[.agg #[.int .i64 fg, .int .i64 bg, .int .i64 at_]] w fun e w' => e = .returned (.bool true) ∧ Below w.heap.size w w' := by
  have hA := Blk.new w 31 #[.int .i64 fg, .int .i64 bg, .int .i64 at_]
  have hb0 : Below w.heap.size w (w.alloc (.cells #[.int .i64 fg, .int .i64 bg, .int .i64 at_] 31)) := (Below.refl _ _).alloc (Nat.le_refl _) _
  obtain ⟨r, hr⟩ : ∃ r, rightS fg bg at_ = r := ⟨_, rfl⟩
  have c1 := fun w => right_any fg bg at_ _ hr w
  have c2 := fun w => rightRef_any fg bg at_ _ hr w
  clear hr
  obtain ⟨X, hX⟩ : ∃ X, bs (printS fg bg at_) = X := ⟨_, rfl⟩
  have c3 := fun w ht hB => print_any (B := B) fg bg at_ w ht hB
  have c4 := fun w ht hB => printRef_any (B := B) fg bg at_ w ht hB
  rw [hX] at c3 c4
  clear hX
  have c5 := fun w => plain_any w
  have c6 := fun w => plainRef_any w
  have c0 := fun w ht hB => shown_any (B := B) w ht hB
  have heq := eq_run (-1) (-1) 0 (-1) (-1) 0 true (by decide)
  go_enter Tryd.func5, Tryd.ntmps5
  go_wp2_with fail
  refine (c0 _ (ht.on hB hb0) (by simp; omega)).mono ?_
  rintro e w1 ⟨rfl, hb1⟩
  have hA1 := hA.below hb1 (by simp)
  have hbw1 := hb0.trans (hb1.mono hb0.size)
  have hs1 := hA1.lt
  have ht1 := ht.on hB hbw1
  clear hA hb0 hb1 c0
  go_wp2_with fail
  have hdr : Below w1.heap.size w1 w1.drew := (Below.refl _ _).drew
  have HA1 := Lib.hid hA1
  clear hA1
  go_region_held3 (fun W => W.cell? ⟨w.heap.size, 0, none⟩ = some (.int .i64 fg) ∧ W.cell? ⟨w.heap.size, 1, none⟩ = some (.int .i64 bg) ∧ W.cell? ⟨w.heap.size, 2, none⟩ = some (.int .i64 at_) ∧ Tabs B W ∧ Below w1.heap.size w1 W)
    (first | (have hkk := (by assumption : Below w1.heap.size w1 _); exact ⟨(HA1.out.below hkk hs1).cell 0, (HA1.out.below hkk hs1).cell 1, (HA1.out.below hkk hs1).cell 2, ht1.on (by omega) hkk, hkk⟩))
    (first
      | (go_at_call 16; obtain ⟨k0, k1, k2, kt, k3⟩ := (by assumption : _ ∧ _ ∧ _ ∧ Tabs B _ ∧ Below _ _ _); have k4 := k3.size; refine (c1 _).mono ?_; rintro e w2 ⟨rfl, hb2⟩; have hbx := k3.trans (hb2.mono k4))
      | (go_at_call 17; obtain ⟨k0, k1, k2, kt, k3⟩ := (by assumption : _ ∧ _ ∧ _ ∧ Tabs B _ ∧ Below _ _ _); have k4 := k3.size; refine (c2 _).mono ?_; rintro e w2 ⟨rfl, hb2⟩; have hbx := k3.trans (hb2.mono k4))
      | (go_at_call 18; obtain ⟨k0, k1, k2, kt, k3⟩ := (by assumption : _ ∧ _ ∧ _ ∧ Tabs B _ ∧ Below _ _ _); have k4 := k3.size; refine (c3 _ kt (by omega)).mono ?_; rintro e w2 ⟨rfl, hb2⟩; have hbx := k3.trans (hb2.mono k4))
      | (go_at_call 19; obtain ⟨k0, k1, k2, kt, k3⟩ := (by assumption : _ ∧ _ ∧ _ ∧ Tabs B _ ∧ Below _ _ _); have k4 := k3.size; refine (c4 _ kt (by omega)).mono ?_; rintro e w2 ⟨rfl, hb2⟩; have hbx := k3.trans (hb2.mono k4))
      | (go_at_call 20; obtain ⟨k0, k1, k2, kt, k3⟩ := (by assumption : _ ∧ _ ∧ _ ∧ Tabs B _ ∧ Below _ _ _); have k4 := k3.size; refine (c5 _).mono ?_; rintro e w2 ⟨rfl, hb2⟩; have hbx := k3.trans (hb2.mono k4))
      | (go_at_call 21; obtain ⟨k0, k1, k2, kt, k3⟩ := (by assumption : _ ∧ _ ∧ _ ∧ Tabs B _ ∧ Below _ _ _); have k4 := k3.size; refine (c6 _).mono ?_; rintro e w2 ⟨rfl, hb2⟩; have hbx := k3.trans (hb2.mono k4)))
  go_wp2_with fail
  go_ret
  exact ⟨rfl, hbw1.trans (hbx.mono hbw1.size)⟩
end Go.Proofs.YtdbkccffepfenaaDoor.Sty
