/- The law StyleEscapes walked. -/
import Derived.Test.YtdbkccffepfenaaDoorRsg
namespace Go.Proofs.YtdbkccffepfenaaDoor.Sty
open Go.RowKit

set_option maxRecDepth 100000 in
set_option maxHeartbeats 1000000 in
theorem escapes_walk {B : Nat} (a1 a2 a3 b1 b2 b3 : Int) (w : World) (ht : Tabs B w) (hB : B ≤ w.heap.size) :
    Calls Tryd.prog 6 #[.agg #[.int .i64 a1, .int .i64 a2, .int .i64 a3], .agg #[.int .i64 b1, .int .i64 b2, .int .i64 b3]] w fun e w' => e = .returned (.bool true) ∧ Below w.heap.size w w' := by
  have hA := (Blk.new w 31 #[.int .i64 a1, .int .i64 a2, .int .i64 a3]).alloc (.cells #[.int .i64 b1, .int .i64 b2, .int .i64 b3] 31)
  have hD := Blk.new (w.alloc (.cells #[.int .i64 a1, .int .i64 a2, .int .i64 a3] 31)) 31 #[.int .i64 b1, .int .i64 b2, .int .i64 b3]
  rw [size_alloc] at hD
  have hb0 : Below w.heap.size w ((w.alloc (.cells #[.int .i64 a1, .int .i64 a2, .int .i64 a3] 31)).alloc (.cells #[.int .i64 b1, .int .i64 b2, .int .i64 b3] 31)) := ((Below.refl _ _).alloc (Nat.le_refl _) _).alloc (by simp) _
  obtain ⟨X, hX⟩ : ∃ X, bs (sgrS (orP a1 a2 a3) (orP b1 b2 b3)) = X := ⟨_, rfl⟩
  have c3 := fun w ht hB => sgr_any (B := B) a1 a2 a3 b1 b2 b3 w ht hB
  have c4 := fun w => sgrRef_any a1 a2 a3 b1 b2 b3 w
  rw [hX] at c3 c4
  clear hX
  have c0 := fun w ht hB => shown_any (B := B) w ht hB
  go_enter Tryd.func6, Tryd.ntmps6
  go_wp2_with fail
  refine (c0 _ (ht.on hB hb0) (by simp; omega)).mono ?_
  rintro e w1 ⟨rfl, hb1⟩
  have hD1 := hD.below hb1 (by simp)
  have hA1 := hA.below hb1 (by simp; omega)
  have hbw1 := hb0.trans (hb1.mono hb0.size)
  have hs0 := hA1.lt
  have hs1 := hD1.lt
  have ht1 := ht.on hB hbw1
  clear hA hD hb0 hb1 c0
  go_wp2_with fail
  have hdr : Below w1.heap.size w1 w1.drew := (Below.refl _ _).drew
  have HA1 := Lib.hid hA1
  have HD1 := Lib.hid hD1
  clear hA1 hD1
  go_region_held3 (fun W => W.cell? ⟨w.heap.size, 0, none⟩ = some (.int .i64 a1) ∧ W.cell? ⟨w.heap.size, 1, none⟩ = some (.int .i64 a2) ∧ W.cell? ⟨w.heap.size, 2, none⟩ = some (.int .i64 a3) ∧ W.cell? ⟨w.heap.size + 1, 0, none⟩ = some (.int .i64 b1) ∧ W.cell? ⟨w.heap.size + 1, 1, none⟩ = some (.int .i64 b2) ∧ W.cell? ⟨w.heap.size + 1, 2, none⟩ = some (.int .i64 b3) ∧ Tabs B W ∧ Below w1.heap.size w1 W)
    (first | (have hkk := (by assumption : Below w1.heap.size w1 _); exact ⟨(HA1.out.below hkk hs0).cell 0, (HA1.out.below hkk hs0).cell 1, (HA1.out.below hkk hs0).cell 2, (HD1.out.below hkk hs1).cell 0, (HD1.out.below hkk hs1).cell 1, (HD1.out.below hkk hs1).cell 2, ht1.on (by omega) hkk, hkk⟩))
    (first
      | (go_at_call 22; obtain ⟨k0, k1, k2, k5, k6, k7, kt, k3⟩ := (by assumption : _ ∧ _ ∧ _ ∧ _ ∧ _ ∧ _ ∧ Tabs B _ ∧ Below _ _ _); have k4 := k3.size; refine (c3 _ kt (by omega)).mono ?_; rintro e w2 ⟨rfl, hb2⟩; have hbx := k3.trans (hb2.mono k4))
      | (go_at_call 23; obtain ⟨k0, k1, k2, k5, k6, k7, kt, k3⟩ := (by assumption : _ ∧ _ ∧ _ ∧ _ ∧ _ ∧ _ ∧ Tabs B _ ∧ Below _ _ _); have k4 := k3.size; refine (c4 _).mono ?_; rintro e w2 ⟨rfl, hb2⟩; have hbx := k3.trans (hb2.mono k4)))
  go_wp2_with fail
  go_ret
  exact ⟨rfl, hbw1.trans (hbx.mono hbw1.size)⟩
end Go.Proofs.YtdbkccffepfenaaDoor.Sty
