/- Resize without reflow. -/
import Derived.Test.YtgjlohplgpcghaaDoorGcp
namespace Go.Proofs.YtgjlohplgpcghaaDoor.Grd
open Go.RowKit Cel Sty

set_option maxRecDepth 100000 in
set_option maxHeartbeats 2000000 in
theorem resize_crop {w : World} {g s : Nat} {pv : Value} {fp : List Nat} {G : GS} (h : GridAt w g s pv fp G) (cols rows : Nat) (X Y : Int) (hc1 : 1 ≤ cols) (hc2 : cols ≤ 250) (hr1 : 1 ≤ rows) (hr2 : rows ≤ 120) :
    Calls Tryd.prog 18 #[.pointer (some ⟨g, 0, none⟩), .int .i64 (cols : Int), .int .i64 (rows : Int), .agg #[.int .i64 X, .int .i64 Y], .bool false] w fun e w' =>
      e = .returned (.tuple #[.agg #[.int .i64 (min (clampZ X G.cols : Int) ((cols : Int) - 1)), .int .i64 (min (clampZ Y G.scr.length : Int) ((rows : Int) - 1))], .int .i64 0]) ∧
      ∃ s' past2 scr2, GridAt w' g s' pv fp ⟨cols, G.limit, past2, scr2⟩ ∧ past2.map MR.pl = cropP G.cols cols (G.past.map MR.pl) ∧ scr2.map MR.pl = filledR (cropP G.cols cols (G.scr.map MR.pl)) cols rows ∧ (∀ z ∈ foot g s' fp ⟨cols, G.limit, past2, scr2⟩, z ∈ foot g s fp G ∨ w.heap.size ≤ z) ∧ Only (foot g s fp G) w w' := by
  have hA := (BL.new w 44 [.int .i64 X, .int .i64 Y]).alloc (.cells #[.int .i64 0, .int .i64 0] 44)
  have hR := BL.new (w.alloc (.cells #[.int .i64 X, .int .i64 Y] 44)) 44 [.int .i64 0, .int .i64 0]
  have hb0 : Below w.heap.size w ((w.alloc (.cells #[.int .i64 X, .int .i64 Y] 44)).alloc (.cells #[.int .i64 0, .int .i64 0] 44)) := ((Below.refl _ _).alloc (Nat.le_refl _) _).alloc (by simp) _
  rw [size_alloc] at hR
  have hz0 : ((w.alloc (.cells #[.int .i64 X, .int .i64 Y] 44)).alloc (.cells #[.int .i64 0, .int .i64 0] 44)).heap.size = w.heap.size + 1 + 1 := by rw [size_alloc, size_alloc]
  have HZ0 := Lib.hid hz0
  have HA := Lib.hid hA
  have HR := Lib.hid hR
  have HB := Lib.hid hb0
  have HH := Lib.hid h
  have hgl := h.blk.lt
  have hsi := fun W => isSize_any (cols : Int) (rows : Int) true (by simp; omega) W
  have hw1 := fun W => within_gen X G.cols h.c1 (by have := h.c2; omega) W
  have hw2 := fun W => within_gen Y G.scr.length h.r1 (by have := h.r2; omega) W
  have g0 : w.cell? ⟨g, 0, none⟩ = some (.int .i64 (G.cols : Int)) := h.f0
  have g3 : w.cell? ⟨g, 3, none⟩ = some (.slice (some ⟨s, 0, none⟩) G.scr.length G.scr.length) := h.f3
  generalize clampZ X G.cols = x at *
  generalize clampZ Y G.scr.length = y at *
  have hfl := fun W (hW : Only [] w W) => crop_any (w := W) (HH.out.only hW (by simp)) cols rows x y hc1 hc2 hr1 hr2
  have hfoot : ∀ z ∈ foot g s fp G, z < w.heap.size := fun z hz => foot_pos h hz
  have HFO := Lib.hid hfoot
  clear h hA hR hb0 hz0 hfoot
  go_enter Tryd.func18, Tryd.ntmps18
  go_upto_region 3 with (go_at_call 44; refine (hsi _).mono ?_; rintro _ w1 ⟨rfl, rfl⟩)
  have hz := HZ0.out
  have hA := HA.out
  have hR := HR.out
  have hB := HB.out
  clear HA HR HB HZ0
  generalize (w.alloc (.cells #[.int .i64 X, .int .i64 Y] 44)).alloc (.cells #[.int .i64 0, .int .i64 0] 44) = W at *
  have HZ := Lib.hid hz
  have HA := Lib.hid hA
  have HR := Lib.hid hR
  have HB := Lib.hid hB
  have k0 : W.cell? ⟨g, 0, none⟩ = some (.int .i64 (G.cols : Int)) := (hB.cell (p := ⟨g, 0, none⟩) hgl).trans g0
  have k3 : W.cell? ⟨g, 3, none⟩ = some (.slice (some ⟨s, 0, none⟩) G.scr.length G.scr.length) := (hB.cell (p := ⟨g, 3, none⟩) hgl).trans g3
  clear hz hA hR hB g0 g3
  have hgA : g ≠ w.heap.size := by omega
  go_cut [] (fun wx => BL wx w.heap.size 44 [.int .i64 (x : Int), .int .i64 Y] ∧ Only [w.heap.size] W wx)
  case first =>
    have a0 : W.drew.cell? ⟨w.heap.size, 0, none⟩ = some (.int .i64 X) := HA.out.cell 0
    have a0f : W.drew.frozen? ⟨w.heap.size, 0, none⟩ = false := HA.out.frozen 0
    have k0' : W.drew.cell? ⟨g, 0, none⟩ = some (.int .i64 (G.cols : Int)) := k0
    have HS := Lib.hid (HA.out.set_ 0 (.int .i64 (x : Int)))
    have HO := Lib.hid ((Only.refl [w.heap.size] W).setCell (p := ⟨w.heap.size, 0, none⟩) (.inl (by simp)) (.int .i64 (x : Int)))
    go_region_with (go_at_call 45; refine (hw1 _).mono ?_; rintro _ w1 ⟨rfl, rfl⟩)
    all_goals go_wp2_with fail
    all_goals go_meet
    all_goals exact ⟨HS.out, HO.out.drew⟩
  case rest =>
    obtain ⟨hA1, ho1⟩ := hcut
    have l3 : wc.drew.cell? ⟨g, 3, none⟩ = some (.slice (some ⟨s, 0, none⟩) G.scr.length G.scr.length) := (World.cell?_of_block (ho1.block g (by have := HZ.out; omega) (by simpa using hgA))).trans k3
    go_upto_region 4 with fail
    go_cut [] (fun wx => BL wx w.heap.size 44 [.int .i64 (x : Int), .int .i64 (y : Int)] ∧ Only [w.heap.size] W wx)
    case first =>
      have a1 : wc.drew.cell? ⟨w.heap.size, 1, none⟩ = some (.int .i64 Y) := hA1.cell 1
      have a1f : wc.drew.frozen? ⟨w.heap.size, 1, none⟩ = false := hA1.frozen 1
      have HS := Lib.hid (hA1.set_ 1 (.int .i64 (y : Int)))
      have HO := Lib.hid (ho1.setCell (p := ⟨w.heap.size, 1, none⟩) (.inl (by simp)) (.int .i64 (y : Int)))
      clear hA1 ho1
      go_region_with (go_at_call 45; refine (hw2 _).mono ?_; rintro _ w1 ⟨rfl, rfl⟩)
      all_goals go_wp2_with fail
      all_goals go_meet
      all_goals exact ⟨HS.out, HO.out.drew⟩
    case rest =>
      obtain ⟨hA2, ho2⟩ := hcut
      have hAR : w.heap.size ≠ w.heap.size + 1 := by omega
      have HR2 := Lib.hid (HR.out.only ho2 (by simp))
      have hbw := Only.of_below (F := []) HB.out
      have hww : Only [] w wc := hbw.trans2 ho2 (fun z hz => by rw [List.mem_singleton] at hz; exact .inr (by omega))
      have hf2 := hfl _ hww
      have hz2 := ho2.size
      go_wp2_with (first
        | (refine wpList_load_row rfl 44 _ rfl w.heap.size rfl _ _ _ _ hA2 Tryd.underlying44 rfl (by kernel_rfl) ?_)
        | (go_at_call 47; refine hf2.mono ?_; rintro _ w5 ⟨rfl, s', past2, scr2, hG5, hp5, hs5, hft5, ho5⟩; have HR5 := Lib.hid (HR2.out.only ho5 (fun e => by have := HFO.out _ e; omega)); have r0 : w5.cell? ⟨w.heap.size + 1, 0, none⟩ = some (.int .i64 0) := HR5.out.cell 0; have r1 : w5.cell? ⟨w.heap.size + 1, 1, none⟩ = some (.int .i64 0) := HR5.out.cell 1; have r0f := HR5.out.frozen 0; have r1f := HR5.out.frozen 1))
      obtain ⟨va, hva⟩ : ∃ va, min (x : Int) ((cols : Int) - 1) = va := ⟨_, rfl⟩
      obtain ⟨vb, hvb⟩ : ∃ vb, min (y : Int) ((rows : Int) - 1) = vb := ⟨_, rfl⟩
      rw [hva, hvb]
      have hR6 := (HR5.out.set_ 0 (.int .i64 va)).set_ 1 (.int .i64 vb)
      have ho6 : Only [w.heap.size + 1] w5 ((w5.setCell ⟨w.heap.size + 1, 0, none⟩ (.int .i64 va)).setCell ⟨w.heap.size + 1, 1, none⟩ (.int .i64 vb)) := ((Only.refl [w.heap.size + 1] w5).setCell (p := ⟨w.heap.size + 1, 0, none⟩) (.inl (by simp)) _).setCell (p := ⟨w.heap.size + 1, 1, none⟩) (.inl (by simp)) _
      have hWs := HZ.out
      have hfin : ∃ s' past2 scr2, GridAt ((w5.setCell ⟨w.heap.size + 1, 0, none⟩ (.int .i64 va)).setCell ⟨w.heap.size + 1, 1, none⟩ (.int .i64 vb)) g s' pv fp ⟨cols, G.limit, past2, scr2⟩ ∧ past2.map MR.pl = cropP G.cols cols (G.past.map MR.pl) ∧ scr2.map MR.pl = filledR (cropP G.cols cols (G.scr.map MR.pl)) cols rows ∧ (∀ z ∈ foot g s' fp ⟨cols, G.limit, past2, scr2⟩, z ∈ foot g s fp G ∨ w.heap.size ≤ z) ∧ Only (foot g s fp G) w ((w5.setCell ⟨w.heap.size + 1, 0, none⟩ (.int .i64 va)).setCell ⟨w.heap.size + 1, 1, none⟩ (.int .i64 vb)) := by
        refine ⟨s', past2, scr2, hG5.only ho6 fun z hz hm => ?_, hp5, hs5, fun z hz => (hft5 z hz).imp id (fun q => by omega), ((hww.mono (G := foot g s fp G) (fun _ h => by cases h)).trans ho5).trans2 ho6 fun z hz => ?_⟩
        · rw [List.mem_singleton] at hm
          rcases hft5 z hz with q | q
          · have := HFO.out z q; omega
          · omega
        · rw [List.mem_singleton] at hz; exact .inr (by omega)
      have HR6 := Lib.hid hR6
      exact bodyPost_ret (v := .tuple #[.agg #[.int .i64 va, .int .i64 vb], .int .i64 0]) (results_cell_tmp (p := 10) (q := 11) (by kernel_rfl) _ _ (w.heap.size + 1) _ _ _ _ rfl HR6.out Tryd.underlying44 rfl (by kernel_rfl)) rfl ⟨rfl, hfin⟩
end Go.Proofs.YtgjlohplgpcghaaDoor.Grd
