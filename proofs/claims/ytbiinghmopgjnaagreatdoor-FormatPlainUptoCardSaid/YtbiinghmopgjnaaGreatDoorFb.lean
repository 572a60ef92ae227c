/- strconv's digits of a whole number, at two numbers. -/
import Derived.Test.YtbiinghmopgjnaaGreatDoorEfg
import Derived.RegionTactic
import Derived.ChangeAlike
import Derived.BigRegion
namespace Go.Proofs.YtbiinghmopgjnaaGreatDoor.Cal
open Go.RowKit

theorem grown_set (w : World) (g i : Nat) (u : Value) : w.grownBy (w.setCell ⟨g, i, none⟩ u) (some g) :=
  ⟨rfl, rfl, rfl, by simp [World.setCell], fun k _ hk => Below.heap_setCell _ _ _ _ fun e => hk (by rw [e])⟩
theorem grown_drew {w w' : World} {r : Option Nat} (h : w.grownBy w' r) : w.grownBy w'.drew r := ⟨h.os, h.tape, h.output, h.size, h.block⟩
theorem Blk.drew {w : World} {g : Nat} {t : TypeId} {cs : Array Value} (h : Blk w g t cs) : Blk w.drew g t cs := h

set_option maxRecDepth 100000 in
set_option maxHeartbeats 1000000 in
theorem base10_12 (w : World) (gb : Nat) (cs : Array Value) (hb : Blk w gb 178 cs) (hs : cs.size = 24) :
    Calls Tryz.prog 137 #[.slice (some ⟨gb, 0, none⟩) 2 24, .int .u64 12] w fun e w' => e = .returned (.tuple #[]) ∧ Blk w' gb 178 ((cs.setIfInBounds 1 (.int .u8 50)).setIfInBounds 0 (.int .u8 49)) ∧ w.grownBy w' (some gb) := by
  have c0 := hb.cell 0
  have c1 := hb.cell 1
  rw [Array.getElem?_eq_getElem (by omega)] at c0 c1
  have f0 := hb.frozen 0
  have f1 := hb.frozen 1
  go_enter Tryz.func137, Tryz.ntmps137
  go_wp2
  refine wp_loop_rounds 1 ?_
  rw [rounds_succ]
  go_wp2
  go_region
  go_wp2
  go_end0
  exact ⟨rfl, ((hb.set_ 1 _).set_ 0 _).drew, grown_drew (grown_trans (grown_set _ _ _ _) (grown_set _ _ _ _))⟩
set_option maxRecDepth 100000 in
set_option maxHeartbeats 1000000 in
theorem base10_350 (w : World) (gb : Nat) (cs : Array Value) (hb : Blk w gb 178 cs) (hs : cs.size = 24) :
    Calls Tryz.prog 137 #[.slice (some ⟨gb, 0, none⟩) 3 24, .int .u64 350] w fun e w' => e = .returned (.tuple #[]) ∧ Blk w' gb 178 (((cs.setIfInBounds 2 (.int .u8 48)).setIfInBounds 1 (.int .u8 53)).setIfInBounds 0 (.int .u8 51)) ∧ w.grownBy w' (some gb) := by
  have c0 := hb.cell 0
  have c1 := hb.cell 1
  have c2 := hb.cell 2
  rw [Array.getElem?_eq_getElem (by omega)] at c0 c1 c2
  have f0 := hb.frozen 0
  have f1 := hb.frozen 1
  have f2 := hb.frozen 2
  go_enter Tryz.func137, Tryz.ntmps137
  go_wp2
  refine wp_loop_rounds 1 ?_
  rw [rounds_succ]
  go_wp2
  go_region
  go_wp2
  go_end0
  exact ⟨rfl, (((hb.set_ 2 _).set_ 1 _).set_ 0 _).drew, grown_drew (grown_trans (grown_trans (grown_set _ _ _ _) (grown_set _ _ _ _)) (grown_set _ _ _ _))⟩
set_option maxRecDepth 100000 in
set_option maxHeartbeats 1000000 in
theorem setDigits_12 (w : World) (gb : Nat) (cs : Array Value) (hb : Blk w gb 178 cs) (hs : cs.size = 24) :
    Calls Tryz.prog 162 #[.slice (some ⟨gb, 0, none⟩) 24 24, .int .u64 12, .int .i64 (-2), .int .i64 2] w fun e w' => e = .returned (.tuple #[.int .i64 0, .int .i64 2]) ∧ Blk w' gb 178 ((cs.setIfInBounds 1 (.int .u8 50)).setIfInBounds 0 (.int .u8 49)) ∧ w.grownBy w' (some gb) := by
  have H := base10_12 w gb cs hb hs
  go_enter Tryz.func162, Tryz.ntmps162
  go_wp2_with fail
  refine H.mono ?_
  rintro e w1 ⟨rfl, hb1, hg1⟩
  have c1 := hb1.cell 1
  rw [show ((cs.setIfInBounds 1 (.int .u8 50)).setIfInBounds 0 (.int .u8 49))[1]? = some (.int .u8 50) by simp [hs]] at c1
  go_wp2_with fail
  refine wp_loop_rounds 1 ?_
  rw [rounds_succ]
  go_wp2
  go_ret2
  exact ⟨rfl, hb1, hg1⟩
set_option maxRecDepth 100000 in
set_option maxHeartbeats 1000000 in
theorem setDigits_350 (w : World) (gb : Nat) (cs : Array Value) (hb : Blk w gb 178 cs) (hs : cs.size = 24) :
    Calls Tryz.prog 162 #[.slice (some ⟨gb, 0, none⟩) 24 24, .int .u64 350, .int .i64 (-2), .int .i64 3] w fun e w' => e = .returned (.tuple #[.int .i64 1, .int .i64 2]) ∧ Blk w' gb 178 (((cs.setIfInBounds 2 (.int .u8 48)).setIfInBounds 1 (.int .u8 53)).setIfInBounds 0 (.int .u8 51)) ∧ w.grownBy w' (some gb) := by
  have H := base10_350 w gb cs hb hs
  go_enter Tryz.func162, Tryz.ntmps162
  go_wp2_with fail
  refine H.mono ?_
  rintro e w1 ⟨rfl, hb1, hg1⟩
  have c1 := hb1.cell 1
  rw [show (((cs.setIfInBounds 2 (.int .u8 48)).setIfInBounds 1 (.int .u8 53)).setIfInBounds 0 (.int .u8 51))[1]? = some (.int .u8 53) by simp [hs]] at c1
  have c2 := hb1.cell 2
  rw [show (((cs.setIfInBounds 2 (.int .u8 48)).setIfInBounds 1 (.int .u8 53)).setIfInBounds 0 (.int .u8 51))[2]? = some (.int .u8 48) by simp [hs]] at c2
  go_wp2_with fail
  refine wp_loop_rounds 2 ?_
  rw [rounds_succ]
  go_wp2
  rw [rounds_succ]
  go_wp2
  go_ret2
  exact ⟨rfl, hb1, hg1⟩

theorem u10_cell {B : Nat} {w : World} (ht : Tabs B w) (k : Nat) (x : Nat) (hk : u10Cells[k]? = some (.int .u64 x)) : w.cell? ⟨4, k, none⟩ = some (.int .u64 x) := by
  obtain ⟨t, fr, h⟩ := ht.u10
  exact (cell_of_row w _ k _ _ _ h).trans hk
set_option maxRecDepth 100000 in
theorem len64_12 (w : World) : Calls Tryz.prog 160 #[.int .u64 12] w fun e w' => e = .returned (.int .i64 4) ∧ w = w' := by
  go_enter Tryz.func160, Tryz.ntmps160
  go_wp2
  go_ret
  exact ⟨ret_int (by decide +kernel), rfl⟩
set_option maxRecDepth 100000 in
theorem len64_350 (w : World) : Calls Tryz.prog 160 #[.int .u64 350] w fun e w' => e = .returned (.int .i64 9) ∧ w = w' := by
  go_enter Tryz.func160, Tryz.ntmps160
  go_wp2
  go_ret
  exact ⟨ret_int (by decide +kernel), rfl⟩
set_option maxRecDepth 100000 in
theorem len64_7881299347898368 (w : World) : Calls Tryz.prog 160 #[.int .u64 7881299347898368] w fun e w' => e = .returned (.int .i64 53) ∧ w = w' := by
  go_enter Tryz.func160, Tryz.ntmps160
  go_wp2
  go_ret
  exact ⟨ret_int (by decide +kernel), rfl⟩
set_option maxRecDepth 100000 in
theorem len64_4503599627370496 (w : World) : Calls Tryz.prog 160 #[.int .u64 4503599627370496] w fun e w' => e = .returned (.int .i64 53) ∧ w = w' := by
  go_enter Tryz.func160, Tryz.ntmps160
  go_wp2
  go_ret
  exact ⟨ret_int (by decide +kernel), rfl⟩
set_option maxRecDepth 100000 in
theorem numDigits_12 {B : Nat} (w : World) (ht : Tabs B w) :
    Calls Tryz.prog 136 #[.int .u64 12] w fun e w' => e = .returned (.int .i64 2) ∧ w = w' := by
  have c := u10_cell ht 1 10 (by kernel_rfl)
  have H := len64_12 w
  go_enter Tryz.func136, Tryz.ntmps136
  go_wp2_with fail
  refine H.mono ?_
  rintro e w' ⟨rfl, rfl⟩
  go_wp2
  go_ret
  exact ⟨rfl, rfl⟩
set_option maxRecDepth 100000 in
theorem numDigits_350 {B : Nat} (w : World) (ht : Tabs B w) :
    Calls Tryz.prog 136 #[.int .u64 350] w fun e w' => e = .returned (.int .i64 3) ∧ w = w' := by
  have c := u10_cell ht 2 100 (by kernel_rfl)
  have H := len64_350 w
  go_enter Tryz.func136, Tryz.ntmps136
  go_wp2_with fail
  refine H.mono ?_
  rintro e w' ⟨rfl, rfl⟩
  go_wp2
  go_ret
  exact ⟨rfl, rfl⟩
end Go.Proofs.YtbiinghmopgjnaaGreatDoor.Cal
