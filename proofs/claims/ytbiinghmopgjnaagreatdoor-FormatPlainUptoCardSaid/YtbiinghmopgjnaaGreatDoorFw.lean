/- strconv's scaling, at two floats. -/
import Derived.Test.YtbiinghmopgjnaaGreatDoorFb
import Derived.Deep.QuietTactic
import Derived.BigQuiet
import Derived.Deep.Draws
namespace Go.Proofs.YtbiinghmopgjnaaGreatDoor.Cal
open Go.RowKit

theorem bool2_no2 (w : World) : Calls Tryz.prog 220 #[.bool false] w fun e w' => e = .returned (.int .u64 0) ∧ w' = w := (bool2_no w).mono fun _ _ ⟨a, b⟩ => ⟨a, b.symm⟩
set_option maxRecDepth 100000 in
theorem mul64_a (w : World) : Calls Tryz.prog 120 #[.int .u64 16140901064495857664, .int .u64 14411518807585587200] w fun e w' => e = .returned (.tuple #[.int .u64 12610078956637388800, .int .u64 0]) ∧ w = w' := by
  go_enter Tryz.func120, Tryz.ntmps120
  go_wp2
  go_ret2
  exact ⟨rfl, rfl⟩
set_option maxRecDepth 100000 in
theorem mul64_a0 (w : World) : Calls Tryz.prog 120 #[.int .u64 16140901064495857664, .int .u64 0] w fun e w' => e = .returned (.tuple #[.int .u64 0, .int .u64 0]) ∧ w = w' := by
  go_enter Tryz.func120, Tryz.ntmps120
  go_wp2
  go_ret2
  exact ⟨rfl, rfl⟩
theorem prescale_a {B : Nat} (w : World) (ht : Tabs B w) (g : Nat) (hg : B ≤ g) (hb : Blk w g 244 #[.int .u64 0, .int .u64 0, .int .i64 0]) :
    Calls Tryz.prog 190 #[.pointer (some ⟨g, 0, none⟩), .int .i64 (-62), .int .i64 2, .int .i64 6] w fun e w' => e = .returned (.tuple #[]) ∧ Blk w' g 244 #[.int .u64 14411518807585587200, .int .u64 0, .int .i64 53] ∧ w.grownBy w' (some g) := by
  obtain ⟨t, fr, hp⟩ := ht.p10
  have hlo := ht.low
  have c0 : w.cell? ⟨12, 700, none⟩ = some (.int .u64 14411518807585587200) := (cell_of_row w _ _ _ _ _ hp).trans (by kernel_rfl)
  have c1 : w.cell? ⟨12, 701, none⟩ = some (.int .u64 0) := (cell_of_row w _ _ _ _ _ hp).trans (by kernel_rfl)
  have d0 : w.cell? ⟨g, 0, none⟩ = some (.int .u64 0) := hb.cell 0
  have d1 : w.cell? ⟨g, 1, none⟩ = some (.int .u64 0) := hb.cell 1
  have d2 : w.cell? ⟨g, 2, none⟩ = some (.int .i64 0) := hb.cell 2
  have f0 := hb.frozen 0
  have f1 := hb.frozen 1
  have f2 := hb.frozen 2
  have hne : g ≠ 12 := by omega
  have hne2 : ¬ 12 = g := by omega
  clear ht hp hlo
  go_enter Tryz.func190, Tryz.ntmps190
  go_wp2
  go_end0
  exact ⟨rfl, (((hb.set_ 0 _).set_ 1 _).set_ 2 _), grown_trans (grown_trans (grown_set _ _ _ _) (grown_set _ _ _ _)) (grown_set _ _ _ _)⟩
set_option maxRecDepth 100000 in
theorem uscale_a (w : World) (g : Nat) (hb : Blk w g 244 #[.int .u64 14411518807585587200, .int .u64 0, .int .i64 53]) :
    Calls Tryz.prog 192 #[.int .u64 16140901064495857664, .pointer (some ⟨g, 0, none⟩)] w fun e w' => e = .returned (.int .u64 1400) ∧ ∃ n, w' = w.drewN n := by
  have d0 : w.cell? ⟨g, 0, none⟩ = some (.int .u64 14411518807585587200) := hb.cell 0
  have d1 : w.cell? ⟨g, 1, none⟩ = some (.int .u64 0) := hb.cell 1
  have d2 : w.cell? ⟨g, 2, none⟩ = some (.int .i64 53) := hb.cell 2
  have b1 : bits .and .i64 53 63 = 53 := by kernel_rfl
  have b2 : bits .or .u64 1400 0 = 1400 := by kernel_rfl
  go_enter Tryz.func192, Tryz.ntmps192
  go_wp2_with fail
  refine (mul64_a _).mono ?_
  rintro e w' ⟨rfl, rfl⟩
  go_wp2_with fail
  refine (mul64_a0 _).mono ?_
  rintro e w' ⟨rfl, rfl⟩
  go_wp2_with fail
  refine (bool2_no _).mono ?_
  rintro e w' ⟨rfl, rfl⟩
  go_wp2_with fail
  go_quiet ((go_at_call 220; exact Calls.quiet_of_same (bool2_no2 _)))
  go_wp2_with fail
  go_ret
  exact ⟨rfl, _, rfl⟩
set_option maxRecDepth 100000 in
theorem mul64_b (w : World) : Calls Tryz.prog 120 #[.int .u64 9223372036854775808, .int .u64 18014398509481984000] w fun e w' => e = .returned (.tuple #[.int .u64 9007199254740992000, .int .u64 0]) ∧ w = w' := by
  go_enter Tryz.func120, Tryz.ntmps120
  go_wp2
  go_ret2
  exact ⟨rfl, rfl⟩
set_option maxRecDepth 100000 in
theorem mul64_b0 (w : World) : Calls Tryz.prog 120 #[.int .u64 9223372036854775808, .int .u64 0] w fun e w' => e = .returned (.tuple #[.int .u64 0, .int .u64 0]) ∧ w = w' := by
  go_enter Tryz.func120, Tryz.ntmps120
  go_wp2
  go_ret2
  exact ⟨rfl, rfl⟩
theorem prescale_b {B : Nat} (w : World) (ht : Tabs B w) (g : Nat) (hg : B ≤ g) (hb : Blk w g 244 #[.int .u64 0, .int .u64 0, .int .i64 0]) :
    Calls Tryz.prog 190 #[.pointer (some ⟨g, 0, none⟩), .int .i64 (-66), .int .i64 3, .int .i64 9] w fun e w' => e = .returned (.tuple #[]) ∧ Blk w' g 244 #[.int .u64 18014398509481984000, .int .u64 0, .int .i64 54] ∧ w.grownBy w' (some g) := by
  obtain ⟨t, fr, hp⟩ := ht.p10
  have hlo := ht.low
  have c0 : w.cell? ⟨12, 702, none⟩ = some (.int .u64 18014398509481984000) := (cell_of_row w _ _ _ _ _ hp).trans (by kernel_rfl)
  have c1 : w.cell? ⟨12, 703, none⟩ = some (.int .u64 0) := (cell_of_row w _ _ _ _ _ hp).trans (by kernel_rfl)
  have d0 : w.cell? ⟨g, 0, none⟩ = some (.int .u64 0) := hb.cell 0
  have d1 : w.cell? ⟨g, 1, none⟩ = some (.int .u64 0) := hb.cell 1
  have d2 : w.cell? ⟨g, 2, none⟩ = some (.int .i64 0) := hb.cell 2
  have f0 := hb.frozen 0
  have f1 := hb.frozen 1
  have f2 := hb.frozen 2
  have hne : g ≠ 12 := by omega
  have hne2 : ¬ 12 = g := by omega
  clear ht hp hlo
  go_enter Tryz.func190, Tryz.ntmps190
  go_wp2
  go_end0
  exact ⟨rfl, (((hb.set_ 0 _).set_ 1 _).set_ 2 _), grown_trans (grown_trans (grown_set _ _ _ _) (grown_set _ _ _ _)) (grown_set _ _ _ _)⟩
set_option maxRecDepth 100000 in
theorem uscale_b (w : World) (g : Nat) (hb : Blk w g 244 #[.int .u64 18014398509481984000, .int .u64 0, .int .i64 54]) :
    Calls Tryz.prog 192 #[.int .u64 9223372036854775808, .pointer (some ⟨g, 0, none⟩)] w fun e w' => e = .returned (.int .u64 500) ∧ ∃ n, w' = w.drewN n := by
  have d0 : w.cell? ⟨g, 0, none⟩ = some (.int .u64 18014398509481984000) := hb.cell 0
  have d1 : w.cell? ⟨g, 1, none⟩ = some (.int .u64 0) := hb.cell 1
  have d2 : w.cell? ⟨g, 2, none⟩ = some (.int .i64 54) := hb.cell 2
  have b1 : bits .and .i64 54 63 = 54 := by kernel_rfl
  have b2 : bits .or .u64 500 0 = 500 := by kernel_rfl
  go_enter Tryz.func192, Tryz.ntmps192
  go_wp2_with fail
  refine (mul64_b _).mono ?_
  rintro e w' ⟨rfl, rfl⟩
  go_wp2_with fail
  refine (mul64_b0 _).mono ?_
  rintro e w' ⟨rfl, rfl⟩
  go_wp2_with fail
  refine (bool2_no _).mono ?_
  rintro e w' ⟨rfl, rfl⟩
  go_wp2_with fail
  go_quiet ((go_at_call 220; exact Calls.quiet_of_same (bool2_no2 _)))
  go_wp2_with fail
  go_ret
  exact ⟨rfl, _, rfl⟩
end Go.Proofs.YtbiinghmopgjnaaGreatDoor.Cal
