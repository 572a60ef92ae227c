/- calc.Print at the chapter's floats. -/
import Derived.Test.YtbiinghmopgjnaaGreatDoorFa
import Derived.Laws.BytesString
namespace Go.Proofs.YtbiinghmopgjnaaGreatDoor.Cal
open Go.RowKit

theorem own_cells {w : World} {g : Nat} {l : List UInt8} (h : OwnU w g l) (j : Nat) (hj : j < l.length) : w.cell? ((⟨g, 0, none⟩ : Addr).add j) = some (.int .u8 (l[j].toNat : Int)) := by
  obtain ⟨h1, h2⟩ := h
  rcases h2 with ⟨h2, _⟩ | ⟨g', cap, cur, hv, hbg, hh, _, _, hsz, htk⟩
  · cases h2
  · injection hv with e1 _ _
    injection e1 with e1
    injection e1 with e1 _ _
    subst e1
    rw [Addr.add_lit, Nat.zero_add, cell_of_row w g j cur _ _ hh, ← Array.getElem?_toList]
    have : (cur.toList.take (l.length * 1))[j]? = (us l)[j]? := by rw [htk]
    rw [Nat.mul_one, List.getElem?_take, if_pos hj] at this
    rw [this]
    unfold us
    rw [List.getElem?_map, List.getElem?_eq_getElem hj]
    rfl
set_option maxRecDepth 100000 in
theorem isInf_3501 (w : World) : Calls Tryz.prog 83 #[.float .f64 4615063718147915776, .int .i64 1] w fun e w' => e = .returned (.bool false) ∧ w = w' := by
  have h := gt_test 4615063718147915776 9218868437227405311 (by omega) (by omega) false (by decide +kernel)
  go_enter Tryz.func83, Tryz.ntmps83
  go_wp2
  go_ret
  exact ⟨rfl, rfl⟩
set_option maxRecDepth 100000 in
theorem isInf_350m (w : World) : Calls Tryz.prog 83 #[.float .f64 4615063718147915776, .int .i64 (-1)] w fun e w' => e = .returned (.bool false) ∧ w = w' := by
  have h := gt_test 13838435755002691584 9218868437227405311 (by omega) (by omega) false (by decide +kernel)
  have hneg : ∀ w : World, (Go.Op.unary .neg (.float .f64 4615063718147915776)).run Tryz.prog w = .ok (.float .f64 13838435755002691584) w := fun _ => by kernel_rfl
  go_enter Tryz.func83, Tryz.ntmps83
  go_wp2
  go_ret
  exact ⟨rfl, rfl⟩
set_option maxRecDepth 100000 in
theorem isInf_0121 (w : World) : Calls Tryz.prog 83 #[.float .f64 4593671619917905920, .int .i64 1] w fun e w' => e = .returned (.bool false) ∧ w = w' := by
  have h := gt_test 4593671619917905920 9218868437227405311 (by omega) (by omega) false (by decide +kernel)
  go_enter Tryz.func83, Tryz.ntmps83
  go_wp2
  go_ret
  exact ⟨rfl, rfl⟩
set_option maxRecDepth 100000 in
theorem isInf_012m (w : World) : Calls Tryz.prog 83 #[.float .f64 4593671619917905920, .int .i64 (-1)] w fun e w' => e = .returned (.bool false) ∧ w = w' := by
  have h := gt_test 13817043656772681728 9218868437227405311 (by omega) (by omega) false (by decide +kernel)
  have hneg : ∀ w : World, (Go.Op.unary .neg (.float .f64 4593671619917905920)).run Tryz.prog w = .ok (.float .f64 13817043656772681728) w := fun _ => by kernel_rfl
  go_enter Tryz.func83, Tryz.ntmps83
  go_wp2
  go_ret
  exact ⟨rfl, rfl⟩
set_option maxRecDepth 100000 in
theorem ff_350 {B : Nat} (w : World) (ht : Tabs B w) (hB : B ≤ w.heap.size) :
    Calls Tryz.prog 111 #[.float .f64 4615063718147915776, .int .u8 102, .int .i64 2, .int .i64 64] w fun e w' => e = .returned (.string { data := #[51, 46, 53, 48] }) ∧ Below w.heap.size w w' := by
  have hB1 := (Below.refl w.heap.size w).alloc (Nat.le_refl _) (.cells zero24 5)
  have ht1 := ht.below (hB1.mono hB)
  have ho : OwnU (w.alloc (.cells zero24 5)) w.heap.size [] := World.ownsRow_made w zero24 24 (Nat.le_refl _) (by unfold maxLen; omega) rfl
  have hmk : ∀ w : World, (Instr.makeSlice 27 (.int .i64 0) (.int .i64 24)).run Tryz.prog w = .ok (.slice (some ⟨w.heap.size, 0, none⟩) 0 24) (w.alloc (.cells zero24 5)) := fun _ => by kernel_rfl
  go_enter Tryz.func111, Tryz.ntmps111
  go_wp2_with fail
  refine (ftoa_350 _ ht1 (by simp; omega) w.heap.size (by simp) ho).mono ?_
  rintro e w1 ⟨rfl, ho1, hb1⟩
  have hcv : (convert 27 9 (.slice (some ⟨w.heap.size, 0, none⟩) 4 24)).run Tryz.prog w1 = .ok (.string { data := #[51, 46, 53, 48] }) w1 := run_convert_bytes_back (P := Tryz.prog) w1 27 9 5 ⟨w.heap.size, 0, none⟩ 24 [51, 46, 53, 48] Tryz.underlying27 Tryz.underlying5 Tryz.underlying9 (own_cells ho1)
  go_wp2_with fail
  go_ret
  exact ⟨rfl, hB1.trans hb1⟩
theorem fs_350 {B : Nat} (w : World) (ht : Tabs B w) (hB : B ≤ w.heap.size) :
    Calls Tryz.prog 84 #[.float .f64 4615063718147915776, .int .u8 102, .int .i64 2, .int .i64 64] w fun e w' => e = .returned (.string { data := #[51, 46, 53, 48] }) ∧ Below w.heap.size w w' := by
  go_enter Tryz.func84, Tryz.ntmps84
  go_wp2_with fail
  refine (ff_350 w ht hB).mono ?_
  rintro e w1 ⟨rfl, hb1⟩
  go_wp2_with fail
  go_ret
  exact ⟨rfl, hb1⟩
theorem print_350 {B : Nat} (w : World) (ht : Tabs B w) (hB : B ≤ w.heap.size) :
    Calls Tryz.prog 58 #[.float .f64 4615063718147915776, .int .i64 2] w fun e w' => e = .returned (.string { data := #[51, 46, 53, 48] }) ∧ Below w.heap.size w w' := by
  go_enter Tryz.func58, Tryz.ntmps58
  go_wp2_with fail
  refine (isNaN_any 4615063718147915776 false (by decide +kernel) w (by omega)).mono ?_
  rintro e w' ⟨rfl, rfl⟩
  go_wp2_with fail
  refine (isInf_3501 w).mono ?_
  rintro e w' ⟨rfl, rfl⟩
  go_wp2_with fail
  refine (isInf_350m w).mono ?_
  rintro e w' ⟨rfl, rfl⟩
  go_wp2_with fail
  refine (fs_350 w ht hB).mono ?_
  rintro e w1 ⟨rfl, hb1⟩
  go_wp2_with fail
  go_ret
  exact ⟨rfl, hb1⟩
set_option maxRecDepth 100000 in
theorem ff_012 {B : Nat} (w : World) (ht : Tabs B w) (hB : B ≤ w.heap.size) :
    Calls Tryz.prog 111 #[.float .f64 4593671619917905920, .int .u8 102, .int .i64 2, .int .i64 64] w fun e w' => e = .returned (.string { data := #[48, 46, 49, 50] }) ∧ Below w.heap.size w w' := by
  have hB1 := (Below.refl w.heap.size w).alloc (Nat.le_refl _) (.cells zero24 5)
  have ht1 := ht.below (hB1.mono hB)
  have ho : OwnU (w.alloc (.cells zero24 5)) w.heap.size [] := World.ownsRow_made w zero24 24 (Nat.le_refl _) (by unfold maxLen; omega) rfl
  have hmk : ∀ w : World, (Instr.makeSlice 27 (.int .i64 0) (.int .i64 24)).run Tryz.prog w = .ok (.slice (some ⟨w.heap.size, 0, none⟩) 0 24) (w.alloc (.cells zero24 5)) := fun _ => by kernel_rfl
  go_enter Tryz.func111, Tryz.ntmps111
  go_wp2_with fail
  refine (ftoa_012 _ ht1 (by simp; omega) w.heap.size (by simp) ho).mono ?_
  rintro e w1 ⟨rfl, ho1, hb1⟩
  have hcv : (convert 27 9 (.slice (some ⟨w.heap.size, 0, none⟩) 4 24)).run Tryz.prog w1 = .ok (.string { data := #[48, 46, 49, 50] }) w1 := run_convert_bytes_back (P := Tryz.prog) w1 27 9 5 ⟨w.heap.size, 0, none⟩ 24 [48, 46, 49, 50] Tryz.underlying27 Tryz.underlying5 Tryz.underlying9 (own_cells ho1)
  go_wp2_with fail
  go_ret
  exact ⟨rfl, hB1.trans hb1⟩
theorem fs_012 {B : Nat} (w : World) (ht : Tabs B w) (hB : B ≤ w.heap.size) :
    Calls Tryz.prog 84 #[.float .f64 4593671619917905920, .int .u8 102, .int .i64 2, .int .i64 64] w fun e w' => e = .returned (.string { data := #[48, 46, 49, 50] }) ∧ Below w.heap.size w w' := by
  go_enter Tryz.func84, Tryz.ntmps84
  go_wp2_with fail
  refine (ff_012 w ht hB).mono ?_
  rintro e w1 ⟨rfl, hb1⟩
  go_wp2_with fail
  go_ret
  exact ⟨rfl, hb1⟩
theorem print_012 {B : Nat} (w : World) (ht : Tabs B w) (hB : B ≤ w.heap.size) :
    Calls Tryz.prog 58 #[.float .f64 4593671619917905920, .int .i64 2] w fun e w' => e = .returned (.string { data := #[48, 46, 49, 50] }) ∧ Below w.heap.size w w' := by
  go_enter Tryz.func58, Tryz.ntmps58
  go_wp2_with fail
  refine (isNaN_any 4593671619917905920 false (by decide +kernel) w (by omega)).mono ?_
  rintro e w' ⟨rfl, rfl⟩
  go_wp2_with fail
  refine (isInf_0121 w).mono ?_
  rintro e w' ⟨rfl, rfl⟩
  go_wp2_with fail
  refine (isInf_012m w).mono ?_
  rintro e w' ⟨rfl, rfl⟩
  go_wp2_with fail
  refine (fs_012 w ht hB).mono ?_
  rintro e w1 ⟨rfl, hb1⟩
  go_wp2_with fail
  go_ret
  exact ⟨rfl, hb1⟩
end Go.Proofs.YtbiinghmopgjnaaGreatDoor.Cal
