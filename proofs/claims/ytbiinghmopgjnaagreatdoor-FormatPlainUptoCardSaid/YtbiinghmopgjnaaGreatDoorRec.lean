/- calc.Reckon at the chapter's examples. -/
import Derived.Test.YtbiinghmopgjnaaGreatDoorPri
import Derived.Test.YtbiinghmopgjnaaGreatDoorOrd
namespace Go.Proofs.YtbiinghmopgjnaaGreatDoor.Cal
open Go.RowKit

set_option maxRecDepth 100000 in
theorem kind_div (w : World) : Calls Tryz.prog 52 #[.string { data := #[47] }] w fun e w' => e = .returned (.int .i64 1) ∧ w = w' := by
  go_enter Tryz.func52, Tryz.ntmps52
  go_wp2
  go_ret
  exact ⟨rfl, rfl⟩
set_option maxRecDepth 100000 in
theorem kind_lt (w : World) : Calls Tryz.prog 52 #[.string { data := #[60] }] w fun e w' => e = .returned (.int .i64 2) ∧ w = w' := by
  go_enter Tryz.func52, Tryz.ntmps52
  go_wp2
  go_ret
  exact ⟨rfl, rfl⟩
set_option maxRecDepth 100000 in
theorem truth_no (w : World) : Calls Tryz.prog 56 #[.bool false] w fun e w' => e = .returned (.string { data := #[48] }) ∧ w = w' := by
  go_enter Tryz.func56, Tryz.ntmps56
  go_wp2
  go_ret
  exact ⟨rfl, rfl⟩
set_option maxRecDepth 100000 in
theorem result_div (w : World) : Calls Tryz.prog 59 #[.string { data := #[47] }, .float .f64 4619567317775286272, .float .f64 4611686018427387904] w fun e w' => e = .returned (.float .f64 4615063718147915776) ∧ w = w' := by
  have hd := div_run 4619567317775286272 4611686018427387904 4615063718147915776 (by decide +kernel) 84
  go_enter Tryz.func59, Tryz.ntmps59
  go_wp2
  go_ret
  exact ⟨rfl, rfl⟩
set_option maxRecDepth 100000 in
theorem holds_no (w : World) : Calls Tryz.prog 57 #[.string { data := #[60] }, .float .f64 9221120237041090561, .float .f64 4607182418800017408] w fun e w' => e = .returned (.bool false) ∧ w = w' := by
  have h := lt_test 9221120237041090561 4607182418800017408 (by omega) (by omega) false (by decide +kernel)
  go_enter Tryz.func57, Tryz.ntmps57
  go_wp2
  go_ret
  exact ⟨rfl, rfl⟩
theorem trunc_ext (w : World) : (callFunc 87 #[.float .f64 4615063718147915776]).run Tryz.prog w = .ok (.value (.float .f64 4613937818241073152)) w := by kernel_rfl
set_option maxRecDepth 100000 in
theorem trunc_35 (w : World) : Calls Tryz.prog 61 #[.float .f64 4615063718147915776] w fun e w' => e = .returned (.float .f64 4613937818241073152) ∧ w = w' := by
  have h := trunc_ext
  go_enter Tryz.func61, Tryz.ntmps61
  go_wp2
  go_ret
  exact ⟨rfl, rfl⟩
set_option maxRecDepth 100000 in
theorem small_3 (w : World) : Calls Tryz.prog 135 #[.int .i64 3] w fun e w' => e = .returned (.string { data := #[51] }) ∧ w = w' := by
  go_enter Tryz.func135, Tryz.ntmps135
  go_wp2
  go_ret
  exact ⟨ret_str (by decide +kernel), rfl⟩
theorem itoa_3 (w : World) : Calls Tryz.prog 60 #[.int .i64 3] w fun e w' => e = .returned (.string { data := #[51] }) ∧ w = w' := by
  have hf : Calls Tryz.prog 114 #[.int .i64 3, .int .i64 10] w fun e w' => e = .returned (.string { data := #[51] }) ∧ w = w' := by
    go_enter Tryz.func114, Tryz.ntmps114
    go_wp2_with fail
    refine (small_3 w).mono ?_
    rintro e w' ⟨rfl, rfl⟩
    go_wp2_with fail
    go_ret
    exact ⟨rfl, rfl⟩
  have hg : Calls Tryz.prog 86 #[.int .i64 3] w fun e w' => e = .returned (.string { data := #[51] }) ∧ w = w' := by
    go_enter Tryz.func86, Tryz.ntmps86
    go_wp2_with fail
    refine hf.mono ?_
    rintro e w' ⟨rfl, rfl⟩
    go_wp2_with fail
    go_ret
    exact ⟨rfl, rfl⟩
  go_enter Tryz.func60, Tryz.ntmps60
  go_wp2_with fail
  refine hg.mono ?_
  rintro e w' ⟨rfl, rfl⟩
  go_wp2_with fail
  go_ret
  exact ⟨rfl, rfl⟩
theorem operands_72 {B : Nat} (w : World) (ht : Tabs B w) (hB : B ≤ w.heap.size) :
    Calls Tryz.prog 53 #[.string { data := #[55] }, .string { data := #[50] }] w fun e w' => e = .returned (.tuple #[.float .f64 4619567317775286272, .float .f64 4611686018427387904, .int .i64 0]) ∧ Below w.heap.size w w' := by
  go_enter Tryz.func53, Tryz.ntmps53
  go_wp2_with fail
  refine (parse_7 w ht hB).mono ?_
  rintro e w1 ⟨rfl, hb1⟩
  have ht1 := ht.below (hb1.mono hB)
  have hB1 : B ≤ w1.heap.size := Nat.le_trans hB hb1.size
  go_wp2_with fail
  refine (is_ok w1).mono ?_
  rintro e w' ⟨rfl, rfl⟩
  go_wp2_with fail
  refine (parse_2 w1 ht1 hB1).mono ?_
  rintro e w2 ⟨rfl, hb2⟩
  have hbb := hb1.trans (hb2.mono hb1.size)
  go_wp2_with fail
  refine (is_ok w2).mono ?_
  rintro e w' ⟨rfl, rfl⟩
  go_wp2_with fail
  go_ret3
  exact ⟨rfl, hbb⟩
theorem operands_n1 {B : Nat} (w : World) (ht : Tabs B w) (hB : B ≤ w.heap.size) :
    Calls Tryz.prog 53 #[.string { data := #[110, 97, 110] }, .string { data := #[49] }] w fun e w' => e = .returned (.tuple #[.float .f64 9221120237041090561, .float .f64 4607182418800017408, .int .i64 0]) ∧ Below w.heap.size w w' := by
  go_enter Tryz.func53, Tryz.ntmps53
  go_wp2_with fail
  refine (parse_nan w).mono ?_
  rintro e w1 ⟨rfl, hb1⟩
  have ht1 := ht.below (hb1.mono hB)
  have hB1 : B ≤ w1.heap.size := Nat.le_trans hB hb1.size
  go_wp2_with fail
  refine (is_ok w1).mono ?_
  rintro e w' ⟨rfl, rfl⟩
  go_wp2_with fail
  refine (parse_1 w1 ht1 hB1).mono ?_
  rintro e w2 ⟨rfl, hb2⟩
  have hbb := hb1.trans (hb2.mono hb1.size)
  go_wp2_with fail
  refine (is_ok w2).mono ?_
  rintro e w' ⟨rfl, rfl⟩
  go_wp2_with fail
  go_ret3
  exact ⟨rfl, hbb⟩
theorem reckon_a {B : Nat} (w : World) (ht : Tabs B w) (hB : B ≤ w.heap.size) :
    Calls Tryz.prog 43 #[.string { data := #[47] }, .string { data := #[55] }, .string { data := #[50] }, .bool true, .int .i64 2] w fun e w' => e = .returned (.tuple #[.string { data := #[51, 46, 53, 48] }, .int .i64 0]) ∧ Below w.heap.size w w' := by
  go_enter Tryz.func43, Tryz.ntmps43
  go_wp2_with fail
  refine (kind_div w).mono ?_
  rintro e w' ⟨rfl, rfl⟩
  go_wp2_with fail
  refine (operands_72 w ht hB).mono ?_
  rintro e w1 ⟨rfl, hb1⟩
  have ht1 := ht.below (hb1.mono hB)
  have hB1 : B ≤ w1.heap.size := Nat.le_trans hB hb1.size
  go_wp2_with fail
  refine (is_ok w1).mono ?_
  rintro e w' ⟨rfl, rfl⟩
  go_wp2_with fail
  refine (result_div w1).mono ?_
  rintro e w' ⟨rfl, rfl⟩
  go_wp2_with fail
  refine (print_350 w1 ht1 hB1).mono ?_
  rintro e w2 ⟨rfl, hb2⟩
  have hbb := hb1.trans (hb2.mono hb1.size)
  go_wp2_with fail
  go_ret2
  exact ⟨rfl, hbb⟩
theorem whole_7 (w : World) : Calls Tryz.prog 55 #[.float .f64 4619567317775286272] w fun e w' => e = .returned (.int .i64 7) ∧ w = w' := by
  have h := whole_any 4619567317775286272 w (by omega)
  rw [show Flt.whole 4619567317775286272 = 7 by decide +kernel] at h
  exact h
theorem whole_2 (w : World) : Calls Tryz.prog 55 #[.float .f64 4611686018427387904] w fun e w' => e = .returned (.int .i64 2) ∧ w = w' := by
  have h := whole_any 4611686018427387904 w (by omega)
  rw [show Flt.whole 4611686018427387904 = 2 by decide +kernel] at h
  exact h
theorem whole_3 (w : World) : Calls Tryz.prog 55 #[.float .f64 4613937818241073152] w fun e w' => e = .returned (.int .i64 3) ∧ w = w' := by
  have h := whole_any 4613937818241073152 w (by omega)
  rw [show Flt.whole 4613937818241073152 = 3 by decide +kernel] at h
  exact h
theorem reckon_b {B : Nat} (w : World) (ht : Tabs B w) (hB : B ≤ w.heap.size) :
    Calls Tryz.prog 43 #[.string { data := #[47] }, .string { data := #[55] }, .string { data := #[50] }, .bool false, .int .i64 0] w fun e w' => e = .returned (.tuple #[.string { data := #[51] }, .int .i64 0]) ∧ Below w.heap.size w w' := by
  have c7 : floatOfInt .f64 7 = 4619567317775286272 := by decide +kernel
  have c2 : floatOfInt .f64 2 = 4611686018427387904 := by decide +kernel
  go_enter Tryz.func43, Tryz.ntmps43
  go_wp2_with fail
  refine (kind_div w).mono ?_
  rintro e w' ⟨rfl, rfl⟩
  go_wp2_with fail
  refine (operands_72 w ht hB).mono ?_
  rintro e w1 ⟨rfl, hb1⟩
  have ht1 := ht.below (hb1.mono hB)
  have hB1 : B ≤ w1.heap.size := Nat.le_trans hB hb1.size
  go_wp2_with fail
  refine (is_ok w1).mono ?_
  rintro e w' ⟨rfl, rfl⟩
  go_wp2_with fail
  refine (whole_7 _).mono ?_
  rintro e w' ⟨rfl, rfl⟩
  go_wp2_with fail
  refine (whole_2 _).mono ?_
  rintro e w' ⟨rfl, rfl⟩
  go_wp2_with fail
  refine (result_div _).mono ?_
  rintro e w' ⟨rfl, rfl⟩
  go_wp2_with fail
  refine (trunc_35 _).mono ?_
  rintro e w' ⟨rfl, rfl⟩
  go_wp2_with fail
  refine (whole_3 _).mono ?_
  rintro e w' ⟨rfl, rfl⟩
  go_wp2_with fail
  refine (itoa_3 _).mono ?_
  rintro e w' ⟨rfl, rfl⟩
  go_wp2_with fail
  go_ret2
  exact ⟨rfl, hb1⟩
theorem reckon_c {B : Nat} (w : World) (ht : Tabs B w) (hB : B ≤ w.heap.size) :
    Calls Tryz.prog 43 #[.string { data := #[60] }, .string { data := #[110, 97, 110] }, .string { data := #[49] }, .bool true, .int .i64 0] w fun e w' => e = .returned (.tuple #[.string { data := #[48] }, .int .i64 0]) ∧ Below w.heap.size w w' := by
  go_enter Tryz.func43, Tryz.ntmps43
  go_wp2_with fail
  refine (kind_lt w).mono ?_
  rintro e w' ⟨rfl, rfl⟩
  go_wp2_with fail
  refine (operands_n1 w ht hB).mono ?_
  rintro e w1 ⟨rfl, hb1⟩
  have ht1 := ht.below (hb1.mono hB)
  have hB1 : B ≤ w1.heap.size := Nat.le_trans hB hb1.size
  go_wp2_with fail
  refine (is_ok w1).mono ?_
  rintro e w' ⟨rfl, rfl⟩
  go_wp2_with fail
  refine (holds_no w1).mono ?_
  rintro e w' ⟨rfl, rfl⟩
  go_wp2_with fail
  refine (truth_no w1).mono ?_
  rintro e w' ⟨rfl, rfl⟩
  go_wp2_with fail
  go_ret2
  exact ⟨rfl, hb1⟩
end Go.Proofs.YtbiinghmopgjnaaGreatDoor.Cal
