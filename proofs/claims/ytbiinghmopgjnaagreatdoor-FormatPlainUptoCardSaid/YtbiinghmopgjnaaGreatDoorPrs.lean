/- calc.Parse at the chapter's texts. -/
import Derived.Test.YtbiinghmopgjnaaGreatDoorPaf
namespace Go.Proofs.YtbiinghmopgjnaaGreatDoor.Cal
open Go.RowKit

theorem hp_empty (c : UInt8) (w : World) : Calls Tryz.prog 24 #[.string { data := #[] }, .string { data := #[c] }] w fun e w' => e = .returned (.bool false) ∧ w = w' := by
  have hq : Calls Tryz.prog 29 #[.string { data := #[] }, .string { data := #[c] }] w fun e w' => e = .returned (.bool false) ∧ w = w' := by
    go_enter Tryz.func29, Tryz.ntmps29
    go_wp2
    go_ret
    exact ⟨rfl, rfl⟩
  go_enter Tryz.func24, Tryz.ntmps24
  go_wp2_with fail
  refine hq.mono ?_
  rintro e w' ⟨rfl, rfl⟩
  go_wp2_with fail
  go_ret
  exact ⟨rfl, rfl⟩
theorem hp_one (s : ByteArray) (x c : UInt8) (hx : s.extract 0 1 = { data := #[x] }) (h1 : 1 ≤ s.size) (h2 : s.size ≤ 9223372036854775807) (b : Bool) (hb : (x == c) = b) (w : World) : Calls Tryz.prog 24 #[.string s, .string { data := #[c] }] w fun e w' => e = .returned (.bool b) ∧ w = w' := by
  have hq : Calls Tryz.prog 29 #[.string s, .string { data := #[c] }] w fun e w' => e = .returned (.bool b) ∧ w = w' := by
    go_enter Tryz.func29, Tryz.ntmps29
    go_wp2
    go_ret
    exact ⟨rfl, rfl⟩
  go_enter Tryz.func24, Tryz.ntmps24
  go_wp2_with fail
  refine hq.mono ?_
  rintro e w' ⟨rfl, rfl⟩
  go_wp2_with fail
  go_ret
  exact ⟨rfl, rfl⟩
theorem uns_7 (w : World) : Calls Tryz.prog 104 #[.string { data := #[55] }] w fun e w' => e = .returned (.string { data := #[55] }) ∧ w = w' := by
  have h1 := hp_one { data := #[55] } 55 45 (by decide +kernel) (by decide) (by decide) false (by decide) w
  have h2 := hp_one { data := #[55] } 55 43 (by decide +kernel) (by decide) (by decide) false (by decide) w
  go_enter Tryz.func104, Tryz.ntmps104
  go_wp2_with fail
  refine h1.mono ?_
  rintro e w' ⟨rfl, rfl⟩
  go_wp2_with fail
  refine h2.mono ?_
  rintro e w' ⟨rfl, rfl⟩
  go_wp2_with fail
  go_ret
  exact ⟨rfl, rfl⟩
theorem uns_2 (w : World) : Calls Tryz.prog 104 #[.string { data := #[50] }] w fun e w' => e = .returned (.string { data := #[50] }) ∧ w = w' := by
  have h1 := hp_one { data := #[50] } 50 45 (by decide +kernel) (by decide) (by decide) false (by decide) w
  have h2 := hp_one { data := #[50] } 50 43 (by decide +kernel) (by decide) (by decide) false (by decide) w
  go_enter Tryz.func104, Tryz.ntmps104
  go_wp2_with fail
  refine h1.mono ?_
  rintro e w' ⟨rfl, rfl⟩
  go_wp2_with fail
  refine h2.mono ?_
  rintro e w' ⟨rfl, rfl⟩
  go_wp2_with fail
  go_ret
  exact ⟨rfl, rfl⟩
theorem uns_1 (w : World) : Calls Tryz.prog 104 #[.string { data := #[49] }] w fun e w' => e = .returned (.string { data := #[49] }) ∧ w = w' := by
  have h1 := hp_one { data := #[49] } 49 45 (by decide +kernel) (by decide) (by decide) false (by decide) w
  have h2 := hp_one { data := #[49] } 49 43 (by decide +kernel) (by decide) (by decide) false (by decide) w
  go_enter Tryz.func104, Tryz.ntmps104
  go_wp2_with fail
  refine h1.mono ?_
  rintro e w' ⟨rfl, rfl⟩
  go_wp2_with fail
  refine h2.mono ?_
  rintro e w' ⟨rfl, rfl⟩
  go_wp2_with fail
  go_ret
  exact ⟨rfl, rfl⟩
theorem uns_15 (w : World) : Calls Tryz.prog 104 #[.string { data := #[49, 46, 53] }] w fun e w' => e = .returned (.string { data := #[49, 46, 53] }) ∧ w = w' := by
  have h1 := hp_one { data := #[49, 46, 53] } 49 45 (by decide +kernel) (by decide) (by decide) false (by decide) w
  have h2 := hp_one { data := #[49, 46, 53] } 49 43 (by decide +kernel) (by decide) (by decide) false (by decide) w
  go_enter Tryz.func104, Tryz.ntmps104
  go_wp2_with fail
  refine h1.mono ?_
  rintro e w' ⟨rfl, rfl⟩
  go_wp2_with fail
  refine h2.mono ?_
  rintro e w' ⟨rfl, rfl⟩
  go_wp2_with fail
  go_ret
  exact ⟨rfl, rfl⟩
theorem uns_m0 (w : World) : Calls Tryz.prog 104 #[.string { data := #[45, 48] }] w fun e w' => e = .returned (.string { data := #[48] }) ∧ w = w' := by
  have h1 := hp_one { data := #[45, 48] } 45 45 (by decide +kernel) (by decide) (by decide) true (by decide) w
  have hx : ({ data := #[45, 48] } : ByteArray).extract 1 2 = { data := #[48] } := by decide +kernel
  go_enter Tryz.func104, Tryz.ntmps104
  go_wp2_with fail
  refine h1.mono ?_
  rintro e w' ⟨rfl, rfl⟩
  go_wp2_with fail
  go_ret
  exact ⟨rfl, rfl⟩
theorem uns_nan (w : World) : Calls Tryz.prog 104 #[.string { data := #[110, 97, 110] }] w fun e w' => e = .returned (.string { data := #[110, 97, 110] }) ∧ w = w' := by
  have h1 := hp_one { data := #[110, 97, 110] } 110 45 (by decide +kernel) (by decide) (by decide) false (by decide) w
  have h2 := hp_one { data := #[110, 97, 110] } 110 43 (by decide +kernel) (by decide) (by decide) false (by decide) w
  go_enter Tryz.func104, Tryz.ntmps104
  go_wp2_with fail
  refine h1.mono ?_
  rintro e w' ⟨rfl, rfl⟩
  go_wp2_with fail
  refine h2.mono ?_
  rintro e w' ⟨rfl, rfl⟩
  go_wp2_with fail
  go_ret
  exact ⟨rfl, rfl⟩
theorem isn_7 (w : World) : Calls Tryz.prog 106 #[.string { data := #[55] }] w fun e w' => e = .returned (.bool true) ∧ Below w.heap.size w w' := by
  have d1 : Calls Tryz.prog 128 #[.string { data := #[55] }] w fun e w' => e = .returned (.tuple #[.string { data := #[] }, .bool true]) ∧ Below w.heap.size w w' := digits_any { data := #[55] } w (by decide)
  go_enter Tryz.func106, Tryz.ntmps106
  go_wp2_with fail
  refine d1.mono ?_
  rintro e w1 ⟨rfl, hb1⟩
  have p1 := hp_empty 46 w1
  have p3 := hp_empty 101 w1
  have p4 := hp_empty 69 w1
  go_wp2_with fail
  refine p1.mono ?_
  rintro e w' ⟨rfl, rfl⟩
  go_wp2_with fail
  refine p3.mono ?_
  rintro e w' ⟨rfl, rfl⟩
  go_wp2_with fail
  refine p4.mono ?_
  rintro e w' ⟨rfl, rfl⟩
  go_wp2_with fail
  go_ret
  exact ⟨rfl, hb1⟩
theorem isn_2 (w : World) : Calls Tryz.prog 106 #[.string { data := #[50] }] w fun e w' => e = .returned (.bool true) ∧ Below w.heap.size w w' := by
  have d1 : Calls Tryz.prog 128 #[.string { data := #[50] }] w fun e w' => e = .returned (.tuple #[.string { data := #[] }, .bool true]) ∧ Below w.heap.size w w' := digits_any { data := #[50] } w (by decide)
  go_enter Tryz.func106, Tryz.ntmps106
  go_wp2_with fail
  refine d1.mono ?_
  rintro e w1 ⟨rfl, hb1⟩
  have p1 := hp_empty 46 w1
  have p3 := hp_empty 101 w1
  have p4 := hp_empty 69 w1
  go_wp2_with fail
  refine p1.mono ?_
  rintro e w' ⟨rfl, rfl⟩
  go_wp2_with fail
  refine p3.mono ?_
  rintro e w' ⟨rfl, rfl⟩
  go_wp2_with fail
  refine p4.mono ?_
  rintro e w' ⟨rfl, rfl⟩
  go_wp2_with fail
  go_ret
  exact ⟨rfl, hb1⟩
theorem isn_1 (w : World) : Calls Tryz.prog 106 #[.string { data := #[49] }] w fun e w' => e = .returned (.bool true) ∧ Below w.heap.size w w' := by
  have d1 : Calls Tryz.prog 128 #[.string { data := #[49] }] w fun e w' => e = .returned (.tuple #[.string { data := #[] }, .bool true]) ∧ Below w.heap.size w w' := digits_any { data := #[49] } w (by decide)
  go_enter Tryz.func106, Tryz.ntmps106
  go_wp2_with fail
  refine d1.mono ?_
  rintro e w1 ⟨rfl, hb1⟩
  have p1 := hp_empty 46 w1
  have p3 := hp_empty 101 w1
  have p4 := hp_empty 69 w1
  go_wp2_with fail
  refine p1.mono ?_
  rintro e w' ⟨rfl, rfl⟩
  go_wp2_with fail
  refine p3.mono ?_
  rintro e w' ⟨rfl, rfl⟩
  go_wp2_with fail
  refine p4.mono ?_
  rintro e w' ⟨rfl, rfl⟩
  go_wp2_with fail
  go_ret
  exact ⟨rfl, hb1⟩
theorem isn_15 (w : World) : Calls Tryz.prog 106 #[.string { data := #[49, 46, 53] }] w fun e w' => e = .returned (.bool true) ∧ Below w.heap.size w w' := by
  have d1 : Calls Tryz.prog 128 #[.string { data := #[49, 46, 53] }] w fun e w' => e = .returned (.tuple #[.string { data := #[46, 53] }, .bool true]) ∧ Below w.heap.size w w' := digits_any { data := #[49, 46, 53] } w (by decide)
  go_enter Tryz.func106, Tryz.ntmps106
  go_wp2_with fail
  refine d1.mono ?_
  rintro e w1 ⟨rfl, hb1⟩
  have p1 := hp_one { data := #[46, 53] } 46 46 (by decide +kernel) (by decide) (by decide) true (by decide) w1
  have hx : ({ data := #[46, 53] } : ByteArray).extract 1 2 = { data := #[53] } := by decide +kernel
  have d2 : Calls Tryz.prog 128 #[.string { data := #[53] }] w1 fun e w' => e = .returned (.tuple #[.string { data := #[] }, .bool true]) ∧ Below w1.heap.size w1 w' := digits_any { data := #[53] } w1 (by decide)
  go_wp2_with fail
  refine p1.mono ?_
  rintro e w' ⟨rfl, rfl⟩
  go_wp2_with fail
  refine d2.mono ?_
  rintro e w2 ⟨rfl, hb2⟩
  have hb3 := hb1.trans (hb2.mono hb1.size)
  have p3 := hp_empty 101 w2
  have p4 := hp_empty 69 w2
  go_wp2_with fail
  refine p3.mono ?_
  rintro e w' ⟨rfl, rfl⟩
  go_wp2_with fail
  refine p4.mono ?_
  rintro e w' ⟨rfl, rfl⟩
  go_wp2_with fail
  go_ret
  exact ⟨rfl, hb3⟩
theorem isn_m0 (w : World) : Calls Tryz.prog 106 #[.string { data := #[48] }] w fun e w' => e = .returned (.bool true) ∧ Below w.heap.size w w' := by
  have d1 : Calls Tryz.prog 128 #[.string { data := #[48] }] w fun e w' => e = .returned (.tuple #[.string { data := #[] }, .bool true]) ∧ Below w.heap.size w w' := digits_any { data := #[48] } w (by decide)
  go_enter Tryz.func106, Tryz.ntmps106
  go_wp2_with fail
  refine d1.mono ?_
  rintro e w1 ⟨rfl, hb1⟩
  have p1 := hp_empty 46 w1
  have p3 := hp_empty 101 w1
  have p4 := hp_empty 69 w1
  go_wp2_with fail
  refine p1.mono ?_
  rintro e w' ⟨rfl, rfl⟩
  go_wp2_with fail
  refine p3.mono ?_
  rintro e w' ⟨rfl, rfl⟩
  go_wp2_with fail
  refine p4.mono ?_
  rintro e w' ⟨rfl, rfl⟩
  go_wp2_with fail
  go_ret
  exact ⟨rfl, hb1⟩
theorem parse_7 {B : Nat} (w : World) (ht : Tabs B w) (hB : B ≤ w.heap.size) : Calls Tryz.prog 78 #[.string { data := #[55] }] w fun e w' => e = .returned (.tuple #[.float .f64 4619567317775286272, .int .i64 0]) ∧ Below w.heap.size w w' := by
  go_enter Tryz.func78, Tryz.ntmps78
  go_wp2_with fail
  refine (uns_7 w).mono ?_
  rintro e w' ⟨rfl, rfl⟩
  go_wp2_with fail
  refine (isn_7 w).mono ?_
  rintro e w1 ⟨rfl, hb1⟩
  go_wp2_with fail
  refine (pf_7 w1 (ht.below (hb1.mono hB))).mono ?_
  rintro e w' ⟨rfl, rfl⟩
  go_wp2_with fail
  go_ret2
  exact ⟨rfl, hb1⟩
theorem parse_2 {B : Nat} (w : World) (ht : Tabs B w) (hB : B ≤ w.heap.size) : Calls Tryz.prog 78 #[.string { data := #[50] }] w fun e w' => e = .returned (.tuple #[.float .f64 4611686018427387904, .int .i64 0]) ∧ Below w.heap.size w w' := by
  go_enter Tryz.func78, Tryz.ntmps78
  go_wp2_with fail
  refine (uns_2 w).mono ?_
  rintro e w' ⟨rfl, rfl⟩
  go_wp2_with fail
  refine (isn_2 w).mono ?_
  rintro e w1 ⟨rfl, hb1⟩
  go_wp2_with fail
  refine (pf_2 w1 (ht.below (hb1.mono hB))).mono ?_
  rintro e w' ⟨rfl, rfl⟩
  go_wp2_with fail
  go_ret2
  exact ⟨rfl, hb1⟩
theorem parse_1 {B : Nat} (w : World) (ht : Tabs B w) (hB : B ≤ w.heap.size) : Calls Tryz.prog 78 #[.string { data := #[49] }] w fun e w' => e = .returned (.tuple #[.float .f64 4607182418800017408, .int .i64 0]) ∧ Below w.heap.size w w' := by
  go_enter Tryz.func78, Tryz.ntmps78
  go_wp2_with fail
  refine (uns_1 w).mono ?_
  rintro e w' ⟨rfl, rfl⟩
  go_wp2_with fail
  refine (isn_1 w).mono ?_
  rintro e w1 ⟨rfl, hb1⟩
  go_wp2_with fail
  refine (pf_1 w1 (ht.below (hb1.mono hB))).mono ?_
  rintro e w' ⟨rfl, rfl⟩
  go_wp2_with fail
  go_ret2
  exact ⟨rfl, hb1⟩
theorem parse_15 {B : Nat} (w : World) (ht : Tabs B w) (hB : B ≤ w.heap.size) : Calls Tryz.prog 78 #[.string { data := #[49, 46, 53] }] w fun e w' => e = .returned (.tuple #[.float .f64 4609434218613702656, .int .i64 0]) ∧ Below w.heap.size w w' := by
  go_enter Tryz.func78, Tryz.ntmps78
  go_wp2_with fail
  refine (uns_15 w).mono ?_
  rintro e w' ⟨rfl, rfl⟩
  go_wp2_with fail
  refine (isn_15 w).mono ?_
  rintro e w1 ⟨rfl, hb1⟩
  go_wp2_with fail
  refine (pf_15 w1 (ht.below (hb1.mono hB))).mono ?_
  rintro e w' ⟨rfl, rfl⟩
  go_wp2_with fail
  go_ret2
  exact ⟨rfl, hb1⟩
theorem parse_m0 {B : Nat} (w : World) (ht : Tabs B w) (hB : B ≤ w.heap.size) : Calls Tryz.prog 78 #[.string { data := #[45, 48] }] w fun e w' => e = .returned (.tuple #[.float .f64 9223372036854775808, .int .i64 0]) ∧ Below w.heap.size w w' := by
  go_enter Tryz.func78, Tryz.ntmps78
  go_wp2_with fail
  refine (uns_m0 w).mono ?_
  rintro e w' ⟨rfl, rfl⟩
  go_wp2_with fail
  refine (isn_m0 w).mono ?_
  rintro e w1 ⟨rfl, hb1⟩
  go_wp2_with fail
  refine (pf_m0 w1 (ht.below (hb1.mono hB))).mono ?_
  rintro e w' ⟨rfl, rfl⟩
  go_wp2_with fail
  go_ret2
  exact ⟨rfl, hb1⟩
theorem parse_nan (w : World) : Calls Tryz.prog 78 #[.string { data := #[110, 97, 110] }] w fun e w' => e = .returned (.tuple #[.float .f64 9221120237041090561, .int .i64 0]) ∧ Below w.heap.size w w' := by
  have hf := from_run
  have hn : Calls Tryz.prog 105 #[] w fun e w' => e = .returned (.float .f64 9221120237041090561) ∧ w = w' := by
    go_enter Tryz.func105, Tryz.ntmps105
    go_wp2
    go_ret
    exact ⟨rfl, rfl⟩
  go_enter Tryz.func78, Tryz.ntmps78
  go_wp2_with fail
  refine (uns_nan w).mono ?_
  rintro e w' ⟨rfl, rfl⟩
  go_wp2_with fail
  refine hn.mono ?_
  rintro e w' ⟨rfl, rfl⟩
  go_wp2_with fail
  go_ret2
  exact ⟨rfl, Below.refl _ _⟩
end Go.Proofs.YtbiinghmopgjnaaGreatDoor.Cal
