/- Five short texts, read as floats: strconv.ParseFloat, from atof64 up. -/
import Derived.Test.YtbiinghmopgjnaaGreatDoorPar
namespace Go.Proofs.YtbiinghmopgjnaaGreatDoor.Cal
open Go.RowKit

theorem from2_run (b : Int) (w : World) : (callFunc 221 #[.int .u64 b]).run Tryz.prog w = .ok (.value (.float .f64 b.toNat)) w := by kernel_rfl
theorem bool2_no (w : World) : Calls Tryz.prog 220 #[.bool false] w fun e w' => e = .returned (.int .u64 0) ∧ w = w' := by
  go_enter Tryz.func220, Tryz.ntmps220
  go_wp2
  go_ret
  exact ⟨rfl, rfl⟩
theorem bool2_yes (w : World) : Calls Tryz.prog 220 #[.bool true] w fun e w' => e = .returned (.int .u64 1) ∧ w = w' := by
  go_enter Tryz.func220, Tryz.ntmps220
  go_wp2
  go_ret
  exact ⟨rfl, rfl⟩
set_option maxRecDepth 100000 in
theorem atof_7 {B : Nat} (w : World) (ht : Tabs B w) :
    Calls Tryz.prog 183 #[.string { data := #[55] }] w fun e w' => e = .returned (.tuple #[.float .f64 4619567317775286272, .int .i64 1, .nilIface]) ∧ w = w' := by
  have hfb := from2_run
  obtain ⟨t, fr, hg⟩ := ht.opt
  have ho : w.cell? ⟨3, 0, none⟩ = some (.bool true) := cell_of_row w _ 0 _ _ _ hg
  have h1 := special_7 w
  have h2 := read_7 w
  have h3 := exact_7 w ht
  clear hg ht
  go_enter Tryz.func183, Tryz.ntmps183
  go_wp2_with fail
  refine h1.mono ?_
  rintro e w' ⟨rfl, rfl⟩
  go_wp2_with fail
  refine h2.mono ?_
  rintro e w' ⟨rfl, rfl⟩
  go_wp2_with (first | (go_at_call 220; refine (bool2_no _).mono ?_; rintro e w' ⟨rfl, rfl⟩) | (go_at_call 222; refine h3.mono ?_; rintro e w' ⟨rfl, rfl⟩))
  go_ret3
  exact ⟨rfl, rfl⟩
theorem pf_7 {B : Nat} (w : World) (ht : Tabs B w) :
    Calls Tryz.prog 107 #[.string { data := #[55] }, .int .i64 64] w fun e w' => e = .returned (.tuple #[.float .f64 4619567317775286272, .nilIface]) ∧ w = w' := by
  have h1 := atof_7 w ht
  have hp : Calls Tryz.prog 150 #[.string { data := #[55] }, .int .i64 64] w fun e w' => e = .returned (.tuple #[.float .f64 4619567317775286272, .int .i64 1, .nilIface]) ∧ w = w' := by
    go_enter Tryz.func150, Tryz.ntmps150
    go_wp2_with fail
    refine h1.mono ?_
    rintro e w' ⟨rfl, rfl⟩
    go_wp2_with fail
    go_ret3
    exact ⟨rfl, rfl⟩
  have hq : Calls Tryz.prog 129 #[.string { data := #[55] }, .int .i64 64] w fun e w' => e = .returned (.tuple #[.float .f64 4619567317775286272, .nilIface]) ∧ w = w' := by
    go_enter Tryz.func129, Tryz.ntmps129
    go_wp2_with fail
    refine hp.mono ?_
    rintro e w' ⟨rfl, rfl⟩
    go_wp2_with fail
    go_ret2
    exact ⟨rfl, rfl⟩
  go_enter Tryz.func107, Tryz.ntmps107
  go_wp2_with fail
  refine hq.mono ?_
  rintro e w' ⟨rfl, rfl⟩
  go_wp2_with fail
  go_ret2
  exact ⟨rfl, rfl⟩
set_option maxRecDepth 100000 in
theorem atof_2 {B : Nat} (w : World) (ht : Tabs B w) :
    Calls Tryz.prog 183 #[.string { data := #[50] }] w fun e w' => e = .returned (.tuple #[.float .f64 4611686018427387904, .int .i64 1, .nilIface]) ∧ w = w' := by
  have hfb := from2_run
  obtain ⟨t, fr, hg⟩ := ht.opt
  have ho : w.cell? ⟨3, 0, none⟩ = some (.bool true) := cell_of_row w _ 0 _ _ _ hg
  have h1 := special_2 w
  have h2 := read_2 w
  have h3 := exact_2 w ht
  clear hg ht
  go_enter Tryz.func183, Tryz.ntmps183
  go_wp2_with fail
  refine h1.mono ?_
  rintro e w' ⟨rfl, rfl⟩
  go_wp2_with fail
  refine h2.mono ?_
  rintro e w' ⟨rfl, rfl⟩
  go_wp2_with (first | (go_at_call 220; refine (bool2_no _).mono ?_; rintro e w' ⟨rfl, rfl⟩) | (go_at_call 222; refine h3.mono ?_; rintro e w' ⟨rfl, rfl⟩))
  go_ret3
  exact ⟨rfl, rfl⟩
theorem pf_2 {B : Nat} (w : World) (ht : Tabs B w) :
    Calls Tryz.prog 107 #[.string { data := #[50] }, .int .i64 64] w fun e w' => e = .returned (.tuple #[.float .f64 4611686018427387904, .nilIface]) ∧ w = w' := by
  have h1 := atof_2 w ht
  have hp : Calls Tryz.prog 150 #[.string { data := #[50] }, .int .i64 64] w fun e w' => e = .returned (.tuple #[.float .f64 4611686018427387904, .int .i64 1, .nilIface]) ∧ w = w' := by
    go_enter Tryz.func150, Tryz.ntmps150
    go_wp2_with fail
    refine h1.mono ?_
    rintro e w' ⟨rfl, rfl⟩
    go_wp2_with fail
    go_ret3
    exact ⟨rfl, rfl⟩
  have hq : Calls Tryz.prog 129 #[.string { data := #[50] }, .int .i64 64] w fun e w' => e = .returned (.tuple #[.float .f64 4611686018427387904, .nilIface]) ∧ w = w' := by
    go_enter Tryz.func129, Tryz.ntmps129
    go_wp2_with fail
    refine hp.mono ?_
    rintro e w' ⟨rfl, rfl⟩
    go_wp2_with fail
    go_ret2
    exact ⟨rfl, rfl⟩
  go_enter Tryz.func107, Tryz.ntmps107
  go_wp2_with fail
  refine hq.mono ?_
  rintro e w' ⟨rfl, rfl⟩
  go_wp2_with fail
  go_ret2
  exact ⟨rfl, rfl⟩
set_option maxRecDepth 100000 in
theorem atof_1 {B : Nat} (w : World) (ht : Tabs B w) :
    Calls Tryz.prog 183 #[.string { data := #[49] }] w fun e w' => e = .returned (.tuple #[.float .f64 4607182418800017408, .int .i64 1, .nilIface]) ∧ w = w' := by
  have hfb := from2_run
  obtain ⟨t, fr, hg⟩ := ht.opt
  have ho : w.cell? ⟨3, 0, none⟩ = some (.bool true) := cell_of_row w _ 0 _ _ _ hg
  have h1 := special_1 w
  have h2 := read_1 w
  have h3 := exact_1 w ht
  clear hg ht
  go_enter Tryz.func183, Tryz.ntmps183
  go_wp2_with fail
  refine h1.mono ?_
  rintro e w' ⟨rfl, rfl⟩
  go_wp2_with fail
  refine h2.mono ?_
  rintro e w' ⟨rfl, rfl⟩
  go_wp2_with (first | (go_at_call 220; refine (bool2_no _).mono ?_; rintro e w' ⟨rfl, rfl⟩) | (go_at_call 222; refine h3.mono ?_; rintro e w' ⟨rfl, rfl⟩))
  go_ret3
  exact ⟨rfl, rfl⟩
theorem pf_1 {B : Nat} (w : World) (ht : Tabs B w) :
    Calls Tryz.prog 107 #[.string { data := #[49] }, .int .i64 64] w fun e w' => e = .returned (.tuple #[.float .f64 4607182418800017408, .nilIface]) ∧ w = w' := by
  have h1 := atof_1 w ht
  have hp : Calls Tryz.prog 150 #[.string { data := #[49] }, .int .i64 64] w fun e w' => e = .returned (.tuple #[.float .f64 4607182418800017408, .int .i64 1, .nilIface]) ∧ w = w' := by
    go_enter Tryz.func150, Tryz.ntmps150
    go_wp2_with fail
    refine h1.mono ?_
    rintro e w' ⟨rfl, rfl⟩
    go_wp2_with fail
    go_ret3
    exact ⟨rfl, rfl⟩
  have hq : Calls Tryz.prog 129 #[.string { data := #[49] }, .int .i64 64] w fun e w' => e = .returned (.tuple #[.float .f64 4607182418800017408, .nilIface]) ∧ w = w' := by
    go_enter Tryz.func129, Tryz.ntmps129
    go_wp2_with fail
    refine hp.mono ?_
    rintro e w' ⟨rfl, rfl⟩
    go_wp2_with fail
    go_ret2
    exact ⟨rfl, rfl⟩
  go_enter Tryz.func107, Tryz.ntmps107
  go_wp2_with fail
  refine hq.mono ?_
  rintro e w' ⟨rfl, rfl⟩
  go_wp2_with fail
  go_ret2
  exact ⟨rfl, rfl⟩
set_option maxRecDepth 100000 in
theorem atof_15 {B : Nat} (w : World) (ht : Tabs B w) :
    Calls Tryz.prog 183 #[.string { data := #[49, 46, 53] }] w fun e w' => e = .returned (.tuple #[.float .f64 4609434218613702656, .int .i64 3, .nilIface]) ∧ w = w' := by
  have hfb := from2_run
  obtain ⟨t, fr, hg⟩ := ht.opt
  have ho : w.cell? ⟨3, 0, none⟩ = some (.bool true) := cell_of_row w _ 0 _ _ _ hg
  have h1 := special_15 w
  have h2 := read_15 w
  have h3 := exact_15 w ht
  clear hg ht
  go_enter Tryz.func183, Tryz.ntmps183
  go_wp2_with fail
  refine h1.mono ?_
  rintro e w' ⟨rfl, rfl⟩
  go_wp2_with fail
  refine h2.mono ?_
  rintro e w' ⟨rfl, rfl⟩
  go_wp2_with (first | (go_at_call 220; refine (bool2_no _).mono ?_; rintro e w' ⟨rfl, rfl⟩) | (go_at_call 222; refine h3.mono ?_; rintro e w' ⟨rfl, rfl⟩))
  go_ret3
  exact ⟨rfl, rfl⟩
theorem pf_15 {B : Nat} (w : World) (ht : Tabs B w) :
    Calls Tryz.prog 107 #[.string { data := #[49, 46, 53] }, .int .i64 64] w fun e w' => e = .returned (.tuple #[.float .f64 4609434218613702656, .nilIface]) ∧ w = w' := by
  have h1 := atof_15 w ht
  have hp : Calls Tryz.prog 150 #[.string { data := #[49, 46, 53] }, .int .i64 64] w fun e w' => e = .returned (.tuple #[.float .f64 4609434218613702656, .int .i64 3, .nilIface]) ∧ w = w' := by
    go_enter Tryz.func150, Tryz.ntmps150
    go_wp2_with fail
    refine h1.mono ?_
    rintro e w' ⟨rfl, rfl⟩
    go_wp2_with fail
    go_ret3
    exact ⟨rfl, rfl⟩
  have hq : Calls Tryz.prog 129 #[.string { data := #[49, 46, 53] }, .int .i64 64] w fun e w' => e = .returned (.tuple #[.float .f64 4609434218613702656, .nilIface]) ∧ w = w' := by
    go_enter Tryz.func129, Tryz.ntmps129
    go_wp2_with fail
    refine hp.mono ?_
    rintro e w' ⟨rfl, rfl⟩
    go_wp2_with fail
    go_ret2
    exact ⟨rfl, rfl⟩
  go_enter Tryz.func107, Tryz.ntmps107
  go_wp2_with fail
  refine hq.mono ?_
  rintro e w' ⟨rfl, rfl⟩
  go_wp2_with fail
  go_ret2
  exact ⟨rfl, rfl⟩
set_option maxRecDepth 100000 in
theorem atof_m0 {B : Nat} (w : World) (ht : Tabs B w) :
    Calls Tryz.prog 183 #[.string { data := #[45, 48] }] w fun e w' => e = .returned (.tuple #[.float .f64 9223372036854775808, .int .i64 2, .nilIface]) ∧ w = w' := by
  have hfb := from2_run
  obtain ⟨t, fr, hg⟩ := ht.opt
  have ho : w.cell? ⟨3, 0, none⟩ = some (.bool true) := cell_of_row w _ 0 _ _ _ hg
  have h1 := special_m0 w
  have h2 := read_m0 w
  clear hg ht
  go_enter Tryz.func183, Tryz.ntmps183
  go_wp2_with fail
  refine h1.mono ?_
  rintro e w' ⟨rfl, rfl⟩
  go_wp2_with fail
  refine h2.mono ?_
  rintro e w' ⟨rfl, rfl⟩
  go_wp2
  go_ret3
  exact ⟨rfl, rfl⟩
theorem pf_m0 {B : Nat} (w : World) (ht : Tabs B w) :
    Calls Tryz.prog 107 #[.string { data := #[45, 48] }, .int .i64 64] w fun e w' => e = .returned (.tuple #[.float .f64 9223372036854775808, .nilIface]) ∧ w = w' := by
  have h1 := atof_m0 w ht
  have hp : Calls Tryz.prog 150 #[.string { data := #[45, 48] }, .int .i64 64] w fun e w' => e = .returned (.tuple #[.float .f64 9223372036854775808, .int .i64 2, .nilIface]) ∧ w = w' := by
    go_enter Tryz.func150, Tryz.ntmps150
    go_wp2_with fail
    refine h1.mono ?_
    rintro e w' ⟨rfl, rfl⟩
    go_wp2_with fail
    go_ret3
    exact ⟨rfl, rfl⟩
  have hq : Calls Tryz.prog 129 #[.string { data := #[45, 48] }, .int .i64 64] w fun e w' => e = .returned (.tuple #[.float .f64 9223372036854775808, .nilIface]) ∧ w = w' := by
    go_enter Tryz.func129, Tryz.ntmps129
    go_wp2_with fail
    refine hp.mono ?_
    rintro e w' ⟨rfl, rfl⟩
    go_wp2_with fail
    go_ret2
    exact ⟨rfl, rfl⟩
  go_enter Tryz.func107, Tryz.ntmps107
  go_wp2_with fail
  refine hq.mono ?_
  rintro e w' ⟨rfl, rfl⟩
  go_wp2_with fail
  go_ret2
  exact ⟨rfl, rfl⟩
end Go.Proofs.YtbiinghmopgjnaaGreatDoor.Cal
