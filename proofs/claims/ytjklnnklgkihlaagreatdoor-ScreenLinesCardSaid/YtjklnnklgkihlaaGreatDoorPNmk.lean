/- A raw number as one of so many; a screen of a raw size. -/
import Derived.Test.YtjklnnklgkihlaaGreatDoorPNsx
namespace Go.Proofs.YtjklnnklgkihlaaGreatDoor.Scr
open Go.RowKit Cel Sty Grd

set_option maxRecDepth 100000 in
theorem pick6 (n m : Int) (h0 : -9223372036854775808 ≤ n) (h1 : n ≤ 9223372036854775807) (hm0 : 0 < m) (hm1 : m ≤ 16777216) (w : World) :
    Calls Tryz.prog 13 #[.int .i64 n, .int .i64 m] w fun e w' => e = .returned (.int .i64 (pickS n m)) ∧ w = w' := by
  by_cases hn : n < 0
  · have HE : Hid (pickS n m = -((n + 1).tmod m)) := by show _ = _; unfold pickS; rw [if_pos hn, ← Int.neg_tmod, Int.tmod_eq_emod_of_nonneg (by omega)]
    have hmz : m ≠ 0 := by omega
    go_enter Tryz.func13, Tryz.ntmps13
    go_wp2_with fail
    go_ret
    exact ⟨by rw [HE.out]; rfl, rfl⟩
  · have HE : Hid (pickS n m = n % m) := by show _ = _; unfold pickS; rw [if_neg hn]
    have hmz : m ≠ 0 := by omega
    go_enter Tryz.func13, Tryz.ntmps13
    go_wp2_with fail
    go_ret
    exact ⟨by rw [HE.out]; rfl, rfl⟩
theorem pickS_in (n m : Int) (hm : 0 < m) : ∃ k : Nat, pickS n m = (k : Int) ∧ (k : Int) < m := by
  have h : 0 ≤ pickS n m ∧ pickS n m < m := by
    unfold pickS
    split
    · exact ⟨Int.emod_nonneg _ (by omega), Int.emod_lt_of_pos _ hm⟩
    · exact ⟨Int.emod_nonneg _ (by omega), Int.emod_lt_of_pos _ hm⟩
  exact ⟨(pickS n m).toNat, by omega, by omega⟩
set_option maxRecDepth 100000 in
set_option maxHeartbeats 1000000 in
theorem made6 (x y z : Int) (hx0 : -9223372036854775808 ≤ x) (hx1 : x ≤ 9223372036854775807) (hy0 : -9223372036854775808 ≤ y) (hy1 : y ≤ 9223372036854775807) (hz0 : -9223372036854775808 ≤ z) (hz1 : z ≤ 9223372036854775807) (w : World) :
    Calls Tryz.prog 6 #[.int .i64 x, .int .i64 y, .int .i64 z] w fun e w' => ∃ (c r h : Nat) (sb g : Nat) (F : List Nat) (pb db tb : Nat), 1 ≤ c ∧ c ≤ 40 ∧ 1 ≤ r ∧ r ≤ 15 ∧ (h : Int) = pickS z 40 ∧ e = .returned (ptrV sb) ∧ NewS w w' sb g F c h r pb db tb := by
  obtain ⟨c, hc, hc2⟩ := pickS_in x 40 (by decide)
  obtain ⟨r, hr, hr2⟩ := pickS_in y 15 (by decide)
  obtain ⟨h, hh, hh2⟩ := pickS_in z 40 (by decide)
  have kx := pick6 x 40 hx0 hx1 (by decide) (by decide) w
  have ky := pick6 y 15 hy0 hy1 (by decide) (by decide) w
  have kz := pick6 z 40 hz0 hz1 (by decide) (by decide) w
  rw [hc] at kx
  rw [hr] at ky
  rw [hh] at kz
  have kn := new_screen (c + 1) (r + 1) h (by omega) (by omega) (by omega) (by omega) (by omega) w
  have e1 : ((c + 1 : Nat) : Int) = 1 + (c : Int) := by omega
  have e2 : ((r + 1 : Nat) : Int) = 1 + (r : Int) := by omega
  rw [e1, e2] at kn
  have j1 : IntKind.i64.wrap (1 + (c : Int)) = 1 + (c : Int) := IntWalk.i64_in _ ⟨by omega, by omega⟩
  have j2 : IntKind.i64.wrap (1 + (r : Int)) = 1 + (r : Int) := IntWalk.i64_in _ ⟨by omega, by omega⟩
  have HN := Lib.hid kn
  clear kn e1 e2
  go_enter Tryz.func6, Tryz.ntmps6
  go_wp2_with fail
  refine kx.mono ?_
  rintro _ w1 ⟨rfl, rfl⟩
  go_wp2_with fail
  refine ky.mono ?_
  rintro _ w1 ⟨rfl, rfl⟩
  go_wp2_with fail
  refine kz.mono ?_
  rintro _ w1 ⟨rfl, rfl⟩
  go_wp2_with fail
  refine HN.out.mono ?_
  rintro _ w1 ⟨sb, g, F, pb, db, tb, rfl, hn⟩
  have HNN := Lib.hid hn
  clear hn
  unfold ptrV
  go_wp2_with fail
  go_ret
  exact ⟨c + 1, r + 1, h, sb, g, F, pb, db, tb, by omega, by omega, by omega, by omega, hh.symm, rfl, HNN.out⟩
end Go.Proofs.YtjklnnklgkihlaaGreatDoor.Scr
