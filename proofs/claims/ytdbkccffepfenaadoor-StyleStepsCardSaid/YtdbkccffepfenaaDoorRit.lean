/- The laws' own pick, colour and right. -/
import Derived.Test.YtdbkccffepfenaaDoorShw
namespace Go.Proofs.YtdbkccffepfenaaDoor.Sty
open Go.RowKit

def pickS (n m : Int) : Int := (if n < 0 then -(n + 1) else n) % m
def colL (c : Int) : Int := if c.tmod 3 = 0 then 16777216 + pickS c 16777216 else pickS c 257 - 1
theorem pickS_le (n m : Int) (hm : 0 < m) : 0 ≤ pickS n m ∧ pickS n m < m := ⟨Int.emod_nonneg _ (by omega), Int.emod_lt_of_pos _ hm⟩
theorem colL_col (c : Int) : isCol (colL c) = true := by
  rw [isCol_iff]
  unfold colL
  split
  · have := pickS_le c 16777216 (by omega); omega
  · have := pickS_le c 257 (by omega); omega
set_option maxRecDepth 100000 in
theorem pick_any (n m : Int) (h0 : -9223372036854775808 ≤ n) (h1 : n ≤ 9223372036854775807) (hm0 : 0 < m) (hm1 : m ≤ 16777216) (w : World) :
    Calls Tryd.prog 50 #[.int .i64 n, .int .i64 m] w fun e w' => e = .returned (.int .i64 (pickS n m)) ∧ w = w' := by
  by_cases hn : n < 0
  · have HE : Hid (pickS n m = -((n + 1).tmod m)) := by show _ = _; unfold pickS; rw [if_pos hn, ← Int.neg_tmod, Int.tmod_eq_emod_of_nonneg (by omega)]
    have hmz : m ≠ 0 := by omega
    go_enter Tryd.func50, Tryd.ntmps50
    go_wp2_with fail
    go_ret
    exact ⟨by rw [HE.out]; rfl, rfl⟩
  · have HE : Hid (pickS n m = n % m) := by show _ = _; unfold pickS; rw [if_neg hn]
    have hmz : m ≠ 0 := by omega
    go_enter Tryd.func50, Tryd.ntmps50
    go_wp2_with fail
    go_ret
    exact ⟨by rw [HE.out]; rfl, rfl⟩
set_option maxRecDepth 100000 in
theorem colourLaw_any (c : Int) (h0 : -9223372036854775808 ≤ c) (h1 : c ≤ 9223372036854775807) (w : World) :
    Calls Tryd.prog 25 #[.int .i64 c] w fun e w' => e = .returned (.int .i64 (colL c)) ∧ w = w' := by
  have p1 := fun w => pick_any c 16777216 h0 h1 (by omega) (by omega) w
  have p2 := fun w => pick_any c 257 h0 h1 (by omega) (by omega) w
  have l1 := pickS_le c 16777216 (by omega)
  have l2 := pickS_le c 257 (by omega)
  have hm : c.tmod 3 = c.tmod 3 := rfl
  by_cases h : c.tmod 3 = 0
  · have HE : Hid (colL c = 16777216 + pickS c 16777216) := by show _ = _; unfold colL; rw [if_pos h]
    clear p2 l2
    obtain ⟨z, hz⟩ : ∃ z, pickS c 16777216 = z := ⟨_, rfl⟩
    rw [hz] at p1 l1 HE
    go_enter Tryd.func25, Tryd.ntmps25
    go_wp2_with fail
    refine (p1 _).mono ?_
    rintro e w' ⟨rfl, rfl⟩
    go_wp2_with fail
    go_ret
    exact ⟨by rw [HE.out]; rfl, rfl⟩
  · have HE : Hid (colL c = pickS c 257 - 1) := by show _ = _; unfold colL; rw [if_neg h]
    clear p1 l1
    obtain ⟨z, hz⟩ : ∃ z, pickS c 257 = z := ⟨_, rfl⟩
    rw [hz] at p2 l2 HE
    go_enter Tryd.func25, Tryd.ntmps25
    go_wp2_with fail
    refine (p2 _).mono ?_
    rintro e w' ⟨rfl, rfl⟩
    go_wp2_with fail
    go_ret
    exact ⟨by rw [HE.out]; rfl, rfl⟩
theorem look_right (a b c : Int) : rightS (colL a) (colL b) (pickS c 256) = true := by
  unfold rightS
  have h1 := colL_col a
  have h2 := colL_col b
  have h3 := pickS_le c 256 (by omega)
  simp only [h1, h2, Bool.true_and, Bool.and_eq_true, decide_eq_true_eq]
  omega
set_option maxRecDepth 100000 in
theorem rightLaw_any (a b c : Int) (ha : -9223372036854775808 ≤ a ∧ a ≤ 9223372036854775807) (hb : -9223372036854775808 ≤ b ∧ b ≤ 9223372036854775807) (hc : -9223372036854775808 ≤ c ∧ c ≤ 9223372036854775807) (w : World) :
    Calls Tryd.prog 24 #[.int .i64 a, .int .i64 b, .int .i64 c] w fun e w' => e = .returned (styV (colL a, colL b, pickS c 256)) ∧ Below w.heap.size w w' := by
  have p1 := fun w => colourLaw_any a ha.1 ha.2 w
  have p2 := fun w => colourLaw_any b hb.1 hb.2 w
  have p3 := fun w => pick_any c 256 hc.1 hc.2 (by omega) (by omega) w
  generalize colL a = x at *
  generalize colL b = y at *
  generalize pickS c 256 = z at *
  clear ha hb hc
  have hk := Blk.new w 31 #[.int .i64 0, .int .i64 0, .int .i64 0]
  have hb0 : Below w.heap.size w (w.alloc (.cells #[.int .i64 0, .int .i64 0, .int .i64 0] 31)) := (Below.refl _ _).alloc (Nat.le_refl _) _
  go_enter Tryd.func24, Tryd.ntmps24
  go_wp2_with fail
  refine (p1 _).mono ?_
  rintro e w1 ⟨rfl, rfl⟩
  go_wp2_with fail
  refine (p2 _).mono ?_
  rintro e w2 ⟨rfl, rfl⟩
  go_wp2_with fail
  refine (p3 _).mono ?_
  rintro e w3 ⟨rfl, rfl⟩
  go_wp2_with (refine wpList_store_blk rfl 31 (.tmp 6) (.tmp 13) rfl w.heap.size #[.int .i64 x, .int .i64 y, .int .i64 z] rfl rfl _ _ hk (by kernel_rfl) rfl (by kernel_rfl) ?_; intro w4 hblk4 hb4)
  exact bodyPost_ret (v := .agg #[.int .i64 x, .int .i64 y, .int .i64 z]) (results_cell (p := 6) (by kernel_rfl) _ w4 _ _ _ _ _ rfl hblk4 Tryd.underlying31 rfl (by kernel_rfl)) rfl ⟨rfl, hb0.trans (hb4 _ (Nat.le_refl _))⟩
end Go.Proofs.YtdbkccffepfenaaDoor.Sty
