/- The walk of the laws' choice of a small number. -/
import Derived.Test.YtmnembhfbboljaaDoorMem
namespace Go.Proofs.YtmnembhfbboljaaDoor.Cel
open Go.RowKit
def picked (c n : Int) : Int := (if c < 0 then -(c + 1) else c) % n
theorem picked_bd (c n : Int) (h : 0 < n) : 0 ≤ picked c n ∧ picked c n < n := ⟨Int.emod_nonneg _ (by omega), Int.emod_lt_of_pos _ h⟩
theorem pick_any (c n : Int) (w : World) (h : 0 < n) (hn : n ≤ 9223372036854775807) (hc0 : -9223372036854775808 ≤ c) (hc1 : c ≤ 9223372036854775807) :
    Calls Tryd.prog 28 #[.int .i64 c, .int .i64 n] w fun e w' => e = .returned (.int .i64 (picked c n)) ∧ w = w' := by
  have hnz : (n == 0) = false := by rw [beq_eq_false_iff_ne]; omega
  by_cases h0 : c < 0
  · have HP : Hid (picked c n = (-(c + 1)) % n) := by show _ = _; unfold picked; rw [if_pos h0]
    go_enter Tryd.func28, Tryd.ntmps28
    go_wp2
    go_ret
    exact ⟨ret_int (by rw [HP.out, ← Int.neg_tmod, Int.tmod_eq_emod_of_nonneg (by omega)]), rfl⟩
  · have HP : Hid (picked c n = c % n) := by show _ = _; unfold picked; rw [if_neg h0]
    go_enter Tryd.func28, Tryd.ntmps28
    go_wp2
    go_ret
    exact ⟨ret_int HP.out.symm, rfl⟩
end Go.Proofs.YtmnembhfbboljaaDoor.Cel
