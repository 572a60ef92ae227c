/- How much is told: a byte tells one thing at the most, and one that was pending. Plain words alone. -/
import Derived.Test.YtmhmbeofcedjjaaDoorVsp
namespace Go.Proofs.YtmhmbeofcedjjaaDoor.Vt
open Cel (zero lost pend)

theorem pend_zero : pend zero = 0 := rfl
theorem pend_le (d : Cel.Dec) : pend d ≤ 1 := by unfold pend; split <;> omega
theorem ground_len (S : Ps) (x : Int) : (ground S x).2.length + pend (ground S x).1.d ≤ pend S.d + 1 := by
  unfold ground
  simp only [List.length_map]
  exact Cel.step_count S.d x
theorem add_d (S : Ps) (u : UInt8) : (add S u).d = S.d := by unfold add; split <;> rfl
theorem put_d (S : Ps) (u : UInt8) : (put S u).d = S.d := by unfold put; split <;> rfl
theorem ended_len (S : Ps) (x : Int) : (ended S x).2.length + pend (ended S x).1.d ≤ pend S.d + 1 := by
  unfold ended
  repeat' split
  all_goals first | (show 0 + pend S.d ≤ _; omega) | (show 1 + 0 ≤ _; omega) | (show 0 + 0 ≤ _; omega)
theorem step_len (S : Ps) (u : UInt8) : (step S u).2.length + pend (step S u).1.d ≤ pend S.d + 1 := by
  unfold step
  simp only []
  split
  · show 0 + 0 ≤ _; omega
  split
  · show (escA S).length + pend zero ≤ _
    unfold escA
    rw [List.length_append, List.length_map, Cel.lost_length, pend_zero]
    split <;> simp
  split
  · split
    · show 1 + 0 ≤ _; omega
    split
    · show 0 + pend S.d ≤ _; omega
    split
    · show 0 + pend S.d ≤ _; omega
    · show 0 + pend (put S u).d ≤ _; rw [put_d]; omega
  split
  · show ((lost S.d).map prt ++ [ctl _]).length + pend zero ≤ _
    rw [List.length_append, List.length_map, Cel.lost_length, pend_zero]
    simp
  split
  · have := ground_len ps0 (u.toNat : Int)
    have e : pend ps0.d = 0 := rfl
    omega
  split
  · show 0 + pend S.d ≤ _; omega
  split
  · exact ground_len S _
  split
  · split
    · split
      · show 0 + 0 ≤ _; omega
      · show 0 + 0 ≤ _; omega
    · show 0 + pend S.d ≤ _; omega
  split
  · exact ended_len { S with b := (u.toNat : Int) } _
  split
  · show 0 + pend (add S u).d ≤ _; rw [add_d]; omega
  · show 0 + pend S.d ≤ _; omega
theorem run_len (S : Ps) (l : Tx) : (run S l).2.length + pend (run S l).1.d ≤ pend S.d + l.length := by
  induction l generalizing S with
  | nil => simp [run]
  | cons u l ih =>
    have h1 := step_len S u
    have h2 := ih (step S u).1
    simp only [run, List.length_append, List.length_cons]
    omega
end Go.Proofs.YtmhmbeofcedjjaaDoor.Vt
