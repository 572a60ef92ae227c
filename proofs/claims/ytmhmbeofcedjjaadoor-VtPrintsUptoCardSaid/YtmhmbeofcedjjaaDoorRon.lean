/- The walks of the document's own writing: are all bytes of a span? -/
import Derived.Test.YtmhmbeofcedjjaaDoorRdi
namespace Go.Proofs.YtmhmbeofcedjjaaDoor.Vt
open Go.RowKit
open Cel (Blk Kept Tabs low Owns At good enc)

def onl (lo hi : Int) (l : Tx) : Bool := l.all (fun u => decide (lo ≤ (u.toNat : Int)) && decide ((u.toNat : Int) ≤ hi))
theorem onl_bet (l : Tx) : onl 32 47 l = l.all (fun u => isBet (u.toNat : Int)) := rfl
theorem onl_txt (l : Tx) : onl 32 255 l = noCtl l := by
  unfold onl noCtl
  congr 1
  funext u
  have := (u8_le u).2
  rw [decide_eq_true this, Bool.and_true]
  congr 1
  simp
theorem onl_take {lo hi : Int} {l : Tx} {k : Nat} (hk : k < l.length) (h : onl lo hi (l.take k) = true) (h1 : lo ≤ ((l[k]).toNat : Int)) (h2 : ((l[k]).toNat : Int) ≤ hi) : onl lo hi (l.take (k + 1)) = true := by
  unfold onl at h ⊢
  rw [List.take_succ_eq_append_getElem hk, List.all_append, h]
  simp [h1, h2]
theorem onl_no {lo hi : Int} {l : Tx} {k : Nat} (hk : k < l.length) (h : ((l[k]).toNat : Int) < lo ∨ hi < ((l[k]).toNat : Int)) : onl lo hi l = false := by
  unfold onl
  rw [List.all_eq_false]
  refine ⟨l[k], List.getElem_mem _, ?_⟩
  simp
  omega
set_option maxHeartbeats 1000000 in
theorem only_ref (lo hi : Int) (l : Tx) (hl : l.length ≤ 140737488355328) (w : World) : Calls Tryd.prog 34 #[.string (bs l), .int .u8 lo, .int .u8 hi] w fun e w' => e = .returned (.bool (onl lo hi l)) ∧ w = w' := by
  have HI := Lib.hid (fun (k : Nat) (hk : k < l.length) (w : World) => run_index_at w l k hk)
  have HB : Hid ((bs l).size = l.length) := bs_size l
  generalize bs l = X at *
  go_enter Tryd.func34, Tryd.ntmps34
  go_wp2
  go_loop [7] (fun i => ∃ k : Nat, k ≤ l.length ∧ i = .int .i64 k ∧ onl lo hi (l.take k) = true) (fun i => l.length - (intOf i).toNat)
  case atStart => exact ⟨0, Nat.zero_le _, rfl, rfl⟩
  case round =>
    obtain ⟨k, hk, rfl, ha⟩ := hrel
    have HA := Lib.hid ha
    clear ha
    have hsz := HB.out
    by_cases hlt : k < l.length
    · have hix := HI.out k hlt
      have hkx : k < X.size := by omega
      clear hsz
      by_cases h1 : ((l[k]).toNat : Int) < lo
      · have HN := Lib.hid (onl_no (hi := hi) hlt (.inl h1))
        have d1 : decide (((l[k]).toNat : Int) < lo) = true := decide_eq_true h1
        generalize (l[k]) = u at *
        go_wp2
        go_ret
        exact ⟨by rw [HN.out]; rfl, rfl⟩
      · by_cases h2 : hi < ((l[k]).toNat : Int)
        · have HN := Lib.hid (onl_no (lo := lo) hlt (.inr h2))
          have d1 : decide (((l[k]).toNat : Int) < lo) = false := decide_eq_false h1
          have d2 : decide (hi < ((l[k]).toNat : Int)) = true := decide_eq_true h2
          generalize (l[k]) = u at *
          go_wp2
          go_ret
          exact ⟨by rw [HN.out]; rfl, rfl⟩
        · have HN := Lib.hid (onl_take (lo := lo) (hi := hi) hlt HA.out (by omega) (by omega))
          have d1 : decide (((l[k]).toNat : Int) < lo) = false := decide_eq_false h1
          have d2 : decide (hi < ((l[k]).toNat : Int)) = false := decide_eq_false h2
          generalize (l[k]) = u at *
          go_wp2
          all_goals
            go_round
            case rel => exact ⟨k + 1, by omega, by go_num, HN.out⟩
            case measure => simp [intOf]; omega
    · have HN : Hid (onl lo hi l = true) := by
        have := HA.out
        rw [List.take_of_length_le (by omega)] at this
        exact this
      have hkx : ¬ k < X.size := by omega
      clear hsz
      go_wp2
      go_ret
      exact ⟨by rw [HN.out]; rfl, rfl⟩
end Go.Proofs.YtmhmbeofcedjjaaDoor.Vt
