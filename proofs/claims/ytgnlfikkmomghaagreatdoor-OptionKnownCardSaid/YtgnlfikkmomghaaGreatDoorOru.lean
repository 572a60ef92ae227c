/- The chapter's own answer: a letter, a digit, a user option's name. -/
import Derived.Test.YtgnlfikkmomghaaGreatDoorOln
namespace Go.Proofs.YtgnlfikkmomghaaGreatDoor.Opt
open Go.RowKit

def letB (c : Int) : Bool := (decide (97 ≤ c) && decide (c ≤ 122)) || (decide (65 ≤ c) && decide (c ≤ 90))
def digB (c : Int) : Bool := decide (48 ≤ c) && decide (c ≤ 57)
theorem letter_any (c : Int) (w : World) : Calls Tryz.prog 106 #[.int .u8 c] w fun e w' => e = .returned (.bool (letB c)) ∧ w' = w := by
  unfold letB
  by_cases h1 : 97 ≤ c
  · by_cases h2 : c ≤ 122
    · go_enter Tryz.func106, Tryz.ntmps106
      go_wp2
      go_ret
      exact ⟨by simp <;> omega, rfl⟩
    · have h4 : ¬ c ≤ 90 := by omega
      have h3 : 65 ≤ c := by omega
      go_enter Tryz.func106, Tryz.ntmps106
      go_wp2
      go_ret
      exact ⟨by simp <;> omega, rfl⟩
  · by_cases h3 : 65 ≤ c
    · by_cases h4 : c ≤ 90
      · go_enter Tryz.func106, Tryz.ntmps106
        go_wp2
        go_ret
        exact ⟨by simp <;> omega, rfl⟩
      · go_enter Tryz.func106, Tryz.ntmps106
        go_wp2
        go_ret
        exact ⟨by simp <;> omega, rfl⟩
    · go_enter Tryz.func106, Tryz.ntmps106
      go_wp2
      go_ret
      exact ⟨by simp <;> omega, rfl⟩
theorem digit_any (c : Int) (w : World) : Calls Tryz.prog 93 #[.int .u8 c] w fun e w' => e = .returned (.bool (digB c)) ∧ w' = w := by
  unfold digB
  by_cases h1 : 48 ≤ c
  · by_cases h2 : c ≤ 57
    · go_enter Tryz.func93, Tryz.ntmps93
      go_wp2
      go_ret
      exact ⟨by simp <;> omega, rfl⟩
    · go_enter Tryz.func93, Tryz.ntmps93
      go_wp2
      go_ret
      exact ⟨by simp <;> omega, rfl⟩
  · go_enter Tryz.func93, Tryz.ntmps93
    go_wp2
    go_ret
    exact ⟨by simp <;> omega, rfl⟩

def okC (b : UInt8) : Bool := letB b.toNat || (digB b.toNat || (((b.toNat : Int) == 45) || ((b.toNat : Int) == 95)))
def userR (l : Tx) : Bool := decide (2 ≤ l.length) && (decide (l.length ≤ 64) && (((l.headD 0).toNat : Int) == 64 && (l.drop 1).all okC))
def Fine (l : Tx) (k : Nat) : Prop := ∀ j (h : j < l.length), 1 ≤ j → j < k → okC l[j] = true
theorem userR_yes {l : Tx} (h2 : 2 ≤ l.length) (h6 : l.length ≤ 64) (h0 : ((l.headD 0).toNat : Int) == 64) (hf : Fine l l.length) : userR l = true := by
  unfold userR
  simp only [h2, h6, h0, decide_true, Bool.true_and, List.all_eq_true]
  intro x hx
  obtain ⟨j, hj, rfl⟩ := List.mem_iff_getElem.1 hx
  rw [List.length_drop] at hj
  rw [List.getElem_drop]
  exact hf _ (by omega) (by omega) (by omega)
theorem userR_no {l : Tx} {j : Nat} (h : j < l.length) (h1 : 1 ≤ j) (hb : okC l[j] = false) : userR l = false := by
  unfold userR
  have : (l.drop 1).all okC = false := by
    rw [List.all_eq_false]
    refine ⟨l[j], ?_, by rw [hb]; simp⟩
    rw [List.mem_iff_getElem]
    refine ⟨j - 1, by rw [List.length_drop]; omega, ?_⟩
    rw [List.getElem_drop]
    congr 1
    omega
  rw [this]
  simp
set_option maxRecDepth 100000 in
set_option maxHeartbeats 2000000 in
theorem userRef_any (l : Tx) (hs : l.length ≤ 140737488355328) (w : World) :
    Calls Tryz.prog 92 #[.string (bs l)] w fun e w' => e = .returned (.bool (userR l)) ∧ w' = w := by
  obtain ⟨R, hR⟩ : ∃ R, R = userR l := ⟨_, rfl⟩
  rw [← hR]
  have HR := Lib.hid hR
  clear hR
  obtain ⟨S, hS⟩ : ∃ S, S = bs l := ⟨_, rfl⟩
  rw [← hS]
  have hsz : S.size = l.length := by rw [hS, bs_size]
  have HL := Lib.hid (show ∀ k (h : k < l.length) (h2 : k < S.size), S[k]'h2 = l[k] by intro k h h2; subst hS; rfl)
  clear hS
  by_cases h2 : 2 ≤ l.length
  · by_cases h6 : l.length ≤ 64
    · have h0 : S[0]'(by omega) = l.headD 0 := by
        rw [HL.out 0 (by omega) (by omega)]
        cases l with
        | nil => simp at h2
        | cons a r => rfl
      cases h0b : ((l.headD 0).toNat : Int) == 64 with
      | false =>
        have hv : R = false := by rw [HR.out]; unfold userR; rw [h0b]; simp
        have h0c : (((S[0]'(by omega)).toNat : Int) != 64) = true := by rw [h0, bne, h0b]; rfl
        clear h0b h0 HR
        subst hv
        go_enter Tryz.func92, Tryz.ntmps92
        go_wp2
        go_ret
        exact ⟨rfl, rfl⟩
      | true =>
        have h0c : (((S[0]'(by omega)).toNat : Int) != 64) = false := by rw [h0, bne, h0b]; rfl
        have HY := Lib.hid (show Fine l l.length → R = true from fun hf => by rw [HR.out]; exact userR_yes h2 h6 h0b hf)
        have HN := Lib.hid (show ∀ j (h : j < l.length), 1 ≤ j → okC l[j] = false → R = false from fun j h h1 hb => by rw [HR.out]; exact userR_no h h1 hb)
        clear h0b h0 HR
        go_enter Tryz.func92, Tryz.ntmps92
        go_wp2
        go_loop [3] (fun i => ∃ k : Nat, 1 ≤ k ∧ k ≤ l.length ∧ i = .int .i64 (k : Int) ∧ Hid (Fine l k)) (fun i => l.length - (intOf i).toNat)
        case atStart => exact ⟨1, by omega, by omega, rfl, fun j h h1 h2 => by omega⟩
        case round =>
          obtain ⟨k, hk1, hk, rfl, hf⟩ := hrel
          by_cases hlt : k < l.length
          · have hSk : k < S.size := by omega
            have hch := HL.out k hlt hSk
            have HOK := Lib.hid (show okC l[k] = (letB (S[k]'hSk).toNat || (digB (S[k]'hSk).toNat || ((((S[k]'hSk).toNat : Int) == 45) || (((S[k]'hSk).toNat : Int) == 95)))) by rw [hch]; rfl)
            have HN2 := Lib.hid (HN.out k hlt hk1)
            clear hch
            go_wp2_with fail
            refine (letter_any _ _).mono ?_
            rintro e w1 ⟨rfl, rfl⟩
            go_wp2_with fail
            refine (digit_any _ _).mono ?_
            rintro e w1 ⟨rfl, rfl⟩
            generalize letB (S[k]'hSk).toNat = b1 at HOK ⊢
            generalize digB (S[k]'hSk).toNat = b2 at HOK ⊢
            have HF1 := Lib.hid (show okC l[k] = true → Fine l (k + 1) from fun hb j h h1 h2 => by
              by_cases hj : j < k
              · exact hf.out j h h1 hj
              · obtain rfl : j = k := by omega
                exact hb)
            generalize okC l[k] = b0 at HOK HN2 HF1
            cases b1 with
            | true =>
              have hq := HF1.out (by rw [HOK.out]; rfl)
              go_wp2_with fail
              go_round
              case rel => exact ⟨k + 1, by omega, by omega, by go_num, hq⟩
              case measure => simp [intOf]; omega
            | false => cases b2 with
              | true =>
                have hq := HF1.out (by rw [HOK.out]; rfl)
                go_wp2_with fail
                go_round
                case rel => exact ⟨k + 1, by omega, by omega, by go_num, hq⟩
                case measure => simp [intOf]; omega
              | false => cases h45 : (((S[k]'hSk).toNat : Int) == 45) with
                | true =>
                  have hq := HF1.out (by rw [HOK.out, h45]; rfl)
                  have h45b : (((S[k]'hSk).toNat : Int) != 45) = false := by rw [bne, h45]; rfl
                  clear h45
                  go_wp2_with fail
                  go_round
                  case rel => exact ⟨k + 1, by omega, by omega, by go_num, hq⟩
                  case measure => simp [intOf]; omega
                | false =>
                  have h45b : (((S[k]'hSk).toNat : Int) != 45) = true := by rw [bne, h45]; rfl
                  cases h95 : (((S[k]'hSk).toNat : Int) == 95) with
                  | true =>
                    have hq := HF1.out (by rw [HOK.out, h95]; simp)
                    have h95b : (((S[k]'hSk).toNat : Int) != 95) = false := by rw [bne, h95]; rfl
                    clear h95 h45
                    go_wp2_with fail
                    go_round
                    case rel => exact ⟨k + 1, by omega, by omega, by go_num, hq⟩
                    case measure => simp [intOf]; omega
                  | false =>
                    have h95b : (((S[k]'hSk).toNat : Int) != 95) = true := by rw [bne, h95]; rfl
                    have hv := HN2.out (by rw [HOK.out, h45, h95]; rfl)
                    clear h95 h45
                    subst hv
                    go_wp2_with fail
                    go_ret
                    exact ⟨rfl, rfl⟩
          · obtain rfl : k = l.length := by omega
            have hv := HY.out hf.out
            subst hv
            go_wp2
            go_ret
            exact ⟨rfl, rfl⟩
    · have hv : R = false := by rw [HR.out]; unfold userR; simp [h6]
      subst hv
      go_enter Tryz.func92, Tryz.ntmps92
      go_wp2
      go_ret
      exact ⟨rfl, rfl⟩
  · have hv : R = false := by rw [HR.out]; unfold userR; simp [h2]
    subst hv
    go_enter Tryz.func92, Tryz.ntmps92
    go_wp2
    go_ret
    exact ⟨rfl, rfl⟩
end Go.Proofs.YtgnlfikkmomghaaGreatDoor.Opt
