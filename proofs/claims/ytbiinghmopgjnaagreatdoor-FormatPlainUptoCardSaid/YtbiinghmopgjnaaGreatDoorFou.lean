/- format: where a sign first stands outside. -/
import Derived.Test.YtbiinghmopgjnaaGreatDoorFle
namespace Go.Proofs.YtbiinghmopgjnaaGreatDoor.Fmt
open Go.RowKit

def outI : Option Nat → Int
  | none => -1
  | some k => (k : Int)
theorem outR_end (sign : UInt8) (d : Int) (k : Nat) : outR sign [] d k = none := rfl
theorem outR_here {sign c : UInt8} {r : Tx} {d : Int} {k : Nat} (h : d = 0 ∧ c = sign) : outR sign (c :: r) d k = some k := by unfold outR; rw [if_pos h]
theorem outR_shut {sign c : UInt8} {r : Tx} {d : Int} {k : Nat} (h : ¬ (d = 0 ∧ c = sign)) (hc : c = 125) : outR sign (c :: r) d k = outR sign r (d - 1) (k + 1) := by
  rw [outR.eq_def]
  simp only [if_neg h, if_pos hc]
theorem outR_last {sign c : UInt8} {d : Int} {k : Nat} (h : ¬ (d = 0 ∧ c = sign)) : outR sign [c] d k = none := by
  rw [outR.eq_def]
  simp only [if_neg h]
  split <;> rfl
theorem outR_open {sign c e : UInt8} {r : Tx} {d : Int} {k : Nat} (h : ¬ (d = 0 ∧ c = sign)) (hc : c = 35) (he : e = 123) : outR sign (c :: e :: r) d k = outR sign (e :: r) (d + 1) (k + 1) := by
  subst hc; subst he
  rw [outR.eq_def]
  simp only [if_neg h, if_neg (show ¬ (35 : UInt8) = 125 by decide)]
  simp
theorem outR_mark {sign c e : UInt8} {r : Tx} {d : Int} {k : Nat} (h : ¬ (d = 0 ∧ c = sign)) (hc : c = 35) (he : marked e = true) : outR sign (c :: e :: r) d k = outR sign r d (k + 2) := by
  subst hc
  have h2 : ¬ e = 123 := by rintro rfl; exact absurd he (by decide)
  rw [outR.eq_def]
  simp only [if_neg h, if_neg (show ¬ (35 : UInt8) = 125 by decide)]
  simp [h2, he]
theorem outR_on {sign c e : UInt8} {r : Tx} {d : Int} {k : Nat} (h : ¬ (d = 0 ∧ c = sign)) (hc : ¬ c = 125) (h2 : ¬ (c = 35 ∧ e = 123)) (h3 : ¬ (c = 35 ∧ marked e = true)) : outR sign (c :: e :: r) d k = outR sign (e :: r) d (k + 1) := by
  rw [outR.eq_def]
  simp only [if_neg h, if_neg hc, if_neg h2, if_neg h3]
theorem prefix_one (c : UInt8) : Lib.hasPrefix [c] [35, 123] = false := by simp [Lib.hasPrefix, List.isPrefixOf]
theorem prefix_two (c e : UInt8) (r : Tx) : Lib.hasPrefix (c :: e :: r) [35, 123] = (c == 35 && e == 123) := by
  simp only [Lib.hasPrefix, List.isPrefixOf, Bool.and_true]
  rw [show ((35 : UInt8) == c) = (c == 35) from Bool.beq_comm, show ((123 : UInt8) == e) = (e == 123) from Bool.beq_comm]
set_option maxRecDepth 100000 in
set_option maxHeartbeats 4000000 in
theorem outside_any (l : Tx) (sign : UInt8) (hl : l.length ≤ 8192) (w : World) :
    Calls Tryz.prog 20 #[.string (bs l), .int .u8 (sign.toNat : Int)] w fun e w' => e = .returned (.int .i64 (outI (outR sign l 0 0))) ∧ w = w' := by
  obtain ⟨s, hs⟩ : ∃ s, s = bs l := ⟨_, rfl⟩
  have hsz : s.size = l.length := by rw [hs, bs_size]
  have hget : ∀ j (h : j < s.size), l.drop j = s[j] :: l.drop (j + 1) := fun j h => by
    have h1 : j < l.length := by omega
    rw [List.drop_eq_getElem_cons h1]
    subst hs
    rfl
  have hpre : ∀ (j : Nat) (V : World), Calls Tryz.prog 24 #[.string (s.extract j s.size), .string { data := #[35, 123] }] V fun e w' => e = .returned (.bool (Lib.hasPrefix (l.drop j) [35, 123])) ∧ w' = V := fun j V => by
    have := Tryz.strings_HasPrefix (bs (l.drop j)) (bs [35, 123]) V
    rw [bs_list, bs_list] at this
    rw [hs, bs_drop]
    exact this
  obtain ⟨R, hR⟩ : ∃ R, R = outI (outR sign l 0 0) := ⟨_, rfl⟩
  rw [← hs, ← hR]
  have HG := Lib.hid hget
  have HP := Lib.hid hpre
  have HR := Lib.hid hR
  have hsl : s.size ≤ 8192 := by omega
  have HZ := Lib.hid hsz
  clear hget hpre hs hR hsz
  go_enter Tryz.func20, Tryz.ntmps20
  go_wp2_with fail
  go_loopw [5, 6] (fun d i wr => ∃ (k : Nat) (x : Int), k ≤ s.size ∧ i = .int .i64 (k : Int) ∧ d = .int .i64 x ∧ -(k : Int) ≤ x ∧ x ≤ (k : Int) ∧ Hid (R = outI (outR sign (l.drop k) x k)) ∧ wr = w) (fun _ i _ => s.size - (intOf i).toNat)
  case atStart => exact ⟨0, 0, Nat.zero_le _, rfl, rfl, by omega, by omega, HR, rfl⟩
  case round =>
    obtain ⟨k, x, hk, rfl, rfl, hx1, hx2, HQ, rfl⟩ := hrel
    by_cases hlt : k < s.size
    · have j1 : (k : Int) < (s.size : Int) := by omega
      have hq := HQ.out
      have hd := HG.out k hlt
      rw [hd] at hq
      obtain ⟨c, hc⟩ : ∃ c, c = s[k] := ⟨_, rfl⟩
      have hci : ((s[k].toNat : Nat) : Int) = (c.toNat : Int) := by rw [hc]
      rw [← hc] at hq hd
      have hp := HP.out k
      rw [hd] at hp
      clear hc HQ
      by_cases hA : x = 0 ∧ c = sign
      · rw [outR_here hA] at hq
        obtain ⟨rfl, rfl⟩ := hA
        clear hp hd
        go_wp2_with fail
        go_ret
        exact ⟨by rw [hq]; rfl, rfl⟩
      · have hne : x = 0 → ¬ (c.toNat : Int) = (sign.toNat : Int) := fun h0 h1 => hA ⟨h0, u8_int h1⟩
        have hAn : ¬ (x = 0 ∧ c = sign) := hA
        have hcase : (x = 0 ∧ ¬ (c.toNat : Int) = (sign.toNat : Int)) ∨ ¬ x = 0 := by
          by_cases h0 : x = 0
          · exact .inl ⟨h0, hne h0⟩
          · exact .inr h0
        clear hne hA
        by_cases hc : c = 125
        · rw [outR_shut hAn hc] at hq
          subst hc
          have HQ := Lib.hid hq
          clear hq hp hd hAn
          have hci2 : ((s[k].toNat : Nat) : Int) = 125 := hci
          clear hci
          rcases hcase with ⟨h0, h1⟩ | h0
          · subst h0
            have h2 : ¬ (125 : Int) = (sign.toNat : Int) := h1
            clear h1
            go_wp2_with fail
            go_roundw
            case rel => exact ⟨k + 1, 0 - 1, by omega, by go_num, by go_num, by omega, by omega, HQ, by trivial⟩
            case measure => simp [intOf]; omega
          · go_wp2_with fail
            go_roundw
            case rel => exact ⟨k + 1, x - 1, by omega, by go_num, by go_num, by omega, by omega, HQ, by trivial⟩
            case measure => simp [intOf]; omega
        · have k1 : ¬ (c.toNat : Int) = 125 := fun h => hc (u8_int h)
          cases hr : l.drop (k + 1) with
          | nil =>
            rw [hr, prefix_one] at hp
            rw [hr, outR_last hAn] at hq
            have hk2 : k + 1 = s.size := by have := congrArg List.length hr; rw [List.length_drop] at this; have := HZ.out; simp at *; omega
            have HQ : Hid (R = outI (outR sign (l.drop (k + 1)) x (k + 1))) := by
              show R = _
              rw [hr, outR_end]; exact hq
            have k4 : ¬ (k : Int) + 1 < (s.size : Int) := by omega
            have HP1 := Lib.hid hp
            clear hq hp hd hAn hr hc
            by_cases h35 : (c.toNat : Int) = 35
            all_goals rcases hcase with ⟨h0, h1⟩ | h0
            all_goals first | rw [h35] at h1 hci | rw [h35] at hci | skip
            · subst h0
              go_wp2_with fail
              refine (HP1.out _).mono ?_
              rintro _ w1 ⟨rfl, rfl⟩
              go_wp2_with fail
              go_roundw
              case rel => exact ⟨k + 1, 0, by omega, by go_num, by go_num, by omega, by omega, HQ, by trivial⟩
              case measure => simp [intOf]; omega
            · go_wp2_with fail
              refine (HP1.out _).mono ?_
              rintro _ w1 ⟨rfl, rfl⟩
              go_wp2_with fail
              go_roundw
              case rel => exact ⟨k + 1, x, by omega, by go_num, by go_num, by omega, by omega, HQ, by trivial⟩
              case measure => simp [intOf]; omega
            · subst h0
              go_wp2_with fail
              refine (HP1.out _).mono ?_
              rintro _ w1 ⟨rfl, rfl⟩
              go_wp2_with fail
              go_roundw
              case rel => exact ⟨k + 1, 0, by omega, by go_num, by go_num, by omega, by omega, HQ, by trivial⟩
              case measure => simp [intOf]; omega
            · go_wp2_with fail
              refine (HP1.out _).mono ?_
              rintro _ w1 ⟨rfl, rfl⟩
              go_wp2_with fail
              go_roundw
              case rel => exact ⟨k + 1, x, by omega, by go_num, by go_num, by omega, by omega, HQ, by trivial⟩
              case measure => simp [intOf]; omega
          | cons e r =>
            have hlt2 : k + 1 < s.size := by have := congrArg List.length hr; rw [List.length_drop] at this; have := HZ.out; simp at *; omega
            have j2 : (k : Int) + 1 < (s.size : Int) := by omega
            have hd2 := HG.out (k + 1) hlt2
            rw [hr] at hd2
            injection hd2 with he2 hr2
            have hei : ((s[k + 1].toNat : Nat) : Int) = (e.toNat : Int) := by rw [he2]
            rw [hr] at hq hp
            rw [prefix_two] at hp
            have hdr : l.drop (k + 1) = e :: r := hr
            by_cases hc35 : c = 35
            · by_cases he123 : e = 123
              · rw [outR_open hAn hc35 he123, ← hdr] at hq
                subst hc35 he123
                have HQ := Lib.hid hq
                have HP1 := Lib.hid (show ∀ V, Calls Tryz.prog 24 #[.string (s.extract k s.size), .string { data := #[35, 123] }] V fun e w' => e = .returned (.bool true) ∧ w' = V from hp)
                have hci2 : ((s[k].toNat : Nat) : Int) = 35 := hci
                clear hq hp hd hAn hr hr2 he2 hdr hci hei hc k1
                rcases hcase with ⟨h0, h1⟩ | h0
                · subst h0
                  have h2 : ¬ (35 : Int) = (sign.toNat : Int) := h1
                  clear h1
                  go_wp2_with fail
                  refine (HP1.out _).mono ?_
                  rintro _ w1 ⟨rfl, rfl⟩
                  go_wp2_with fail
                  go_roundw
                  case rel => exact ⟨k + 1, 1, by omega, by go_num, by go_num, by omega, by omega, HQ, by trivial⟩
                  case measure => simp [intOf]; omega
                · go_wp2_with fail
                  refine (HP1.out _).mono ?_
                  rintro _ w1 ⟨rfl, rfl⟩
                  go_wp2_with fail
                  go_roundw
                  case rel => exact ⟨k + 1, x + 1, by omega, by go_num, by go_num, by omega, by omega, HQ, by trivial⟩
                  case measure => simp [intOf]; omega
              · have hpf : (c == 35 && e == 123) = false := by simp [he123]
                rw [hpf] at hp
                have hm := marked_any e
                cases hme : marked e with
                | true =>
                  rw [outR_mark hAn hc35 hme, hr2] at hq
                  rw [hme] at hm
                  subst hc35
                  have HQ := Lib.hid hq
                  have HP1 := Lib.hid hp
                  have HM := Lib.hid hm
                  have hci2 : ((s[k].toNat : Nat) : Int) = 35 := hci
                  clear hq hp hm hd hAn hr hr2 he2 hdr hci hc k1 hpf hme he123
                  rcases hcase with ⟨h0, h1⟩ | h0
                  · subst h0
                    have h2 : ¬ (35 : Int) = (sign.toNat : Int) := h1
                    clear h1
                    go_wp2_with fail
                    refine (HP1.out _).mono ?_
                    rintro _ w1 ⟨rfl, rfl⟩
                    go_wp2_with fail
                    refine (HM.out _).mono ?_
                    rintro _ w1 ⟨rfl, rfl⟩
                    go_wp2_with fail
                    go_roundw
                    case rel => exact ⟨k + 2, 0, by omega, by go_num, by go_num, by omega, by omega, HQ, by trivial⟩
                    case measure => simp [intOf]; omega
                  · go_wp2_with fail
                    refine (HP1.out _).mono ?_
                    rintro _ w1 ⟨rfl, rfl⟩
                    go_wp2_with fail
                    refine (HM.out _).mono ?_
                    rintro _ w1 ⟨rfl, rfl⟩
                    go_wp2_with fail
                    go_roundw
                    case rel => exact ⟨k + 2, x, by omega, by go_num, by go_num, by omega, by omega, HQ, by trivial⟩
                    case measure => simp [intOf]; omega
                | false =>
                  rw [outR_on hAn hc (fun h => he123 h.2) (fun h => by rw [hme] at h; cases h.2), ← hdr] at hq
                  rw [hme] at hm
                  subst hc35
                  have HQ := Lib.hid hq
                  have HP1 := Lib.hid hp
                  have HM := Lib.hid hm
                  have hci2 : ((s[k].toNat : Nat) : Int) = 35 := hci
                  clear hq hp hm hd hAn hr hr2 he2 hdr hci hc k1 hpf hme he123
                  rcases hcase with ⟨h0, h1⟩ | h0
                  · subst h0
                    have h2 : ¬ (35 : Int) = (sign.toNat : Int) := h1
                    clear h1
                    go_wp2_with fail
                    refine (HP1.out _).mono ?_
                    rintro _ w1 ⟨rfl, rfl⟩
                    go_wp2_with fail
                    refine (HM.out _).mono ?_
                    rintro _ w1 ⟨rfl, rfl⟩
                    go_wp2_with fail
                    go_roundw
                    case rel => exact ⟨k + 1, 0, by omega, by go_num, by go_num, by omega, by omega, HQ, by trivial⟩
                    case measure => simp [intOf]; omega
                  · go_wp2_with fail
                    refine (HP1.out _).mono ?_
                    rintro _ w1 ⟨rfl, rfl⟩
                    go_wp2_with fail
                    refine (HM.out _).mono ?_
                    rintro _ w1 ⟨rfl, rfl⟩
                    go_wp2_with fail
                    go_roundw
                    case rel => exact ⟨k + 1, x, by omega, by go_num, by go_num, by omega, by omega, HQ, by trivial⟩
                    case measure => simp [intOf]; omega
            · have hpf : (c == 35 && e == 123) = false := by simp [hc35]
              rw [hpf] at hp
              rw [outR_on hAn hc (fun h => hc35 h.1) (fun h => hc35 h.1), ← hdr] at hq
              have k35 : ¬ (c.toNat : Int) = 35 := fun h => hc35 (u8_int h)
              have HQ := Lib.hid hq
              have HP1 := Lib.hid hp
              clear hq hp hd hAn hr hr2 he2 hdr hei hc hpf hc35
              rcases hcase with ⟨h0, h1⟩ | h0
              · subst h0
                go_wp2_with fail
                refine (HP1.out _).mono ?_
                rintro _ w1 ⟨rfl, rfl⟩
                go_wp2_with fail
                go_roundw
                case rel => exact ⟨k + 1, 0, by omega, by go_num, by go_num, by omega, by omega, HQ, by trivial⟩
                case measure => simp [intOf]; omega
              · go_wp2_with fail
                refine (HP1.out _).mono ?_
                rintro _ w1 ⟨rfl, rfl⟩
                go_wp2_with fail
                go_roundw
                case rel => exact ⟨k + 1, x, by omega, by go_num, by go_num, by omega, by omega, HQ, by trivial⟩
                case measure => simp [intOf]; omega
    · obtain rfl : k = s.size := by omega
      have hq := HQ.out
      rw [List.drop_of_length_le (by rw [HZ.out]; exact Nat.le_refl _), outR_end] at hq
      clear HQ
      go_wp2_with fail
      go_ret
      exact ⟨by rw [hq]; rfl, rfl⟩
end Go.Proofs.YtbiinghmopgjnaaGreatDoor.Fmt
