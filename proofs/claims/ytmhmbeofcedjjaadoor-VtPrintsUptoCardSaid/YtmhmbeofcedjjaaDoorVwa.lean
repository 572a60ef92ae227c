/- The walks of layer 5's small functions: of states' names, of bytes. -/
import Derived.Test.YtmhmbeofcedjjaaDoorVfr
import Derived.Lib.Strings
namespace Go.Proofs.YtmhmbeofcedjjaaDoor.Vt
open Go.RowKit

def isTxB (s : Nat) : Value := .bool (isTx s)
theorem isText_any (s : Nat) (hs : s ≤ 7) (w : World) : Calls Tryd.prog 36 #[.string (nm s)] w fun e w' => e = .returned (.bool (isTx s)) ∧ w = w' := by
  have hc : s = 0 ∨ s = 1 ∨ s = 2 ∨ s = 3 ∨ s = 4 ∨ s = 5 ∨ s = 6 ∨ s = 7 := by omega
  rcases hc with rfl | rfl | rfl | rfl | rfl | rfl | rfl | rfl
  all_goals
    first
      | rw [nm0]
      | rw [nm1]
      | rw [nm2]
      | rw [nm3]
      | rw [nm4]
      | rw [nm5]
      | rw [nm6]
      | rw [nm7]
    go_enter Tryd.func36, Tryd.ntmps36
    go_wp2
    go_ret
    exact ⟨rfl, rfl⟩
theorem isHead_any (s : Nat) (hs : s ≤ 7) (w : World) : Calls Tryd.prog 21 #[.string (nm s)] w fun e w' => e = .returned (.bool (isHd s)) ∧ w = w' := by
  have ht := isText_any s hs w
  have hc : s = 0 ∨ s = 1 ∨ s = 2 ∨ s = 3 ∨ s = 4 ∨ s = 5 ∨ s = 6 ∨ s = 7 := by omega
  rcases hc with rfl | rfl | rfl | rfl | rfl | rfl | rfl | rfl
  all_goals
    first
      | rw [nm0] at ht ⊢
      | rw [nm1] at ht ⊢
      | rw [nm2] at ht ⊢
      | rw [nm3] at ht ⊢
      | rw [nm4] at ht ⊢
      | rw [nm5] at ht ⊢
      | rw [nm6] at ht ⊢
      | rw [nm7] at ht ⊢
    go_enter Tryd.func21, Tryd.ntmps21
    go_wp2_with (go_at_call 36; refine ht.mono ?_; rintro e w' ⟨rfl, rfl⟩)
    go_ret
    exact ⟨rfl, rfl⟩
theorem isControl_any (x : Int) (w : World) : Calls Tryd.prog 26 #[.int .u8 x] w fun e w' => e = .returned (.bool (decide (x < 32))) ∧ w = w' := by
  go_enter Tryd.func26, Tryd.ntmps26
  go_wp2
  go_ret
  exact ⟨rfl, rfl⟩
theorem isBetween_any (x : Int) (w : World) : Calls Tryd.prog 48 #[.int .u8 x] w fun e w' => e = .returned (.bool (isBet x)) ∧ w = w' := by
  by_cases h : 32 ≤ x
  · have HN : Hid (isBet x = decide (x ≤ 47)) := by show _ = _; unfold isBet; simp [h]
    go_enter Tryd.func48, Tryd.ntmps48
    go_wp2
    go_ret
    exact ⟨by rw [HN.out]; rfl, rfl⟩
  · have HN : Hid (isBet x = false) := by show _ = _; unfold isBet; simp [h]
    have hd : decide (32 ≤ x) = false := by simpa using h
    go_enter Tryd.func48, Tryd.ntmps48
    go_wp2
    go_ret
    exact ⟨by rw [HN.out]; rfl, rfl⟩
theorem isMark_any (x : Int) (w : World) : Calls Tryd.prog 61 #[.int .u8 x] w fun e w' => e = .returned (.bool (isMk x)) ∧ w = w' := by
  by_cases h : 60 ≤ x
  · have HN : Hid (isMk x = decide (x ≤ 63)) := by show _ = _; unfold isMk; simp [h]
    go_enter Tryd.func61, Tryd.ntmps61
    go_wp2
    go_ret
    exact ⟨by rw [HN.out]; rfl, rfl⟩
  · have HN : Hid (isMk x = false) := by show _ = _; unfold isMk; simp [h]
    have hd : decide (60 ≤ x) = false := by simpa using h
    go_enter Tryd.func61, Tryd.ntmps61
    go_wp2
    go_ret
    exact ⟨by rw [HN.out]; rfl, rfl⟩
theorem isFinal_any (k x : Int) (w : World) : Calls Tryd.prog 27 #[.int .i64 k, .int .u8 x] w fun e w' => e = .returned (.bool (isFin k x)) ∧ w = w' := by
  by_cases hk : k = 3
  · have hkb : (k == 3) = true := by simp [hk]
    by_cases h : 48 ≤ x
    · have HN : Hid (isFin k x = decide (x < 127)) := by show _ = _; unfold isFin; simp [hk, h]
      clear hk
      go_enter Tryd.func27, Tryd.ntmps27
      go_wp2
      go_ret
      exact ⟨by rw [HN.out]; rfl, rfl⟩
    · have HN : Hid (isFin k x = false) := by show _ = _; unfold isFin; simp [hk, h]
      have hd : decide (48 ≤ x) = false := by simpa using h
      clear hk
      go_enter Tryd.func27, Tryd.ntmps27
      go_wp2
      go_ret
      exact ⟨by rw [HN.out]; rfl, rfl⟩
  · have hkb : (k == 3) = false := by simp [hk]
    by_cases h : 64 ≤ x
    · have HN : Hid (isFin k x = decide (x < 127)) := by show _ = _; unfold isFin; simp [hk, h]
      clear hk
      go_enter Tryd.func27, Tryd.ntmps27
      go_wp2
      go_ret
      exact ⟨by rw [HN.out]; rfl, rfl⟩
    · have HN : Hid (isFin k x = false) := by show _ = _; unfold isFin; simp [hk, h]
      have hd : decide (64 ≤ x) = false := by simpa using h
      clear hk
      go_enter Tryd.func27, Tryd.ntmps27
      go_wp2
      go_ret
      exact ⟨by rw [HN.out]; rfl, rfl⟩
theorem opens_any (x : Int) (w : World) : Calls Tryd.prog 29 #[.int .u8 x] w fun e w' => e = .returned (.string (nm (opens x))) ∧ w = w' := by
  have hc : x = 91 ∨ x = 93 ∨ x = 80 ∨ x = 88 ∨ x = 94 ∨ x = 95 ∨ ((x == 91) = false ∧ (x == 93) = false ∧ (x == 80) = false ∧ (x == 88) = false ∧ (x == 94) = false ∧ (x == 95) = false) := by simp; omega
  rcases hc with rfl | rfl | rfl | rfl | rfl | rfl | ⟨h1, h2, h3, h4, h5, h6⟩
  · go_enter Tryd.func29, Tryd.ntmps29
    go_wp2
    go_ret
    exact ⟨rfl, rfl⟩
  · go_enter Tryd.func29, Tryd.ntmps29
    go_wp2
    go_ret
    exact ⟨rfl, rfl⟩
  · go_enter Tryd.func29, Tryd.ntmps29
    go_wp2
    go_ret
    exact ⟨rfl, rfl⟩
  · go_enter Tryd.func29, Tryd.ntmps29
    go_wp2
    go_ret
    exact ⟨rfl, rfl⟩
  · go_enter Tryd.func29, Tryd.ntmps29
    go_wp2
    go_ret
    exact ⟨rfl, rfl⟩
  · go_enter Tryd.func29, Tryd.ntmps29
    go_wp2
    go_ret
    exact ⟨rfl, rfl⟩
  · have HN : Hid (opens x = 0) := by
      show _ = _
      simp at h1 h2 h3 h4 h5 h6
      unfold opens; rw [if_neg h1, if_neg h2, if_neg h3, if_neg (by omega)]
    go_enter Tryd.func29, Tryd.ntmps29
    go_wp2
    go_ret
    exact ⟨by rw [HN.out]; rfl, rfl⟩
theorem run_index_bs (w : World) (u : UInt8) (r : Tx) : (Instr.index 9 (.string (bs (u :: r))) (.int .i64 0)).run Tryd.prog w = .ok (.int .u8 (u.toNat : Int)) w := by
  have hs := bs_size (u :: r)
  rw [List.length_cons] at hs
  rw [run_index_string w 9 (bs (u :: r)) .i64 0 Tryd.underlying9, dif_pos ⟨by omega, by omega⟩]
  have e : (bs (u :: r))[0]'(by omega) = u := by
    show (bs (u :: r)).data[0]'(show 0 < (bs (u :: r)).size by omega) = u
    rw [← Array.getElem_toList]
    simp [bs]
  show Result.ok (Value.int .u8 ((((bs (u :: r))[0]'(by omega)).toNat : Nat) : Int)) w = _
  rw [e]
theorem run_slice_bs (w : World) (u : UInt8) (r : Tx) : (Instr.slice 9 (.string (bs (u :: r))) (some (.int .i64 1)) none none).run Tryd.prog w = .ok (.string (bs r)) w := by
  have hs := bs_size (u :: r)
  rw [List.length_cons] at hs
  rw [run_slice_string_from_if w 9 (bs (u :: r)) .i64 1 Tryd.underlying9, if_pos ⟨by omega, by omega⟩]
  have e : (bs (u :: r)).extract (1 : Int).toNat (bs (u :: r)).size = bs r := by
    refine ByteArray.ext ?_
    apply Array.ext'
    rw [Lib.extract_data, hs]
    simp [bs]
  rw [e]
/-- A text without the mark ahead. -/
theorem unmarked_any (l : Tx) (hl : l.length ≤ 1000000000) (w : World) : Calls Tryd.prog 49 #[.string (bs l)] w fun e w' => e = .returned (.string (bs (bare l))) ∧ w = w' := by
  cases l with
  | nil =>
    rw [bs_nil]
    go_enter Tryd.func49, Tryd.ntmps49
    go_wp2
    go_ret
    exact ⟨rfl, rfl⟩
  | cons u r =>
    have hm := isMark_any (u.toNat : Int)
    have hix : ∀ w : World, (Instr.index 9 (.string (bs (u :: r))) (.int .i64 0)).run Tryd.prog w = .ok (.int .u8 (u.toNat : Int)) w := fun w => run_index_bs w u r
    have hsl : ∀ w : World, (Instr.slice 9 (.string (bs (u :: r))) (some (.int .i64 1)) none none).run Tryd.prog w = .ok (.string (bs r)) w := fun w => run_slice_bs w u r
    have he1 : (bs (u :: r)).toList.isEmpty = false := by rw [bs_tl]; rfl
    have he2 : ((bs (u :: r)).toList == []) = false := by rw [bs_tl]; rfl
    have hsz := bs_size (u :: r)
    cases hk : isMk (u.toNat : Int) with
    | true =>
      have HN : Hid (bare (u :: r) = r) := by show (if isMk (u.toNat : Int) = true then r else u :: r) = r; rw [if_pos hk]
      rw [hk] at hm
      rw [HN.out]
      generalize bs (u :: r) = X at *
      generalize bs r = Y at *
      clear hk hsz hl
      go_enter Tryd.func49, Tryd.ntmps49
      go_wp2_with (go_at_call 61; refine (hm _).mono ?_; rintro e w' ⟨rfl, rfl⟩)
      go_ret
      exact ⟨rfl, rfl⟩
    | false =>
      have HN : Hid (bare (u :: r) = u :: r) := by show (if isMk (u.toNat : Int) = true then r else u :: r) = u :: r; rw [if_neg (by rw [hk]; decide)]
      rw [hk] at hm
      rw [HN.out]
      generalize bs (u :: r) = X at *
      clear hk hsz hl
      go_enter Tryd.func49, Tryd.ntmps49
      go_wp2_with (go_at_call 61; refine (hm _).mono ?_; rintro e w' ⟨rfl, rfl⟩)
      go_ret
      exact ⟨rfl, rfl⟩
end Go.Proofs.YtmhmbeofcedjjaaDoor.Vt
