/- The walks of the document's answer to layer 1: bounds of a second byte, widths. -/
import Derived.Test.YtmnembhfbboljaaDoorMem
namespace Go.Proofs.YtmnembhfbboljaaDoor.Cel
open Go.RowKit

set_option maxRecDepth 100000 in
theorem ranges_open (b : Int) (w : World) (hm : more b ≠ -1) :
    Calls Tryd.prog 39 #[.int .u8 b] w fun e w' => e = .returned (.tuple #[.int .u8 (lo b), .int .u8 (hi b), .int .i64 (more b)]) ∧ w = w' := by
  rcases opens hm with ⟨h1, h2, e1, e2, e3, e4⟩ | ⟨rfl, e1, e2, e3, e4⟩ | ⟨rfl, e1, e2, e3, e4⟩ | ⟨h1, h2, h3, e1, e2, e3, e4⟩ | ⟨rfl, e1, e2, e3, e4⟩ | ⟨h1, h2, e1, e2, e3, e4⟩ | ⟨rfl, e1, e2, e3, e4⟩
  all_goals
    clear hm e2
    rw [e1, e3, e4]
    clear e1 e3 e4
    go_enter Tryd.func39, Tryd.ntmps39
    go_wp2
    go_ret3
    exact ⟨rfl, rfl⟩
set_option maxRecDepth 100000 in
theorem ranges_none (b : Int) (w : World) (hm : more b = -1) :
    Calls Tryd.prog 39 #[.int .u8 b] w fun e w' => e = .returned (.tuple #[.int .u8 0, .int .u8 0, .int .i64 (-1)]) ∧ w = w' := by
  have h : b < 194 ∨ 244 < b := by
    unfold more at hm
    repeat' split at hm
    all_goals omega
  clear hm
  rcases h with h | h
  all_goals
    go_enter Tryd.func39, Tryd.ntmps39
    go_wp2
    go_ret3
    exact ⟨rfl, rfl⟩

theorem within_drop {l : List Int} {j : Nat} {a b : Int} (ha : l[j]? = some a) (hb : l[j + 1]? = some b) (r : Int) : within (l.drop j) r = ((decide (a ≤ r) && decide (r ≤ b)) || within (l.drop (j + 2)) r) := by
  obtain ⟨h1, e1⟩ := List.getElem?_eq_some_iff.1 ha
  obtain ⟨h2, e2⟩ := List.getElem?_eq_some_iff.1 hb
  rw [List.drop_eq_getElem_cons h1, List.drop_eq_getElem_cons h2, e1, e2]
  rfl

set_option maxRecDepth 100000 in
set_option maxHeartbeats 400000 in
theorem in_any (r : Int) (g c : Nat) (l : List Int) (w : World) (hev : l.length % 2 = 0) (hl : l.length ≤ 1000) (hb : Blk w g 21 (l.map (Value.int .i32)).toArray) :
    Calls Tryd.prog 32 #[.int .i32 r, .slice (some ⟨g, 0, none⟩) l.length c] w fun e w' => e = .returned (.bool (within l r)) ∧ w = w' := by
  have HE := Lib.hid hev
  clear hev
  go_enter Tryd.func32, Tryd.ntmps32
  go_wp2
  go_loop [5] (fun i => ∃ j : Nat, j ≤ l.length ∧ i = .int .i64 j ∧ Hid (j % 2 = 0) ∧ Hid (within (l.drop j) r = within l r)) (fun i => l.length - (intOf i).toNat)
  case atStart => exact ⟨0, Nat.zero_le _, rfl, rfl, rfl⟩
  case round =>
    obtain ⟨j, hj, rfl, HJ, HW⟩ := hrel
    by_cases hlt : j < l.length
    · have hlt2 : j + 1 < l.length := by have h1 := HE.out; have h2 := HJ.out; omega
      obtain ⟨a, ha⟩ : ∃ a, l[j]? = some a := ⟨_, List.getElem?_eq_getElem hlt⟩
      obtain ⟨b, hbb⟩ : ∃ b, l[j + 1]? = some b := ⟨_, List.getElem?_eq_getElem hlt2⟩
      have c1 : w.cell? ⟨g, j, none⟩ = some (.int .i32 a) := by rw [hb.cell]; simp [ha]
      have c2 : w.cell? ⟨g, j + 1, none⟩ = some (.int .i32 b) := by rw [hb.cell]; simp [hbb]
      have HD := Lib.hid (within_drop ha hbb r)
      clear ha hbb
      by_cases h1 : a ≤ r
      · by_cases h2 : r ≤ b
        · have HV : Hid (within l r = true) := by show _ = _; rw [← HW.out, HD.out]; simp [h1, h2]
          go_wp2
          go_ret
          exact ⟨ret_bool HV.out.symm, rfl⟩
        · have HV : Hid (within (l.drop (j + 2)) r = within l r) := by show _ = _; rw [← HW.out, HD.out]; simp [h2]
          go_wp2
          go_round
          case rel => exact ⟨j + 2, by omega, by go_num, by have := HJ.out; show _ = _; omega, HV⟩
          case measure => simp [intOf]; omega
      · have HV : Hid (within (l.drop (j + 2)) r = within l r) := by show _ = _; rw [← HW.out, HD.out]; simp [h1]
        go_wp2
        go_round
        case rel => exact ⟨j + 2, by omega, by go_num, by have := HJ.out; show _ = _; omega, HV⟩
        case measure => simp [intOf]; omega
    · have HV : Hid (within l r = false) := by show _ = _; rw [← HW.out, List.drop_of_length_le (by omega)]; rfl
      go_wp2
      go_ret
      exact ⟨ret_bool HV.out.symm, rfl⟩

set_option maxRecDepth 100000 in
set_option maxHeartbeats 400000 in
theorem widthRef_any (r : Int) (w : World) :
    Calls Tryd.prog 19 #[.int .i32 r] w fun e w' => e = .returned (.int .i64 (width r)) ∧ Below w.heap.size w w' := by
  have HW := Lib.hid (width_eq r)
  by_cases h : r < 32 ∨ (127 ≤ r ∧ r ≤ 159) ∨ 1114111 < r
  · have HV : Hid (width r = -1) := by show _ = _; rw [HW.out, if_pos h]
    have h' : r < 32 ∨ (¬ r < 32 ∧ 127 ≤ r ∧ r ≤ 159) ∨ (¬ r < 32 ∧ 127 ≤ r ∧ ¬ r ≤ 159 ∧ 1114111 < r) := by omega
    clear h
    rcases h' with h | ⟨h1, h2, h3⟩ | ⟨h1, h2, h3, h4⟩
    all_goals
      go_enter Tryd.func19, Tryd.ntmps19
      go_wp2
      go_ret
      exact ⟨ret_int HV.out.symm, Below.refl _ _⟩
  · have h' : (¬ r < 32 ∧ ¬ 127 ≤ r ∧ ¬ 1114111 < r) ∨ (¬ r < 32 ∧ 127 ≤ r ∧ ¬ r ≤ 159 ∧ ¬ 1114111 < r) := by omega
    have HN : Hid (width r = if within zeros r = true then 0 else if within twos r = true then 2 else 1) := by show _ = _; rw [HW.out, if_neg h]
    clear h HW
    have hb1 : Below w.heap.size w (w.alloc (.cells (zeros.map (Value.int .i32)).toArray 21)) := (Below.refl _ _).alloc (Nat.le_refl _) _
    have hb2 : Below w.heap.size w ((w.alloc (.cells (zeros.map (Value.int .i32)).toArray 21)).alloc (.cells (twos.map (Value.int .i32)).toArray 21)) := hb1.alloc (by simp) _
    have hin1 : ∀ b, within zeros r = b → Calls Tryd.prog 32 #[.int .i32 r, .slice (some ⟨w.heap.size, 0, none⟩) 6 6] (w.alloc (.cells (zeros.map (Value.int .i32)).toArray 21)) fun e w' => e = .returned (.bool b) ∧ (w.alloc (.cells (zeros.map (Value.int .i32)).toArray 21)) = w' := fun b hb => by
      rw [← hb]
      exact in_any r w.heap.size 6 zeros _ rfl (by decide) (Blk.new _ _ _)
    have hin2 : ∀ b, within twos r = b → Calls Tryd.prog 32 #[.int .i32 r, .slice (some ⟨w.heap.size + 1, 0, none⟩) 28 28] ((w.alloc (.cells (zeros.map (Value.int .i32)).toArray 21)).alloc (.cells (twos.map (Value.int .i32)).toArray 21)) fun e w' => e = .returned (.bool b) ∧ ((w.alloc (.cells (zeros.map (Value.int .i32)).toArray 21)).alloc (.cells (twos.map (Value.int .i32)).toArray 21)) = w' := fun b hb => by
      rw [← hb]
      have h := in_any r (w.heap.size + 1) 28 twos ((w.alloc (.cells (zeros.map (Value.int .i32)).toArray 21)).alloc (.cells (twos.map (Value.int .i32)).toArray 21)) rfl (by decide) (by have := Blk.new (w.alloc (.cells (zeros.map (Value.int .i32)).toArray 21)) 21 (twos.map (Value.int .i32)).toArray; simpa using this)
      exact h
    have HB1 := Lib.hid hb1
    have HB2 := Lib.hid hb2
    have HI1 := Lib.hid hin1
    have HI2 := Lib.hid hin2
    clear hb1 hb2 hin1 hin2
    cases hz : within zeros r with
    | true =>
      have HV : Hid (width r = 0) := by show _ = _; rw [HN.out, hz, if_pos rfl]
      have HC := Lib.hid (HI1.out true hz)
      clear hz HI1 HI2 HN
      rcases h' with ⟨h1, h2, h3⟩ | ⟨h1, h2, h3, h4⟩
      all_goals
        go_enter Tryd.func19, Tryd.ntmps19
        go_wp2_with (go_at_call 32; refine (HC.out).mono ?_; rintro e w' ⟨rfl, rfl⟩)
        go_ret
        exact ⟨ret_int HV.out.symm, HB1.out⟩
    | false =>
      have HC := Lib.hid (HI1.out false hz)
      cases ht : within twos r with
      | true =>
        have HV : Hid (width r = 2) := by show _ = _; rw [HN.out, hz, if_neg (by simp), ht, if_pos rfl]
        have HC2 := Lib.hid (HI2.out true ht)
        clear hz ht HI1 HI2 HN
        rcases h' with ⟨h1, h2, h3⟩ | ⟨h1, h2, h3, h4⟩
        all_goals
          go_enter Tryd.func19, Tryd.ntmps19
          go_wp2_with fail
          refine HC.out.mono ?_
          rintro e w' ⟨rfl, rfl⟩
          go_wp2_with fail
          refine HC2.out.mono ?_
          rintro e w' ⟨rfl, rfl⟩
          go_wp2_with fail
          go_ret
          exact ⟨ret_int HV.out.symm, HB2.out⟩
      | false =>
        have HV : Hid (width r = 1) := by show _ = _; rw [HN.out, hz, if_neg (by simp), ht, if_neg (by simp)]
        have HC2 := Lib.hid (HI2.out false ht)
        clear hz ht HI1 HI2 HN
        rcases h' with ⟨h1, h2, h3⟩ | ⟨h1, h2, h3, h4⟩
        all_goals
          go_enter Tryd.func19, Tryd.ntmps19
          go_wp2_with fail
          refine HC.out.mono ?_
          rintro e w' ⟨rfl, rfl⟩
          go_wp2_with fail
          refine HC2.out.mono ?_
          rintro e w' ⟨rfl, rfl⟩
          go_wp2_with fail
          go_ret
          exact ⟨ret_int HV.out.symm, HB2.out⟩
end Go.Proofs.YtmnembhfbboljaaDoor.Cel
