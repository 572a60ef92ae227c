/- The walk of what can be told: any action. The walk of what can be told: any action (the rest). -/
import Derived.Test.YtmhmbeofcedjjaaDoorVpa
import Derived.Test.YtmhmbeofcedjjaaDoorShelf
namespace Go.Proofs.YtmhmbeofcedjjaaDoor.Vt
open Go.RowKit
open Cel (Blk Kept Tabs low Owns At)

theorem lib_valid (r : Int) : Lib.validRune r = Utf8.valid r := by
  rw [validRune_eq]; unfold Lib.validRune Go.validRune; simp
theorem it_ne (l : Tx) : (l != []) = !l.isEmpty := by cases l <;> rfl
abbrev acW (w : World) (k r b : Int) (v : Value) (X Z : ByteArray) : World := w.alloc (.cells #[.int .i64 k, .int .i32 r, .int .u8 b, v, .string X, .string Z] 38)
theorem acW_below (w : World) (k r b : Int) (v : Value) (X Z : ByteArray) : Below w.heap.size w (acW w k r b v X Z) := (Below.refl _ _).alloc (Nat.le_refl _) _
def Canned (a : Ac) (w : World) (e : Ending) (w' : World) : Prop := e = .returned (.bool (cbt a)) ∧ Below w.heap.size w w'
section
variable (a : Ac) (A : Option Addr) (c : Nat) (w : World)
set_option maxHeartbeats 1000000 in
theorem can_1 (v : Value) (hk : a.k = 1) : Calls Tryd.prog 16 #[acV a v] w (Canned a w) := by
  have HN : Hid (cbt a = (decide (32 ≤ a.r) && (a.r != 127 && Utf8.valid a.r))) := by show _ = _; unfold cbt; rw [if_pos hk]
  have kb := acW_below w 1 a.r a.b v (bs a.it) (bs a.tx)
  have h1 := Tryd.utf8_ValidRune a.r
  rw [lib_valid] at h1
  unfold acV Canned
  rw [hk]
  generalize cbt a = R at *
  clear hk
  generalize bs a.it = X at *
  generalize bs a.tx = Z at *
  generalize a.r = r at *
  generalize a.b = b at *
  generalize Utf8.valid r = F at *
  by_cases q1 : 32 ≤ r
  · have d1 : decide (32 ≤ r) = true := decide_eq_true q1
    rw [d1] at HN
    by_cases q2 : r = 127
    · subst q2
      go_enter Tryd.func16, Tryd.ntmps16
      go_wp2
      go_ret
      exact ⟨by rw [HN.out]; rfl, kb⟩
    · have d2 : (r != 127) = true := by simpa using q2
      rw [d2] at HN
      clear q2
      go_enter Tryd.func16, Tryd.ntmps16
      go_wp2_with (go_at_call 25; refine (h1 _).mono ?_; rintro e w' ⟨rfl, rfl⟩)
      go_ret
      exact ⟨by rw [HN.out]; cases F <;> rfl, kb⟩
  · have d1 : decide (32 ≤ r) = false := decide_eq_false q1
    rw [d1] at HN
    go_enter Tryd.func16, Tryd.ntmps16
    go_wp2
    go_ret
    exact ⟨by rw [HN.out]; rfl, kb⟩
set_option maxHeartbeats 1000000 in
theorem can_2 (v : Value) (hk : a.k = 2) : Calls Tryd.prog 16 #[acV a v] w (Canned a w) := by
  have HN : Hid (cbt a = (decide (a.b < 32) && (a.b != 24 && (a.b != 26 && a.b != 27)))) := by show _ = _; unfold cbt; rw [if_neg (by omega), if_pos hk]
  have kb := acW_below w 2 a.r a.b v (bs a.it) (bs a.tx)
  have h1 := isControl_any a.b
  unfold acV Canned
  rw [hk]
  generalize cbt a = R at *
  clear hk
  generalize bs a.it = X at *
  generalize bs a.tx = Z at *
  generalize a.r = r at *
  generalize a.b = b at *
  cases q1 : decide (b < 32) with
  | false =>
    rw [q1] at HN h1
    clear q1
    go_enter Tryd.func16, Tryd.ntmps16
    go_wp2_with (go_at_call 26; refine (h1 _).mono ?_; rintro e w' ⟨rfl, rfl⟩)
    go_ret
    exact ⟨by rw [HN.out]; rfl, kb⟩
  | true =>
    rw [q1] at HN h1
    clear q1
    by_cases q2 : b = 24
    · subst q2
      go_enter Tryd.func16, Tryd.ntmps16
      go_wp2_with (go_at_call 26; refine (h1 _).mono ?_; rintro e w' ⟨rfl, rfl⟩)
      go_ret
      exact ⟨by rw [HN.out]; rfl, kb⟩
    · have d2 : (b != 24) = true := by simpa using q2
      rw [d2] at HN
      clear q2
      by_cases q3 : b = 26
      · subst q3
        go_enter Tryd.func16, Tryd.ntmps16
        go_wp2_with (go_at_call 26; refine (h1 _).mono ?_; rintro e w' ⟨rfl, rfl⟩)
        go_ret
        exact ⟨by rw [HN.out]; rfl, kb⟩
      · have d3 : (b != 26) = true := by simpa using q3
        rw [d3] at HN
        clear q3
        cases q4 : (b != 27) with
        | _ =>
          rw [q4] at HN
          go_enter Tryd.func16, Tryd.ntmps16
          go_wp2_with (go_at_call 26; refine (h1 _).mono ?_; rintro e w' ⟨rfl, rfl⟩)
          go_ret
          exact ⟨by rw [HN.out]; rfl, kb⟩
set_option maxHeartbeats 1000000 in
theorem can_3 (v : Value) (hk : a.k = 3) (hl : a.it.length ≤ 1000000000) : Calls Tryd.prog 16 #[acV a v] w (Canned a w) := by
  have HN : Hid (cbt a = (isFin 3 a.b && (btw a.it && (a.it != [] || opens a.b == 0)))) := by show _ = _; unfold cbt; rw [if_neg (by omega), if_neg (by omega), if_pos hk, hk]
  have kb := acW_below w 3 a.r a.b v (bs a.it) (bs a.tx)
  have h1 := isFinal_any 3 a.b
  have h2 := areBetween_any a.it (by omega)
  have h3 := opens_any a.b
  have ho : ((nm (opens a.b)).toList == [103, 114, 111, 117, 110, 100]) = (opens a.b == 0) := by
    have h7 : opens a.b ≤ 7 := by unfold opens; repeat' split
                                  all_goals omega
    rw [(nm_is _ h7).1]
    cases opens a.b <;> simp
  have hb := bs_tl a.it
  unfold acV Canned
  rw [hk]
  generalize cbt a = R at *
  clear hk hl
  generalize btw a.it = F2 at *
  generalize isFin 3 a.b = F1 at *
  generalize a.it = l at *
  generalize bs l = X at *
  generalize bs a.tx = Z at *
  generalize nm (opens a.b) = O at *
  generalize (opens a.b == 0) = F3 at *
  generalize a.r = r at *
  generalize a.b = b at *
  cases F1 with
  | false =>
    clear hb ho
    go_enter Tryd.func16, Tryd.ntmps16
    go_wp2_with (go_at_call 27; refine (h1 _).mono ?_; rintro e w' ⟨rfl, rfl⟩)
    go_ret
    exact ⟨by rw [HN.out]; rfl, kb⟩
  | true =>
    cases F2 with
    | false =>
      clear hb ho
      go_enter Tryd.func16, Tryd.ntmps16
      go_wp2_with (first | (go_at_call 27; refine (h1 _).mono ?_; rintro e w' ⟨rfl, rfl⟩) | (go_at_call 28; refine (h2 _).mono ?_; rintro e w' ⟨rfl, rfl⟩))
      go_ret
      exact ⟨by rw [HN.out]; rfl, kb⟩
    | true =>
      cases l with
      | nil =>
        have x1 : X.toList.isEmpty = true := by rw [hb]; rfl
        have x2 : (X.toList == []) = true := by rw [hb]; rfl
        have x3 : (X.toList != []) = false := by rw [hb]; rfl
        have x4 : X.toList = [] := hb
        clear hb
        cases F3 with
        | _ =>
          go_enter Tryd.func16, Tryd.ntmps16
          go_wp2_with (first | (go_at_call 27; refine (h1 _).mono ?_; rintro e w' ⟨rfl, rfl⟩) | (go_at_call 28; refine (h2 _).mono ?_; rintro e w' ⟨rfl, rfl⟩) | (go_at_call 29; refine (h3 _).mono ?_; rintro e w' ⟨rfl, rfl⟩))
          go_ret
          exact ⟨by rw [HN.out]; rfl, kb⟩
      | cons u t =>
        have x1 : X.toList.isEmpty = false := by rw [hb]; rfl
        have x2 : (X.toList == []) = false := by rw [hb]; rfl
        have x3 : (X.toList != []) = true := by rw [hb]; rfl
        clear hb ho
        go_enter Tryd.func16, Tryd.ntmps16
        go_wp2_with (first | (go_at_call 27; refine (h1 _).mono ?_; rintro e w' ⟨rfl, rfl⟩) | (go_at_call 28; refine (h2 _).mono ?_; rintro e w' ⟨rfl, rfl⟩))
        go_ret
        exact ⟨by rw [HN.out]; rfl, kb⟩
end
end Go.Proofs.YtmhmbeofcedjjaaDoor.Vt
namespace Go.Proofs.YtmhmbeofcedjjaaDoor.Vt
open Go.RowKit
open Cel (Blk Kept Tabs low Owns At)

section
variable (a : Ac) (A : Option Addr) (c : Nat) (w : World)
set_option maxHeartbeats 1000000 in
theorem can_4 (h : RdI w A a.ps) (hl : Fitly a) (hk : a.k = 4) : Calls Tryd.prog 16 #[acV a (.slice A a.ps.length c)] w (Canned a w) := by
  have HN : Hid (cbt a = headOf a) := by show _ = _; unfold cbt; rw [if_neg (by omega), if_neg (by omega), if_neg (by omega), if_pos hk]
  have kb := acW_below w a.k a.r a.b (.slice A a.ps.length c) (bs a.it) (bs a.tx)
  have h1 := isHeadOf_any a A c (acW w a.k a.r a.b (.slice A a.ps.length c) (bs a.it) (bs a.tx)) (h.kept kb) hl
  unfold Canned
  unfold acV at h1 ⊢
  generalize cbt a = R at *
  generalize headOf a = F1 at *
  generalize bs a.it = X at *
  generalize bs a.tx = Z at *
  generalize a.ps.length = n at *
  rw [hk] at h1 kb ⊢
  generalize a.b = b1 at *
  generalize a.r = r1 at *
  have HK := Lib.hid kb
  clear h hl hk kb
  go_enter Tryd.func16, Tryd.ntmps16
  go_wp2_with (go_at_call 30; refine h1.mono ?_; rintro e w' ⟨rfl, hb⟩)
  go_ret
  exact ⟨by rw [HN.out]; rfl, HK.out.trans (hb.mono HK.out.size)⟩
set_option maxHeartbeats 1000000 in
theorem can_5 (v : Value) (hl : Fitly a) (hk : a.k = 5) : Calls Tryd.prog 16 #[acV a v] w (Canned a w) := by
  have HN : Hid (cbt a = textOf a) := by show _ = _; unfold cbt; rw [if_neg (by omega), if_neg (by omega), if_neg (by omega), if_neg (by omega), if_pos hk]
  have kb := acW_below w a.k a.r a.b v (bs a.it) (bs a.tx)
  have h1 := isTextOf_any a v hl.2.1 (acW w a.k a.r a.b v (bs a.it) (bs a.tx))
  unfold Canned
  unfold acV at h1 ⊢
  generalize cbt a = R at *
  generalize textOf a = F1 at *
  generalize bs a.it = X at *
  generalize bs a.tx = Z at *
  rw [hk] at h1 kb ⊢
  generalize a.b = b1 at *
  generalize a.r = r1 at *
  have HK := Lib.hid kb
  clear hl hk kb
  go_enter Tryd.func16, Tryd.ntmps16
  go_wp2_with (go_at_call 31; refine h1.mono ?_; rintro e w' ⟨rfl, hb⟩)
  go_ret
  exact ⟨by rw [HN.out]; rfl, HK.out.trans (hb.mono HK.out.size)⟩
set_option maxHeartbeats 1000000 in
theorem can_6 (h : RdI w A a.ps) (hl : Fitly a) (hk : a.k = 6) : Calls Tryd.prog 16 #[acV a (.slice A a.ps.length c)] w (Canned a w) := by
  have HN : Hid (cbt a = (headOf a && textOf a)) := by show _ = _; unfold cbt; rw [if_neg (by omega), if_neg (by omega), if_neg (by omega), if_neg (by omega), if_neg (by omega), if_pos hk]
  have kb := acW_below w a.k a.r a.b (.slice A a.ps.length c) (bs a.it) (bs a.tx)
  have h1 := isHeadOf_any a A c (acW w a.k a.r a.b (.slice A a.ps.length c) (bs a.it) (bs a.tx)) (h.kept kb) hl
  have h2 := isTextOf_any a (.slice A a.ps.length c) hl.2.1
  have hbl : Blk (acW w a.k a.r a.b (.slice A a.ps.length c) (bs a.it) (bs a.tx)) w.heap.size 38 _ := Blk.new w _ _
  unfold Canned
  unfold acV at h1 h2 ⊢
  generalize cbt a = R at *
  generalize headOf a = F1 at *
  generalize textOf a = F2 at *
  generalize bs a.it = X at *
  generalize bs a.tx = Z at *
  generalize a.ps.length = n at *
  rw [hk] at h1 h2 kb hbl ⊢
  generalize a.b = b1 at *
  generalize a.r = r1 at *
  have HK := Lib.hid kb
  have HBL := Lib.hid hbl
  clear h hl hk kb hbl
  have hz : (acW w 6 r1 b1 (.slice A n c) X Z).heap.size = w.heap.size + 1 := by simp
  have HZ := Lib.hid hz
  clear hz
  cases F1 with
  | false =>
    go_enter Tryd.func16, Tryd.ntmps16
    go_wp2_with (go_at_call 30; refine h1.mono ?_; rintro e w' ⟨rfl, hb⟩)
    go_ret
    exact ⟨by rw [HN.out]; rfl, HK.out.trans (hb.mono HK.out.size)⟩
  | true =>
    go_enter Tryd.func16, Tryd.ntmps16
    go_wp2_with fail
    refine h1.mono ?_
    rintro e w1 ⟨rfl, hb⟩
    have hb1 := HBL.out.below hb (by have := HZ.out; omega)
    have c0 : w1.cell? ⟨w.heap.size, 0, none⟩ = some (.int .i64 6) := hb1.cell 0
    have c1 : w1.cell? ⟨w.heap.size, 1, none⟩ = some (.int .i32 r1) := hb1.cell 1
    have c2 : w1.cell? ⟨w.heap.size, 2, none⟩ = some (.int .u8 b1) := hb1.cell 2
    have c3 : w1.cell? ⟨w.heap.size, 3, none⟩ = some (.slice A n c) := hb1.cell 3
    have c4 : w1.cell? ⟨w.heap.size, 4, none⟩ = some (.string X) := hb1.cell 4
    have c5 : w1.cell? ⟨w.heap.size, 5, none⟩ = some (.string Z) := hb1.cell 5
    go_wp2_with fail
    refine (h2 _).mono ?_
    rintro e w2 ⟨rfl, hb2⟩
    go_wp2
    go_ret
    have k1 := HK.out.trans (hb.mono HK.out.size)
    exact ⟨by rw [HN.out]; rfl, k1.trans (hb2.mono k1.size)⟩
theorem can_0 (v : Value) (hk : a.k ≠ 1 ∧ a.k ≠ 2 ∧ a.k ≠ 3 ∧ a.k ≠ 4 ∧ a.k ≠ 5 ∧ a.k ≠ 6) : Calls Tryd.prog 16 #[acV a v] w (Canned a w) := by
  have HN : Hid (cbt a = false) := by show _ = _; unfold cbt; rw [if_neg hk.1, if_neg hk.2.1, if_neg hk.2.2.1, if_neg hk.2.2.2.1, if_neg hk.2.2.2.2.1, if_neg hk.2.2.2.2.2]
  have kb := acW_below w a.k a.r a.b v (bs a.it) (bs a.tx)
  unfold Canned acV
  generalize cbt a = R at *
  generalize bs a.it = X at *
  generalize bs a.tx = Z at *
  generalize a.b = b1 at *
  generalize a.r = r1 at *
  generalize a.k = k at *
  have d1 : (k == 1) = false := by simp; exact hk.1
  have d2 : (k == 2) = false := by simp; exact hk.2.1
  have d3 : (k == 3) = false := by simp; exact hk.2.2.1
  have d4 : (k == 4) = false := by simp; exact hk.2.2.2.1
  have d5 : (k == 5) = false := by simp; exact hk.2.2.2.2.1
  have d6 : (k == 6) = false := by simp; exact hk.2.2.2.2.2
  clear hk
  go_enter Tryd.func16, Tryd.ntmps16
  go_wp2
  go_ret
  exact ⟨by rw [HN.out]; rfl, kb⟩
theorem canBeTold_any (h : RdI w A a.ps) (hl : Fitly a) : Calls Tryd.prog 16 #[acV a (.slice A a.ps.length c)] w (Canned a w) := by
  by_cases h1 : a.k = 1
  · exact can_1 a w _ h1
  by_cases h2 : a.k = 2
  · exact can_2 a w _ h2
  by_cases h3 : a.k = 3
  · exact can_3 a w _ h3 hl.1
  by_cases h4 : a.k = 4
  · exact can_4 a A c w h hl h4
  by_cases h5 : a.k = 5
  · exact can_5 a w _ hl h5
  by_cases h6 : a.k = 6
  · exact can_6 a A c w h hl h6
  exact can_0 a w _ ⟨h1, h2, h3, h4, h5, h6⟩
end
end Go.Proofs.YtmhmbeofcedjjaaDoor.Vt
