/- screen.New at sizes that are not allowed. -/
import Derived.Test.YtjklnnklgkihlaaGreatDoorPNne
namespace Go.Proofs.YtjklnnklgkihlaaGreatDoor.Scr
open Go.RowKit Cel Sty Grd

/-- The sizes that a grid may have, and how much it may keep. -/
def mayNew (c r h : Int) : Bool := decide (1 ≤ c ∧ c ≤ 250 ∧ 1 ≤ r ∧ r ≤ 120) && (decide (0 ≤ h) && decide (h ≤ 2000))
set_option maxRecDepth 100000 in
theorem grid_no (c r h : Int) (hno : mayNew c r h = false) (w : World) :
    Calls Tryz.prog 38 #[.int .i64 c, .int .i64 r, .int .i64 h] w fun e w' => e = .returned (.tuple #[.pointer none, .int .i64 1]) ∧ w = w' := by
  obtain ⟨b, hb⟩ : ∃ b, decide (1 ≤ c ∧ c ≤ 250 ∧ 1 ≤ r ∧ r ≤ 120) = b := ⟨_, rfl⟩
  have hs := Lib.hid (fun w => isSize_any c r b hb w)
  unfold mayNew at hno
  rw [hb] at hno
  clear hb
  cases b
  case false =>
    clear hno
    go_enter Tryz.func38, Tryz.ntmps38
    go_wp2_with (go_at_call 61; refine (hs.out _).mono ?_; rintro _ w1 ⟨rfl, rfl⟩)
    exact bodyPost_ret (v := .tuple #[.pointer none, .int .i64 1]) (by simp [results, Tryz.results38, go_sem]) rfl ⟨rfl, rfl⟩
  case true =>
    by_cases h0 : h < 0
    · have d1 : decide (h < 0) = true := by simpa using h0
      clear hno
      go_enter Tryz.func38, Tryz.ntmps38
      go_wp2_with (go_at_call 61; refine (hs.out _).mono ?_; rintro _ w1 ⟨rfl, rfl⟩)
      exact bodyPost_ret (v := .tuple #[.pointer none, .int .i64 1]) (by simp [results, Tryz.results38, go_sem]) rfl ⟨rfl, rfl⟩
    · have d1 : decide (h < 0) = false := by simpa using h0
      have h2 : 2000 < h := by simp at hno; omega
      have d2 : decide (2000 < h) = true := by simpa using h2
      clear hno h0
      go_enter Tryz.func38, Tryz.ntmps38
      go_wp2_with (go_at_call 61; refine (hs.out _).mono ?_; rintro _ w1 ⟨rfl, rfl⟩)
      exact bodyPost_ret (v := .tuple #[.pointer none, .int .i64 1]) (by simp [results, Tryz.results38, go_sem]) rfl ⟨rfl, rfl⟩
set_option maxRecDepth 100000 in
theorem screen_no (c r h : Int) (hno : mayNew c r h = false) (w : World) :
    Calls Tryz.prog 21 #[.int .i64 c, .int .i64 r, .int .i64 h] w fun e w' => e = .returned (.tuple #[.pointer none, .int .i64 1]) ∧ w = w' := by
  have hs := Lib.hid (grid_no c r h hno w)
  clear hno
  go_enter Tryz.func21, Tryz.ntmps21
  go_wp2_with fail
  refine hs.out.mono ?_
  rintro _ w1 ⟨rfl, rfl⟩
  go_wp2_with fail
  exact bodyPost_ret (v := .tuple #[.pointer none, .int .i64 1]) (by simp [results, Tryz.results21, go_sem]) rfl ⟨rfl, rfl⟩
end Go.Proofs.YtjklnnklgkihlaaGreatDoor.Scr
