/- The law on New. -/
import Derived.Test.YtgnlfikkmomghaaGreatDoorOsw
namespace Go.Proofs.YtgnlfikkmomghaaGreatDoor.Opt
open Go.RowKit Go.Maps

set_option maxRecDepth 100000 in
set_option maxHeartbeats 8000000 in
theorem new_walk {B : Nat} (sc pa : Int) (w : World) (ht : Tabs B w) (hB : B ≤ w.heap.size) :
    Calls Tryz.prog 3 #[.int .i64 sc, .int .i64 pa] w fun e w' => e = .returned (.bool true) ∧ Below w.heap.size w w' := by
  have HS := Lib.hid (shown_any w ht hB)
  clear ht hB
  by_cases hp : pa < 1 ∨ 4 < pa
  · have H1 := Lib.hid (fun w' => new_no pa hp none w')
    have H2 := Lib.hid (fun w' => rnew_no pa hp none w')
    clear hp
    go_enter Tryz.func3, Tryz.ntmps3
    go_wp2_with fail
    refine HS.out.mono ?_
    rintro e w1 ⟨rfl, hb1⟩
    have HB := Lib.hid hb1
    clear hb1 HS
    go_wp2_with fail
    refine (H1.out _).mono ?_
    rintro e w2 ⟨rfl, h2⟩
    subst h2
    go_wp2_with fail
    refine (H2.out _).mono ?_
    rintro e w3 ⟨rfl, h3⟩
    subst h3
    go_wp2_with fail
    go_ret
    exact ⟨rfl, HB.out⟩
  · have hp1 : 1 ≤ pa := by omega
    have hp2 : pa ≤ 4 := by omega
    have H1 := Lib.hid (fun w' => new_nil pa hp1 hp2 w')
    have H2 := Lib.hid (fun w' => rnew_nil pa hp1 hp2 w')
    clear hp
    go_enter Tryz.func3, Tryz.ntmps3
    go_wp2_with fail
    refine HS.out.mono ?_
    rintro e w1 ⟨rfl, hb1⟩
    have HB1 := Lib.hid hb1
    clear hb1 HS
    go_wp2_with fail
    refine (H1.out _).mono ?_
    rintro e w2 ⟨rfl, hA, hb2⟩
    have HA := Lib.hid hA
    have HB2 := Lib.hid (HB1.out.trans (hb2.mono HB1.out.size))
    clear hA hb2 HB1 H1
    go_wp2_with fail
    refine (H2.out _).mono ?_
    rintro e w3 ⟨rfl, hR, hb3⟩
    have HA3 := Lib.hid (show SetB w3 w1.heap.size pa (.map none) none from BL.keep HA.out (hb3.block _ (BL.lt HA.out)))
    have HR := Lib.hid hR
    have HB3 := Lib.hid (HB2.out.trans (hb3.mono HB2.out.size))
    clear hR hb3 HB2 HA H2
    go_wp2_with fail
    by_cases hs : sc < 1 ∨ 4 < sc
    · refine (new_no sc hs _ _).mono ?_
      rintro e w4 ⟨rfl, h4⟩
      subst h4
      go_wp2_with fail
      refine (rnew_no sc hs _ _).mono ?_
      rintro e w5 ⟨rfl, h5⟩
      subst h5
      clear hs
      go_wp2_with fail
      go_ret
      exact ⟨rfl, HB3.out⟩
    · have hs1 : 1 ≤ sc := by omega
      have hs2 : sc ≤ 4 := by omega
      have HRN := Lib.hid (fun w' (h : BL w' w2.heap.size 71 [.int .i64 pa, .pointer none, .slice none 0 0]) => rnew_over sc hs1 hs2 w2.heap.size pa (.pointer none) (.slice none 0 0) w' h)
      clear hs
      by_cases hle : pa ≤ sc
      · have HD := Lib.hid (decide_eq_true hle)
        refine (new_over sc hs1 hs2 w1.heap.size pa (.map none) none _ HA3.out hle).mono ?_
        rintro e w4 ⟨rfl, hS, hb4⟩
        have HS4 := Lib.hid hS
        have HR4 := Lib.hid (HR.out.keep (hb4.block _ HR.out.lt))
        have HB4 := Lib.hid (HB3.out.trans (hb4.mono HB3.out.size))
        clear hS hb4 HB3 HR HA3 hle
        go_wp2_with fail
        refine (HRN.out _ HR4.out).mono ?_
        rintro e w5 ⟨⟨r, rfl⟩, hb5⟩
        rw [HD.out]
        have HS5 := Lib.hid (show SetB w5 w3.heap.size sc (.map none) _ from BL.keep HS4.out (hb5.block _ (BL.lt HS4.out)))
        have HB5 := Lib.hid (HB4.out.trans (hb5.mono HB4.out.size))
        clear hb5 HB4 HR4 HS4 HRN
        go_wp2_with fail
        refine (names_nil _ _ _ _ HS5.out).mono ?_
        rintro e w6 ⟨rfl, hb6⟩
        have HS6 := Lib.hid (show SetB w6 w3.heap.size sc (.map none) _ from BL.keep HS5.out (hb6.block _ (BL.lt HS5.out)))
        have HB6 := Lib.hid (HB5.out.trans (hb6.mono HB5.out.size))
        clear hb6 HB5 HS5
        go_wp2_with fail
        refine (print_nil _ _ _ _ HS6.out).mono ?_
        rintro e w7 ⟨rfl, hb7⟩
        have HB7 := Lib.hid (HB6.out.trans (hb7.mono HB6.out.size))
        clear hb7 HB6 HS6
        go_wp2_with fail
        go_ret
        exact ⟨rfl, HB7.out⟩
      · have HD := Lib.hid (decide_eq_false hle)
        refine (SetB.refuse sc hs1 hs2 w1.heap.size pa (.map none) none _ HA3.out (by omega)).mono ?_
        rintro e w4 ⟨rfl, h4⟩
        subst h4
        clear HA3 hle
        go_wp2_with fail
        refine (HRN.out _ HR.out).mono ?_
        rintro e w5 ⟨⟨r, rfl⟩, hb5⟩
        rw [HD.out]
        have HB5 := Lib.hid (HB3.out.trans (hb5.mono HB3.out.size))
        clear hb5 HB3 HR HRN
        go_wp2_with fail
        go_ret
        exact ⟨rfl, HB5.out⟩
end Go.Proofs.YtgnlfikkmomghaaGreatDoor.Opt
