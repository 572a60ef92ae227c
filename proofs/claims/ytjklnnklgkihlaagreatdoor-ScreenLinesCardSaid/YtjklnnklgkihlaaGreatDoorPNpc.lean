/- A place is gone to. -/
import Derived.Test.YtjklnnklgkihlaaGreatDoorPNcd
import Derived.Test.YtjklnnklgkihlaaGreatDoorPad
namespace Go.Proofs.YtjklnnklgkihlaaGreatDoor.Scr
open Go.RowKit Cel Sty Grd

def ScP.goTo (S : ScP) (x y : Int) : ScP := { S with now := { S.now with x := x, y := y, wait := false } }
/-- The place on the grid that is nearest. -/
def nearP (n x : Int) : Int := max (min x (n - 1)) 0
section
variable {w : World} {sb g : Nat} {pp tv : Value} {S : ScP} {c r : Nat}
/-- The grid's size, in each world that has but the screen's own block changed. -/
def Sized (w : World) (sb g c r : Nat) : Prop := ∀ V, Only [sb] w V → Calls Tryz.prog 14 #[.pointer (some ⟨g, 0, none⟩)] V (fun e w' => e = .returned (.int .i64 (c : Int)) ∧ V = w') ∧ Calls Tryz.prog 15 #[.pointer (some ⟨g, 0, none⟩)] V (fun e w' => e = .returned (.int .i64 (r : Int)) ∧ V = w')
set_option maxRecDepth 100000 in
set_option maxHeartbeats 4000000 in
theorem place_at (h : scB w sb pp g none tv S) (hz : Sized w sb g c r) (hc1 : 1 ≤ c) (hc2 : c ≤ 250) (hr1 : 1 ≤ r) (hr2 : r ≤ 120) (x y : Int) :
    Calls Tryz.prog 160 #[.pointer (some ⟨sb, 3, none⟩), .agg #[.int .i64 x, .int .i64 y], .pointer (some ⟨g, 0, none⟩)] w fun e w' => e = .returned (.tuple #[]) ∧ scB w' sb pp g none tv (S.goTo (nearP c x) (nearP r y)) ∧ Only [sb] w w' := by
  have hlt := h.lt
  have j1 : IntKind.i64.wrap ((c : Int) - 1) = (c : Int) - 1 := IntWalk.i64_in _ ⟨by omega, by omega⟩
  have j2 : IntKind.i64.wrap ((r : Int) - 1) = (r : Int) - 1 := IntWalk.i64_in _ ⟨by omega, by omega⟩
  have hb0 : Below w.heap.size w (w.alloc (.cells #[.int .i64 x, .int .i64 y] 53)) := (Below.refl _ _).alloc (Nat.le_refl _) _
  have hP := BL.new w 53 [.int .i64 x, .int .i64 y]
  have o0 : Only [] w (w.alloc (.cells #[.int .i64 x, .int .i64 y] 53)) := Only.of_below hb0
  have hW := h.only o0 (by simp)
  have oW : Only [sb] w (w.alloc (.cells #[.int .i64 x, .int .i64 y] 53)) := Only.of_below hb0
  have hbs : w.heap.size ≠ sb := by omega
  have HZ := Lib.hid hz
  clear h hz hb0 o0
  go_enter Tryz.func160, Tryz.ntmps160
  go_upto_region 1 with fail
  generalize w.alloc (.cells #[.int .i64 x, .int .i64 y] 53) = W at *
  obtain ⟨bx, hbx⟩ : ∃ bx, w.heap.size = bx := ⟨_, rfl⟩
  rw [hbx] at hP hbs ⊢
  have od : Only [] W W.drew := (Only.refl _ _).drew
  have hPd := hP.only od (by simp)
  have hWd := hW.only od (by simp)
  have q0 : W.drew.cell? ⟨bx, 0, none⟩ = some (.int .i64 x) := hPd.cell 0
  have q3 : W.drew.cell? ⟨sb, 3, none⟩ = some (.int .i64 S.now.x) := hWd.cell 3
  have q3f : W.drew.frozen? ⟨sb, 3, none⟩ = false := hWd.frozen 3
  have kc := (HZ.out W.drew (oW.trans (od.mono (by simp)))).1
  go_region_law
    (first
      | (go_simp; go_at_call 14; refine kc.mono ?_; rintro _ w4 ⟨rfl, rfl⟩))
  all_goals
    have hX := scB.x (o := none) hW (nearP c x)
    have oX := oW.trans (one_set W sb 3 (.int .i64 (nearP c x)))
    have hPx := hP.only (one_set W sb 3 (.int .i64 (nearP c x))) (by simpa using hbs)
    rw [show max (min x ((c : Int) - 1)) 0 = nearP c x from rfl]
    clear q0 q3 q3f kc hWd hPd od
    generalize W.setCell ⟨sb, 3, none⟩ (.int .i64 (nearP c x)) = W1 at *
    have hP2 := hPx.only (Only.refl [] W1).drew (by simp)
    have hX2 : scB W1.drew sb pp g none tv (S.setX (nearP c x)) := hX.only (Only.refl [] W1).drew (by simp)
    have oX2 := oX.drew
    clear hX oX hPx
    generalize W1.drew = W2 at *
    have hPd := hP2.only (Only.refl [] W2).drew (by simp)
    have hWd : scB W2.drew sb pp g none tv (S.setX (nearP c x)) := hX2.only (Only.refl [] W2).drew (by simp)
    have q1 : W2.drew.cell? ⟨bx, 1, none⟩ = some (.int .i64 y) := hPd.cell 1
    have q4 : W2.drew.cell? ⟨sb, 4, none⟩ = some (.int .i64 S.now.y) := hWd.cell 4
    have q4f : W2.drew.frozen? ⟨sb, 4, none⟩ = false := hWd.frozen 4
    have kr := (HZ.out W2.drew oX2.drew).2
    go_wp2_with fail
    go_region_law
      (first
        | (go_simp; go_at_call 15; refine kr.mono ?_; rintro _ w4 ⟨rfl, rfl⟩))
  all_goals
    have hY := scB.y (o := none) hX2 (nearP r y)
    have oY := oX2.trans (one_set W2 sb 4 (.int .i64 (nearP r y)))
    rw [show max (min y ((r : Int) - 1)) 0 = nearP r y from rfl]
    clear q1 q4 q4f kr hWd hPd hP2
    generalize W2.setCell ⟨sb, 4, none⟩ (.int .i64 (nearP r y)) = W3 at *
    have hY2 : scB W3.drew sb pp g none tv ((S.setX (nearP c x)).setY (nearP r y)) := hY.only (Only.refl [] W3).drew (by simp)
    have oY2 := oY.drew
    have q5 : W3.drew.cell? ⟨sb, 5, none⟩ = some (.bool S.now.wait) := hY2.cell 5
    have q5f := hY2.frozen 5
    have HF := Lib.hid (scB.wait (o := none) hY2 false)
    have HO := Lib.hid (oY2.trans (one_set _ sb 5 (.bool false)))
    clear hY oY hY2 oY2 hX2 oX2 hP hW
    go_wp2_with fail
    exact body_end rfl rfl ⟨rfl, HF.out, HO.out⟩
set_option maxRecDepth 100000 in
set_option maxHeartbeats 1000000 in
theorem goTo_at (h : scB w sb pp g none tv S) (hz : Sized w sb g c r) (hc1 : 1 ≤ c) (hc2 : c ≤ 250) (hr1 : 1 ≤ r) (hr2 : r ≤ 120) (x y : Int) :
    Calls Tryz.prog 129 #[ptrV sb, .int .i64 x, .int .i64 y] w fun e w' => e = .returned (.tuple #[]) ∧ scB w' sb pp g none tv (S.goTo (nearP c x) (nearP r y)) ∧ Only [sb] w w' := by
  have od : Only [] w w.drew := (Only.refl _ _).drew
  have hd := h.only od (by simp)
  have od1 : Only [sb] w w.drew := od.mono (by simp)
  have q1 : w.drew.cell? ⟨sb, 1, none⟩ = some (.pointer (some ⟨g, 0, none⟩)) := hd.cell 1
  have kp := place_at hd (fun V hV => hz V (od1.trans hV)) hc1 hc2 hr1 hr2 x y
  have HK := Lib.hid kp
  clear kp hd h hz
  unfold ptrV
  go_enter Tryz.func129, Tryz.ntmps129
  go_wp2_with fail
  go_region_law
    (first
      | (go_simp; go_at_call 160; refine HK.out.mono ?_; rintro _ w4 ⟨rfl, hb4, ho4⟩))
  all_goals go_wp2_with fail
  all_goals exact body_end rfl rfl ⟨rfl, hb4, od1.trans ho4⟩
set_option maxRecDepth 100000 in
set_option maxHeartbeats 1000000 in
theorem goToLine_at (h : scB w sb pp g none tv S) (hz : Sized w sb g c r) (hc1 : 1 ≤ c) (hc2 : c ≤ 250) (hr1 : 1 ≤ r) (hr2 : r ≤ 120) (ho : S.now.origin = false) (x y : Int) :
    Calls Tryz.prog 208 #[ptrV sb, .int .i64 x, .int .i64 y] w fun e w' => e = .returned (.tuple #[]) ∧ scB w' sb pp g none tv (S.goTo (nearP c x) (nearP r y)) ∧ Only [sb] w w' := by
  have q9 : w.cell? ⟨sb, 9, none⟩ = some (.bool S.now.origin) := h.cell 9
  rw [ho] at q9
  have HK := Lib.hid (goTo_at h hz hc1 hc2 hr1 hr2 x y)
  clear h hz ho
  unfold ptrV at *
  go_enter Tryz.func208, Tryz.ntmps208
  go_wp2_with fail
  refine HK.out.mono ?_
  rintro _ w4 ⟨rfl, hb4, ho4⟩
  go_wp2_with fail
  exact body_end rfl rfl ⟨rfl, hb4, ho4⟩
end
end Go.Proofs.YtjklnnklgkihlaaGreatDoor.Scr
