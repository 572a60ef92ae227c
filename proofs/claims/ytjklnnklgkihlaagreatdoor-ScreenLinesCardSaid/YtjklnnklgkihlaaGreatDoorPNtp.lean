/- CSI H. -/
import Derived.Test.YtjklnnklgkihlaaGreatDoorPNpc
import Derived.Deep.RegionHeld3
namespace Go.Proofs.YtjklnnklgkihlaaGreatDoor.Scr
open Go.RowKit Cel Sty Grd

def ordP (l : List Int) (i : Nat) : Int := max (parP l i 1) 1
theorem ordP_le (l : List Int) (i : Nat) : 1 ≤ ordP l i ∧ ordP l i ≤ 9999 := by
  unfold ordP parP
  split <;> omega
section
variable {w : World} {sb g d : Nat} {a : Vt.Ac} {pv av : Value} {B2 : Nat} {pp tv : Value} {S : ScP} {c r : Nat}
set_option maxRecDepth 100000 in
set_option maxHeartbeats 2000000 in
theorem toPlace_at (hD : dgB w d sb a pv av) (hp : Vt.Ints w B2 pv a.ps) (hb : ∀ x ∈ a.ps, -9223372036854775808 ≤ x ∧ x ≤ 9223372036854775807)
    (h : scB w sb pp g none tv S) (hz : Sized w sb g c r) (hc1 : 1 ≤ c) (hc2 : c ≤ 250) (hr1 : 1 ≤ r) (hr2 : r ≤ 120) (ho : S.now.origin = false) :
    Calls Tryz.prog 169 #[ptrV d] w fun e w' => e = .returned (.tuple #[]) ∧ scB w' sb pp g none tv (S.goTo (nearP c (ordP a.ps 1 - 1)) (nearP r (ordP a.ps 0 - 1))) ∧ Only [sb] w w' := by
  have o1 := ordP_le a.ps 1
  have o0 := ordP_le a.ps 0
  have od : Only [] w w.drew := (Only.refl _ _).drew
  have hDd := hD.only od (by simp)
  have hpd := ints_only hp od (by simp)
  have od1 : Only [sb] w w.drew := od.mono (by simp)
  have k1 : Calls Tryz.prog 209 #[ptrV d, .int .i64 1] w.drew fun e w' => e = .returned (.int .i64 (ordP a.ps 1)) ∧ w.drew = w' := ordinal_at hDd hpd hb 1 (by omega)
  have k0 : Calls Tryz.prog 209 #[ptrV d, .int .i64 0] w.drew fun e w' => e = .returned (.int .i64 (ordP a.ps 0)) ∧ w.drew = w' := ordinal_at hDd hpd hb 0 (by omega)
  have q0 : w.drew.cell? ⟨d, 0, none⟩ = some (.pointer (some ⟨sb, 0, none⟩)) := hDd.cell 0
  have kg := goToLine_at (h.only od (by simp)) (fun U hU => hz U (od1.trans hU)) hc1 hc2 hr1 hr2 ho (ordP a.ps 1 - 1) (ordP a.ps 0 - 1)
  generalize ordP a.ps 1 = n1 at *
  generalize ordP a.ps 0 = n0 at *
  have j1 : IntKind.i64.wrap (n1 - 1) = n1 - 1 := IntWalk.i64_in _ ⟨by omega, by omega⟩
  have j0 : IntKind.i64.wrap (n0 - 1) = n0 - 1 := IntWalk.i64_in _ ⟨by omega, by omega⟩
  have HG := Lib.hid kg
  clear hD hDd hp hpd hb h hz ho kg
  unfold ptrV at *
  go_enter Tryz.func169, Tryz.ntmps169
  go_wp2_with fail
  go_region_law
    (first
      | (go_simp; go_at_call 209; refine k1.mono ?_; rintro _ w4 ⟨rfl, rfl⟩)
      | (go_simp; go_at_call 209; refine k0.mono ?_; rintro _ w4 ⟨rfl, rfl⟩)
      | (go_simp; go_at_call 208; refine HG.out.mono ?_; rintro _ w4 ⟨rfl, hb4, ho4⟩))
  all_goals go_wp2_with fail
  all_goals exact body_end rfl rfl ⟨rfl, hb4, od1.trans ho4⟩
end
end Go.Proofs.YtjklnnklgkihlaaGreatDoor.Scr
