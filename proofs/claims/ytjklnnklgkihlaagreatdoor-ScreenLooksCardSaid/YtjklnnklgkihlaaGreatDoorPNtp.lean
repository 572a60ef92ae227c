/- CSI H. -/
import Derived.Test.YtjklnnklgkihlaaGreatDoorPba
import Derived.Deep.RegionHeld3
import Derived.Test.YtjklnnklgkihlaaGreatDoorPaj
namespace Go.Proofs.YtjklnnklgkihlaaGreatDoor.Scr
open Go.RowKit Cel Sty Grd

def ordP (l : List Int) (i : Nat) : Int := max (parP l i 1) 1
theorem ordP_le (l : List Int) (i : Nat) : 1 ≤ ordP l i ∧ ordP l i ≤ 9999 := by
  unfold ordP parP
  split <;> omega
section
variable {w : World} {sb g d : Nat} {a : Vt.Ac} {pv av : Value} {B2 : Nat} {pp tv : Value} {S : ScP} {c r : Nat}
set_option maxRecDepth 100000 in
set_option maxHeartbeats 2000000 in
theorem toPlace_at (hD : dgB w d sb a pv av) (hp : Vt.Ints w B2 pv a.ps) (hb : ∀ x ∈ a.ps, -9223372036854775808 ≤ x ∧ x ≤ 9223372036854775807)
    (h : scB w sb pp g none tv S) (hz : Sized w sb g c r) (hc1 : 1 ≤ c) (hc2 : c ≤ 250) (hr1 : 1 ≤ r) (hr2 : r ≤ 120) (ho : S.now.origin = false) :
    Calls Tryz.prog 169 #[ptrV d] w fun e w' => e = .returned (.tuple #[]) ∧ scB w' sb pp g none tv (S.goTo (nearP c (ordP a.ps 1 - 1)) (nearP r (ordP a.ps 0 - 1))) ∧ Only [sb] w w' := by
  have o1 := ordP_le a.ps 1
  have o0 := ordP_le a.ps 0
  have od : Only [] w w.drew := (Only.refl _ _).drew
  have hDd := hD.only od (by simp)
  have hpd := ints_only hp od (by simp)
  have od1 : Only [sb] w w.drew := od.mono (by simp)
  have k1 : Calls Tryz.prog 209 #[ptrV d, .int .i64 1] w.drew fun e w' => e = .returned (.int .i64 (ordP a.ps 1)) ∧ w.drew = w' := ordinal_at hDd hpd hb 1 (by omega)
  have k0 : Calls Tryz.prog 209 #[ptrV d, .int .i64 0] w.drew fun e w' => e = .returned (.int .i64 (ordP a.ps 0)) ∧ w.drew = w' := ordinal_at hDd hpd hb 0 (by omega)
  have q0 : w.drew.cell? ⟨d, 0, none⟩ = some (.pointer (some ⟨sb, 0, none⟩)) := hDd.cell 0
  have kg := goToLine_at (h.only od (by simp)) (fun U hU => hz U (od1.trans hU)) hc1 hc2 hr1 hr2 ho (ordP a.ps 1 - 1) (ordP a.ps 0 - 1)
  generalize ordP a.ps 1 = n1 at *
  generalize ordP a.ps 0 = n0 at *
  have j1 : IntKind.i64.wrap (n1 - 1) = n1 - 1 := IntWalk.i64_in _ ⟨by omega, by omega⟩
  have j0 : IntKind.i64.wrap (n0 - 1) = n0 - 1 := IntWalk.i64_in _ ⟨by omega, by omega⟩
  have HG := Lib.hid kg
  clear hD hDd hp hpd hb h hz ho kg
  unfold ptrV at *
  go_enter Tryz.func169, Tryz.ntmps169
  go_wp2_with fail
  go_region_law
    (first
      | (go_simp; go_at_call 209; refine k1.mono ?_; rintro _ w4 ⟨rfl, rfl⟩)
      | (go_simp; go_at_call 209; refine k0.mono ?_; rintro _ w4 ⟨rfl, rfl⟩)
      | (go_simp; go_at_call 208; refine HG.out.mono ?_; rintro _ w4 ⟨rfl, hb4, ho4⟩))
  all_goals go_wp2_with fail
  all_goals exact body_end rfl rfl ⟨rfl, hb4, od1.trans ho4⟩
end
end Go.Proofs.YtjklnnklgkihlaaGreatDoor.Scr
/- CSI n: where the place is. -/
namespace Go.Proofs.YtjklnnklgkihlaaGreatDoor.Scr
open Go.RowKit Cel Sty Grd

/-- The answer that tells a place. -/
def placeT (x y : Nat) : List UInt8 := [27, 91] ++ Lib.decDigits (y + 1) ++ [59] ++ Lib.decDigits (x + 1) ++ [82]
theorem dec_len (n : Nat) (h : n < 100) : (Lib.decDigits n).length ≤ 2 := by
  rw [Lib.decDigits]
  split
  · simp
  · rw [Lib.decDigits, dif_pos (by omega)]
    simp
section
variable {w : World} {sb g d : Nat} {a : Vt.Ac} {pv : Value} {B2 base : Nat} {pp tv : Value} {S : ScP}
set_option maxRecDepth 100000 in
set_option maxHeartbeats 2000000 in
theorem tellStatus_6 (hD : dgB w d sb a pv (.slice none 0 0)) (hp : Vt.Ints w B2 pv a.ps) (hb : ∀ x ∈ a.ps, -9223372036854775808 ≤ x ∧ x ≤ 9223372036854775807) (h6 : parP a.ps 0 0 = 6)
    (h : scB w sb pp g none tv S) (ho : S.now.origin = false) (x y : Nat) (hx : S.now.x = (x : Int)) (hy : S.now.y = (y : Int)) (hx9 : x < 99) (hy9 : y < 99) (hbase : base ≤ w.heap.size) :
    Calls Tryz.prog 183 #[ptrV d] w fun e w' => e = .returned (.tuple #[]) ∧ ∃ av2, dgB w' d sb a pv av2 ∧ AnsAt w' base av2 (placeT x y) ∧ Only [d] w w' := by
  have kp := param_at hD hp hb 0 (by omega) 0
  rw [h6] at kp
  have q0 : w.cell? ⟨d, 0, none⟩ = some (.pointer (some ⟨sb, 0, none⟩)) := hD.cell 0
  have q4 : w.cell? ⟨sb, 4, none⟩ = some (.int .i64 S.now.y) := h.cell 4
  have q9 : w.cell? ⟨sb, 9, none⟩ = some (.bool S.now.origin) := h.cell 9
  rw [hy] at q4
  rw [ho] at q9
  have od : Only [] w w.drew := (Only.refl _ _).drew
  have hDd := hD.only od (by simp)
  have r0 : w.drew.cell? ⟨d, 0, none⟩ = some (.pointer (some ⟨sb, 0, none⟩)) := hDd.cell 0
  have r3 : w.drew.cell? ⟨sb, 3, none⟩ = some (.int .i64 S.now.x) := (h.only od (by simp)).cell 3
  rw [hx] at r3
  have ky : Calls Tryz.prog 50 #[.int .i64 ((y : Int) + 1)] w.drew fun e w' => e = .returned (.string ⟨(Lib.decDigits (y + 1)).toArray⟩) ∧ w' = w.drew := Tryz.strconv_Itoa_small (y + 1) (by omega) w.drew
  have kx : Calls Tryz.prog 50 #[.int .i64 ((x : Int) + 1)] w.drew fun e w' => e = .returned (.string ⟨(Lib.decDigits (x + 1)).toArray⟩) ∧ w' = w.drew := Tryz.strconv_Itoa_small (x + 1) (by omega) w.drew
  have j1 : IntKind.i64.wrap ((y : Int) + 1) = (y : Int) + 1 := IntWalk.i64_in _ ⟨by omega, by omega⟩
  have j2 : IntKind.i64.wrap ((x : Int) + 1) = (x : Int) + 1 := IntWalk.i64_in _ ⟨by omega, by omega⟩
  have hT : (Vt.bs (placeT x y)) = ((({ data := #[27, 91] } : ByteArray) ++ ⟨(Lib.decDigits (y + 1)).toArray⟩ ++ { data := #[59] } ++ ⟨(Lib.decDigits (x + 1)).toArray⟩ ++ { data := #[82] })) := by
    apply ByteArray.ext
    simp [Vt.bs, placeT, ByteArray.data_append]
  have z1 := dec_len (y + 1) (by omega)
  have z2 := dec_len (x + 1) (by omega)
  have kt := tell_at (L := []) (base := base) hDd (World.ownsRow_nil _ _ _ _) (Nat.le_trans hbase od.size) (placeT x y) (by
    unfold placeT
    simp only [List.length_append, List.length_cons, List.length_nil]
    omega)
  rw [hT] at kt
  generalize Lib.decDigits (y + 1) = ty at *
  generalize Lib.decDigits (x + 1) = tx at *
  have l1 : ¬ 9223372036854775807 < 2 + ty.length := by omega
  have l2 : ¬ 9223372036854775807 < 2 + ty.length + 1 := by omega
  have l3 : ¬ 9223372036854775807 < 2 + ty.length + 1 + tx.length := by omega
  have l4 : ¬ 9223372036854775807 < 2 + ty.length + 1 + tx.length + 1 := by omega
  have KT := Lib.hid kt
  clear kt hT hD hDd hp hb h6 h ho hx hy
  unfold ptrV at *
  go_enter Tryz.func183, Tryz.ntmps183
  go_wp2_with (go_at_call 190; refine kp.mono ?_; rintro _ w1 ⟨rfl, rfl⟩)
  go_region_law
    (first
      | (go_simp; go_at_call 50; refine ky.mono ?_; rintro _ w4 ⟨rfl, rfl⟩)
      | (go_simp; go_at_call 50; refine kx.mono ?_; rintro _ w4 ⟨rfl, rfl⟩)
      | (go_simp; go_at_call 94; refine KT.out.mono ?_; rintro _ w4 ⟨rfl, av2, hD4, hA4, hO4⟩))
  all_goals go_wp2_with fail
  all_goals exact body_end rfl rfl ⟨rfl, av2, hD4, hA4, (od.mono (by simp)).trans (hO4 [] (fun k hk => by cases hk))⟩
end
end Go.Proofs.YtjklnnklgkihlaaGreatDoor.Scr
/- A pen turned to what one number says. -/
namespace Go.Proofs.YtjklnnklgkihlaaGreatDoor.Scr
open Go.RowKit Cel Sty Grd

def attrs : List Int := [0, 1, 2, 4, 8, 16, 0, 32, 64, 128]
def attrCells : Array Value := (attrs.map (Value.int .i64)).toArray
/-- The table of attributes lies below block B. -/
structure TabA (B : Nat) (w : World) : Prop where
  att : ∃ t fr, w.heap[7]? = some (.cells attrCells t fr)
  low : 7 < B
theorem TabA.below {B C : Nat} {w w' : World} (h : TabA B w) (hb : Below C w w') (hC : B ≤ C) : TabA B w' := by
  obtain ⟨t, fr, h1⟩ := h.att
  exact ⟨⟨t, fr, (hb.block _ (by have := h.low; omega)).trans h1⟩, h.low⟩
theorem TabA.only {B : Nat} {w w' : World} {F : List Nat} (h : TabA B w) (ho : Only F w w') (hB : B ≤ w.heap.size) (hF : ∀ x ∈ F, B ≤ x) : TabA B w' := h.below (ho.below hB hF) (Nat.le_refl _)
theorem TabA.at_ {B : Nat} {w : World} (h : TabA B w) (k : Nat) (hk : k < 10) : w.cell? ⟨7, k, none⟩ = some (.int .i64 (attrs.getD k 0)) := by
  obtain ⟨t, fr, h1⟩ := h.att
  rw [cell_of_row w _ k attrCells t fr h1]
  match k, hk with
  | 0, _ => rfl
  | 1, _ => rfl
  | 2, _ => rfl
  | 3, _ => rfl
  | 4, _ => rfl
  | 5, _ => rfl
  | 6, _ => rfl
  | 7, _ => rfl
  | 8, _ => rfl
  | 9, _ => rfl
  | k + 10, hk => exact absurd hk (by omega)
/-- The colour of a number, less the first one of its kind. -/
def colP (n : Int) : Int × Bool := if 0 ≤ n ∧ n < 8 then (n, true) else if n = 9 then (-1, true) else if 60 ≤ n ∧ n < 68 then (n - 60 + 8, true) else (0, false)
set_option maxRecDepth 100000 in
set_option maxHeartbeats 1000000 in
theorem colour_at (n : Int) (h0 : -10000 ≤ n) (h1 : n ≤ 10000) (w : World) : Calls Tryz.prog 234 #[.int .i64 n] w fun e w' => e = .returned (.tuple #[.int .i64 (colP n).1, .bool (colP n).2]) ∧ w = w' := by
  unfold colP
  have j1 : IntKind.i64.wrap (n - 60) = n - 60 := IntWalk.i64_in _ ⟨by omega, by omega⟩
  have j2 : IntKind.i64.wrap (n - 60 + 8) = n - 60 + 8 := IntWalk.i64_in _ ⟨by omega, by omega⟩
  by_cases a1 : 0 ≤ n
  · by_cases a2 : n < 8
    · rw [if_pos ⟨a1, a2⟩]
      go_enter Tryz.func234, Tryz.ntmps234
      go_wp2_with fail
      exact bodyPost_ret (v := .tuple #[.int .i64 n, .bool true]) (by simp [results, Tryz.results234, go_sem]) rfl ⟨rfl, rfl⟩
    · rw [if_neg (fun h => a2 h.2)]
      by_cases a3 : n = 9
      · rw [if_pos a3]
        subst a3
        go_enter Tryz.func234, Tryz.ntmps234
        go_wp2_with fail
        exact bodyPost_ret (v := .tuple #[.int .i64 (-1), .bool true]) (by simp [results, Tryz.results234, go_sem]) rfl ⟨rfl, rfl⟩
      · rw [if_neg a3]
        by_cases a4 : 60 ≤ n
        · by_cases a5 : n < 68
          · rw [if_pos ⟨a4, a5⟩]
            go_enter Tryz.func234, Tryz.ntmps234
            go_wp2_with fail
            exact bodyPost_ret (v := .tuple #[.int .i64 (n - 60 + 8), .bool true]) (by simp [results, Tryz.results234, go_sem]) rfl ⟨rfl, rfl⟩
          · rw [if_neg (fun h => a5 h.2)]
            go_enter Tryz.func234, Tryz.ntmps234
            go_wp2_with fail
            exact bodyPost_ret (v := .tuple #[.int .i64 0, .bool false]) (by simp [results, Tryz.results234, go_sem]) rfl ⟨rfl, rfl⟩
        · rw [if_neg (fun h => a4 h.1)]
          go_enter Tryz.func234, Tryz.ntmps234
          go_wp2_with fail
          exact bodyPost_ret (v := .tuple #[.int .i64 0, .bool false]) (by simp [results, Tryz.results234, go_sem]) rfl ⟨rfl, rfl⟩
  · rw [if_neg (fun h => a1 h.1), if_neg (by omega), if_neg (by omega)]
    have a3 : ¬ n = 9 := by omega
    have a4 : ¬ 60 ≤ n := by omega
    go_enter Tryz.func234, Tryz.ntmps234
    go_wp2_with fail
    exact bodyPost_ret (v := .tuple #[.int .i64 0, .bool false]) (by simp [results, Tryz.results234, go_sem]) rfl ⟨rfl, rfl⟩
/-- The pen behind the two colours; behind the number. -/
def hueP (s : St) (code : Int) : St := (if (colP (code - 30)).2 = true then (colP (code - 30)).1 else s.1, if (colP (code - 40)).2 = true then (colP (code - 40)).1 else s.2.1, s.2.2)
def turnedP (s : St) (code : Int) : St :=
  if code = 0 then (-1, -1, 0)
  else if code < 10 then ((hueP s code).1, (hueP s code).2.1, bits .or .i64 s.2.2 (attrs.getD code.toNat 0))
  else if code = 22 then ((hueP s code).1, (hueP s code).2.1, bits .andNot .i64 s.2.2 3)
  else if 22 < code ∧ code < 30 then ((hueP s code).1, (hueP s code).2.1, bits .andNot .i64 s.2.2 (attrs.getD (code - 20).toNat 0))
  else hueP s code
end Go.Proofs.YtjklnnklgkihlaaGreatDoor.Scr
