/- The law on neighbours. -/
import Derived.Test.YtkanglfpiahecaaDoorPYmd
import Derived.Test.YtkanglfpiahecaaDoorPYbe
import Derived.Test.YtkanglfpiahecaaDoorCards
import Derived.Test.YtkanglfpiahecaaDoorTie
import Derived.Test.YtkanglfpiahecaaDoorPFlat
import Derived.Test.YtkanglfpiahecaaDoorPPost
import Derived.ProofKit
import Derived.OpenShut
import Derived.Lay
import Derived.LaidLaws
import Derived.Lib.SmallJoins
import Derived.ChangeMaps5
import Derived.Deep.DeepHandedRow
namespace Go.Proofs.YtkanglfpiahecaaDoor.Lyt
open Go.RowKit

def map4P (c : Int) : Int := if c = 76 then 82 else if c = 82 then 76 else if c = 85 then 68 else if c = 68 then 85 else 0
set_option maxRecDepth 100000 in
theorem map4_at (c : Int) (w : World) : Calls Tryd.prog 15 #[.int .u8 c] w fun e w' => e = .returned (.int .u8 (map4P c)) ∧ w = w' := by
  unfold map4P
  by_cases h1 : c = 76
  · subst h1
    go_enter Tryd.func15, Tryd.ntmps15
    go_wp2_with fail
    go_ret
    exact ⟨rfl, rfl⟩
  by_cases h2 : c = 82
  · subst h2
    go_enter Tryd.func15, Tryd.ntmps15
    go_wp2_with fail
    go_ret
    exact ⟨rfl, rfl⟩
  by_cases h3 : c = 85
  · subst h3
    go_enter Tryd.func15, Tryd.ntmps15
    go_wp2_with fail
    go_ret
    exact ⟨rfl, rfl⟩
  by_cases h4 : c = 68
  · subst h4
    go_enter Tryd.func15, Tryd.ntmps15
    go_wp2_with fail
    go_ret
    exact ⟨rfl, rfl⟩
  rw [if_neg h1, if_neg h2, if_neg h3, if_neg h4]
  go_enter Tryd.func15, Tryd.ntmps15
  go_wp2_with fail
  go_ret
  exact ⟨rfl, rfl⟩
theorem tow_map (c : Int) : (towP c = (-1, false) ∧ map4P c = 0) ∨ (map4P c ≠ 0 ∧ ∃ a on, (a = 0 ∨ a = 1) ∧ towP c = (a, on) ∧ towP (map4P c) = (a, !on)) := by
  unfold map4P
  by_cases h1 : c = 76
  · subst h1; exact .inr ⟨by decide, 0, false, .inl rfl, by decide, by decide⟩
  by_cases h2 : c = 82
  · subst h2; exact .inr ⟨by decide, 0, true, .inl rfl, by decide, by decide⟩
  by_cases h3 : c = 85
  · subst h3; exact .inr ⟨by decide, 1, false, .inr rfl, by decide, by decide⟩
  by_cases h4 : c = 68
  · subst h4; exact .inr ⟨by decide, 1, true, .inr rfl, by decide, by decide⟩
  · refine .inl ⟨?_, ?_⟩
    · unfold towP; rw [if_neg h1, if_neg h2, if_neg h3, if_neg h4]
    · rw [if_neg h1, if_neg h2, if_neg h3, if_neg h4]
set_option maxRecDepth 100000 in
set_option maxHeartbeats 2000000 in
theorem Beside_no {tb k : Nat} {q c : Int} {l : List Bx} {w : World} (ht : towP c = (-1, false))
    (hbx : ∀ V, Below w.heap.size w V → Calls Tryd.prog 8 #[pV tb] V fun e w' => ∃ g cc, e = .returned (.slice (some ⟨g, 0, none⟩) l.length cc) ∧ g < w'.heap.size ∧ (∀ (j : Nat) v, (l.flatMap bxC)[j]? = some v → w'.cell? ⟨g, j, none⟩ = some v) ∧ Below V.heap.size V w')
    (hk : k < l.length) (hkq : l[k].1 = q) (hno : ∀ j (h : j < l.length), j < k → l[j].1 ≠ q) (hl : l.length ≤ 1000000) :
    Calls Tryd.prog 14 #[pV tb, .int .i64 q, .int .u8 c] w fun e w' => e = .returned (.int .i64 0) ∧ Below w.heap.size w w' := by
  have HBX := Lib.hid hbx
  have HTW := Lib.hid (show ∀ V, Calls Tryd.prog 36 #[.int .u8 c] V fun e w' => e = .returned (.tuple #[.int .i64 (-1), .bool false]) ∧ V = w' from fun V => by have := towards_at c V; rwa [ht] at this)
  have HKQ := Lib.hid hkq
  have HNO := Lib.hid hno
  have hN := BL.new w 3 [.int .i64 q]
  have hb0 : Below w.heap.size w (w.alloc (.cells #[.int .i64 q] 3)) := (Below.refl _ _).alloc (Nat.le_refl _) _
  have HB0 := Lib.hid hb0
  have HN := Lib.hid hN
  clear hbx hkq hno hN hb0 ht
  unfold pV at HBX ⊢
  go_enter Tryd.func14, Tryd.ntmps14
  go_wp2_with fail
  refine (HBX.out _ HB0.out).mono ?_
  rintro _ w1 ⟨g, cc, rfl, hg, hc, hb1⟩
  have hq1 : w1.cell? ⟨w.heap.size, 0, none⟩ = some (.int .i64 q) := (HN.out.only (Only.of_below (F := []) hb1) (by simp)).cell 0
  have HF := Lib.hid (Find_at (c := cc) (n0 := w.heap.size) (k := k) (q := q) (l := l) hc hg hq1 hk HKQ.out HNO.out hl)
  have HB1 := Lib.hid (HB0.out.trans (hb1.mono HB0.out.size))
  clear hc hb1 hq1 HBX HB0 HN HNO HKQ
  go_wp2_with fail
  refine HF.out.mono ?_
  rintro _ w2 ⟨rfl, hb2⟩
  have HB2 := Lib.hid (HB1.out.trans (hb2.mono HB1.out.size))
  clear hb2 HF HB1 hg
  go_wp2_with fail
  refine (HTW.out _).mono ?_
  rintro _ w3 ⟨rfl, hw3⟩
  subst hw3
  have k0 : ¬ (k : Int) < 0 := by omega
  clear HTW
  go_wp2_with fail
  go_ret
  exact ⟨rfl, HB2.out⟩
section
variable {w0 wr w' : World} {tb m M : Nat} {T : F}
theorem TS.bx (h : TS w0 tb m M T wr) (hm : m ≤ 40) {l : List Bx} (hl : (T.bxl 0 0)[0]? = some l) : ∀ V, Below wr.heap.size wr V → Calls Tryd.prog 8 #[pV tb] V fun e w' => ∃ g cc, e = .returned (.slice (some ⟨g, 0, none⟩) l.length cc) ∧ g < w'.heap.size ∧ (∀ (j : Nat) v, (l.flatMap bxC)[j]? = some v → w'.cell? ⟨g, j, none⟩ = some v) ∧ Below V.heap.size V w' := fun V hV => by
  refine (ts_boxes (h.below hV) hm).mono ?_
  rintro e w' ⟨l', g, c, he, hl', -, -, hg, hc, -, hb⟩
  obtain rfl : l = l' := Option.some.inj (hl.symm.trans hl')
  exact ⟨g, c, he, hg.2, hc, hb⟩
theorem ts_beside (h : TS w0 tb m M T wr) (hm : m ≤ 40) {l : List Bx} (hl : (T.bxl 0 0)[0]? = some l) (hln : l.length ≤ 1000000) {k : Nat} (hk : k < l.length) {c a : Int} {on : Bool} (ht : towP c = (a, on)) (ha : a = 0 ∨ a = 1) {q : Int} (hq : l[k].1 = q) :
    Calls Tryd.prog 14 #[pV tb, .int .i64 q, .int .u8 c] wr fun e w' => e = .returned (.int .i64 (besideP l[k] l a on)) ∧ TS w0 tb m M T w' ∧ Below wr.heap.size wr w' := by
  have hid := (h.ids hl).1
  refine (Beside_any (k := k) ht ha (h.bx hm hl) hk hq (fun j hj hjk he => by
    have := id_inj hid hj hk (he.trans hq.symm)
    omega) hln).mono ?_
  rintro e w' ⟨he, hb⟩
  exact ⟨he, h.below hb, hb⟩
theorem ts_beside_no (h : TS w0 tb m M T wr) (hm : m ≤ 40) {l : List Bx} (hl : (T.bxl 0 0)[0]? = some l) (hln : l.length ≤ 1000000) {k : Nat} (hk : k < l.length) {c : Int} (ht : towP c = (-1, false)) {q : Int} (hq : l[k].1 = q) :
    Calls Tryd.prog 14 #[pV tb, .int .i64 q, .int .u8 c] wr fun e w' => e = .returned (.int .i64 0) ∧ TS w0 tb m M T w' ∧ Below wr.heap.size wr w' := by
  have hid := (h.ids hl).1
  refine (Beside_no (k := k) ht (h.bx hm hl) hk hq (fun j hj hjk he => by
    have := id_inj hid hj hk (he.trans hq.symm)
    omega) hln).mono ?_
  rintro e w' ⟨he, hb⟩
  exact ⟨he, h.below hb, hb⟩
end
end Go.Proofs.YtkanglfpiahecaaDoor.Lyt
/- The law: neighbours have one another; swapped twice all is as it was. -/
namespace Go.Proofs.YtkanglfpiahecaaDoor.Lyt
open Go.RowKit

set_option maxRecDepth 100000 in
set_option maxHeartbeats 4000000 in
theorem near_walk {B : Nat} (ww hh aa zz way : Int) (hw0 : -9223372036854775808 ≤ ww) (hw1 : ww ≤ 9223372036854775807) (hh0 : -9223372036854775808 ≤ hh) (hh1 : hh ≤ 9223372036854775807) (ha0 : -9223372036854775808 ≤ aa) (ha1 : aa ≤ 9223372036854775807) (hz0 : -9223372036854775808 ≤ zz) (hz1 : zz ≤ 9223372036854775807)
    (A : Option Addr) (n c : Nat) (ops : Nat → OpV) (w : World) (ht : Tab B w) (hB : B ≤ w.heap.size) (hro : RdO w A n ops) :
    Calls Tryd.prog 4 #[.int .i64 ww, .int .i64 hh, .slice A n c, .int .i64 aa, .int .i64 zz, .int .u8 way] w fun e w' => e = .returned (.bool true) ∧ Below w.heap.size w w' := by
  have HT := Lib.hid ht
  have HRO := Lib.hid hro
  have HS := Lib.hid (shown_any w ht hB)
  obtain ⟨pw, hpw, hpw2⟩ := pickS_in ww 60 (by decide)
  obtain ⟨ph, hph, hph2⟩ := pickS_in hh 40 (by decide)
  have p1 := fun V => pick7 ww 60 hw0 hw1 (by decide) (by decide) V
  have p2 := fun V => pick7 hh 40 hh0 hh1 (by decide) (by decide) V
  rw [hpw] at p1
  rw [hph] at p2
  have P1 := Lib.hid p1
  have P2 := Lib.hid p2
  have j1 : IntKind.i64.wrap (1 + (pw : Int)) = 1 + (pw : Int) := IntWalk.i64_in _ ⟨by omega, by omega⟩
  have j2 : IntKind.i64.wrap (1 + (ph : Int)) = 1 + (ph : Int) := IntWalk.i64_in _ ⟨by omega, by omega⟩
  clear p1 p2 hpw hph hw0 hw1 hh0 hh1 ht hro
  go_enter Tryd.func4, Tryd.ntmps4
  go_wp2_with fail
  refine HS.out.mono ?_
  rintro _ w1 ⟨rfl, hb1⟩
  have HB1 := Lib.hid hb1
  have HMd := Lib.hid (made_any (x := 1 + (pw : Int)) (y := 1 + (ph : Int)) (by omega) (by omega) A n c ops w1 (HRO.out.later hb1))
  clear hb1 HS
  unfold pV at HMd
  go_wp2_with fail
  refine (P1.out _).mono ?_
  rintro _ w2 ⟨rfl, rfl⟩
  go_wp2_with fail
  refine (P2.out _).mono ?_
  rintro _ w2 ⟨rfl, rfl⟩
  go_wp2_with fail
  refine HMd.out.mono ?_
  rintro _ w3 ⟨tb, T, rfl, hT⟩
  have HBX := Lib.hid (ts_boxes hT (by omega))
  clear hT HMd P1 P2 HRO
  unfold pV at HBX
  go_wp2_with fail
  refine HBX.out.mono ?_
  rintro _ w4 ⟨l, g, cc, rfl, hlx, hl1, hl2, ⟨-, hg⟩, hlc, hT4, hb4⟩
  obtain ⟨ka, hka, hka2⟩ := pickS_in aa (l.length : Int) (by omega)
  obtain ⟨kb, hkb, hkb2⟩ := pickS_in zz (l.length : Int) (by omega)
  have p4 := fun V => pick7 aa (l.length : Int) ha0 ha1 (by omega) (by omega) V
  have p5 := fun V => pick7 zz (l.length : Int) hz0 hz1 (by omega) (by omega) V
  rw [hka] at p4
  rw [hkb] at p5
  have hkal : ka < l.length := by omega
  have hkbl : kb < l.length := by omega
  obtain ⟨x, hx⟩ : ∃ x, l[ka] = x := ⟨_, rfl⟩
  obtain ⟨y, hy⟩ : ∃ y, l[kb] = y := ⟨_, rfl⟩
  have fx : ∀ k, k < 5 → ∀ v, (bxC x)[k]? = some v → w4.cell? ⟨g, ka * 5 + k, none⟩ = some v := fun k hk v hv => hlc _ _ ((bx_cell (l := l) (i := ka) (b := x) (by rw [List.getElem?_eq_getElem hkal, hx]) k hk).trans hv)
  have fy : ∀ k, k < 5 → ∀ v, (bxC y)[k]? = some v → w4.cell? ⟨g, kb * 5 + k, none⟩ = some v := fun k hk v hv => hlc _ _ ((bx_cell (l := l) (i := kb) (b := y) (by rw [List.getElem?_eq_getElem hkbl, hy]) k hk).trans hv)
  have k0 : (0 : Int) ≤ (ka : Int) := Int.natCast_nonneg _
  have k1 : (0 : Int) ≤ (kb : Int) := Int.natCast_nonneg _
  have hne : ((l.length : Int) == 0) = false := by rw [beq_eq_false_iff_ne]; omega
  obtain ⟨hidn, hall⟩ := hT4.ids hlx
  have hxi := (hall x (by rw [← hx]; exact List.getElem_mem hkal)).2.1
  have hyi := (hall y (by rw [← hy]; exact List.getElem_mem hkbl)).2.1
  have HLX := Lib.hid hlx
  have HLN := Lib.hid (show l.length ≤ 1000000 by omega)
  have HIDN := Lib.hid hidn
  have HALL := Lib.hid hall
  have HX := Lib.hid (show ∃ h : ka < l.length, l[ka] = x from ⟨hkal, hx⟩)
  obtain ⟨L, hL⟩ : ∃ L, l.length = L := ⟨_, rfl⟩
  rw [hL] at p4 p5 hka2 hkb2 hne ⊢
  clear hL
  have HXI := Lib.hid hxi
  have HYI := Lib.hid hyi
  have P4 := Lib.hid p4
  have P5 := Lib.hid p5
  have HT4 := Lib.hid hT4
  have HG := Lib.hid hg
  clear hka hkb p4 p5 hT4 hb4 HBX hl1 hl2 ha0 ha1 hz0 hz1 hidn hall hxi hyi hkal hkbl hx hy hlc hlx
  obtain ⟨x0, x1, x2, x3, x4⟩ := x
  obtain ⟨y0, y1, y2, y3, y4⟩ := y
  have c0 : w4.cell? ⟨g, ka * 5, none⟩ = some (.int .i64 x0) := fx 0 (by omega) _ rfl
  have c1 : w4.cell? ⟨g, ka * 5 + 1, none⟩ = some (.int .i64 x1) := fx 1 (by omega) _ rfl
  have c2 : w4.cell? ⟨g, ka * 5 + 2, none⟩ = some (.int .i64 x2) := fx 2 (by omega) _ rfl
  have c3 : w4.cell? ⟨g, ka * 5 + 3, none⟩ = some (.int .i64 x3) := fx 3 (by omega) _ rfl
  have c4 : w4.cell? ⟨g, ka * 5 + 4, none⟩ = some (.int .i64 x4) := fx 4 (by omega) _ rfl
  have hbA : Below w4.heap.size w4 (w4.alloc (.cells #[.int .i64 x0, .int .i64 x1, .int .i64 x2, .int .i64 x3, .int .i64 x4] 30)) := (Below.refl _ _).alloc (Nat.le_refl _) _
  have up := fun j v (h : w4.cell? ⟨g, j, none⟩ = some v) => (hbA.cell (p := ⟨g, j, none⟩) hg).trans h
  have D := Lib.hid (And.intro (up _ _ (fy 0 (by omega) _ rfl)) (And.intro (up _ _ (fy 1 (by omega) _ rfl)) (And.intro (up _ _ (fy 2 (by omega) _ rfl)) (And.intro (up _ _ (fy 3 (by omega) _ rfl)) (up _ _ (fy 4 (by omega) _ rfl))))))
  have hNA := BL.new w4 30 [.int .i64 x0, .int .i64 x1, .int .i64 x2, .int .i64 x3, .int .i64 x4]
  have HNA := Lib.hid hNA
  have HBA := Lib.hid hbA
  clear fx fy up hNA hbA hg
  go_wp2_with fail
  refine (P4.out _).mono ?_
  rintro _ w5 ⟨rfl, rfl⟩
  go_wp2_with fail
  refine (P5.out _).mono ?_
  rintro _ w5 ⟨rfl, rfl⟩
  obtain ⟨d0, d1, d2, d3, d4⟩ := D.out
  clear c0 c1 c2 c3 c4 P4 P5 D
  have d0 : (w4.alloc (.cells #[.int .i64 x0, .int .i64 x1, .int .i64 x2, .int .i64 x3, .int .i64 x4] 30)).cell? ⟨g, kb * 5, none⟩ = some (.int .i64 y0) := d0
  generalize w4.alloc (.cells #[.int .i64 x0, .int .i64 x1, .int .i64 x2, .int .i64 x3, .int .i64 x4] 30) = W at *
  have hbB : Below W.heap.size W (W.alloc (.cells #[.int .i64 y0, .int .i64 y1, .int .i64 y2, .int .i64 y3, .int .i64 y4] 30)) := (Below.refl _ _).alloc (Nat.le_refl _) _
  have hNB := BL.new W 30 [.int .i64 y0, .int .i64 y1, .int .i64 y2, .int .i64 y3, .int .i64 y4]
  have hTl := HT4.out.tin.lt
  have hxn : w4.heap.size ∉ T.blks := fun h => by have := hTl _ h; omega
  have hyn : W.heap.size ∉ T.blks := fun h => by have := hTl _ h; have := HBA.out.size; omega
  have HS2 := Lib.hid ((HT4.out.below HBA.out).below hbB)
  have HK := Lib.hid (show ∀ V, Only T.blks (W.alloc (.cells #[.int .i64 y0, .int .i64 y1, .int .i64 y2, .int .i64 y3, .int .i64 y4] 30)) V → (V.cell? ⟨w4.heap.size, 0, none⟩ = some (.int .i64 x0) ∧ V.cell? ⟨W.heap.size, 0, none⟩ = some (.int .i64 y0)) from fun V hV =>
    ⟨((HNA.out.only (Only.of_below (F := []) hbB) (by simp)).only hV hxn).cell 0, (hNB.only hV hyn).cell 0⟩)
  clear hTl hxn hyn hbB hNB HNA HBA HT4
  go_wp2_with fail
  clear d0 d1 d2 d3 d4
  generalize W.alloc (.cells #[.int .i64 y0, .int .i64 y1, .int .i64 y2, .int .i64 y3, .int .i64 y4] 30) = W2 at *
  generalize w4.heap.size = xb at *
  generalize W.heap.size = yb at *
  have HEX := Lib.hid (HT.out.on hB HB1.out)
  have HNB := Lib.hid (Nat.le_trans hB HB1.out.size)
  have HPr := Lib.hid (ts_print HS2.out (by omega) (HEX.out.on HNB.out HS2.out.fr) (Nat.le_trans HNB.out HS2.out.fr.size))
  obtain ⟨S, hS⟩ : ∃ S, S = bs (prT T) := ⟨_, rfl⟩
  rw [← hS] at HPr
  have HSS := Lib.hid hS
  clear hS HT HS2
  unfold pV at HPr
  refine HPr.out.mono ?_
  rintro _ w6 ⟨rfl, hT6, hb6⟩
  have ho6 : Only T.blks W2 w6 := Only.of_below hb6
  obtain ⟨hx, hy⟩ := HK.out _ ho6
  obtain ⟨T1, hs1, hs2⟩ := ts_swaps hT6 (by omega) HXI.out HYI.out
  have HO6 := Lib.hid ho6
  have HS1 := Lib.hid hs1
  have HS2 := Lib.hid hs2
  clear hT6 hb6 ho6 hs1 hs2 HPr
  unfold pV at HS1 HS2
  go_wp2_with fail
  refine HS1.out.mono ?_
  rintro _ w7 ⟨rfl, hT7, ho7⟩
  have HO7 := Lib.hid (HO6.out.trans ho7)
  clear hx hy
  obtain ⟨hx, hy⟩ := HK.out _ HO7.out
  have HS3 := Lib.hid (HS2.out _ hT7)
  clear hT7 ho7 HO6 HS1 HS2
  go_wp2_with fail
  refine HS3.out.mono ?_
  rintro _ w8 ⟨rfl, hT8, ho8⟩
  have HO8 := Lib.hid (HO7.out.trans ho8)
  have HPr := Lib.hid (ts_print hT8 (by omega) (HEX.out.on HNB.out hT8.fr) (Nat.le_trans HNB.out hT8.fr.size))
  rw [← HSS.out] at HPr
  unfold pV at HPr
  clear hT8 ho8 HO7 HS3 hx hy
  go_wp2_with fail
  refine HPr.out.mono ?_
  rintro _ w9 ⟨rfl, hT9, hb9⟩
  have HO9 := Lib.hid (HO8.out.trans (Only.of_below hb9))
  obtain ⟨hx, hy⟩ := HK.out _ HO9.out
  obtain ⟨hka, hxe⟩ := HX.out
  have hx1 : l[ka].1 = x0 := by rw [hxe]
  clear hb9 HO8 HPr HSS HEX HNB
  have KM := Lib.hid (fun V => map4_at way V)
  rcases tow_map way with ⟨ht, hm⟩ | ⟨hm, a, on, hao, ht, ht2⟩
  · rw [hm] at KM
    have HBe := Lib.hid (ts_beside_no hT9 (by omega) HLX.out HLN.out hka ht hx1)
    unfold pV at HBe
    clear hT9 ht hm hka hxe hx1
    go_wp2_with fail
    refine HBe.out.mono ?_
    rintro _ w10 ⟨rfl, hT10, -⟩
    have HF := Lib.hid (HB1.out.trans (hT10.fr.mono HB1.out.size))
    clear hT10 HBe
    go_wp2_with fail
    refine (KM.out _).mono ?_
    rintro _ w11 ⟨rfl, hw11⟩
    subst hw11
    go_wp2_with fail
    go_ret
    exact ⟨rfl, HF.out⟩
  · have HBe := Lib.hid (ts_beside hT9 (by omega) HLX.out HLN.out hka ht hao hx1)
    have HT2 := Lib.hid ht2
    have HAO := Lib.hid hao
    have hmq : (map4P way == 0) = false := beq_eq_false_iff_ne.2 hm
    obtain ⟨bk, hbk⟩ : ∃ z, map4P way = z := ⟨_, rfl⟩
    rw [hbk] at KM hmq HT2
    unfold pV at HBe
    rcases beside_mem (b := l[ka]) (l := l) (a := a) (on := on) with ⟨hz, -⟩ | ⟨j, hj, hz, hsd⟩
    · rw [hz] at HBe
      clear hT9 ht hm hz hka hxe hx1 hbk ht2 hao
      go_wp2_with fail
      refine HBe.out.mono ?_
      rintro _ w10 ⟨rfl, hT10, -⟩
      have HF := Lib.hid (HB1.out.trans (hT10.fr.mono HB1.out.size))
      clear hT10 HBe
      go_wp2_with fail
      refine (KM.out _).mono ?_
      rintro _ w11 ⟨rfl, hw11⟩
      subst hw11
      go_wp2_with fail
      go_ret
      exact ⟨rfl, HF.out⟩
    · rw [hz] at HBe
      have hal := HALL.out l[j] (List.getElem_mem hj)
      have hback := beside_back hka hj hsd (fun b hb => ((HALL.out b hb).1).1)
      have hq0 : (l[j].1 == x0) = false := beq_eq_false_iff_ne.2 (fun he => by
        have hjk := id_inj HIDN.out hj hka (he.trans hx1.symm)
        subst hjk
        have hself : sideP l[j] a on l[j] = false := by
          unfold sideP
          rw [next_self hal.2.2]
          cases on <;> rfl
        rw [hself] at hsd
        cases hsd)
      have hq2 : l[j].1 ≠ x0 := beq_eq_false_iff_ne.1 hq0
      have hq3 : (l[j].1 != x0) = true := by rw [bne, hq0]; rfl
      have hq1 : (l[j].1 == 0) = false := beq_eq_false_iff_ne.2 (fun he => by have := hal.1.1; omega)
      have HIn := Lib.hid hal.2.1
      have HHas := Lib.hid (fun V (h : TS w1 tb 31 31 T V) => ts_has_yes h (by omega) HIn.out)
      have HB2 := Lib.hid (fun V (h : TS w1 tb 31 31 T V) => ts_beside h (by omega) HLX.out HLN.out hj HT2.out HAO.out (q := l[j].1) rfl)
      obtain ⟨m, hmv⟩ : ∃ m, besideP l[j] l a (!on) = m := ⟨_, rfl⟩
      rw [hmv] at hback HB2
      have hmz : (m == 0) = false := beq_eq_false_iff_ne.2 hback
      have hm2 : m ≠ 0 := hback
      have hm3 : (m != 0) = true := by rw [bne, hmz]; rfl
      generalize l[j].1 = q at *
      unfold pV at HHas HB2
      clear hT9 ht hm hz hsd hka hxe hx1 hbk ht2 hao hal hback hmv hj
      go_wp2_with fail
      refine HBe.out.mono ?_
      rintro _ w10 ⟨rfl, hT10, hb10⟩
      have HO10 := Lib.hid (HO9.out.trans (Only.of_below hb10))
      have HH := Lib.hid (HHas.out _ hT10)
      clear hT10 hb10 HBe HHas hx hy HO9
      go_wp2_with fail
      refine (KM.out _).mono ?_
      rintro _ w11 ⟨rfl, hw11⟩
      subst hw11
      go_wp2_with fail
      refine HH.out.mono ?_
      rintro _ w12 ⟨rfl, hT12, hb12⟩
      obtain ⟨hx, hy⟩ := HK.out _ (HO10.out.trans (Only.of_below hb12))
      have HB3 := Lib.hid (HB2.out _ hT12)
      clear hT12 hb12 HB2 HH HO10
      go_wp2_with fail
      refine HB3.out.mono ?_
      rintro _ w13 ⟨rfl, hT13, -⟩
      have HF := Lib.hid (HB1.out.trans (hT13.fr.mono HB1.out.size))
      clear hT13 HB3
      go_wp2_with fail
      go_ret
      exact ⟨rfl, HF.out⟩
end Go.Proofs.YtkanglfpiahecaaDoor.Lyt
/- The rows' condition gives the walks what they need of the tables; a world that meets it; calls that came in. -/
namespace Go.Proofs.YtkanglfpiahecaaDoor.Lyt
open Go.RowKit Go.ChangeShapes Go.WideShapes Go.ChangeAt Go.Joins

theorem gDb7 : Tryd.prog.globalNamed "math/bits.deBruijn64tab" = some 3 := by kernel_rfl
theorem tDb7 : (Tryd.prog.globals[3]?).map (·.type) = some 127 := by kernel_rfl
theorem tightDb7 : Flat.tight Tryd.prog 4 127 = true := by kernel_rfl
set_option maxRecDepth 100000 in
theorem flatDb7 : (Flat.flat (Rows.laid_math_bits_deBruijn64tab (H := Unit))).toArray = dbCells := by kernel_rfl
theorem tU107 : (Tryd.prog.globals[0]?).map (·.type) = some 121 := by kernel_rfl
theorem tightU107 : Flat.tight Tryd.prog 4 121 = true := by kernel_rfl
set_option maxRecDepth 100000 in
theorem flatU107 : (Flat.flat (Rows.laid_internal_strconv_uint64pow10 (H := Unit))).toArray = u10Cells := by kernel_rfl
theorem tab_of {W : World} (h : laidMetH Tryd.prog Rows.layoutUndoesRow.laid W) : Tab W.heap.size W := by
  rw [MakeChecks.laidMetH_plain _ _ _ (by kernel_rfl)] at h
  obtain ⟨ps, ⟨ga, ta, csa, fa, pa, qa, hga, hta, hva, hda, ⟨gb, tb, csb, fb, pb, qb, hgb, htb, hvb, hdb, ⟨gc, tc, csc, fc, pc, qc, hgc, htc, hvc, hdc, _⟩, _⟩, _⟩, _⟩ := h
  clear hga hta hva hda
  obtain rfl := Option.some.inj (gDb7.symm.trans hgb)
  obtain rfl := Option.some.inj (tDb7.symm.trans htb)
  have hb := Flat.cells_of_read gDb7 hvb 4 tightDb7 hdb
  rw [flatDb7] at hb
  obtain rfl := Option.some.inj (gU10.symm.trans hgc)
  obtain rfl := Option.some.inj (tU107.symm.trans htc)
  have hc := Flat.cells_of_read gU10 hvc 4 tightU107 hdc
  rw [flatU107] at hc
  have lb : _ < W.heap.size := (Array.getElem?_eq_some_iff.1 hb.choose_spec.choose_spec).1
  have lc : _ < W.heap.size := (Array.getElem?_eq_some_iff.1 hc.choose_spec.choose_spec).1
  exact ⟨⟨lc, lb⟩, hc, hb⟩

/-- A world for the witness: the settled one, every listed variable as the row lists it. -/
noncomputable def laidWorld (os : Os) : World := World.laidAll Tryd.prog os Rows.layoutUndoesRow.laid
theorem own : ownKnob Tryd.prog.godebug = none := by kernel_rfl
theorem laid_met (os : Os) (args : Array Value) : laidMet Tryd.prog Rows.layoutUndoesRow.laid ((laidWorld os).forCall (fun _ _ => 0) ⟨#[], args, []⟩).memory := laidMet_laidAll _ (by kernel_rfl) (by kernel_rfl)
theorem shaped (os : Os) (args : Array Value) : ((laidWorld os).forCall (fun _ _ => 0) ⟨#[], args, []⟩).Shaped Tryd.prog := World.shaped_of_ZipB (by kernel_rfl) (by kernel_rfl)
theorem witness_row_shaped {H : Type} {enc : TypeId × Value → H} {C : Checked} {os : Os} {f : FuncId} {fn : Func} {s : OpenSpec} {conds : List PathCond} {apart : Bool} {laid : List (String × DataW Unit)} (w0 : World) (args : Array Value) (hos : w0.os = os)
    (hsh : (w0.forCall (fun _ _ => 0) ⟨#[], args, []⟩).Shaped C.prog)
    (hok : Input.okWideB C.prog (w0.forCall (fun _ _ => 0) ⟨#[], args, []⟩) f ⟨#[], args, []⟩ = true)
    (hrow : s.preRow enc C.prog fn conds apart laid (w0.forCall (fun _ _ => 0) ⟨#[], args, []⟩).memory args) :
    ∃ (w : World) (tape : Tape) (i : Input), w.os = os ∧ (w.forCall tape i).Shaped C.prog ∧ i.vars = [] ∧ Input.okWide C.prog (w.forCall tape i) .any w.heap.size f i ∧
      s.preRow enc C.prog fn conds apart laid (w.forCall tape i).memory i.args ∧ ({} : Assume).holds C.prog (lone (Frame.enter C.prog f i.args .normal) [] (w.forCall tape i)) :=
  ⟨w0, fun _ _ => 0, ⟨#[], args, []⟩, hos, hsh, (Input.okWide_of_okWideB (base := 0) hok).1, (Input.okWide_of_okWideB hok).2, hrow, by simp [Assume.holds]⟩
theorem k_int7 : Tryd.prog.cellsOf 3 = 1 := by kernel_rfl
theorem k_u87 : Tryd.prog.cellsOf 5 = 1 := by kernel_rfl
theorem k_bool7 : Tryd.prog.cellsOf 4 = 1 := by kernel_rfl
theorem k_str7 : Tryd.prog.cellsOf 9 = 1 := by kernel_rfl
theorem k_op7 : Tryd.prog.cellsOf 47 = 8 := by kernel_rfl
section
variable {H : Type} {enc : TypeId × Value → H} {w : World}
set_option maxRecDepth 100000 in
theorem open_op {n : Nat} {cs : List Value} {y : DataW H × List MemPlace} (h : DataW.trod enc Tryd.prog w 0 (fun _ => true) true n 47 cs = some y) : ∃ o : OpV, cs = opL o ∧ o.ok := by
  obtain ⟨xs, m, _, hx, hl, hlen, hf⟩ := DataW.trod_struct Tryd.underlying47 h
  rw [k_op7] at hl
  match cs, hl, xs, hlen with
  | [c0, c1, c2, c3, c4, c5, c6, c7], _, [y0, y1, y2, y3, y4, y5, y6, y7], _ =>
    have g0 : DataW.trod enc Tryd.prog w 0 (fun _ => true) true m 3 [c0] = some y0 := by simpa [k_int7] using hf 0 _ rfl
    have g1 : DataW.trod enc Tryd.prog w 0 (fun _ => true) true m 3 [c1] = some y1 := by simpa [k_int7] using hf 1 _ rfl
    have g2 : DataW.trod enc Tryd.prog w 0 (fun _ => true) true m 3 [c2] = some y2 := by simpa [k_int7] using hf 2 _ rfl
    have g3 : DataW.trod enc Tryd.prog w 0 (fun _ => true) true m 3 [c3] = some y3 := by simpa [k_int7] using hf 3 _ rfl
    have g4 : DataW.trod enc Tryd.prog w 0 (fun _ => true) true m 5 [c4] = some y4 := by simpa [k_u87] using hf 4 _ rfl
    have g5 : DataW.trod enc Tryd.prog w 0 (fun _ => true) true m 4 [c5] = some y5 := by simpa [k_bool7] using hf 5 _ rfl
    have g6 : DataW.trod enc Tryd.prog w 0 (fun _ => true) true m 4 [c6] = some y6 := by simpa [k_bool7] using hf 6 _ rfl
    have g7 : DataW.trod enc Tryd.prog w 0 (fun _ => true) true m 9 [c7] = some y7 := by simpa [k_str7] using hf 7 _ rfl
    obtain ⟨k, e0, _, _⟩ := DataW.trod_int Tryd.underlying3 g0
    obtain ⟨a, e1, _, wa⟩ := DataW.trod_int Tryd.underlying3 g1
    obtain ⟨b, e2, _, _⟩ := DataW.trod_int Tryd.underlying3 g2
    obtain ⟨nn, e3, _, wn⟩ := DataW.trod_int Tryd.underlying3 g3
    obtain ⟨way, e4, _, _⟩ := DataW.trod_int Tryd.underlying5 g4
    obtain ⟨be, e5, _⟩ := DataW.trod_bool Tryd.underlying4 g5
    obtain ⟨bf, e6, _⟩ := DataW.trod_bool Tryd.underlying4 g6
    obtain ⟨s, e7, _, _⟩ := DataW.trod_string Tryd.underlying9 g7
    simp [Lit.wf, IntKind.min, IntKind.max, IntKind.signed, IntKind.bits] at wa wn
    injection e0 with e0
    injection e1 with e1
    injection e2 with e2
    injection e3 with e3
    injection e4 with e4
    injection e5 with e5
    injection e6 with e6
    injection e7 with e7
    exact ⟨⟨k, a, b, nn, way, be, bf, s⟩, by unfold opL; simp only; rw [e0, e1, e2, e3, e4, e5, e6, e7], wa, wn⟩
set_option maxRecDepth 100000 in
theorem open_ops {r : Reach} {b0 : Nat} {v : Value} {d : DataW H} {p : List MemPlace}
    (hv : Value.okWide Tryd.prog w r b0 22 v) (h : DataW.Trod enc Tryd.prog w 0 (fun _ => true) true 22 v d p) :
    ∃ (A : Option Addr) (n c : Nat) (ops : Nat → OpV), v = .slice A n c ∧ RdO w A n ops := by
  obtain ⟨a0, n0, c0, rfl⟩ := okWide_slice Tryd.underlying22 hv
  obtain ⟨fuel, hf⟩ := h
  rcases DataW.trod_slice Tryd.underlying22 hf with ⟨e, _⟩ | ⟨a, len, cap, elems, rest, n, _, e, hx, _, hl, hm, hel, hat, _, _⟩
  · simp [Value.cells] at e
    obtain ⟨rfl, rfl, rfl⟩ := e
    exact ⟨none, 0, 0, fun _ => ⟨0, 0, 0, 0, 0, false, false, ⟨#[]⟩⟩, rfl, (fun k hk => by simp at hk)⟩
  · simp [Value.cells] at e
    obtain ⟨rfl, rfl, rfl⟩ := e
    rw [k_op7] at hat
    have hex : ∀ k, ∃ o : OpV, k < n0 → o.ok ∧ ∀ j, j < 8 → w.cell? ((a.add (k * 8)).add j) = (opL o)[j]? := fun k => by
      by_cases hk : k < n0
      · have h1 := hat k hk
        rw [List.getElem?_eq_getElem (show k < elems.length by omega)] at h1
        obtain ⟨cs, hcs, ht⟩ := Option.bind_eq_some_iff.1 h1
        obtain ⟨o, rfl, hok⟩ := open_op ht
        obtain ⟨_, _, hc⟩ := World.cells?_some hcs
        exact ⟨o, fun _ => ⟨hok, hc⟩⟩
      · exact ⟨⟨0, 0, 0, 0, 0, false, false, ⟨#[]⟩⟩, fun h => absurd h hk⟩
    obtain ⟨ops, hops⟩ : ∃ ops : Nat → OpV, ∀ k, k < n0 → (ops k).ok ∧ ∀ j, j < 8 → w.cell? ((a.add (k * 8)).add j) = (opL (ops k))[j]? := ⟨fun k => Classical.choose (hex k), fun k => Classical.choose_spec (hex k)⟩
    clear hex hat hx hf hv
    refine ⟨some a, n0, c0, ops, rfl, fun k hk => ?_⟩
    have h0 := (hops 0 (by omega)).2 0 (by omega)
    obtain ⟨hok, hcell⟩ := hops k hk
    clear hops
    obtain ⟨g, o, sp⟩ := a
    have e0 : (((⟨g, o, sp⟩ : Addr).add (0 * 8)).add 0) = ⟨g, o, sp⟩ := by unfold Addr.add; simp
    rw [e0] at h0
    have h0' : w.cell? ⟨g, o, sp⟩ = some (.int .i64 (ops 0).k) := h0
    clear h0 e0
    have hsn : sp = none := by
      unfold World.cell? at h0'
      cases sp with
      | none => rfl
      | some x => simp at h0'; split at h0' <;> simp at h0'
    subst hsn
    have hg : g < w.heap.size := by
      rcases Nat.lt_or_ge g w.heap.size with q | q
      · exact q
      · unfold World.cell? at h0'
        simp [Array.getElem?_eq_none q] at h0'
    refine ⟨g, o, rfl, hg, hok, fun j hj => ?_⟩
    have h1 := hcell j hj
    have ek : (((⟨g, o, none⟩ : Addr).add (k * 8)).add j) = ⟨g, o + k * 8 + j, none⟩ := by
      unfold Addr.add
      by_cases hk0 : k * 8 = 0
      · by_cases hj0 : j = 0
        · simp [hk0, hj0]
        · simp [hk0, hj0]
      · by_cases hj0 : j = 0
        · simp [hk0, hj0]
        · simp [hk0, hj0]
    rw [ek] at h1
    exact h1
end
end Go.Proofs.YtkanglfpiahecaaDoor.Lyt
/- LayoutNeighbours: its card. No condition beyond the listed tables, tied to the text. -/
namespace Go.Proofs.YtkanglfpiahecaaDoor.Lyt
open Go.RowKit Go.ChangeShapes Go.WideShapes Go.ChangeAt Go.ChangeMaps

namespace LawLayoutNeighbours
set_option maxRecDepth 100000 in
theorem contract (H : Type) (enc : TypeId × Value → H) (W : World) (base : Nat) (args : Array Value) (ds gs : List (DataW H)) (before : List MemPlace)
    (hval : ∀ (j : Nat) t v, Tryd.f4.params[j]? = some t → args[j]? = some v → Value.okWide Tryd.prog W .any base t v)
    (hW : DataW.Whole enc Tryd.prog Tryd.f4.params.toList Rows.layoutNeighboursSpec.vars false W args.toList ds gs before) (hL : laidMetH Tryd.prog Rows.layoutNeighboursRow.laid W) :
    Calls Tryd.prog 4 args W fun e W' => ∃ v, e = .returned v ∧ Rows.layoutNeighboursSpec.post enc Tryd.prog Tryd.f4 false true false false W args v W' := by
  have hW' := hW
  obtain ⟨p, q, hA0, hV, hbefore, hfz, hnd⟩ := hW
  have hA : DataW.TrodAll enc Tryd.prog W 0 (fun _ => true) true Tryd.f4.params.toList args.toList ds p := hA0
  rw [Tryd.params4] at hA hval
  obtain ⟨v0, vs0, d0, ds0, p0, q0, hargs, rfl, rfl, h0, r0⟩ := trodAll_cons hA
  obtain ⟨v1, vs1, d1, ds1, p1, q1, rfl, rfl, rfl, h1, r1⟩ := trodAll_cons r0
  obtain ⟨v2, vs2, d2, ds2, p2, q2, rfl, rfl, rfl, h2, r2⟩ := trodAll_cons r1
  obtain ⟨v3, vs3, d3, ds3, p3, q3, rfl, rfl, rfl, h3, r3⟩ := trodAll_cons r2
  obtain ⟨v4, vs4, d4, ds4, p4, q4, rfl, rfl, rfl, h4, r4⟩ := trodAll_cons r3
  obtain ⟨v5, vs5, d5, ds5, p5, q5, rfl, rfl, rfl, h5, r5⟩ := trodAll_cons r4
  obtain ⟨rfl, rfl, rfl⟩ := trodAll_nil r5
  obtain rfl : args = #[v0, v1, v2, v3, v4, v5] := by cases args; simp_all
  obtain ⟨rfl, rfl⟩ := trodVars_none hV
  have fin : ∀ W' : World, Below W.heap.size W W' → Rows.layoutNeighboursSpec.post enc Tryd.prog Tryd.f4 false true false false W #[v0, v1, v2, v3, v4, v5] (.bool true) W' := fun W' hb =>
    Post.law_post (by kernel_rfl) (by kernel_rfl) rfl (by kernel_rfl) Tryd.underlying4 hW' rfl hb
  obtain ⟨x0, rfl, rfl, rfl, hx0⟩ := open_int Tryd.underlying3 (hval 0 3 v0 rfl rfl) h0
  simp [Lit.wf, IntKind.min, IntKind.max, IntKind.signed, IntKind.bits] at hx0
  obtain ⟨x1, rfl, rfl, rfl, hx1⟩ := open_int Tryd.underlying3 (hval 1 3 v1 rfl rfl) h1
  simp [Lit.wf, IntKind.min, IntKind.max, IntKind.signed, IntKind.bits] at hx1
  obtain ⟨A2, n2, c2, ops2, rfl, hrd2⟩ := open_ops (hval 2 22 v2 rfl rfl) h2
  obtain ⟨x3, rfl, rfl, rfl, hx3⟩ := open_int Tryd.underlying3 (hval 3 3 v3 rfl rfl) h3
  simp [Lit.wf, IntKind.min, IntKind.max, IntKind.signed, IntKind.bits] at hx3
  obtain ⟨x4, rfl, rfl, rfl, hx4⟩ := open_int Tryd.underlying3 (hval 4 3 v4 rfl rfl) h4
  simp [Lit.wf, IntKind.min, IntKind.max, IntKind.signed, IntKind.bits] at hx4
  obtain ⟨x5, rfl, rfl, rfl, hx5⟩ := open_int Tryd.underlying5 (hval 5 5 v5 rfl rfl) h5
  simp [Lit.wf, IntKind.min, IntKind.max, IntKind.signed, IntKind.bits] at hx5
  clear hA0 hA
  refine (near_walk x0 x1 x3 x4 x5 (by omega) (by omega) (by omega) (by omega) (by omega) (by omega) (by omega) (by omega) A2 n2 c2 ops2 W (tab_of hL) (Nat.le_refl _) hrd2).mono fun e W' ⟨he, hg⟩ => ?_
  subst he
  exact ⟨_, rfl, fin W' hg⟩

theorem reads (os : Os) {H : Type} (enc : TypeId × Value → H) : ∃ places, DataW.whole enc Tryd.prog ((laidWorld os).forCall (fun _ _ => 0) ⟨#[], #[.int .i64 0, .int .i64 0, .slice none 0 0, .int .i64 0, .int .i64 0, .int .u8 0], []⟩).memory Tryd.f4.params.toList Rows.layoutNeighboursSpec.vars false #[.int .i64 0, .int .i64 0, .slice none 0 0, .int .i64 0, .int .i64 0, .int .u8 0].toList 8 = some ([.lit (.int .i64 0), .lit (.int .i64 0), .nil, .lit (.int .i64 0), .lit (.int .i64 0), .lit (.int .u8 0)], [], places) :=
  ⟨[], by kernel_rfl⟩

set_option maxRecDepth 100000 in
theorem lifted (os : Os) (started : os.Started) (H : Type) (enc : TypeId × Value → H) (F : Stop.Interp) :
    ReturnsInHanded {} Tryd.checked os 4 .any ((OpenSpec.ofChange Rows.layoutNeighboursSpec).preRow enc Tryd.prog Tryd.f4 Rows.layoutNeighboursRow.domain false Rows.layoutNeighboursRow.laid) (((OpenSpec.ofChange Rows.layoutNeighboursSpec).at F).post enc Tryd.prog Tryd.f4 false true false false) := by
  obtain ⟨places, hx⟩ := reads os enc
  refine returnsInHanded_of_row (C := Tryd.checked) (s := OpenSpec.ofChange Rows.layoutNeighboursSpec) own started (by kernel_rfl) Tryd.func4
    (witness_row_shaped (enc := enc) (C := Tryd.checked) (laidWorld os) #[.int .i64 0, .int .i64 0, .slice none 0 0, .int .i64 0, .int .i64 0, .int .u8 0] (World.laidAll_os _ _ _) (shaped os _) (by kernel_rfl)
      (OpenSpec.preRow_of_cond 8 hx (by kernel_rfl) (fun k hk => by cases hk) (by kernel_rfl) (laid_met os _))) ?_
  intro W base args ds gs before hval hW _ _ _ hL _ _
  exact contract H enc W base args ds gs before hval hW hL

theorem said : Rows.LayoutNeighboursSaid :=
  OpenClaim.holds_of_cond 4 Tryd.f4 rfl rfl rfl rfl rfl rfl rfl ⟨rfl, rfl, rfl, rfl, rfl⟩ rfl rfl rfl rfl rfl (by kernel_rfl) Tryd.func4 (by kernel_rfl)
    (of_decide_eq_true (by kernel_rfl)) (by unfold Func.isWrapper; first | (rw [if_pos (by decide +kernel)]; kernel_rfl) | (rw [if_neg (by decide +kernel)]; exact ⟨rfl, rfl⟩))
    (fun os started H enc _ F => by rw [OpenClaim.pre_eq_preRow]; exact lifted os started H enc F)

/-- No parameter wants a stand-in; the program's own looks. -/
theorem plain (f : FuncId) (fn : Func) (hf : Tryd.pinned.checked.prog.funcNamed Rows.layoutNeighboursRow.func = some f) (hfn : Tryd.pinned.checked.prog.funcs[f]? = some fn) :
    false = Tryd.pinned.checked.prog.looks [] ∧ ∀ (j : Nat) t, fn.params[j]? = some t → Tryd.pinned.checked.prog.wantsStandIn t = false := by
  obtain rfl : f = 4 := Option.some.inj ((show Tryd.prog.funcNamed Rows.layoutNeighboursRow.func = some 4 by kernel_rfl).symm.trans hf) |>.symm
  obtain rfl : fn = Tryd.f4 := (Option.some.inj (Tryd.func4.symm.trans hfn)).symm
  refine ⟨by kernel_rfl, fun j t ht => ?_⟩
  rw [Tryd.params4] at ht
  have hm : t ∈ [3, 3, 22, 3, 3, 5] := by simpa using Array.mem_of_getElem? ht
  have hall : ([3, 3, 22, 3, 3, 5].all fun u => !Tryd.prog.wantsStandIn u) = true := by kernel_rfl
  exact (show Tryd.prog.wantsStandIn t = false by simpa using List.all_eq_true.1 hall t hm)

theorem card : Rows.LayoutNeighboursCardSaid :=
  Claim7.holds_tied_plain_at .later [] _ _ _ _ said (fun _ h => by cases h) (by kernel_rfl) (fun _ h => by cases h) layoutNeighbours_row_tie rfl ⟨rfl, rfl⟩ (by kernel_rfl) rfl plain (by kernel_rfl)
end LawLayoutNeighbours
end Go.Proofs.YtkanglfpiahecaaDoor.Lyt
