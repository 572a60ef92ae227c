/- The walk of the law that what is laid anew in a wider grid, and back, is as it was. -/
import Derived.Test.YtgjlohplgpcghaaDoorGbx
namespace Go.Proofs.YtgjlohplgpcghaaDoor.Grd
open Go.RowKit Cel Sty
/-- Behind the first Resize. -/
structure Mid (w wx : World) (g g2 : Nat) (F2 : List Nat) (at_ pb c lim c' : Nat) (past rws past1 rows1 : List Ro) (x0 x1 y0 y1 : Int) : Prop where
  ga : ∃ F', GA wx g F' c' lim past1 rows1 ∧ ∀ z ∈ F', w.heap.size ≤ z ∧ z ∉ F2 ∧ z ≠ at_ ∧ z ≠ pb
  was : GA wx g2 F2 c lim past rws
  pt : BL wx at_ 44 [.int .i64 x0, .int .i64 x1]
  pt2 : BL wx pb 44 [.int .i64 y0, .int .i64 y1]
  fr : Below w.heap.size w wx
theorem Mid.intro {w W V w5 wx : World} {g g2 : Nat} {F F2 F5 : List Nat} {at_ pb c lim c' : Nat} {past rws past1 rows1 : List Ro} {x0 x1 y0 y1 : Int} (hfr : Below w.heap.size w W) (hV : Only [] W V) (hF : ∀ x ∈ F, w.heap.size ≤ x ∧ x < at_) (hF2 : ∀ x ∈ F2, x < at_) (hD : ∀ x ∈ F2, x ∉ F)
    (hz : W.heap.size = at_ + 1) (hg : GA w5 g F5 c' lim past1 rows1) (hw : GA W g2 F2 c lim past rws) (hat : BL W at_ 44 [.int .i64 x0, .int .i64 x1]) (h5 : Went F F5 V w5) (hx : Only [pb] w5 wx) (hpb : BL wx pb 44 [.int .i64 y0, .int .i64 y1]) (hp : W.heap.size ≤ pb) (hp5 : pb ∉ F5) :
    Mid w wx g g2 F2 at_ pb c lim c' past rws past1 rows1 x0 x1 y0 y1 := by
  have hVs := hV.size
  have hat' : at_ ∉ F := fun h => by have := (hF _ h).2; omega
  have o5 : Only F W w5 := (hV.mono (G := F) (by simp)).trans h5.only
  refine ⟨⟨F5, hg.only hx (fun z hz hm => hp5 (by rw [List.mem_singleton] at hm; exact hm ▸ hz)), fun z hz1 => ?_⟩, (hw.only o5 hD).only hx (fun z hz1 hm => ?_), (hat.only o5 hat').only hx (by simp; omega), hpb, ?_⟩
  · have hne : z ≠ pb := fun e => hp5 (e ▸ hz1)
    rcases h5.foot z hz1 with y | y
    · have := hF z y
      exact ⟨this.1, fun h => hD z h y, by omega, hne⟩
    · have := hfr.size
      exact ⟨by omega, fun h => by have := hF2 z h; omega, by omega, hne⟩
  · rw [List.mem_singleton] at hm
    have := hF2 z hz1
    omega
  · have h1 := hfr.size
    have h2 := hfr.trans (o5.below (by omega) fun x hx => (hF x hx).1)
    exact h2.trans (hx.below h2.size (fun x hx => by rw [List.mem_singleton] at hx; omega))

set_option maxRecDepth 100000 in
set_option maxHeartbeats 4000000 in
theorem back_walk {B : Nat} (cols rows wd ht_ : Int) (hc0 : -9223372036854775808 ≤ cols) (hc1 : cols ≤ 9223372036854775807) (hr0 : -9223372036854775808 ≤ rows) (hr1 : rows ≤ 9223372036854775807)
    (hw0 : -9223372036854775808 ≤ wd) (hw1 : wd ≤ 9223372036854775807) (hh0 : -9223372036854775808 ≤ ht_) (hh1 : ht_ ≤ 9223372036854775807)
    (A : Option Addr) (tn cp : Nat) (txt : Nat → ByteArray) (w : World) (ht : Tabs B w) (hB : B ≤ w.heap.size) (hrd : RdT w A tn txt) (hsz : ∀ k, k < tn → (txt k).size ≤ 1048576) (hn : tn ≤ 9223372036854775807) :
    Calls Tryd.prog 5 #[.int .i64 cols, .int .i64 rows, .slice A tn cp, .int .i64 wd, .int .i64 ht_] w fun e w' => e = .returned (.bool true) ∧ Below w.heap.size w w' := by
  have hsh := shown_any w ht hB
  have hfl := fun V (hV : Below w.heap.size w V) => filled_law cols rows 39 hc0 hc1 hr0 hr1 (by decide) (by decide) A tn cp txt V (ht.below hV hB) (by have := hV.size; omega) (hrd.below hV) hsz hn
  have pc := pickS_le cols 20 (by decide)
  have pr := pickS_le rows 12 (by decide)
  have pz : (pickS 39 40).toNat = 39 := by decide
  rw [pz] at hfl
  obtain ⟨c, hc⟩ : ∃ c, 1 + (pickS cols 20).toNat = c := ⟨_, rfl⟩
  obtain ⟨r, hr⟩ : ∃ r, 1 + (pickS rows 12).toNat = r := ⟨_, rfl⟩
  rw [hc, hr] at hfl
  obtain ⟨a, ha, ha2⟩ := pick_nat wd 20 (by decide)
  obtain ⟨b, hb, hb2⟩ := pick_nat ht_ 20 (by decide)
  simp only [Int.cast_ofNat_Int] at ha hb
  have hpa := pick_any wd 20 hw0 hw1 (by decide) (by decide)
  have hpb := pick_any ht_ 20 hh0 hh1 (by decide) (by decide)
  rw [ha] at hpa
  rw [hb] at hpb
  have hpk : ∀ x m v, (x = wd ∧ m = 20 ∧ v = (a : Int) ∨ x = ht_ ∧ m = 20 ∧ v = (b : Int)) → ∀ V, Calls Tryd.prog 10 #[.int .i64 x, .int .i64 m] V fun e w' => e = .returned (.int .i64 v) ∧ V = w' := by
    rintro x m v (⟨rfl, rfl, rfl⟩ | ⟨rfl, rfl, rfl⟩) V
    · exact hpa V
    · exact hpb V
  have HFL := Lib.hid hfl
  have c20 : c ≤ 20 := by omega
  have r12 : r ≤ 12 := by omega
  clear hc0 hc1 hr0 hr1 hw0 hw1 hh0 hh1 hfl pc pr pz hc hr ha hb ht hrd hsz hn
  have HPK := Lib.hid hpk
  clear hpa hpb hpk
  go_enter Tryd.func5, Tryd.ntmps5
  go_wp2_with fail
  refine hsh.mono ?_
  rintro _ w1 ⟨rfl, hb1⟩
  have hs1 := hb1.size
  clear hsh
  go_wp2_with fail
  refine (HFL.out _ hb1).mono ?_
  rintro _ w2 ⟨g, rfl, F, past, rws, hG2, hrl, hfin, hF2, hb2⟩
  have hb2' : Below w.heap.size w w2 := hb1.trans (hb2.mono hs1)
  have HG2 := Lib.hid hG2
  have HF2 : Hid (∀ x ∈ F, w.heap.size ≤ x) := fun x hx => Nat.le_trans hs1 (hF2 x hx)
  have hs2 := hb2'.size
  have hcl2 := clone_ga hG2
  have HFIN := Lib.hid hfin
  have HRL := Lib.hid hrl
  clear hG2 hF2 hb2 hb1 hs1 HFL hfin hrl
  go_wp2_with fail
  refine hcl2.mono ?_
  rintro _ w3 ⟨g2, F2, rfl, hG3, hF3, hb3⟩
  have hb3' := hb2'.trans (hb3.mono hs2)
  have HW3 := Lib.hid hG3
  have HG3 := Lib.hid (HG2.out.below hb3)
  have HD3 : Hid (∀ x ∈ F2, x ∉ F) := fun x h1 h2 => by have := hF3 x h1; have := HG2.out.lt x h2; omega
  have hs3 := hb3'.size
  have hrw := rows_ga HG3.out
  rw [HRL.out] at hrw
  have hco := cols_ga HG3.out
  clear hcl2 hG3 hF3 hb3 HG2 hb2' hs2
  go_wp2_with fail
  refine hco.mono ?_
  rintro _ w4 ⟨rfl, rfl⟩
  go_wp2_with fail
  refine hrw.mono ?_
  rintro _ w4 ⟨rfl, rfl⟩
  clear hrw hco
  go_wp2_with fail
  have hbd := HG3.out.bd
  have hat := BL.new w3 44 [.int .i64 ((c : Int) - 1), .int .i64 ((r : Int) - 1)]
  have hal : Below w3.heap.size w3 (w3.alloc (.cells #[.int .i64 ((c : Int) - 1), .int .i64 ((r : Int) - 1)] 44)) := (Below.refl _ _).alloc (Nat.le_refl _) _
  have hzW : (w3.alloc (.cells #[.int .i64 ((c : Int) - 1), .int .i64 ((r : Int) - 1)] 44)).heap.size = w3.heap.size + 1 := size_alloc _ _
  have HGW := Lib.hid (HG3.out.below hal)
  have HWW := Lib.hid (HW3.out.below hal)
  have HBW := Lib.hid (hb3'.trans (hal.mono hs3))
  have HAT := Lib.hid hat
  have HGL : Hid (∀ x ∈ F, x < w3.heap.size) := HG3.out.lt
  have HWL : Hid (∀ x ∈ F2, x < w3.heap.size) := HW3.out.lt
  have hc1' := hbd.c1
  have hr1' := hbd.r1
  rw [HRL.out] at hr1'
  obtain ⟨past1, rows1, Y1, hf1, hf2, hln⟩ := there_back hbd HFIN.out (c' := c + a) (n' := r + b) (by omega) (by rw [HRL.out]; omega)
  rw [HRL.out] at hf1 hf2
  have hpl := hbd.p2
  have hRZ : ∀ V, Below (w3.heap.size + 1) (w3.alloc (.cells #[.int .i64 ((c : Int) - 1), .int .i64 ((r : Int) - 1)] 44)) V → Calls Tryd.prog 18 #[.pointer (some ⟨g, 0, none⟩), .int .i64 ((c : Int) + (a : Int)), .int .i64 ((r : Int) + (b : Int)), .agg #[.int .i64 ((c : Int) - 1), .int .i64 ((r : Int) - 1)], .bool true] V fun e w' =>
      e = .returned (.tuple #[.agg #[.int .i64 ((c : Int) - 1), .int .i64 (Y1 : Int)], .int .i64 0]) ∧ ∃ F', GA w' g F' (c + a) 39 past1 rows1 ∧ Went F F' V w' := fun V hV => by
    have hl : past.length + rws.length ≤ 51 := by rw [HRL.out]; omega
    have := resize_to (HGW.out.below (hzW ▸ hV)) (c + a) (r + b) ((c : Int) - 1) ((r : Int) - 1) (by omega) (by omega) (by omega) (by omega) (by
      have h1 : (past.length + rws.length) * c ≤ 51 * 20 := Nat.mul_le_mul hl c20
      omega) ((c : Int) - 1) (Y1 : Int) past1 rows1 hf1
    rw [Int.natCast_add, Int.natCast_add] at this
    exact this
  have HRZ := Lib.hid hRZ
  have HF2' := Lib.hid hf2
  clear hRZ hf1 hf2 hat hbd HG3 HW3 hb3' hal
  generalize w3.alloc (.cells #[.int .i64 ((c : Int) - 1), .int .i64 ((r : Int) - 1)] 44) = W at *
  generalize hatd : w3.heap.size = at_ at *
  have SS : ∀ V, Only F W V → (V.cell? ⟨at_, 0, none⟩ = some (.int .i64 ((c : Int) - 1)) ∧ V.cell? ⟨at_, 1, none⟩ = some (.int .i64 ((r : Int) - 1)) ∧ Only F W V) := fun V hV => by
    have h1 := HAT.out.only hV (fun hx => by have := HGL.out _ hx; omega)
    exact ⟨h1.cell 0, h1.cell 1, hV⟩
  have HZW := Lib.hid hzW
  have HNB := fun (t : TypeId) => BL.new W t [.int .i64 0, .int .i64 0]
  have HNF : Hid (W.heap.size ∉ F) := fun hx => by have := HGL.out _ hx; omega
  clear hzW
  have o1 : Only F W W.drew := (Only.refl _ _).drew
  have d1 : Below (at_ + 1) W W.drew := (Below.refl _ _).drew
  have j1 : IntKind.i64.wrap ((c : Int) + (a : Int)) = (c : Int) + (a : Int) := IntWalk.i64_in _ ⟨by omega, by omega⟩
  have j2 : IntKind.i64.wrap ((r : Int) + (b : Int)) = (r : Int) + (b : Int) := IntWalk.i64_in _ ⟨by omega, by omega⟩
  have DA : ∀ V o, Below (at_ + 1) W V → Below (at_ + 1) W (V.alloc o) := fun V o h => h.alloc (by have := h.size; have := HZW.out; omega) o
  have o0 : Only F W W := Only.refl _ _
  have OD : ∀ o, Only F W (W.alloc o).drew := fun o => (o0.alloc o).drew
  have d2 : ∀ o, Below (at_ + 1) W (W.alloc o).drew := fun o => (DA _ o (Below.refl _ _)).drew
  have OA : ∀ V o, Only F W V → Only F W (V.alloc o) := fun V o h => h.alloc o
  have OS : ∀ V q x y, W.heap.size ≤ q → Only F W V → Only F W ((V.setCell ⟨q, 0, none⟩ x).setCell ⟨q, 1, none⟩ y) := fun V q x y hq h => (h.setCell (p := ⟨q, 0, none⟩) (.inr hq) x).setCell (p := ⟨q, 1, none⟩) (.inr hq) y
  have hFF : Hid (∀ x ∈ F, w.heap.size ≤ x ∧ x < at_) := fun x hx => ⟨HF2.out x hx, HGL.out x hx⟩
  have MA : Hid (∀ (w5 : World) (F5 : List Nat), GA w5 g F5 (c + a) 39 past1 rows1 → Went F F5 (W.alloc (.cells #[.int .i64 0, .int .i64 0] 44)).drew w5 →
      Mid w ((w5.setCell ⟨W.heap.size, 0, none⟩ (.int .i64 ((c : Int) - 1))).setCell ⟨W.heap.size, 1, none⟩ (.int .i64 (Y1 : Int))) g g2 F2 at_ W.heap.size c 39 (c + a) past rws past1 rows1 ((c : Int) - 1) ((r : Int) - 1) ((c : Int) - 1) (Y1 : Int)) := fun w5 F5 h1 h2 => by
    have hv : Only [] W (W.alloc (.cells #[.int .i64 0, .int .i64 0] 44)).drew := ((Only.refl _ _).alloc _).drew
    have hzv : (W.alloc (.cells #[.int .i64 0, .int .i64 0] 44)).drew.heap.size = W.heap.size + 1 := size_alloc _ _
    have hN5 := ((HNB 44).drew).only h2.only HNF.out
    refine Mid.intro HBW.out hv hFF.out HWL.out HD3.out HZW.out h1 HWW.out HAT.out h2 (((Only.refl _ _).setCell (p := ⟨W.heap.size, 0, none⟩) (.inl (by simp)) _).setCell (p := ⟨W.heap.size, 1, none⟩) (.inl (by simp)) _) ((hN5.set_ 0 (.int .i64 ((c : Int) - 1))).set_ 1 (.int .i64 (Y1 : Int))) (Nat.le_refl _) (fun hx => ?_)
    rcases h2.foot _ hx with y | y
    · exact HNF.out y
    · omega
  have MB : Hid (∀ (w5 : World) (F5 : List Nat), GA w5 g F5 (c + a) 39 past1 rows1 → Went F F5 W.drew w5 →
      Mid w (w5.alloc (.cells #[.int .i64 ((c : Int) - 1), .int .i64 (Y1 : Int)] 44)) g g2 F2 at_ w5.heap.size c 39 (c + a) past rws past1 rows1 ((c : Int) - 1) ((r : Int) - 1) ((c : Int) - 1) (Y1 : Int)) := fun w5 F5 h1 h2 => by
    have h5s : W.heap.size ≤ w5.heap.size := h2.only.size
    exact Mid.intro HBW.out (Only.refl _ _).drew hFF.out HWL.out HD3.out HZW.out h1 HWW.out HAT.out h2 ((Only.refl _ _).alloc _) (BL.new w5 44 _) h5s (fun hx => by have := h1.lt _ hx; omega)
  go_cut [17, 18] (fun s17 s18 wx => ∃ pb, s17 = .pointer (some ⟨pb, 0, none⟩) ∧ s18 = .int .i64 0 ∧ Mid w wx g g2 F2 at_ pb c 39 (c + a) past rws past1 rows1 ((c : Int) - 1) ((r : Int) - 1) ((c : Int) - 1) (Y1 : Int))
  case first =>
    go_region_held3 (fun V => V.cell? ⟨at_, 0, none⟩ = some (.int .i64 ((c : Int) - 1)) ∧ V.cell? ⟨at_, 1, none⟩ = some (.int .i64 ((r : Int) - 1)) ∧ Only F W V)
      (first
        | (refine SS _ ?_; assumption)
        | (refine SS _ (OA _ _ ?_); assumption)
        | (refine SS _ (OS _ _ _ _ (by first | omega | (have := (by assumption : Only F W _).size; omega)) ?_); assumption)
        | (exact SS _ (OD _))
        | fail)
      (first
        | (go_at_call 10; refine (HPK.out _ _ _ (by first | exact .inl ⟨rfl, rfl, rfl⟩ | exact .inr ⟨rfl, rfl, rfl⟩) _).mono ?_; rintro _ w4 ⟨rfl, rfl⟩)
        | (go_at_call 18; obtain ⟨_, _, k3⟩ := (by assumption : _ ∧ _ ∧ Only F W _); refine (HRZ.out _ d1).mono ?_; rintro _ w5 ⟨rfl, F5, hG5, hW5⟩; have k5 := k3.trans hW5.only)
        | (go_at_call 18; obtain ⟨_, _, k3⟩ := (by assumption : _ ∧ _ ∧ Only F W _); refine (HRZ.out _ (d2 _)).mono ?_; rintro _ w5 ⟨rfl, F5, hG5, hW5⟩; have k5 := k3.trans hW5.only; have hN5 := ((HNB 44).drew).only hW5.only HNF.out; have z0 := hN5.cell 0; have z1 := hN5.cell 1; have y0 := hN5.frozen 0; have y1 := hN5.frozen 1))
    all_goals go_wp2_with fail
    all_goals go_meet
    all_goals first
      | exact ⟨_, rfl, rfl, MB.out _ _ hG5 hW5⟩
      | exact ⟨_, rfl, rfl, MA.out _ _ hG5 hW5⟩
  case rest =>
    obtain ⟨pb, rfl, rfl, hM⟩ := hcut
    clear MA MB HRZ HBW HAT HWW HGW HNB HNF hFF SS OS OA OD DA o0 o1 d1 d2 HPK
    obtain ⟨F6, hG6, hF6⟩ := hM.ga
    have z0 := hM.pt2.cell 0
    have z1 := hM.pt2.cell 1
    have hln2 : past1.length + rows1.length ≤ 39 + 32 := by omega
    have hsz2 : (past1.length + rows1.length) * (c + a) ≤ 400000 := by
      have h1 : (past1.length + rows1.length) * (c + a) ≤ 71 * 40 := Nat.mul_le_mul hln2 (by omega)
      omega
    have hrz := resize_to hG6 c r ((c : Int) - 1) (Y1 : Int) hc1' (by omega) hr1' (by omega) hsz2 ((c : Int) - 1) ((r : Int) - 1) past rws HF2'.out
    have HD6 : Hid (∀ x ∈ F2, x ∉ F6) := fun x h1 h2 => (hF6 x h2).2.1 h1
    have HA6 : Hid (at_ ∉ F6) := fun h => (hF6 _ h).2.2.1 rfl
    have HB6 : Hid (∀ x ∈ F6, w.heap.size ≤ x) := fun x h => (hF6 x h).1
    have HM := Lib.hid hM
    clear hsz2 hG6 hF6 hM hln hln2 HF2'
    go_wp2_with fail
    refine hrz.mono ?_
    rintro _ w6 ⟨rfl, F7, hG7, hW7⟩
    have hb7 := HM.out.fr.trans (hW7.only.below HM.out.fr.size HB6.out)
    have hs7 := hb7.size
    have hw7 := HM.out.was.only hW7.only HD6.out
    have ht7 := HM.out.pt.only hW7.only HA6.out
    have hal7 : Below w6.heap.size w6 (w6.alloc (.cells #[.int .i64 ((c : Int) - 1), .int .i64 ((r : Int) - 1)] 44)) := (Below.refl _ _).alloc (Nat.le_refl _) _
    have hN7 := BL.new w6 44 [.int .i64 ((c : Int) - 1), .int .i64 ((r : Int) - 1)]
    have ht8 := ht7.only (F := []) (Only.of_below hal7) (by simp)
    have hsm := same_ga (hG7.below hal7) (hw7.below hal7)
    have hb8 := hb7.trans (hal7.mono hs7)
    have p0 := hN7.cell 0
    have p1 := hN7.cell 1
    have q0 := ht8.cell 0
    have q1 := ht8.cell 1
    have HSM := Lib.hid hsm
    clear hrz hG7 hW7 hw7 ht7 hal7 hN7 ht8 hb7 HM HD6 HA6 HB6 hsm z0 z1
    go_wp2_with fail
    refine HSM.out.mono ?_
    rintro _ w8 ⟨rfl, hb9⟩
    have hbe := hb8.trans (hb9.mono hb8.size)
    clear HSM hb8 hb9
    go_wp2_with fail
    go_ret
    exact ⟨rfl, hbe⟩
end Go.Proofs.YtgjlohplgpcghaaDoor.Grd
