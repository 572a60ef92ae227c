/- The walk of the law that wide cells stay whole. -/
import Derived.Test.YtgjlohplgpcghaaDoorGwg
import Derived.Deep.RegionHeld3
namespace Go.Proofs.YtgjlohplgpcghaaDoor.Grd
open Go.RowKit Cel Sty

/-- A call that came in. -/
structure OpV where
  k : Int
  x : Int
  y : Int
  n : Int
  m : Int
  c : Ce
  is : Bool
def opL (o : OpV) : List Value := [.int .i64 o.k, .int .i64 o.x, .int .i64 o.y, .int .i64 o.n, .int .i64 o.m, .int .i32 o.c.1, .int .i64 o.c.2.1, .int .i64 o.c.2.2.1, .int .i64 o.c.2.2.2.1, .int .i64 o.c.2.2.2.2, .bool o.is]
def OpV.ok (o : OpV) : Prop := (-9223372036854775808 ≤ o.k ∧ o.k ≤ 9223372036854775807) ∧ (-9223372036854775808 ≤ o.n ∧ o.n ≤ 9223372036854775807) ∧ (-9223372036854775808 ≤ o.m ∧ o.m ≤ 9223372036854775807) ∧ (-2147483648 ≤ o.c.1 ∧ o.c.1 ≤ 2147483647)
/-- Calls that can be read. -/
def RdO (w : World) (A : Option Addr) (n : Nat) (ops : Nat → OpV) : Prop := ∀ k, k < n → ∃ g o, A = some ⟨g, o, none⟩ ∧ g < w.heap.size ∧ (ops k).ok ∧ ∀ j, j < 11 → w.cell? ⟨g, o + k * 11 + j, none⟩ = (opL (ops k))[j]?
theorem Fil.wg {w0 w : World} {g c r lim bb : Nat} {F : List Nat} {past rows : List Ro} (hG : GA w g F c lim past rows) (hf : Fine (past ++ rows)) (hc : c ≤ 20) (hF : ∀ x ∈ F, w0.heap.size ≤ x ∧ x ≠ bb) (hb : Fr2 w0 bb g w) (_ : rows.length = r) : WG w0 g lim bb w :=
  ⟨F, c, past, rows, hG, fun r hr => ⟨(hf r hr).1, hG.bd.cells r hr⟩, by omega, hF, hb⟩

set_option maxRecDepth 100000 in
set_option maxHeartbeats 8000000 in
theorem wholes_walk {B : Nat} (cols rows history : Int) (hc0 : -9223372036854775808 ≤ cols) (hc1 : cols ≤ 9223372036854775807) (hr0 : -9223372036854775808 ≤ rows) (hr1 : rows ≤ 9223372036854775807) (hh0 : -9223372036854775808 ≤ history) (hh1 : history ≤ 9223372036854775807)
    (A : Option Addr) (tn cp : Nat) (txt : Nat → ByteArray) (A4 : Option Addr) (n4 c4 : Nat) (ops : Nat → OpV) (w : World) (ht : Tabs B w) (hB : B ≤ w.heap.size) (hrd : RdT w A tn txt) (hsz : ∀ k, k < tn → (txt k).size ≤ 1048576) (hn : tn ≤ 9223372036854775807) (hro : RdO w A4 n4 ops) (_hn4 : n4 ≤ 9223372036854775807) :
    Calls Tryd.prog 3 #[.int .i64 cols, .int .i64 rows, .int .i64 history, .slice A tn cp, .slice A4 n4 c4] w fun e w' => e = .returned (.bool true) ∧ Below w.heap.size w w' := by
  have hsh := shown_any w ht hB
  have hfl := fun V (hV : Below w.heap.size w V) => filled_law cols rows history hc0 hc1 hr0 hr1 hh0 hh1 A tn cp txt V (ht.below hV hB) (by have := hV.size; omega) (hrd.below hV) hsz hn
  have pc := pickS_le cols 20 (by decide)
  obtain ⟨c, hc⟩ : ∃ c, 1 + (pickS cols 20).toNat = c := ⟨_, rfl⟩
  obtain ⟨r, hr⟩ : ∃ r, 1 + (pickS rows 12).toNat = r := ⟨_, rfl⟩
  obtain ⟨lim, hlim⟩ : ∃ l, (pickS history 40).toNat = l := ⟨_, rfl⟩
  rw [hc, hr, hlim] at hfl
  have c20 : c ≤ 20 := by omega
  have HFL := Lib.hid hfl
  have HT := Lib.hid ht
  have HRO := Lib.hid hro
  clear hc0 hc1 hr0 hr1 hh0 hh1 hfl pc hc hr hlim ht hrd hsz hn hro
  go_enter Tryd.func3, Tryd.ntmps3
  go_wp2_with fail
  refine hsh.mono ?_
  rintro _ w1 ⟨rfl, hb1⟩
  have hs1 := hb1.size
  clear hsh
  go_wp2_with fail
  refine (HFL.out _ hb1).mono ?_
  rintro _ w2 ⟨g, rfl, F, past, rws, hG2, hrl, hfin, hF2, hb2⟩
  have hb2' : Below w.heap.size w w2 := hb1.trans (hb2.mono hs1)
  have hs2 := hb2'.size
  have hBB := BL.new w2 30 [.pointer (some ⟨g, 0, none⟩), .pointer none]
  have hal : Below w2.heap.size w2 (w2.alloc (.cells #[.pointer (some ⟨g, 0, none⟩), .pointer none] 30)) := (Below.refl _ _).alloc (Nat.le_refl _) _
  have hG3 := hG2.below hal
  have hli := limit_ga hG3
  have HWG0 : Hid (WG w g lim w2.heap.size (w2.alloc (.cells #[.pointer (some ⟨g, 0, none⟩), .pointer none] 30))) :=
    Fil.wg hG3 hfin c20 (fun x hx => ⟨Nat.le_trans hs1 (hF2 x hx), by have := hG2.lt x hx; omega⟩) ⟨hb2'.trans (hal.mono hs2), hBB⟩ hrl
  clear hG2 hrl hfin hF2 hb2 hb2' hs2 hBB hal hG3 HFL hb1 hs1
  go_wp2_with (go_at_call 9; refine hli.mono ?_; rintro _ w3 ⟨rfl, rfl⟩)
  clear hli
  generalize w2.alloc (.cells #[.pointer (some ⟨g, 0, none⟩), .pointer none] 30) = W3 at *
  generalize w2.heap.size = bb at *
  go_loopw [15] (fun i wr => ∃ k : Nat, k ≤ n4 ∧ k ≤ 100 ∧ i = .int .i64 (k : Int) ∧ Hid (WG w g lim bb wr)) (fun i _ => n4 - (intOf i).toNat)
  case atStart => exact ⟨0, Nat.zero_le _, Nat.zero_le _, rfl, HWG0⟩
  case round =>
    obtain ⟨k, hk, hk100, rfl, hWG⟩ := hrel
    clear HWG0
    have i0 : (0 : Int) ≤ (k : Int) := Int.natCast_nonneg _
    by_cases hgo : k < n4 ∧ k < 100
    · obtain ⟨hlt, hlt2⟩ := hgo
      have i1 : (k : Int) < (n4 : Int) := by omega
      have i2 : (k : Int) < 100 := by omega
      obtain ⟨go, oo, rfl, hgl, hok, hcell⟩ := HRO.out k hlt
      obtain ⟨o, ho⟩ : ∃ o, ops k = o := ⟨_, rfl⟩
      rw [ho] at hok hcell
      obtain ⟨ok, ox, oy, on, om, ⟨rr, wd, s1, s2, s3⟩, is⟩ := o
      obtain ⟨⟨hk0, hk1⟩, ⟨hn0, hn1⟩, ⟨hm0, hm1⟩, hrr0, hrr1⟩ := hok
      simp only at hk0 hk1 hn0 hn1 hm0 hm1 hrr0 hrr1
      have hbw : Below w.heap.size w wr := by obtain ⟨_, _, _, _, _, _, _, _, hf⟩ := hWG.out; exact hf.1
      have hcl := fun j hj => (hbw.cell (p := ⟨go, oo + k * 11 + j, none⟩) hgl).trans (hcell j hj)
      have q0 : wr.cell? ⟨go, oo + k * 11, none⟩ = some (.int .i64 ok) := hcl 0 (by omega)
      have q1 : wr.cell? ⟨go, oo + k * 11 + 1, none⟩ = some (.int .i64 ox) := hcl 1 (by omega)
      have q2 : wr.cell? ⟨go, oo + k * 11 + 2, none⟩ = some (.int .i64 oy) := hcl 2 (by omega)
      have q3 : wr.cell? ⟨go, oo + k * 11 + 3, none⟩ = some (.int .i64 on) := hcl 3 (by omega)
      have q4 : wr.cell? ⟨go, oo + k * 11 + 4, none⟩ = some (.int .i64 om) := hcl 4 (by omega)
      have q5 : wr.cell? ⟨go, oo + k * 11 + 5, none⟩ = some (.int .i32 rr) := hcl 5 (by omega)
      have q6 : wr.cell? ⟨go, oo + k * 11 + 6, none⟩ = some (.int .i64 wd) := hcl 6 (by omega)
      have q7 : wr.cell? ⟨go, oo + k * 11 + 7, none⟩ = some (.int .i64 s1) := hcl 7 (by omega)
      have q8 : wr.cell? ⟨go, oo + k * 11 + 8, none⟩ = some (.int .i64 s2) := hcl 8 (by omega)
      have q9 : wr.cell? ⟨go, oo + k * 11 + 9, none⟩ = some (.int .i64 s3) := hcl 9 (by omega)
      have q10 : wr.cell? ⟨go, oo + k * 11 + 10, none⟩ = some (.bool is) := hcl 10 (by omega)
      obtain ⟨kd, hkd, hkd2⟩ := pick_nat ok 12 (by decide)
      have hpk := pick_any ok 12 hk0 hk1 (by decide) (by decide)
      obtain ⟨a, ha, ha2⟩ := pick_nat on 30 (by decide)
      obtain ⟨b, hb, hb2⟩ := pick_nat om 20 (by decide)
      simp only [Int.cast_ofNat_Int] at hkd ha hb
      have hpa := pick_any on 30 hn0 hn1 (by decide) (by decide)
      have hpb := pick_any om 20 hm0 hm1 (by decide) (by decide)
      rw [hkd] at hpk
      rw [ha] at hpa
      rw [hb] at hpb
      have HPK : Hid (∀ x m v, (x = ok ∧ m = 12 ∧ v = (kd : Int) ∨ x = on ∧ m = 30 ∧ v = (a : Int) ∨ x = om ∧ m = 20 ∧ v = (b : Int)) → ∀ V, Calls Tryd.prog 10 #[.int .i64 x, .int .i64 m] V fun e w' => e = .returned (.int .i64 v) ∧ V = w') := by
        rintro x m v (⟨rfl, rfl, rfl⟩ | ⟨rfl, rfl, rfl⟩ | ⟨rfl, rfl, rfl⟩) V
        · exact hpk V
        · exact hpa V
        · exact hpb V
      obtain ⟨F0, c0, past0, rows0, hG0, hA0, hc0, hF0, hf0⟩ := hWG.out
      have HF0 : Hid (∀ x ∈ F0, x < wr.heap.size) := hG0.lt
      have hOB := BL.new wr 37 [.int .i64 ok, .int .i64 ox, .int .i64 oy, .int .i64 on, .int .i64 om, .int .i32 rr, .int .i64 wd, .int .i64 s1, .int .i64 s2, .int .i64 s3, .bool is]
      have hA1 : Below wr.heap.size wr (wr.alloc (.cells #[.int .i64 ok, .int .i64 ox, .int .i64 oy, .int .i64 on, .int .i64 om, .int .i32 rr, .int .i64 wd, .int .i64 s1, .int .i64 s2, .int .i64 s3, .bool is] 37)) := (Below.refl _ _).alloc (Nat.le_refl _) _
      have HWA := Lib.hid ((hWG.out.below hA1).below ((Below.refl _ _).alloc (Nat.le_refl _) (.cells #[.int .i64 s1, .int .i64 s2, .int .i64 s3] 33)))
      have HOB := Lib.hid (hOB.alloc (.cells #[.int .i64 s1, .int .i64 s2, .int .i64 s3] 33))
      have hA2 : Below wr.heap.size wr ((wr.alloc (.cells #[.int .i64 ok, .int .i64 ox, .int .i64 oy, .int .i64 on, .int .i64 om, .int .i32 rr, .int .i64 wd, .int .i64 s1, .int .i64 s2, .int .i64 s3, .bool is] 37)).alloc (.cells #[.int .i64 s1, .int .i64 s2, .int .i64 s3] 33)) := hA1.alloc hA1.size _
      have HGA := Lib.hid (hG0.below hA2)
      have HAW := Lib.hid hA0
      have HFF := Lib.hid hF0
      have HFR := Lib.hid (hf0.only hF0 (Only.of_below hA2))
      clear hcl hcell ho hgl hpk hpa hpb ha hb hkd hbw hWG hOB hA1 hA2 hG0 hA0 hF0 hf0
      have kcases : kd = 0 ∨ kd = 1 ∨ kd = 2 ∨ kd = 3 ∨ kd = 4 ∨ kd = 5 ∨ kd = 6 ∨ kd = 7 ∨ kd = 8 ∨ kd = 9 ∨ kd = 10 ∨ kd = 11 := by omega
      clear hkd2
      rcases kcases with rfl | rfl | rfl | rfl | rfl | rfl | rfl | rfl | rfl | rfl | rfl | h11
      all_goals first
        | (have h11' := h11; skip)
        | (go_wp2_with (first
          | (go_at_call 10; refine (HPK.out _ _ _ (.inl ⟨rfl, rfl, rfl⟩) _).mono ?_; rintro _ w4 ⟨rfl, rfl⟩)
          | (go_at_call 11; refine (put_wg HWA.out HT.out hB _ _ _ _ _ _ _ hrr0 hrr1).mono ?_; rintro _ w7 ⟨rfl, hWG7⟩; obtain ⟨F7, c7, past7, rows7, hG7, hA7, hc7, hF7, hb7⟩ := hWG7)
          | (go_at_call 12; refine (erase_wg HWA.out _ _ _ _ _ _).mono ?_; rintro _ w7 ⟨rfl, hWG7⟩; obtain ⟨F7, c7, past7, rows7, hG7, hA7, hc7, hF7, hb7⟩ := hWG7)
          | (go_at_call 13; refine (insert_wg HWA.out _ _ _ _ _ _).mono ?_; rintro _ w7 ⟨rfl, hWG7⟩; obtain ⟨F7, c7, past7, rows7, hG7, hA7, hc7, hF7, hb7⟩ := hWG7)
          | (go_at_call 14; refine (delete_wg HWA.out _ _ _ _ _ _).mono ?_; rintro _ w7 ⟨rfl, hWG7⟩; obtain ⟨F7, c7, past7, rows7, hG7, hA7, hc7, hF7, hb7⟩ := hWG7)
          | (go_at_call 15; refine (up_wg HWA.out _ _ _ _ _ _ _).mono ?_; rintro _ w7 ⟨rfl, hWG7⟩; obtain ⟨F7, c7, past7, rows7, hG7, hA7, hc7, hF7, hb7⟩ := hWG7)
          | (go_at_call 16; refine (down_wg HWA.out _ _ _ _ _ _).mono ?_; rintro _ w7 ⟨rfl, hWG7⟩; obtain ⟨F7, c7, past7, rows7, hG7, hA7, hc7, hF7, hb7⟩ := hWG7)
          | (go_at_call 17; refine (wrap_wg HWA.out _ _).mono ?_; rintro _ w7 ⟨rfl, hWG7⟩; obtain ⟨F7, c7, past7, rows7, hG7, hA7, hc7, hF7, hb7⟩ := hWG7)
          | (go_at_call 19; refine (whole_law hG7 hA7 hb7.2).mono ?_; rintro _ w8 ⟨rfl, hb8⟩; have hG8 := hG7.below hb8; have hli := limit_ga hG8; have hhi := history_ga hG8; have HWG8 : Hid (WG w g lim bb w8) := WG.below ⟨F7, c7, past7, rows7, hG7, hA7, hc7, hF7, hb7⟩ hb8; have hp7 := hG7.bd.p2; have d7 : decide ((lim : Int) < (past7.length : Int)) = false := (by simp; omega); have d8 : decide (lim < past7.length) = false := (by simp; omega); clear hG8 hG7 hA7 hF7 hb7)
          | (go_at_call 9; refine hli.mono ?_; rintro _ w9 ⟨rfl, rfl⟩)
          | (go_at_call 20; refine hhi.mono ?_; rintro _ w9 ⟨rfl, rfl⟩)
          )
           go_roundw
           case rel => exact ⟨k + 1, by omega, by omega, by go_num, HWG8⟩
           case measure => simp [intOf]; omega)
      subst h11
      go_wp2_with (first
          | (go_at_call 10; refine (HPK.out _ _ _ (.inl ⟨rfl, rfl, rfl⟩) _).mono ?_; rintro _ w4 ⟨rfl, rfl⟩)
          | fail)
      have HRZ : Hid (∀ V, Below ((wr.alloc (.cells #[.int .i64 ok, .int .i64 ox, .int .i64 oy, .int .i64 on, .int .i64 om, .int .i32 rr, .int .i64 wd, .int .i64 s1, .int .i64 s2, .int .i64 s3, .bool is] 37)).alloc (.cells #[.int .i64 s1, .int .i64 s2, .int .i64 s3] 33)).heap.size ((wr.alloc (.cells #[.int .i64 ok, .int .i64 ox, .int .i64 oy, .int .i64 on, .int .i64 om, .int .i32 rr, .int .i64 wd, .int .i64 s1, .int .i64 s2, .int .i64 s3, .bool is] 37)).alloc (.cells #[.int .i64 s1, .int .i64 s2, .int .i64 s3] 33)) V → Calls Tryd.prog 18 #[.pointer (some ⟨g, 0, none⟩), .int .i64 (1 + (a : Int)), .int .i64 (1 + (b : Int)), .agg #[.int .i64 ox, .int .i64 oy], .bool is] V fun e w' => ∃ va vb : Int, e = .returned (.tuple #[.agg #[.int .i64 va, .int .i64 vb], .int .i64 0]) ∧ WG w g lim bb w' ∧ Only F0 V w') := fun V hV => by
        have h1 := resize_wg (HGA.out.below hV) HAW.out hc0 HFF.out (HFR.out.only HFF.out (Only.of_below hV)) (1 + a) (1 + b) (by omega) (by omega) (by omega) (by omega) ox oy is
        rw [show ((1 + a : Nat) : Int) = 1 + (a : Int) by omega, show ((1 + b : Nat) : Int) = 1 + (b : Int) by omega] at h1
        exact h1
      clear HWA q0 q1 q2 q3 q4 q5 q6 q7 q8 q9 q10
      generalize ((wr.alloc (.cells #[.int .i64 ok, .int .i64 ox, .int .i64 oy, .int .i64 on, .int .i64 om, .int .i32 rr, .int .i64 wd, .int .i64 s1, .int .i64 s2, .int .i64 s3, .bool is] 37)).alloc (.cells #[.int .i64 s1, .int .i64 s2, .int .i64 s3] 33)) = W at *
      have j1 : IntKind.i64.wrap (1 + (a : Int)) = 1 + (a : Int) := IntWalk.i64_in _ ⟨by omega, by omega⟩
      have j2 : IntKind.i64.wrap (1 + (b : Int)) = 1 + (b : Int) := IntWalk.i64_in _ ⟨by omega, by omega⟩
      have SS : ∀ V, Only F0 W V → (V.cell? ⟨wr.heap.size, 1, none⟩ = some (.int .i64 ox) ∧ V.cell? ⟨wr.heap.size, 2, none⟩ = some (.int .i64 oy) ∧ V.cell? ⟨wr.heap.size, 3, none⟩ = some (.int .i64 on) ∧ V.cell? ⟨wr.heap.size, 4, none⟩ = some (.int .i64 om) ∧ V.cell? ⟨wr.heap.size, 10, none⟩ = some (.bool is) ∧ Only F0 W V) := fun V hV => by
        have h1 := HOB.out.only hV (fun hx => by have := HF0.out _ hx; omega)
        exact ⟨h1.cell 1, h1.cell 2, h1.cell 3, h1.cell 4, h1.cell 10, hV⟩
      have hdr : Below W.heap.size W W.drew := (Below.refl _ _).drew
      have o1 : Only F0 W W.drew := (Only.refl _ _).drew
      clear HGA HAW HFF HFR
      go_region_held3 (fun V => V.cell? ⟨wr.heap.size, 1, none⟩ = some (.int .i64 ox) ∧ V.cell? ⟨wr.heap.size, 2, none⟩ = some (.int .i64 oy) ∧ V.cell? ⟨wr.heap.size, 3, none⟩ = some (.int .i64 on) ∧ V.cell? ⟨wr.heap.size, 4, none⟩ = some (.int .i64 om) ∧ V.cell? ⟨wr.heap.size, 10, none⟩ = some (.bool is) ∧ Only F0 W V)
        (first
          | (refine SS _ ?_; assumption)
          | fail)
        (first
          | (go_at_call 10; refine (HPK.out _ _ _ (by first | exact Or.inr (Or.inl ⟨rfl, rfl, rfl⟩) | exact Or.inr (Or.inr ⟨rfl, rfl, rfl⟩)) _).mono ?_; rintro _ w4 ⟨rfl, rfl⟩)
          | (go_at_call 18; obtain ⟨_, _, _, _, _, k3⟩ := (by assumption : _ ∧ _ ∧ _ ∧ _ ∧ _ ∧ Only F0 W _); refine (HRZ.out _ hdr).mono ?_; rintro _ w7 ⟨va, vb, rfl, hWG7, hO7⟩; have k5 := k3.trans hO7; obtain ⟨F7, c7, past7, rows7, hG7, hA7, hc7, hF7, hb7⟩ := hWG7))
      all_goals
        clear SS HRZ HPK
        go_wp2_with (first
          | (go_at_call 19; refine (whole_law hG7 hA7 hb7.2).mono ?_; rintro _ w8 ⟨rfl, hb8⟩; have hG8 := hG7.below hb8; have hli := limit_ga hG8; have hhi := history_ga hG8; have HWG8 : Hid (WG w g lim bb w8) := WG.below ⟨F7, c7, past7, rows7, hG7, hA7, hc7, hF7, hb7⟩ hb8; have hp7 := hG7.bd.p2; have d7 : decide ((lim : Int) < (past7.length : Int)) = false := (by simp; omega); have d8 : decide (lim < past7.length) = false := (by simp; omega); clear hG8 hG7 hA7 hF7 hb7)
          | (go_at_call 9; refine hli.mono ?_; rintro _ w9 ⟨rfl, rfl⟩)
          | (go_at_call 20; refine hhi.mono ?_; rintro _ w9 ⟨rfl, rfl⟩)
          )
        go_roundw
        case rel => exact ⟨k + 1, by omega, by omega, by go_num, HWG8⟩
        case measure => simp [intOf]; omega
    · have hend : (n4 : Int) ≤ (k : Int) ∨ ((k : Int) < (n4 : Int) ∧ (100 : Int) ≤ (k : Int)) := by omega
      have hbe : Below w.heap.size w wr := by obtain ⟨_, _, _, _, _, _, _, _, hf⟩ := hWG.out; exact hf.1
      clear hgo hWG HRO HT
      rcases hend with i1 | ⟨i1, i2⟩
      all_goals
        go_wp2_with fail
        go_ret
        exact ⟨rfl, hbe⟩
end Go.Proofs.YtgjlohplgpcghaaDoor.Grd
