/- The examples. -/
import Derived.Test.YtgjlohplgpcghaaDoorGfw
namespace Go.Proofs.YtgjlohplgpcghaaDoor.Grd
open Go.RowKit Cel Sty

abbrev pce (r wd : Int) : Ce := (r, wd, -1, -1, 0)
def ex3 : List Ro := [([pce 97 1, pce 98 1, pce 32 1], false), plainR 3]
theorem ex3_is : putP 3 (putP 3 (putP 3 (List.replicate 2 (plainR 3)) 0 0 (pce 97 1)) 1 0 (pce 20013 2)) 1 0 (pce 98 1) = ex3 := by kernel_rfl
def ex4 : Nat → List Ro
  | 0 => List.replicate 2 (plainR 4)
  | k + 1 => putP 4 (ex4 k) ((k % 4 : Nat) : Int) ((k / 4 : Nat) : Int) (pce (97 + (k : Int)) 1)
def ex4b : List Ro := [([pce 97 1, pce 98 1, pce 99 1, pce 100 1], true), ([pce 101 1, pce 102 1, pce 32 1, pce 32 1], false)]
theorem ex4_is : wrapP (ex4 6) 0 true = ex4b := by kernel_rfl
theorem ex4_len : ∀ k, (ex4 k).length = 2
  | 0 => rfl
  | k + 1 => by unfold ex4; rw [putP_len]; exact ex4_len k
def ex5p : List Ro := [([pce 97 1, pce 98 1], true)]
def ex5 : List Ro := [([pce 99 1, pce 100 1], true), ([pce 101 1, pce 102 1], false)]
def ex6 : List Ro := [([pce 97 1, pce 98 1, pce 99 1, pce 100 1, pce 101 1, pce 102 1], false), plainR 6]
/-- Laid anew, with the answer, all known. -/
theorem resize_lit {w : World} {g : Nat} {F : List Nat} {c lim : Nat} {past rows : List Ro} (h : GA w g F c lim past rows) (cols n : Nat) (X Y : Int) (hc1 : 1 ≤ cols) (hc2 : cols ≤ 250) (hr1 : 1 ≤ n) (hr2 : n ≤ 120) (hsz : (past.length + rows.length) * c ≤ 400000) (px py : Int) (past' rows' : List Ro)
    (e1 : (flowOf (past ++ rows) ((past.length : Int) + (clampZ Y rows.length : Int)) (clampZ X c : Int) cols).px = px)
    (e2 : (flowOf (past ++ rows) ((past.length : Int) + (clampZ Y rows.length : Int)) (clampZ X c : Int) cols).py - (firstOf (flowOf (past ++ rows) ((past.length : Int) + (clampZ Y rows.length : Int)) (clampZ X c : Int) cols) n : Int) = py)
    (e3 : ((flowOf (past ++ rows) ((past.length : Int) + (clampZ Y rows.length : Int)) (clampZ X c : Int) cols).rows.take (firstOf (flowOf (past ++ rows) ((past.length : Int) + (clampZ Y rows.length : Int)) (clampZ X c : Int) cols) n)).drop (firstOf (flowOf (past ++ rows) ((past.length : Int) + (clampZ Y rows.length : Int)) (clampZ X c : Int) cols) n - lim) = past')
    (e4 : filledR ((flowOf (past ++ rows) ((past.length : Int) + (clampZ Y rows.length : Int)) (clampZ X c : Int) cols).rows.drop (firstOf (flowOf (past ++ rows) ((past.length : Int) + (clampZ Y rows.length : Int)) (clampZ X c : Int) cols) n)) cols n = rows') :
    Calls Tryd.prog 18 #[.pointer (some ⟨g, 0, none⟩), .int .i64 (cols : Int), .int .i64 (n : Int), .agg #[.int .i64 X, .int .i64 Y], .bool true] w fun e w' =>
      e = .returned (.tuple #[.agg #[.int .i64 px, .int .i64 py], .int .i64 0]) ∧ ∃ F', GA w' g F' cols lim past' rows' ∧ Went F F' w w' := by
  refine (resize_ga h cols n X Y hc1 hc2 hr1 hr2 hsz).mono ?_
  rintro e w' ⟨P, rfl, rfl, F', h1, h2⟩
  rw [e1, e2]
  rw [e3, e4] at h1
  exact ⟨rfl, F', h1, h2⟩
theorem text_lit {w : World} {g : Nat} {y : Int} {r : Ro} (h : RowOf w g y r) (L : List UInt8) (e : Lib.trimRightB (lettersL r.1) 32 = L) (ha : ∀ c ∈ r.1, c.2.1 ≠ 0 → 0 ≤ c.1 ∧ c.1 < 128) :
    Calls Tryd.prog 33 #[.pointer (some ⟨g, 0, none⟩), .int .i64 y] w fun e w' => e = .returned (.string ⟨L.toArray⟩) ∧ Below w.heap.size w w' := by
  rw [← e]
  exact text_ga h ha
theorem cell_lit {w : World} {g : Nat} {y : Int} {r : Ro} (h : RowOf w g y r) (x : Nat) (a b s1 s2 s3 : Int) (hx : r.1[x]? = some (a, b, s1, s2, s3)) :
    Calls Tryd.prog 27 #[.pointer (some ⟨g, 0, none⟩), .int .i64 (x : Int), .int .i64 y] w fun e w' => e = .returned (.agg #[.int .i32 a, .int .i64 b, .int .i64 s1, .int .i64 s2, .int .i64 s3]) ∧ Below w.heap.size w w' := by
  obtain ⟨h1, h2⟩ := List.getElem?_eq_some_iff.1 hx
  have := cell_ga h x h1
  rw [h2] at this
  exact this
theorem GA.scr_at {w : World} {g : Nat} {F : List Nat} {c lim : Nat} {past rows : List Ro} (h : GA w g F c lim past rows) (k : Nat) (r : Ro) (hr : rows[k]? = some r) : RowOf w g (k : Int) r := by
  obtain ⟨h1, h2⟩ := List.getElem?_eq_some_iff.1 hr
  exact h2 ▸ h.scr_row k h1
theorem GA.past_at {w : World} {g : Nat} {F : List Nat} {c lim : Nat} {past rows : List Ro} (h : GA w g F c lim past rows) (k : Nat) (r : Ro) (hr : past[k]? = some r) : RowOf w g ((k : Int) - (past.length : Int)) r := by
  obtain ⟨h1, h2⟩ := List.getElem?_eq_some_iff.1 hr
  exact h2 ▸ h.past_row k h1
theorem GA.past_last {w : World} {g : Nat} {F : List Nat} {c lim : Nat} {r : Ro} {rows : List Ro} (h : GA w g F c lim [r] rows) (r' : Ro) (hr : r = r') : RowOf w g (-1) r' := by
  subst hr
  exact h.past_at 0 r rfl

set_option maxRecDepth 100000 in
set_option maxHeartbeats 4000000 in
theorem shown_any {B : Nat} (w : World) (ht : Tabs B w) (hB : B ≤ w.heap.size) : Calls Tryd.prog 7 #[] w fun e w' => e = .returned (.bool true) ∧ Below w.heap.size w w' := by
  have hn1 : Calls Tryd.prog 23 #[.int .i64 3, .int .i64 2, .int .i64 5] w _ := new_ga 3 2 5 (by decide) (by decide) (by decide) (by decide) (by decide) w
  have HT := Lib.hid ht
  clear ht
  go_enter Tryd.func7, Tryd.ntmps7
  go_wp2_with fail
  refine hn1.mono ?_
  rintro _ w1 ⟨g, F, rfl, hG1, hF1, hb1⟩
  have HG1 := Lib.hid hG1
  have HF1 := Lib.hid hF1
  have hs1 := hb1.size
  clear hG1 hF1 hn1
  go_wp2_with fail
  refine (letter_any _ _ _).mono ?_
  rintro _ w2 ⟨rfl, hb2⟩
  have hb2' := hb1.trans (hb2.mono hs1)
  have hs2 := hb2'.size
  have hp := put_ga (HG1.out.below hb2) (HT.out.below hb2' hB) (by omega) 0 0 97 1 (-1) (-1) 0 (by decide) (by decide) (by decide) (by decide)
  go_wp2_with fail
  refine hp.mono ?_
  rintro _ w3 ⟨rfl, hG3, ho3⟩
  have hb3 := hb2'.trans (ho3.below hs2 HF1.out)
  have HG3 := Lib.hid hG3
  have hs3 := hb3.size
  clear hp hG3 ho3 hb2 HG1 hb2' hs2 hs1 hb1
  go_wp2_with fail
  refine (letter_any _ _ _).mono ?_
  rintro _ w4 ⟨rfl, hb4⟩
  have hb4' := hb3.trans (hb4.mono hs3)
  have hs4 := hb4'.size
  have hp := put_ga (HG3.out.below hb4) (HT.out.below hb4' hB) (by omega) 1 0 20013 2 (-1) (-1) 0 (by decide) (by decide) (by decide) (by decide)
  go_wp2_with fail
  refine hp.mono ?_
  rintro _ w5 ⟨rfl, hG5, ho5⟩
  have hb5 := hb4'.trans (ho5.below hs4 HF1.out)
  have HG5 := Lib.hid hG5
  have hs5 := hb5.size
  clear hp hG5 ho5 hb4 HG3 hb4' hs4 hs3 hb3
  go_wp2_with fail
  refine (letter_any _ _ _).mono ?_
  rintro _ w6 ⟨rfl, hb6⟩
  have hb6' := hb5.trans (hb6.mono hs5)
  have hs6 := hb6'.size
  have hp := put_ga (HG5.out.below hb6) (HT.out.below hb6' hB) (by omega) 1 0 98 1 (-1) (-1) 0 (by decide) (by decide) (by decide) (by decide)
  go_wp2_with fail
  refine hp.mono ?_
  rintro _ w7 ⟨rfl, hG7, ho7⟩
  have hb7 := hb6'.trans (ho7.below hs6 HF1.out)
  rw [ex3_is] at hG7
  have HG7 := Lib.hid hG7
  have hs7 := hb7.size
  clear hp hG7 ho7 hb6 HG5 hb6' hs6 hs5 hb5
  go_wp2_with fail
  refine (text_lit (HG7.out.scr_at 0 _ rfl) [97, 98] (by kernel_rfl) (by decide)).mono ?_
  rintro _ w8 ⟨rfl, hb8⟩
  have HG8 := Lib.hid (HG7.out.below hb8)
  have hb8' := hb7.trans (hb8.mono hs7)
  have hs8 := hb8'.size
  clear HG7 hb7 hs7 hb8
  go_wp2_with fail
  refine (cell_lit (HG8.out.scr_at 0 _ rfl) 2 32 1 (-1) (-1) 0 rfl).mono ?_
  rintro _ w9 ⟨rfl, hb9⟩
  have hb9' := hb8'.trans (hb9.mono hs8)
  have hs9 := hb9'.size
  clear HG8 hb8' hs8 hb9
  go_wp2_with fail
  refine (letter_any _ _ _).mono ?_
  rintro _ wa ⟨rfl, hba⟩
  have hba' := hb9'.trans (hba.mono hs9)
  have hsa := hba'.size
  clear hb9' hs9 hba HF1
  have hn2 : Calls Tryd.prog 23 #[.int .i64 4, .int .i64 2, .int .i64 5] wa _ := new_ga 4 2 5 (by decide) (by decide) (by decide) (by decide) (by decide) wa
  go_wp2_with fail
  refine hn2.mono ?_
  rintro _ wb ⟨h, H, rfl, hGb, hFb, hbb⟩
  have hbb' := hba'.trans (hbb.mono hsa)
  have HFb : Hid (∀ x ∈ H, w.heap.size ≤ x) := fun x hx => Nat.le_trans hsa (hFb x hx)
  have HGb := Lib.hid hGb
  have hsb := hbb'.size
  clear hn2 hGb hFb hbb hba' hsa
  go_wp2_with fail
  go_loopw [5] (fun i wr => ∃ k : Nat, k ≤ 6 ∧ i = .int .i64 (k : Int) ∧ Hid (GA wr h H 4 5 [] (ex4 k)) ∧ Below w.heap.size w wr) (fun i _ => 6 - (intOf i).toNat)
  case atStart => exact ⟨0, Nat.zero_le _, rfl, HGb, hbb'⟩
  case round =>
    obtain ⟨k, hk, rfl, hG, hbr⟩ := hrel
    have k0 : (0 : Int) ≤ (k : Int) := Int.natCast_nonneg _
    have hsr := hbr.size
    by_cases hk6 : k < 6
    · have k1 : (k : Int) < 6 := by omega
      have hp := fun V (hV : Below wr.heap.size wr V) => put_ga (hG.out.below hV) (HT.out.below (hbr.trans (hV.mono hsr)) hB) (by have := hV.size; omega) ((k % 4 : Nat) : Int) ((k / 4 : Nat) : Int) (97 + (k : Int)) 1 (-1) (-1) 0 (by omega) (by omega) (by omega) (by omega)
      have e1 : ((k % 4 : Nat) : Int) = (k : Int) % 4 := by omega
      have e2 : ((k / 4 : Nat) : Int) = (k : Int) / 4 := by omega
      have HX : Hid (∀ V W', Below wr.heap.size wr V → GA W' h H 4 5 [] (putP 4 (ex4 k) ((k % 4 : Nat) : Int) ((k / 4 : Nat) : Int) (97 + (k : Int), 1, -1, -1, 0)) → Only H V W' → Hid (GA W' h H 4 5 [] (ex4 (k + 1))) ∧ Below w.heap.size w W') := fun V W' h1 h2 h3 =>
        ⟨h2, (hbr.trans (h1.mono hsr)).trans (h3.below (by have := h1.size; omega) HFb.out)⟩
      rw [e1, e2] at HX
      simp only [e1, e2] at hp
      have HP := Lib.hid hp
      clear hp e1 e2 hbr hG
      go_wp2_with fail
      refine (letter_any _ _ _).mono ?_
      rintro _ wc ⟨rfl, hbc⟩
      go_wp2_with fail
      refine (HP.out _ hbc).mono ?_
      rintro _ wd ⟨rfl, hGd, hod⟩
      obtain ⟨hG2, hb2⟩ := HX.out _ _ hbc hGd hod
      clear hGd hod
      go_wp2_with fail
      go_roundw
      case rel => exact ⟨k + 1, by omega, by go_num, hG2, hb2⟩
      case measure => simp [intOf]; omega
    · obtain rfl : k = 6 := by omega
      have hw : Calls Tryd.prog 17 #[.pointer (some ⟨h, 0, none⟩), .int .i64 0, .bool true] wr _ := wrap_ga hG.out 0 (by rw [ex4_len]; decide) true
      go_wp2_with fail
      refine hw.mono ?_
      rintro _ wc ⟨rfl, hGc, hoc⟩
      rw [ex4_is] at hGc
      have hbc := hbr.trans (hoc.below hsr HFb.out)
      have hsc := hbc.size
      have hrz : Calls Tryd.prog 18 #[.pointer (some ⟨h, 0, none⟩), .int .i64 2, .int .i64 2, .agg #[.int .i64 1, .int .i64 1], .bool true] wc _ := resize_lit hGc 2 2 1 1 (by decide) (by decide) (by decide) (by decide) (by decide) 1 1 ex5p ex5 (by kernel_rfl) (by kernel_rfl) (by kernel_rfl) (by kernel_rfl)
      clear hw hG hoc hbr hsr HGb hbb' hsb
      go_wp2_with fail
      refine hrz.mono ?_
      rintro _ wd ⟨rfl, H2, hGd, hWd⟩
      have hbd := hbc.trans (hWd.only.below hsc HFb.out)
      have HFd : Hid (∀ x ∈ H2, w.heap.size ≤ x) := fun x hx => by
        rcases hWd.foot x hx with y | y
        · exact HFb.out x y
        · omega
      have HGd := Lib.hid hGd
      have hsd := hbd.size
      clear hrz hGd hWd HFb hbc hsc hGc
      have hAl : Below wd.heap.size wd (wd.alloc (.cells #[.int .i64 1, .int .i64 1] 44)) := (Below.refl _ _).alloc (Nat.le_refl _) _
      have HZwe := Lib.hid (BL.new wd 44 [.int .i64 1, .int .i64 1])
      have HGwe := Lib.hid (HGd.out.below hAl)
      have hbwe := hbd.trans (hAl.mono hsd)
      have hpl : ∀ x ∈ H2, x ≠ wd.heap.size := fun x hx e => by have := HGd.out.lt x hx; omega
      have HPL := Lib.hid hpl
      have hzz : wd.heap.size < (wd.alloc (.cells #[.int .i64 1, .int .i64 1] 44)).heap.size := by rw [size_alloc]; omega
      clear HGd hbd hAl hpl
      go_wp2_with fail
      generalize wd.alloc (.cells #[.int .i64 1, .int .i64 1] 44) = we at *
      generalize wd.heap.size = pb at *
      refine (text_lit (HGwe.out.scr_at 0 _ rfl) [99, 100] (by kernel_rfl) (by decide)).mono ?_
      rintro _ wf ⟨rfl, hq⟩
      have HGwf := Lib.hid (HGwe.out.below hq)
      have HZwf := Lib.hid (HZwe.out.only (F := []) (Only.of_below hq) (by simp))
      have hbwf := hbwe.trans (hq.mono hbwe.size)
      have hzwf := hq.size
      clear HGwe HZwe hbwe hq
      go_wp2_with fail
      refine (text_lit (HGwf.out.scr_at 1 _ rfl) [101, 102] (by kernel_rfl) (by decide)).mono ?_
      rintro _ wg ⟨rfl, hq⟩
      have HGwg := Lib.hid (HGwf.out.below hq)
      have HZwg := Lib.hid (HZwf.out.only (F := []) (Only.of_below hq) (by simp))
      have hbwg := hbwf.trans (hq.mono hbwf.size)
      have hzwg := hq.size
      clear HGwf HZwf hbwf hq
      go_wp2_with fail
      refine (text_lit (HGwg.out.past_last _ rfl) [97, 98] (by kernel_rfl) (by decide)).mono ?_
      rintro _ wh ⟨rfl, hq⟩
      have HGwh := Lib.hid (HGwg.out.below hq)
      have HZwh := Lib.hid (HZwg.out.only (F := []) (Only.of_below hq) (by simp))
      have hbwh := hbwg.trans (hq.mono hbwg.size)
      have hzwh := hq.size
      clear HGwg HZwg hbwg hq
      go_wp2_with fail
      refine (wrapped_ga (HGwh.out.past_last _ rfl)).mono ?_
      rintro _ wi ⟨rfl, hq⟩
      have HGwi := Lib.hid (HGwh.out.below hq)
      have HZwi := Lib.hid (HZwh.out.only (F := []) (Only.of_below hq) (by simp))
      have hbwi := hbwh.trans (hq.mono hbwh.size)
      have hzwi := hq.size
      clear HGwh HZwh hbwh hq
      have hrz : Calls Tryd.prog 18 #[.pointer (some ⟨h, 0, none⟩), .int .i64 6, .int .i64 2, .agg #[.int .i64 1, .int .i64 1], .bool true] wi _ := resize_lit HGwi.out 6 2 1 1 (by decide) (by decide) (by decide) (by decide) (by decide) 5 0 [] ex6 (by kernel_rfl) (by kernel_rfl) (by kernel_rfl) (by kernel_rfl)
      have z0 : wi.cell? ⟨pb, 0, none⟩ = some (.int .i64 1) := HZwi.out.cell 0
      have z1 : wi.cell? ⟨pb, 1, none⟩ = some (.int .i64 1) := HZwi.out.cell 1
      go_wp2_with fail
      refine hrz.mono ?_
      rintro _ wj ⟨rfl, H3, hGj, hWj⟩
      have hH2 : ∀ x ∈ H2, w.heap.size ≤ x := HFd.out
      have hZj := HZwi.out.only hWj.only (fun hx => HPL.out _ hx rfl)
      have hbj := hbwi.trans (hWj.only.below hbwi.size hH2)
      have hpb3 : ∀ x ∈ H3, x ≠ pb := fun x hx e => by
        rcases hWj.foot x hx with y | y
        · exact HPL.out x y e
        · omega
      have HGj := Lib.hid hGj
      have HB3 := Lib.hid hpb3
      clear hrz hGj hWj HGwi HZwi hbwi hH2 hpb3 z0 z1 HFd HPL
      go_wp2_with (refine wpList_store_bl rfl 44 (.tmp 6) (.tmp 98) rfl pb 0 [.int .i64 5, .int .i64 0] rfl rfl _ _ hZj (by kernel_rfl) (by simp) (by kernel_rfl) ?_; intro wk hZk hWk; have HGwk := Lib.hid (HGj.out.only hWk.only (fun x hx => by simpa using HB3.out x hx)); have HZwk := Lib.hid hZk; have hbwk := hbj.trans (hWk.only.below hbj.size (by simpa using hsd)); have z0 : wk.cell? ⟨pb, 0, none⟩ = some (.int .i64 5) := hZk.cell 0; have z1 : wk.cell? ⟨pb, 1, none⟩ = some (.int .i64 0) := hZk.cell 1; clear hZk hWk hZj)
      clear HGj hbj
      refine (text_lit (HGwk.out.scr_at 0 _ rfl) [97, 98, 99, 100, 101, 102] (by kernel_rfl) (by decide)).mono ?_
      rintro _ wl ⟨rfl, hq⟩
      have HGwl := Lib.hid (HGwk.out.below hq)
      have HZwl := Lib.hid (HZwk.out.only (F := []) (Only.of_below hq) (by simp))
      have hbwl := hbwk.trans (hq.mono hbwk.size)
      have hzwl := hq.size
      clear HGwk HZwk hbwk hq
      go_wp2_with fail
      refine (text_lit (HGwl.out.scr_at 1 _ rfl) [] (by kernel_rfl) (by decide)).mono ?_
      rintro _ wm ⟨rfl, hq⟩
      have HGwm := Lib.hid (HGwl.out.below hq)
      have HZwm := Lib.hid (HZwl.out.only (F := []) (Only.of_below hq) (by simp))
      have hbwm := hbwl.trans (hq.mono hbwl.size)
      have hzwm := hq.size
      clear HGwl HZwl hbwl hq
      have hhi := history_ga HGwm.out
      go_wp2_with fail
      refine hhi.mono ?_
      rintro _ wn ⟨rfl, rfl⟩
      go_wp2_with fail
      go_ret
      exact ⟨rfl, hbwm⟩
end Go.Proofs.YtgjlohplgpcghaaDoor.Grd
