/- The walk of the law that rows scrolled up and down again stand where they stood. -/
import Derived.Test.YtgjlohplgpcghaaDoorGsh
namespace Go.Proofs.YtgjlohplgpcghaaDoor.Grd
open Go.RowKit Cel Sty

theorem upP_at {rs : List Ro} {T L q : Nat} {b : Ro} (h : T + L ≤ rs.length) (hq : q ≤ L) {y : Nat} (h1 : T ≤ y) (h2 : y < T + L) : (upP rs T L q b)[y]? = if y + q < T + L then rs[y + q]? else some b := by
  unfold upP
  have hl : (rs.take T).length = T := by rw [List.length_take]; omega
  have hm : ((rs.drop (T + q)).take (L - q)).length = L - q := by rw [List.length_take, List.length_drop]; omega
  rw [List.getElem?_append_right (by omega), hl]
  split
  · rw [List.getElem?_append_left (by omega), List.getElem?_take_of_lt (by omega), List.getElem?_drop]
    congr 1; omega
  · rw [List.getElem?_append_right (by omega), hm, List.getElem?_append_left (by rw [List.length_replicate]; omega), List.getElem?_replicate, if_pos (by omega)]
theorem upP_out {rs : List Ro} {T L q : Nat} {b : Ro} (h : T + L ≤ rs.length) (hq : q ≤ L) {y : Nat} (h1 : y < T ∨ T + L ≤ y) : (upP rs T L q b)[y]? = rs[y]? := by
  unfold upP
  have hl : (rs.take T).length = T := by rw [List.length_take]; omega
  have hm : ((rs.drop (T + q)).take (L - q)).length = L - q := by rw [List.length_take, List.length_drop]; omega
  rcases h1 with h1 | h1
  · rw [List.getElem?_append_left (by omega), List.getElem?_take_of_lt h1]
  · rw [List.getElem?_append_right (by omega), hl, List.getElem?_append_right (by omega), hm, List.getElem?_append_right (by rw [List.length_replicate]; omega), List.length_replicate, List.getElem?_drop]
    congr 1; omega
theorem downP_at {rs : List Ro} {T L q : Nat} {b : Ro} (h : T + L ≤ rs.length) (hq : q ≤ L) {y : Nat} (h1 : T ≤ y) (h2 : y < T + L) : (downP rs T L q b)[y]? = if y < T + q then some b else rs[y - q]? := by
  unfold downP
  have hl : (rs.take T).length = T := by rw [List.length_take]; omega
  have hm : ((rs.drop T).take (L - q)).length = L - q := by rw [List.length_take, List.length_drop]; omega
  rw [List.getElem?_append_right (by omega), hl]
  split
  · rw [List.getElem?_append_left (by rw [List.length_replicate]; omega), List.getElem?_replicate, if_pos (by omega)]
  · rw [List.getElem?_append_right (by rw [List.length_replicate]; omega), List.length_replicate, List.getElem?_append_left (by omega), List.getElem?_take_of_lt (by omega), List.getElem?_drop]
    congr 1; omega
theorem downP_out {rs : List Ro} {T L q : Nat} {b : Ro} (h : T + L ≤ rs.length) (hq : q ≤ L) {y : Nat} (h1 : y < T ∨ T + L ≤ y) : (downP rs T L q b)[y]? = rs[y]? := by
  unfold downP
  have hl : (rs.take T).length = T := by rw [List.length_take]; omega
  have hm : ((rs.drop T).take (L - q)).length = L - q := by rw [List.length_take, List.length_drop]; omega
  rcases h1 with h1 | h1
  · rw [List.getElem?_append_left (by omega), List.getElem?_take_of_lt h1]
  · rw [List.getElem?_append_right (by omega), hl, List.getElem?_append_right (by rw [List.length_replicate]; omega), List.length_replicate, List.getElem?_append_right (by omega), hm, List.getElem?_drop]
    congr 1; omega
theorem downP_len {rs : List Ro} {T L q : Nat} {b : Ro} (h : T + L ≤ rs.length) (hq : q ≤ L) : (downP rs T L q b).length = rs.length := by
  unfold downP
  simp only [List.length_append, List.length_take, List.length_drop, List.length_replicate]
  omega
/-- Up, and down again: what stands there. -/
theorem moved {rs : List Ro} {T L q : Nat} {b : Ro} (h : T + L ≤ rs.length) (hq : q ≤ L) (y : Nat) : (downP (upP rs T L q b) T L q b)[y]? = if T ≤ y ∧ y < T + q then some b else rs[y]? := by
  have hu := upP_len (b := b) h hq
  by_cases h1 : T ≤ y ∧ y < T + L
  · rw [downP_at (by omega) hq h1.1 h1.2]
    by_cases h2 : y < T + q
    · rw [if_pos h2, if_pos ⟨h1.1, h2⟩]
    · rw [if_neg h2, if_neg (fun e => h2 e.2), upP_at h hq (by omega) (by omega), if_pos (by omega)]
      congr 1; omega
  · rw [downP_out (by omega) hq (by omega), upP_out h hq (by omega), if_neg (fun e => h1 ⟨e.1, by omega⟩)]
theorem letters_blank (c : Nat) : Lib.trimRightB (lettersL (List.replicate c plainCe)) 32 = [] := by
  have e : lettersL (List.replicate c plainCe) = List.replicate c 32 := by
    unfold lettersL plainCe
    rw [List.filter_replicate_of_pos (by decide), List.map_replicate]
    rfl
  rw [e]
  unfold Lib.trimRightB
  rw [List.reverse_replicate]
  have h : (List.replicate c (32 : UInt8)).dropWhile (· == 32) = [] := by
    cases c with
    | zero => rfl
    | succ c => simp
  rw [h]
  rfl
set_option maxRecDepth 100000 in
theorem sameCells_ne {w : World} {A1 A2 : Option Addr} {n1 n2 c1 c2 : Nat} (hne : n1 ≠ n2) (_h1 : n1 ≤ 1000000) (_h2 : n2 ≤ 1000000) :
    Calls Tryd.prog 32 #[.slice A1 n1 c1, .slice A2 n2 c2] w fun e w' => e = .returned (.bool false) ∧ w' = w := by
  have d : ((n1 : Int) == (n2 : Int)) = false := by simp; omega
  have d2 : ((n1 : Int) != (n2 : Int)) = true := by simp; omega
  clear hne
  go_enter Tryd.func32, Tryd.ntmps32
  go_wp2_with fail
  go_ret
  exact ⟨rfl, rfl⟩
theorem text_blank {w : World} {g : Nat} {y : Int} {c : Nat} (h : RowOf w g y (plainR c)) :
    Calls Tryd.prog 33 #[.pointer (some ⟨g, 0, none⟩), .int .i64 y] w fun e w' => e = .returned (.string ⟨#[]⟩) ∧ Below w.heap.size w w' :=
  text_lit h [] (letters_blank c) (fun x hx => by rw [List.eq_of_mem_replicate hx]; decide)

set_option maxRecDepth 100000 in
set_option maxHeartbeats 4000000 in
theorem moves_walk {B : Nat} (cols rows top bottom n : Int) (hc0 : -9223372036854775808 ≤ cols) (hc1 : cols ≤ 9223372036854775807) (hr0 : -9223372036854775808 ≤ rows) (hr1 : rows ≤ 9223372036854775807)
    (ht0 : -9223372036854775808 ≤ top) (ht1 : top ≤ 9223372036854775807) (hb0 : -9223372036854775808 ≤ bottom) (hb1 : bottom ≤ 9223372036854775807) (hn0 : -9223372036854775808 ≤ n) (hn1 : n ≤ 9223372036854775807)
    (A : Option Addr) (tn cp : Nat) (txt : Nat → ByteArray) (w : World) (ht : Tabs B w) (hB : B ≤ w.heap.size) (hrd : RdT w A tn txt) (hsz : ∀ k, k < tn → (txt k).size ≤ 1048576) (hn : tn ≤ 9223372036854775807) :
    Calls Tryd.prog 6 #[.int .i64 cols, .int .i64 rows, .slice A tn cp, .int .i64 top, .int .i64 bottom, .int .i64 n] w fun e w' => e = .returned (.bool true) ∧ Below w.heap.size w w' := by
  have hsh := shown_any w ht hB
  have hfl := fun V (hV : Below w.heap.size w V) => filled_law cols rows 0 hc0 hc1 hr0 hr1 (by decide) (by decide) A tn cp txt V (ht.below hV hB) (by have := hV.size; omega) (hrd.below hV) hsz hn
  have hpt := fun (m : Int) (h0 : 0 < m) (h1 : m ≤ 16777216) V => pick_any top m ht0 ht1 h0 h1 V
  have hpb := fun (m : Int) (h0 : 0 < m) (h1 : m ≤ 16777216) V => pick_any bottom m hb0 hb1 h0 h1 V
  have hpn := fun (m : Int) (h0 : 0 < m) (h1 : m ≤ 16777216) V => pick_any n m hn0 hn1 h0 h1 V
  have pc := pickS_le cols 20 (by decide)
  have pr := pickS_le rows 12 (by decide)
  have pz : (pickS 0 40).toNat = 0 := rfl
  rw [pz] at hfl
  obtain ⟨c, hc⟩ : ∃ c, 1 + (pickS cols 20).toNat = c := ⟨_, rfl⟩
  obtain ⟨r, hr⟩ : ∃ r, 1 + (pickS rows 12).toNat = r := ⟨_, rfl⟩
  rw [hc, hr] at hfl
  obtain ⟨T, hT, hTr⟩ := pick_nat top r (by omega)
  obtain ⟨D, hD, hDr⟩ := pick_nat bottom (r - T) (by omega)
  obtain ⟨Q, hQ, hQr⟩ := pick_nat n (D + 1) (by omega)
  have hpt' := hpt (r : Int) (by omega) (by omega)
  rw [hT] at hpt'
  have eD : ((r - T : Nat) : Int) = (r : Int) - (T : Int) := by omega
  have hpb' := hpb ((r - T : Nat) : Int) (by omega) (by omega)
  rw [hD, eD] at hpb'
  have hpn' : ∀ m : Int, m = (D : Int) + 1 → ∀ V, Calls Tryd.prog 10 #[.int .i64 n, .int .i64 m] V fun e w' => e = .returned (.int .i64 (Q : Int)) ∧ V = w' := fun m hm V => by
    have e : m = ((D + 1 : Nat) : Int) := by omega
    subst e
    have := hpn ((D + 1 : Nat) : Int) (by omega) (by omega) V
    rwa [hQ] at this
  have HFL := Lib.hid hfl
  have HPT := Lib.hid hpt'
  have HPB := Lib.hid hpb'
  have HPN := Lib.hid hpn'
  have r1 : 1 ≤ r := by omega
  have r2 : r ≤ 12 := by omega
  clear hc0 hc1 hr0 hr1 ht0 ht1 hb0 hb1 hn0 hn1 hfl hpt hpb hpn hpt' hpb' hpn' pc pr pz hc hr hT hD hQ eD ht hrd hsz hn
  go_enter Tryd.func6, Tryd.ntmps6
  go_wp2_with fail
  refine hsh.mono ?_
  rintro _ w1 ⟨rfl, hb1⟩
  have hs1 := hb1.size
  clear hsh
  go_wp2_with fail
  refine (HFL.out _ hb1).mono ?_
  rintro _ w2 ⟨g, rfl, F, past, rws, hG2, hrl, hfin, hF2, hb2⟩
  have hbd := hG2.bd
  have hp0 : past = [] := List.eq_nil_of_length_eq_zero (by have := hbd.p2; omega)
  subst hp0
  have hcl := hbd.cells
  have hb2' : Below w.heap.size w w2 := hb1.trans (hb2.mono hs1)
  have HG2 := Lib.hid hG2
  have HF2 : Hid (∀ x ∈ F, w.heap.size ≤ x) := fun x hx => Nat.le_trans hs1 (hF2 x hx)
  have hs2 := hb2'.size
  have hcl2 := clone_ga hG2
  have c1 := hbd.c1
  have c2 := hbd.c2
  have HCL := Lib.hid hcl
  clear hG2 hF2 hb2 hb1 hs1 HFL hfin hbd hcl
  go_wp2_with fail
  refine hcl2.mono ?_
  rintro _ w3 ⟨g2, F2, rfl, hG3, hF3, hb3⟩
  have hb3' := hb2'.trans (hb3.mono hs2)
  have HW2 := Lib.hid hG3
  have HG3 := Lib.hid (HG2.out.below hb3)
  have HD3 : Hid (∀ x ∈ F2, x ∉ F) := fun x h1 h2 => by have := hF3 x h1; have := HG2.out.lt x h2; omega
  have hs3 := hb3'.size
  have hrw := rows_ga HG3.out
  rw [hrl] at hrw
  clear hcl2 hG3 hF3 hb3 HG2 hb2' hs2
  go_wp2_with fail
  refine hrw.mono ?_
  rintro _ w4 ⟨rfl, rfl⟩
  go_wp2_with fail
  refine (HPT.out _).mono ?_
  rintro _ w4 ⟨rfl, rfl⟩
  go_wp2_with fail
  refine hrw.mono ?_
  rintro _ w4 ⟨rfl, rfl⟩
  go_wp2_with fail
  refine (HPB.out _).mono ?_
  rintro _ w4 ⟨rfl, rfl⟩
  go_wp2_with fail
  refine (HPN.out _ (by omega) _).mono ?_
  rintro _ w4 ⟨rfl, rfl⟩
  obtain ⟨Bt, hBt⟩ : ∃ Bt, T + D = Bt := ⟨_, rfl⟩
  obtain ⟨q, hq⟩ : ∃ q, 1 + Q = q := ⟨_, rfl⟩
  have eB : (T : Int) + (D : Int) = (Bt : Int) := by omega
  have eq' : 1 + (Q : Int) = (q : Int) := by omega
  have hTB : T ≤ Bt := by omega
  have hBr : Bt < r := by omega
  have hq1 : 1 ≤ q := by omega
  have hq2 : q ≤ Bt + 1 - T := by omega
  go_wp2_with fail
  clear eB eq' hBt hq hTr hDr hQr HPT HPB HPN hrw
  refine (refPlain_any _).mono ?_
  rintro _ w4 ⟨rfl, hb4⟩
  have hup := up_ga (HG3.out.below hb4) T Bt q hTB (by omega) (q : Int) (by omega) (by omega) (-1) (-1) 0 right_plain false (.inl rfl)
  go_wp2_with fail
  refine hup.mono ?_
  rintro _ w5 ⟨rfl, F5, hG5, hW5⟩
  have hb4' := hb3'.trans (hb4.mono hs3)
  have hb5 := hb4'.trans (hW5.only.below hb4'.size HF2.out)
  have hs5 := hb5.size
  have hs34 := hb4.size
  have HW5 := Lib.hid ((HW2.out.below hb4).only hW5.only HD3.out)
  have HF5 : Hid (∀ x ∈ F5, w.heap.size ≤ x) := fun x hx => by
    rcases hW5.foot x hx with y | y
    · exact HF2.out x y
    · have := hb4'.size; omega
  have HD5 : Hid (∀ x ∈ F2, x ∉ F5) := fun x h1 h2 => by
    rcases hW5.foot x h2 with y | y
    · exact HD3.out x h1 y
    · have := HW2.out.lt x h1; omega
  obtain ⟨up, hupd⟩ : ∃ u, upP rws T (Bt + 1 - T) q (blankR c (-1, -1, 0)) = u := ⟨_, rfl⟩
  have hul : up.length = r := by rw [← hupd, upP_len (by omega) (by omega), hrl]
  rw [hupd] at hG5
  have HUPD := Lib.hid hupd
  have HUAT : Hid (∀ y, T ≤ y → y < T + (Bt + 1 - T) → up[y]? = if y + q < T + (Bt + 1 - T) then rws[y + q]? else some (blankR c (-1, -1, 0))) := fun y h1 h2 => by
    rw [← HUPD.out]; exact upP_at (by omega) (by omega) h1 h2
  have HG5 := Lib.hid hG5
  have hbd5 := hG5.bd
  have HC5 := Lib.hid hbd5.cells
  clear hup hG5 hW5 hb4 hb4' hb3' hs3 hs34 HG3 HW2 HF2 HD3 hupd hbd5
  go_wp2_with fail
  go_loopw [16] (fun i wr => ∃ y : Nat, T ≤ y ∧ y ≤ Bt + 1 ∧ i = .int .i64 (y : Int) ∧ Below w5.heap.size w5 wr) (fun i _ => Bt + 1 - (intOf i).toNat)
  case atStart => exact ⟨T, Nat.le_refl _, by omega, rfl, Below.refl _ _⟩
  case round =>
    obtain ⟨y, hy1, hy2, rfl, hbr⟩ := hrel
    have y0 : (0 : Int) ≤ (y : Int) := Int.natCast_nonneg _
    by_cases hyB : y ≤ Bt
    · have i1 : (y : Int) ≤ (Bt : Int) := by omega
      have j1 : IntKind.i64.wrap ((y : Int) + (q : Int)) = (y : Int) + (q : Int) := IntWalk.i64_in _ ⟨by omega, by omega⟩
      have hbw := hb5.trans (hbr.mono hs5)
      have hsr := hbr.size
      have hal : Below wr.heap.size wr (wr.alloc (.cells #[] 35)) := (Below.refl _ _).alloc (Nat.le_refl _) _
      have hua := HUAT.out y hy1 (by omega)
      by_cases hyq : y + q ≤ Bt
      · have i2 : (y : Int) + (q : Int) ≤ (Bt : Int) := by omega
        obtain ⟨rr, hrr⟩ : ∃ rr, rws[y + q]? = some rr := ⟨_, List.getElem?_eq_getElem (by omega)⟩
        rw [if_pos (by omega), hrr] at hua
        have HRL : Hid (rr.1.length = c) := HCL.out rr (List.mem_append_right _ (List.mem_of_getElem? hrr))
        have hln := line_ga (((HW5.out.below hbr).below hal).scr_at (y + q) rr hrr)
        rw [Int.natCast_add] at hln
        have HUA := Lib.hid hua
        have HRR := Lib.hid hrr
        clear hyB hua hrr
        go_wp2_with fail
        refine hln.mono ?_
        rintro _ w6 ⟨b1, c1', rfl, hC6, hbb6, hb6⟩
        have hal6 := hal.trans (hb6.mono hal.size)
        have hg6 := (HG5.out.below hbr).below hal6
        have hs6 := hal6.size
        clear hln hb6 hal
        go_wp2_with fail
        refine (line_ga (hg6.scr_at y rr HUA.out)).mono ?_
        rintro _ w7 ⟨b2, c2', rfl, hC7, hbb7, hb7⟩
        have hC67 := hC6.only (F := []) (Only.of_below hb7) (by simp)
        have hsc := sameCells_any hC7 hC67 c2' c1' (by rw [HRL.out]; omega) (by rw [HRL.out]; omega) hC7.1 hC67.1 true (by simp)
        have hb67 := hal6.trans (hb7.mono hs6)
        go_wp2_with fail
        refine hsc.mono ?_
        rintro _ w8 ⟨rfl, hb8⟩
        have hb68 := hbr.trans ((hb67.trans (hb8.mono hb67.size)).mono hsr)
        clear hsc hC6 hC7 hC67 hal6 hg6 hb67 hb8 hb7
        go_wp2_with fail
        go_roundw
        case rel => exact ⟨y + 1, by omega, by omega, by go_num, hb68⟩
        case measure => simp [intOf]; omega
      · have i2 : (Bt : Int) < (y : Int) + (q : Int) := by omega
        rw [if_neg (by omega)] at hua
        have HUA := Lib.hid hua
        have hg6 := (HG5.out.below hbr).below hal
        have hlc : (blankR c (-1, -1, 0)).1.length = c := List.length_replicate
        have hln := line_ga (hg6.scr_at y _ HUA.out)
        rw [hlc] at hln
        clear hyB hua
        go_wp2_with fail
        refine hln.mono ?_
        rintro _ w7 ⟨b2, c2', rfl, hC7, hbb7, hb7⟩
        have hb67 := hal.trans (hb7.mono hal.size)
        go_wp2_with fail
        refine (sameCells_ne (by omega) (by omega) (by omega)).mono ?_
        rintro _ w8 ⟨rfl, rfl⟩
        have htx := text_blank (((HG5.out.below hbr).below hb67).scr_at y (plainR c) HUA.out)
        go_wp2_with fail
        refine htx.mono ?_
        rintro _ w9 ⟨rfl, hb9⟩
        have hb79 := hbr.trans ((hb67.trans (hb9.mono hb67.size)).mono hsr)
        clear hln hb7 hC7 hal hg6 hb67 hb9 htx
        go_wp2_with fail
        go_roundw
        case rel => exact ⟨y + 1, by omega, by omega, by go_num, hb79⟩
        case measure => simp [intOf]; omega
    · obtain rfl : y = Bt + 1 := by omega
      have i1 : (Bt : Int) < ((Bt + 1 : Nat) : Int) := by omega
      have i2 : ¬ ((Bt + 1 : Nat) : Int) ≤ (Bt : Int) := by omega
      have hbw := hb5.trans (hbr.mono hs5)
      go_wp2_with fail
      clear i1 i2 y0 hy1 hy2
      refine (refPlain_any _).mono ?_
      rintro _ w6 ⟨rfl, hb6⟩
      have hb56 := hbr.trans (hb6.mono hbr.size)
      have hdn := down_ga (HG5.out.below hb56) T Bt q hTB (by omega) (q : Int) (by omega) (by omega) (-1) (-1) 0 right_plain
      go_wp2_with fail
      refine hdn.mono ?_
      rintro _ w7 ⟨rfl, F7, hG7, hW7⟩
      have hb06 := hb5.trans (hb56.mono hs5)
      have hb7 := hb06.trans (hW7.only.below hb06.size HF5.out)
      have hs7 := hb7.size
      have HW7 := Lib.hid ((HW5.out.below hb56).only hW7.only HD5.out)
      obtain ⟨dn, hdnd⟩ : ∃ u, downP up T (Bt + 1 - T) q (blankR c (-1, -1, 0)) = u := ⟨_, rfl⟩
      have hdl : dn.length = r := by rw [← hdnd, downP_len (by omega) (by omega), hul]
      have HDAT : Hid (∀ y, dn[y]? = if T ≤ y ∧ y < T + q then some (blankR c (-1, -1, 0)) else rws[y]?) := fun y => by
        rw [← hdnd, ← HUPD.out]
        exact moved (by omega) (by omega) y
      rw [hdnd] at hG7
      have HG7 := Lib.hid hG7
      have hrw7 := fun V (hV : Below w7.heap.size w7 V) => rows_ga (HG7.out.below hV)
      rw [hdl] at hrw7
      have HRW7 := Lib.hid hrw7
      have j2 : IntKind.i64.wrap ((T : Int) + (q : Int)) = (T : Int) + (q : Int) := IntWalk.i64_in _ ⟨by omega, by omega⟩
      clear hdn hG7 hW7 hb56 hb6 hb06 hdnd hrw7 HG5 HW5 HF5 HD5 HUAT HC5 hbr hbw hul HUPD
      go_wp2_with fail
      go_loopw [19] (fun i wz => ∃ y : Nat, y ≤ r ∧ i = .int .i64 (y : Int) ∧ Below w7.heap.size w7 wz) (fun i _ => r - (intOf i).toNat)
      case atStart => exact ⟨0, Nat.zero_le _, rfl, Below.refl _ _⟩
      case round =>
        obtain ⟨y, hy, rfl, hbz⟩ := hrel
        have y0 : (0 : Int) ≤ (y : Int) := Int.natCast_nonneg _
        have hsz := hbz.size
        by_cases hyr : y < r
        · have i1 : (y : Int) < (r : Int) := by omega
          have hda := HDAT.out y
          obtain ⟨m2, hm2⟩ : ∃ m2, rws[y]? = some m2 := ⟨_, List.getElem?_eq_getElem (by omega)⟩
          have HRL2 : Hid (m2.1.length = c) := HCL.out m2 (List.mem_append_right _ (List.mem_of_getElem? hm2))
          have HM2 := Lib.hid hm2
          rw [hm2] at hda
          clear hm2 hy
          by_cases hgone : T ≤ y ∧ y < T + q
          · obtain ⟨g1, g2'⟩ := hgone
            have i2 : (T : Int) ≤ (y : Int) := by omega
            have i3 : (y : Int) < (T : Int) + (q : Int) := by omega
            rw [if_pos ⟨g1, g2'⟩] at hda
            have HM1 := Lib.hid hda
            have HRL1 : Hid ((blankR c (-1, -1, 0)).1.length = c) := List.length_replicate
            generalize hmm : blankR c (-1, -1, 0) = m1 at *
            have HMM := Lib.hid hmm
            obtain ⟨ev, hev⟩ : ∃ ev, decide (m1.1 = m2.1) = ev := ⟨_, rfl⟩
            have HEV := Lib.hid hev
            clear hda hyr g1 g2' hmm hev
            go_wp2_with fail
            refine (HRW7.out _ hbz).mono ?_
            rintro _ w8 ⟨rfl, rfl⟩
            go_wp2_with fail
            refine (line_ga ((HG7.out.below hbz).scr_at y _ HM1.out)).mono ?_
            rintro _ w8 ⟨b1, c1', rfl, hC8, hbb8, hb8⟩
            have hb78 := hbz.trans (hb8.mono hsz)
            have hs8 := hb78.size
            go_wp2_with fail
            refine (line_ga ((HW7.out.below hb78).scr_at y _ HM2.out)).mono ?_
            rintro _ w9 ⟨b2, c2', rfl, hC9, hbb9, hb9⟩
            have hC89 := hC8.only (F := []) (Only.of_below hb9) (by simp)
            have hb79 := hb78.trans (hb9.mono hs8)
            have hsc := sameCells_any hC89 hC9 c1' c2' (by rw [HRL1.out]; omega) (by rw [HRL2.out]; omega) hC89.1 hC9.1 ev HEV.out
            go_wp2_with fail
            refine hsc.mono ?_
            rintro _ wa ⟨rfl, hba⟩
            have hb7a := hb79.trans (hba.mono hb79.size)
            clear hsc hC8 hC9 hC89 hb8 hb9 hba hb78 hb79
            have htx := text_blank ((HG7.out.below hb7a).scr_at y (plainR c) (HM1.out.trans (congrArg some HMM.out.symm)))
            go_wp2_with fail
            refine htx.mono ?_
            rintro _ wb ⟨rfl, hbb⟩
            have hb7b := hb7a.trans (hbb.mono hb7a.size)
            clear htx hbb hb7a
            go_wp2_with fail
            go_roundw
            case rel => exact ⟨y + 1, by omega, by go_num, hb7b⟩
            case measure => simp [intOf]; omega
          · rw [if_neg hgone] at hda
            have HM1 := Lib.hid hda
            clear hda hyr
            by_cases hyT : y < T
            · have i2 : (y : Int) < (T : Int) := by omega
              clear hgone hyT
              go_wp2_with fail
              refine (HRW7.out _ hbz).mono ?_
              rintro _ w8 ⟨rfl, rfl⟩
              go_wp2_with fail
              refine (line_ga ((HG7.out.below hbz).scr_at y _ HM1.out)).mono ?_
              rintro _ w8 ⟨b1, c1', rfl, hC8, hbb8, hb8⟩
              have hb78 := hbz.trans (hb8.mono hsz)
              have hs8 := hb78.size
              go_wp2_with fail
              refine (line_ga ((HW7.out.below hb78).scr_at y _ HM2.out)).mono ?_
              rintro _ w9 ⟨b2, c2', rfl, hC9, hbb9, hb9⟩
              have hC89 := hC8.only (F := []) (Only.of_below hb9) (by simp)
              have hb79 := hb78.trans (hb9.mono hs8)
              have hsc := sameCells_any hC89 hC9 c1' c2' (by rw [HRL2.out]; omega) (by rw [HRL2.out]; omega) hC89.1 hC9.1 true (by simp)
              go_wp2_with fail
              refine hsc.mono ?_
              rintro _ wa ⟨rfl, hba⟩
              have hb7a := hb79.trans (hba.mono hb79.size)
              clear hsc hC8 hC9 hC89 hb8 hb9 hba hb78 hb79
              go_wp2_with fail
              go_roundw
              case rel => exact ⟨y + 1, by omega, by go_num, hb7a⟩
              case measure => simp [intOf]; omega
            · have i2 : (T : Int) ≤ (y : Int) := by omega
              have i3 : (T : Int) + (q : Int) ≤ (y : Int) := by omega
              clear hgone hyT
              go_wp2_with fail
              refine (HRW7.out _ hbz).mono ?_
              rintro _ w8 ⟨rfl, rfl⟩
              go_wp2_with fail
              refine (line_ga ((HG7.out.below hbz).scr_at y _ HM1.out)).mono ?_
              rintro _ w8 ⟨b1, c1', rfl, hC8, hbb8, hb8⟩
              have hb78 := hbz.trans (hb8.mono hsz)
              have hs8 := hb78.size
              go_wp2_with fail
              refine (line_ga ((HW7.out.below hb78).scr_at y _ HM2.out)).mono ?_
              rintro _ w9 ⟨b2, c2', rfl, hC9, hbb9, hb9⟩
              have hC89 := hC8.only (F := []) (Only.of_below hb9) (by simp)
              have hb79 := hb78.trans (hb9.mono hs8)
              have hsc := sameCells_any hC89 hC9 c1' c2' (by rw [HRL2.out]; omega) (by rw [HRL2.out]; omega) hC89.1 hC9.1 true (by simp)
              go_wp2_with fail
              refine hsc.mono ?_
              rintro _ wa ⟨rfl, hba⟩
              have hb7a := hb79.trans (hba.mono hb79.size)
              clear hsc hC8 hC9 hC89 hb8 hb9 hba hb78 hb79
              go_wp2_with fail
              go_roundw
              case rel => exact ⟨y + 1, by omega, by go_num, hb7a⟩
              case measure => simp [intOf]; omega
        · obtain rfl : y = r := by omega
          have hhi := history_ga (HG7.out.below hbz)
          have hbe := hb7.trans (hbz.mono hs7)
          clear hyr hy
          go_wp2_with fail
          refine (HRW7.out _ hbz).mono ?_
          rintro _ w8 ⟨rfl, rfl⟩
          go_wp2_with fail
          refine hhi.mono ?_
          rintro _ w8 ⟨rfl, rfl⟩
          go_wp2_with fail
          go_ret
          exact ⟨rfl, hbe⟩
end Go.Proofs.YtgjlohplgpcghaaDoor.Grd
