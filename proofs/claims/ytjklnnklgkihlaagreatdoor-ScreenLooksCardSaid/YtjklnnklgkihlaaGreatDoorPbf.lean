/- A line of letters as a text. (Plain.) -/
import Derived.Test.YtjklnnklgkihlaaGreatDoorPNln
import Derived.Lib.TrimByte
import Derived.Test.YtjklnnklgkihlaaGreatDoorPNfg
import Derived.Test.YtjklnnklgkihlaaGreatDoorPNvw
namespace Go.Proofs.YtjklnnklgkihlaaGreatDoor.Scr
open Go.RowKit Cel Sty Grd

theorem runes_getD (B : List UInt8) (p : Nat) (h : p < B.length) : (runesI B).getD p 0 = (B[p].toNat : Int) := by
  unfold runesI
  rw [getD_nth (by rw [List.length_map]; exact h) _, List.getElem_map]
theorem line_letters (c : Nat) (B : List UInt8) (a j : Nat) : lettersL (lineK c (runesI B) B.length a j).1 = (List.range c).map fun x => B.getD (j * c + x) 32 := by
  unfold lettersL lineK
  rw [List.filter_eq_self.2 (fun y hy => by
    obtain ⟨z, _, rfl⟩ := List.mem_map.1 hy
    rw [ceK_wide]
    rfl), List.map_map]
  apply List.map_congr_left
  intro x hx
  simp only [Function.comp]
  unfold ceK
  by_cases h : j * c + x < B.length
  · rw [if_pos h, getD_nth h _]
    simp only
    rw [runes_getD B _ h, Int.toNat_natCast, UInt8.ofNat_toNat]
  · rw [if_neg h, List.getD_eq_getElem?_getD, List.getElem?_eq_none (by omega)]
    rfl
theorem line_text {c : Nat} {B : List UInt8} (h : ∀ u ∈ B, u ≠ 32) (a j : Nat) : Lib.trimRightB (lettersL (lineK c (runesI B) B.length a j).1) 32 = (B.drop (j * c)).take c := by
  rw [line_letters]
  have hg : ∀ i, i < c → ((List.range c).map fun x => B.getD (j * c + x) 32)[i]? = some (B.getD (j * c + i) 32) := fun i hi => by
    rw [List.getElem?_map, List.getElem?_range hi]
    rfl
  rw [Lib.trimRightB_take _ 32 (min c (B.length - j * c)) (by simp; omega)]
  · apply List.ext_getElem
    · simp
    · intro i h1 h2
      simp only [List.length_take, List.length_map, List.length_range] at h1
      simp only [List.getElem_take, List.getElem_map, List.getElem_range, List.getElem_drop]
      rw [getD_nth (by omega) _]
  · intro i b hi hb
    rcases Nat.lt_or_ge i c with hc | hc
    · rw [hg i hc, List.getD_eq_getElem?_getD, List.getElem?_eq_none (by omega)] at hb
      exact (Option.some.inj hb).symm
    · rw [List.getElem?_eq_none (by simp; exact hc)] at hb
      cases hb
  · intro b hk hb
    rw [hg _ (by omega), getD_nth (by omega) _] at hb
    rw [← Option.some.inj hb]
    exact h _ (List.getElem_mem _)
theorem line_seven {c : Nat} {B : List UInt8} (h : ∀ u ∈ B, u.toNat < 128) (a j : Nat) : ∀ y ∈ (lineK c (runesI B) B.length a j).1, y.2.1 ≠ 0 → 0 ≤ y.1 ∧ y.1 < 128 := by
  intro y hy _
  unfold lineK at hy
  obtain ⟨x, _, rfl⟩ := List.mem_map.1 hy
  unfold ceK
  split
  · rename_i hp
    simp only
    rw [runes_getD B _ hp]
    have := h _ (List.getElem_mem hp)
    omega
  · unfold plainCe
    simp only
    omega
end Go.Proofs.YtjklnnklgkihlaaGreatDoor.Scr
/- The document's examples for a screen, in plain words. -/
namespace Go.Proofs.YtjklnnklgkihlaaGreatDoor.Scr
open Go.RowKit Cel Sty Grd

def ex1 : List UInt8 := [97, 98, 99, 100, 101]
def ex2 : List UInt8 := [27, 91, 50, 59, 51, 72, 27, 91, 54, 110, 27, 91, 49, 59, 51, 49, 109]
def csiA (b : Int) (ps : List Int) : Vt.Ac := ⟨4, 0, b, ps, [], []⟩
def tx2 : List Vt.Ac := [csiA 72 [2, 3], csiA 110 [6], csiA 109 [1, 31]]
set_option maxRecDepth 100000 in
theorem run_ex2 : Vt.run Vt.ps0 ex2 = (Vt.ps0, tx2) := by kernel_rfl
def exM (lim : Nat) : MP := stateK 4 2 lim (runesI ex1) 5
def exN : Nat → MP → MP
  | 0, M => M
  | 1, M => goMP 4 M [2, 3]
  | 2, M => goMP 4 M [2, 3]
  | _, M => penMP (goMP 4 M [2, 3]) [1, 31]
def exA : Nat → List UInt8
  | 1 => placeT 2 1
  | _ => []
theorem ex_rows (lim : Nat) : rowTs (exM lim).rows = [.string { data := #[97, 98, 99, 100] }, .string { data := #[101] }] := by kernel_rfl
theorem ex_view (lim : Nat) (rv : Value) : viewL rv (exM lim).S = [rv, .int .i64 1, .int .i64 1, .bool true, .bool false, .int .i64 9, .string { data := #[] }] := by kernel_rfl
theorem ex_pen (lim : Nat) : (exN 3 (exM lim)).S.now.pen = (1, -1, 1) := by kernel_rfl
theorem ex_cat : catP exA 3 = [27, 91, 50, 59, 51, 82] := by
  unfold catP
  simp [List.range_succ, exA, placeT]
  rw [Lib.decDigits, dif_pos (by decide), Lib.decDigits, dif_pos (by decide)]
  rfl
section
variable {B sb g c lim : Nat} {pp tv : Value}
theorem do_0 {M : MP} (ho : M.S.now.origin = false) : DoIs B sb g 4 lim pp tv M (goMP 4 M [2, 3]) (csiA 72 [2, 3]) [] := do_csi rfl (.inl rfl) rfl (step_H (a := csiA 72 [2, 3]) rfl (by decide) ho)
theorem do_1 {M : MP} (ho : M.S.now.origin = false) (hx : M.S.now.x = 2) (hy : M.S.now.y = 1) : DoIs B sb g 4 lim pp tv M M (csiA 110 [6]) (placeT 2 1) := do_csi rfl (.inr (.inl rfl)) rfl (step_n (a := csiA 110 [6]) rfl (by decide) (by decide) ho 2 1 hx hy (by decide) (by decide))
theorem do_2 {M : MP} : DoIs B sb g 4 lim pp tv M (penMP M [1, 31]) (csiA 109 [1, 31]) [] := do_csi rfl (.inr (.inr rfl)) rfl (step_m (a := csiA 109 [1, 31]) rfl (by decide) (by decide) (by decide))
theorem ex_org (lim : Nat) : (exM lim).S.now.origin = false := by kernel_rfl
theorem ex_len (lim : Nat) : (exM lim).rows.length = 2 := rowsK_len _ _ _ _ _
theorem ex_do (k : Nat) (hk : k < tx2.length) {M : MP} (ho : M.S.now.origin = false) (hl : M.rows.length = 2) : DoIs B sb g 4 lim pp tv (exN k M) (exN (k + 1) M) tx2[k] (exA k) := by
  match k, hk with
  | 0, _ => exact do_0 ho
  | 1, _ =>
    refine do_1 (M := goMP 4 M [2, 3]) ho ?_ ?_
    · show nearP 4 (ordP [2, 3] 1 - 1) = 2
      decide
    · show nearP (M.rows.length : Int) (ordP [2, 3] 0 - 1) = 1
      rw [hl]
      decide
  | 2, _ => exact do_2 (M := goMP 4 M [2, 3])
  | k + 3, hk => exact absurd hk (by unfold tx2; simp)
end
theorem ex_wide : ∀ u ∈ ex1, 32 ≤ u.toNat ∧ u.toNat ≤ 126 ∧ width (u.toNat : Int) = 1 := by decide
end Go.Proofs.YtjklnnklgkihlaaGreatDoor.Scr
/- The document's examples for a screen: the walk. -/
namespace Go.Proofs.YtjklnnklgkihlaaGreatDoor.Scr
open Go.RowKit Cel Sty Grd

theorem pat_lower {w : World} {B B' pb db : Nat} {pv tv : Value} {S : Vt.Ps} (Q : Vt.PAt w B pb db pv tv S) (hB : B' ≤ B) : Vt.PAt w B' pb db pv tv S :=
  ⟨Q.par, Q.dec, Vt.own_raise Q.prm fun k hk => Nat.le_trans hB (Q.prm.lt k hk).1, Q.pnil, Vt.own_raise Q.txt fun k hk => Nat.le_trans hB (Q.txt.lt k hk).1, Q.bd, Nat.le_trans hB Q.pB, Nat.le_trans hB Q.dB⟩
theorem pat_below {w w' : World} {B pb db : Nat} {pv tv : Value} {S : Vt.Ps} (Q : Vt.PAt w B pb db pv tv S) (hb : Below w.heap.size w w') : Vt.PAt w' B pb db pv tv S := Q.keep (Cel.below_kept hb fun _ => False) fun _ _ h => h
/-- The program's tables lie below block B. -/
structure Tabled (B : Nat) (w : World) : Prop where
  tab : Grd.Tabs B w
  att : TabA B w
  vt : Cel.Tabs w
  low : Cel.low ≤ B
theorem Tabled.below {B C : Nat} {w w' : World} (h : Tabled B w) (hb : Below C w w') (hC : B ≤ C) : Tabled B w' := ⟨h.tab.below hb hC, h.att.below hb hC, h.vt.below hb (Nat.le_trans h.low hC), h.low⟩
/-- A screen and its parser, in blocks of the call's own. -/
structure Scr0 (B : Nat) (w : World) (sb g : Nat) (F : List Nat) (c lim pb db : Nat) (pv tp tv : Value) (M : MP) (S1 : Vt.Ps) : Prop where
  scr : SG w sb g F c lim M.past M.rows (ptrV pb) tv M.S
  par : Vt.PAt w B pb db pv tp S1
  far : ∀ x ∈ F, B ≤ x
  own : B ≤ sb
  dis : ∀ x ∈ sb :: F, x ∉ mineL pb db pv tp
theorem Scr0.below {B : Nat} {w w' : World} {sb g : Nat} {F : List Nat} {c lim pb db : Nat} {pv tp tv : Value} {M : MP} {S1 : Vt.Ps} (h : Scr0 B w sb g F c lim pb db pv tp tv M S1) (hb : Below w.heap.size w w') : Scr0 B w' sb g F c lim pb db pv tp tv M S1 :=
  ⟨h.scr.below hb, pat_below h.par hb, h.far, h.own, h.dis⟩
theorem Scr0.lt {B : Nat} {w : World} {sb g : Nat} {F : List Nat} {c lim pb db : Nat} {pv tp tv : Value} {M : MP} {S1 : Vt.Ps} (h : Scr0 B w sb g F c lim pb db pv tp tv M S1) : ∀ x ∈ sb :: F ++ mineL pb db pv tp, x < w.heap.size := fun x hx => by
  rcases List.mem_append.1 hx with hx | hx
  · rcases List.mem_cons.1 hx with rfl | hx
    · exact h.scr.blk.lt
    · exact h.scr.grd.lt x hx
  · exact (h.par.lt x (mem_mineL.1 hx)).2
/-- A new one. -/
theorem new_scr {w w' : World} {sb g : Nat} {F : List Nat} {c lim r pb db tb : Nat} (h : NewS w w' sb g F c lim r pb db tb) {B : Nat} (hB : B ≤ w.heap.size) :
    Scr0 B w' sb g F c lim pb db Vt.nilV Vt.nilV (.slice (some ⟨tb, 0, none⟩) c c) ⟨[], List.replicate r (plainR c), newP r⟩ Vt.ps0 := by
  obtain ⟨B1, h1, h2, h3⟩ := h.par
  refine ⟨h.scr, pat_lower h3 (Nat.le_trans hB h1), fun x hx => Nat.le_trans hB (h.new.2.2.2.2 x hx), Nat.le_trans hB h.new.1, fun x hx hm => ?_⟩
  have hm2 : x = pb ∨ x = db := by simpa [mineL, Vt.nilV, Value.ownBlock] using hm
  rcases List.mem_cons.1 hx with rfl | hx
  · have := h.own
    rcases hm2 with e | e
    · exact this.2.2.1 e
    · exact this.2.2.2.1 e
  · have := h.far x hx
    rcases hm2 with e | e
    · exact this.1 e
    · exact this.2.1 e
/-- Behind a Feed. -/
theorem fed_scr {B : Nat} {w w' : World} {sb g : Nat} {F : List Nat} {c lim pb db : Nat} {pv tp tv : Value} {M M2 : MP} {S1 S2 : Vt.Ps} {ov : Value} {t : List UInt8} (h : Scr0 B w sb g F c lim pb db pv tp tv M S1) (hw : B ≤ w.heap.size) (k : FedG w w' sb g F c lim B pb db pv tp tv M2 S2 ov t) :
    ∃ F' pv' tp', Scr0 B w' sb g F' c lim pb db pv' tp' tv M2 S2 ∧ AnsAt w' w.heap.size ov t ∧ Only (sb :: F ++ mineL pb db pv tp) w w' ∧ Below B w w' := by
  obtain ⟨hA, hO, F', pv', tp', hS, hP, hd, hF, hb⟩ := k
  exact ⟨F', pv', tp', ⟨hS, hP, fun x hx => (hF x hx).elim (h.far x) fun q => Nat.le_trans hw q, h.own, hd⟩, hA, hO, hb⟩
section
variable {B : Nat} {w w1 : World} {sb g : Nat} {F : List Nat} {c lim b pb db : Nat} {pv tp tv : Value} {M : MP}
/-- Feed of plain bytes. -/
theorem feed_plain (h : Scr0 B w sb g F c lim pb db pv tp tv M Vt.ps0) (ht : Tabled B w) (hI : Inky c b M) (l : List UInt8) (hl : ∀ u ∈ l, 32 ≤ u.toNat ∧ u.toNat ≤ 126 ∧ width (u.toNat : Int) = 1) (A : Option Addr) (cp : Nat) (hb1 : Below w.heap.size w w1) (hin : Vt.InB w1 A l) (hnew : ∀ g o, A = some ⟨g, o, none⟩ → tp.ownBlock ≠ some g) (hll : l.length ≤ 1000000) :
    Calls Tryz.prog 8 #[ptrV sb, .slice A l.length cp] w1 fun e w' => ∃ ov, e = .returned ov ∧ FedG w w' sb g F c lim B pb db pv tp tv (inkAll c lim b M (runesI l)) Vt.ps0 ov [] :=
  feed_runes h.scr h.par ht.tab ht.att ht.vt ht.low h.far h.own h.dis hI l hl A cp hb1 hin hnew hll
end
theorem place_len (x y : Nat) (hx : x < 99) (hy : y < 99) : (placeT x y).length ≤ 10 := by
  have h1 := dec_len (y + 1) (by omega)
  have h2 := dec_len (x + 1) (by omega)
  unfold placeT
  simp only [List.length_append, List.length_cons, List.length_nil]
  omega
theorem exA_len (k : Nat) : (exA k).length ≤ 10 := by
  unfold exA
  split
  · exact place_len 2 1 (by decide) (by decide)
  · simp
theorem cat_len {an : Nat → List UInt8} {m : Nat} (h : ∀ k, (an k).length ≤ m) (k : Nat) : (catP an k).length ≤ k * m := by
  induction k with
  | zero => simp [catP]
  | succ k ih =>
    rw [← catP_succ, List.length_append, Nat.succ_mul]
    have := h k
    omega
theorem ex_seven (lim : Nat) : ∀ r ∈ (exM lim).rows, ∀ x ∈ r.1, x.2.1 ≠ 0 → 0 ≤ x.1 ∧ x.1 < 128 := by
  intro r hr
  obtain ⟨i, _, rfl⟩ := List.mem_map.1 hr
  exact line_seven (B := ex1) (by decide) _ _
set_option maxRecDepth 100000 in
set_option maxHeartbeats 8000000 in
theorem shown6 (w : World) (ht : Tabled w.heap.size w) : Calls Tryz.prog 5 #[] w fun e w' => e = .returned (.bool true) ∧ Below w.heap.size w w' := by
  have kc := Vt.convert_const
  have kN := new_screen 4 2 10 (by decide) (by decide) (by decide) (by decide) (by decide) w
  have HN := Lib.hid kN
  clear kN
  go_enter Tryz.func5, Tryz.ntmps5
  go_wp2_with fail
  refine HN.out.mono ?_
  rintro _ w1 ⟨sb, g, F, pb, db, tb, rfl, hn1⟩
  have h1 := new_scr hn1 (Nat.le_refl w.heap.size)
  have hb1 := hn1.bel
  have ht1 := ht.below hb1 (Nat.le_refl _)
  have hs1 := hb1.size
  have kf := feed_plain (b := 1) h1 ht1 (new_inky 4 2 (by decide) (by decide)) ex1 ex_wide (some ⟨w1.heap.size, 0, none⟩) 5 (w1 := w1.alloc (.cells #[.int .u8 97, .int .u8 98, .int .u8 99, .int .u8 100, .int .u8 101] 5 (5, 6))) ((Below.refl _ _).alloc (Nat.le_refl _) _) (Vt.inb_const w1 (5, 6) rfl) (fun g o e => new_apart h1.par (by injection e with e; injection e with e; omega)) (by decide)
  have hM : inkAll 4 10 1 ⟨[], List.replicate 2 (plainR 4), newP 2⟩ (runesI ex1) = exM 10 := state_end (c := 4) (r := 2) (lim := 10) (runesI ex1) (by decide) (by decide) (by decide)
  rw [hM] at kf
  have HF1 := Lib.hid kf
  have H1 := Lib.hid h1
  have HT1 := Lib.hid ht1
  have HB1 := Lib.hid hb1
  have HS1 := Lib.hid hs1
  clear kf h1 ht1 hb1 hn1 hM HN hs1
  unfold ptrV at HF1 ⊢
  go_wp2_with fail
  refine HF1.out.mono ?_
  rintro _ w2 ⟨ov1, rfl, hf2⟩
  obtain ⟨F2, pv2, tp2, h2, hA2, hO2, hb2⟩ := fed_scr H1.out HS1.out hf2
  have hs2 : w1.heap.size ≤ w2.heap.size := hO2.size
  have hl2 := h2.lt
  have hr2 := rows_at h2.scr (ex_seven 10)
  rw [ex_rows, ex_len] at hr2
  have kv : ∀ V, Below w2.heap.size w2 V → Calls Tryz.prog 20 #[ptrV sb] V fun e w' => ∃ Av nv cv, e = .returned (.agg #[.slice Av nv cv, .int .i64 1, .int .i64 1, .bool true, .bool false, .int .i64 9, .string { data := #[] }]) ∧ Below V.heap.size V w' := fun V hV => by
    refine (view_at (h2.scr.below hV)).mono ?_
    rintro e w' ⟨Av, nv, cv, he, hb⟩
    rw [ex_view] at he
    exact ⟨Av, nv, cv, he, hb⟩
  obtain ⟨A2, c2, rfl⟩ := Vt.own_slice hA2
  have HR := Lib.hid hr2
  have HV := Lib.hid kv
  have H2 := Lib.hid h2
  have HB2 := Lib.hid (HB1.out.trans hb2)
  have HS2 := Lib.hid hs2
  have HL2 := Lib.hid hl2
  have HT2 := Lib.hid (HT1.out.below hb2 (Nat.le_refl _))
  clear hr2 kv h2 hb2 hs2 hl2 hA2 hO2 hf2 HF1 H1
  unfold ptrV at HR HV
  go_wp2_with fail
  refine HR.out.mono ?_
  rintro _ w3 ⟨v4, rfl, hv4, hb3⟩
  obtain ⟨A4, c4, rfl⟩ := Vt.own_slice hv4
  have HV4 := Lib.hid hv4
  have HB3 := Lib.hid hb3
  clear hv4 hb3 HR
  go_wp2_with fail
  refine (HV.out _ HB3.out).mono ?_
  rintro _ w4 ⟨Av, nv, cv, rfl, hb4⟩
  have hbw4 : Below w2.heap.size w2 w4 := HB3.out.trans (hb4.mono HB3.out.size)
  have hb34 : Below w3.heap.size w3 w4 := hb4
  have hbW : Below w2.heap.size w2 (w4.alloc (.cells #[.slice Av nv cv, .int .i64 1, .int .i64 1, .bool true, .bool false, .int .i64 9, .string { data := #[] }] 43)) := hbw4.alloc hbw4.size _
  have hW := BL.new w4 43 [.slice Av nv cv, .int .i64 1, .int .i64 1, .bool true, .bool false, .int .i64 9, .string { data := #[] }]
  have hWs : (w4.alloc (.cells #[.slice Av nv cv, .int .i64 1, .int .i64 1, .bool true, .bool false, .int .i64 9, .string { data := #[] }] 43)).heap.size = w4.heap.size + 1 := size_alloc _ _
  have h4 := H2.out.below hbW
  have ht4 := HT2.out.below hbW (by have := HS1.out; have := HS2.out; omega)
  have hf2 := fun (V1 : World) (hV1 : Below (w4.alloc (.cells #[.slice Av nv cv, .int .i64 1, .int .i64 1, .bool true, .bool false, .int .i64 9, .string { data := #[] }] 43)).heap.size (w4.alloc (.cells #[.slice Av nv cv, .int .i64 1, .int .i64 1, .bool true, .bool false, .int .i64 9, .string { data := #[] }] 43)) V1) (hin : Vt.InB V1 (some ⟨w4.heap.size + 1, 0, none⟩) ex2) =>
    feed_gen (fun k => exN k (exM 10)) exA h4.scr h4.par ht4.tab ht4.att ht4.vt ht4.low h4.far h4.own h4.dis ex2 tx2 run_ex2 (fun k hk => ex_do k hk (ex_org 10) (ex_len 10)) (fun k hk => Nat.le_trans (cat_len exA_len k) (by have : tx2.length = 3 := rfl; omega)) (fun k _ => Nat.le_trans (exA_len k) (by decide)) (by decide) (some ⟨w4.heap.size + 1, 0, none⟩) 17 hV1 hin (fun g o e => new_apart h4.par (by injection e with e; injection e with e; omega)) (by decide)
  have kc2 : ∀ (C : Array Value) (n c : Nat), Sem.run Tryz.prog (convert 28 28 (.slice (some ⟨w4.heap.size + 1, 0, none⟩) n c)) ((w4.alloc (.cells #[.slice Av nv cv, .int .i64 1, .int .i64 1, .bool true, .bool false, .int .i64 9, .string { data := #[] }] 43)).alloc (.cells C 5)) = .ok (.slice (some ⟨w4.heap.size + 1, 0, none⟩) n c) ((w4.alloc (.cells #[.slice Av nv cv, .int .i64 1, .int .i64 1, .bool true, .bool false, .int .i64 9, .string { data := #[] }] 43)).alloc (.cells C 5 (C.size, C.size + 1))) := fun C n c => by
    have := Vt.convert_const (w4.alloc (.cells #[.slice Av nv cv, .int .i64 1, .int .i64 1, .bool true, .bool false, .int .i64 9, .string { data := #[] }] 43)) C n c
    rw [hWs] at this
    exact this
  have HF2 := Lib.hid hf2
  have H4 := Lib.hid h4
  have HW := Lib.hid hW
  have HBW := Lib.hid hbW
  clear hf2 h4 hW ht4 hb4 HV
  unfold ptrV at HF2
  go_wp2_with fail
  refine (HF2.out _ ((Below.refl _ _).alloc (Nat.le_refl _) _) (by
    have := Vt.inb_const (w4.alloc (.cells #[.slice Av nv cv, .int .i64 1, .int .i64 1, .bool true, .bool false, .int .i64 9, .string { data := #[] }] 43)) (C := #[.int .u8 27, .int .u8 91, .int .u8 50, .int .u8 59, .int .u8 51, .int .u8 72, .int .u8 27, .int .u8 91, .int .u8 54, .int .u8 110, .int .u8 27, .int .u8 91, .int .u8 49, .int .u8 59, .int .u8 51, .int .u8 49, .int .u8 109]) (l := ex2) (17, 18) rfl
    rw [hWs] at this
    exact this)).mono ?_
  rintro _ w5 ⟨ov5, rfl, hf5⟩
  have hB4 : w.heap.size ≤ w2.heap.size := by have := HS1.out; have := HS2.out; omega
  obtain ⟨F5, pv5, tp5, h5, hA5, hO5, hb5⟩ := fed_scr H4.out (Nat.le_trans hB4 HBW.out.size) hf5
  rw [show tx2.length = 3 from rfl] at hA5 h5
  rw [ex_cat] at hA5
  obtain ⟨A5, c5, rfl⟩ := Vt.own_slice hA5
  have kcv : Sem.run Tryz.prog (convert 28 9 (.slice A5 6 c5)) w5 = .ok (.string { data := #[27, 91, 50, 59, 51, 82] }) w5 := Vt.convert_byts (l := [27, 91, 50, 59, 51, 82]) hA5
  have hfar : ∀ b, w2.heap.size ≤ b → b ∉ sb :: F2 ++ mineL pb db pv2 tp2 := fun b hb hm => by
    have := HL2.out b hm
    omega
  have hV5 := HW.out.only hO5 (hfar _ hbw4.size)
  have y1 : w5.cell? ⟨w4.heap.size, 1, none⟩ = some (.int .i64 1) := hV5.cell 1
  have y2 : w5.cell? ⟨w4.heap.size, 2, none⟩ = some (.int .i64 1) := hV5.cell 2
  have y3 : w5.cell? ⟨w4.heap.size, 3, none⟩ = some (.bool true) := hV5.cell 3
  have y4 : w5.cell? ⟨w4.heap.size, 4, none⟩ = some (.bool false) := hV5.cell 4
  have y5 : w5.cell? ⟨w4.heap.size, 5, none⟩ = some (.int .i64 9) := hV5.cell 5
  have hbW3 : Below w3.heap.size w3 (w4.alloc (.cells #[.slice Av nv cv, .int .i64 1, .int .i64 1, .bool true, .bool false, .int .i64 9, .string { data := #[] }] 43)) := hb34.alloc hb34.size _
  have hv5 := own_only (own_only HV4.out (F := []) (Only.of_below hbW3) (by simp)) hO5 fun b hb => hfar b (HV4.out.lt b hb).1
  obtain ⟨g4, rfl⟩ := Vt.own_addr hv5 (by decide)
  have z0 : w5.cell? ⟨g4, 0, none⟩ = some (.string { data := #[97, 98, 99, 100] }) := hv5.cells (g := g4) rfl 0 _ rfl
  have z1 : w5.cell? ⟨g4, 1, none⟩ = some (.string { data := #[101] }) := hv5.cells (g := g4) rfl 1 _ rfl
  have ks := style_at h5.scr.blk
  rw [ex_pen] at ks
  have hbf : Below w.heap.size w w5 := (HB2.out.trans (HBW.out.mono hB4)).trans hb5
  have HBF := Lib.hid hbf
  have HKS := Lib.hid ks
  clear hbf ks h5 hA5 hO5 hb5 hf5 hV5 hv5 hbW3 hfar HF2 H4 HW HBW kc2 H2 HT2 hbw4
  unfold ptrV at HKS
  simp only at HKS
  go_wp2_with fail
  refine HKS.out.mono ?_
  rintro _ w6 ⟨rfl, hb6⟩
  go_wp2_with fail
  go_ret
  exact ⟨rfl, HBF.out.trans (hb6.mono HBF.out.size)⟩
end Go.Proofs.YtjklnnklgkihlaaGreatDoor.Scr
