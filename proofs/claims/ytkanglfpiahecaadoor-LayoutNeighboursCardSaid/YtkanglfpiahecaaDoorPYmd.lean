/- The law's own: a tree behind some splits. -/
import Derived.Test.YtkanglfpiahecaaDoorPYcn
import Derived.Test.YtkanglfpiahecaaDoorPYsq
import Derived.Test.YtkanglfpiahecaaDoorPYsb
import Derived.Test.YtkanglfpiahecaaDoorPYex
namespace Go.Proofs.YtkanglfpiahecaaDoor.Lyt
open Go.RowKit

structure OpV where
  k : Int
  a : Int
  b : Int
  n : Int
  way : Int
  be : Bool
  bf : Bool
  s : ByteArray
def opL (o : OpV) : List Value := [.int .i64 o.k, .int .i64 o.a, .int .i64 o.b, .int .i64 o.n, .int .u8 o.way, .bool o.be, .bool o.bf, .string o.s]
def OpV.ok (o : OpV) : Prop := (-9223372036854775808 ≤ o.a ∧ o.a ≤ 9223372036854775807) ∧ (-9223372036854775808 ≤ o.n ∧ o.n ≤ 9223372036854775807)
/-- Calls that can be read. -/
def RdO (w : World) (A : Option Addr) (n : Nat) (ops : Nat → OpV) : Prop := ∀ k, k < n → ∃ g o, A = some ⟨g, o, none⟩ ∧ g < w.heap.size ∧ (ops k).ok ∧ ∀ j, j < 8 → w.cell? ⟨g, o + k * 8 + j, none⟩ = (opL (ops k))[j]?
theorem RdO.later {w w' : World} {A : Option Addr} {n : Nat} {ops : Nat → OpV} (h : RdO w A n ops) (hb : Below w.heap.size w w') : RdO w' A n ops := fun k hk => by
  obtain ⟨g, o, h1, h2, h3, h4⟩ := h k hk
  exact ⟨g, o, h1, Nat.lt_of_lt_of_le h2 hb.size, h3, fun j hj => (hb.cell (p := ⟨g, o + k * 8 + j, none⟩) h2).trans (h4 j hj)⟩
theorem TS.more {w0 wr : World} {tb m m' M M' : Nat} {T : F} (h : TS w0 tb m M T wr) (hm : m ≤ m') (hM : M ≤ M') (hlim : M' ≤ 1000000) : TS w0 tb m' M' T wr :=
  ⟨h.tin, h.siz, h.one, h.ptr, h.nod, h.norm, F.all_mono (fun p _ _ hp => by omega) h.pns, hlim, h.uni, Nat.le_trans h.cnt hm, h.new, h.fr⟩
set_option maxRecDepth 100000 in
set_option maxHeartbeats 2000000 in
theorem made_any {x y : Int} (hx : 1 ≤ x ∧ x ≤ 250) (hy : 1 ≤ y ∧ y ≤ 120) (A : Option Addr) (n c : Nat) (ops : Nat → OpV) (w : World) (hro : RdO w A n ops) :
    Calls Tryd.prog 6 #[.int .i64 x, .int .i64 y, .slice A n c] w fun e w' => ∃ tb T, e = .returned (pV tb) ∧ TS w tb 31 31 T w' := by
  have HRO := Lib.hid hro
  have HNew := Lib.hid (New_at hx hy (show (1 : Int) ≤ 1 by omega) w)
  clear hro
  unfold pV at HNew ⊢
  go_enter Tryd.func6, Tryd.ntmps6
  go_wp2_with fail
  refine HNew.out.mono ?_
  rintro _ w1 ⟨tb, rfl, htb, hT0, hb1⟩
  have HT0 := Lib.hid (show ∃ T, TS w tb 1 1 T w1 from ⟨_, TS.new_ (Nat.le_refl _) (by omega) (by omega) (by omega) hT0 htb hb1⟩)
  clear hT0 htb hb1 HNew hx hy
  go_wp2_with fail
  go_loopw [9] (fun i wr => ∃ k : Nat, k ≤ n ∧ k ≤ 30 ∧ i = .int .i64 (k : Int) ∧ Hid (∃ T, TS w tb (k + 1) (k + 1) T wr)) (fun i _ => n - (intOf i).toNat)
  case atStart => exact ⟨0, Nat.zero_le _, Nat.zero_le _, rfl, HT0⟩
  case round =>
    obtain ⟨k, hk, hk30, rfl, hTS⟩ := hrel
    clear HT0
    by_cases hgo : k < n ∧ k < 30
    · obtain ⟨hlt, hlt2⟩ := hgo
      have i1 : (k : Int) < (n : Int) := by omega
      have i2 : (k : Int) < 30 := by omega
      obtain ⟨T, hT⟩ := hTS.out
      clear hTS
      obtain ⟨go, oo, rfl, -, hok, hcell⟩ := HRO.out.later hT.fr k hlt
      obtain ⟨o, ho⟩ : ∃ o, ops k = o := ⟨_, rfl⟩
      rw [ho] at hok hcell
      obtain ⟨ok, oa, ob, on, ow, be, bf, os⟩ := o
      obtain ⟨⟨ha0, ha1⟩, ⟨hn0, hn1⟩⟩ := hok
      simp only at ha0 ha1 hn0 hn1
      have q0 : wr.cell? ⟨go, oo + k * 8, none⟩ = some (.int .i64 ok) := hcell 0 (by omega)
      have q1 : wr.cell? ⟨go, oo + k * 8 + 1, none⟩ = some (.int .i64 oa) := hcell 1 (by omega)
      have q2 : wr.cell? ⟨go, oo + k * 8 + 2, none⟩ = some (.int .i64 ob) := hcell 2 (by omega)
      have q3 : wr.cell? ⟨go, oo + k * 8 + 3, none⟩ = some (.int .i64 on) := hcell 3 (by omega)
      have q4 : wr.cell? ⟨go, oo + k * 8 + 4, none⟩ = some (.int .u8 ow) := hcell 4 (by omega)
      have q5 : wr.cell? ⟨go, oo + k * 8 + 5, none⟩ = some (.bool be) := hcell 5 (by omega)
      have q6 : wr.cell? ⟨go, oo + k * 8 + 6, none⟩ = some (.bool bf) := hcell 6 (by omega)
      have q7 : wr.cell? ⟨go, oo + k * 8 + 7, none⟩ = some (.string os) := hcell 7 (by omega)
      have hBL := BL.new wr 47 [.int .i64 ok, .int .i64 oa, .int .i64 ob, .int .i64 on, .int .u8 ow, .bool be, .bool bf, .string os]
      have hal : Below wr.heap.size wr (wr.alloc (.cells #[.int .i64 ok, .int .i64 oa, .int .i64 ob, .int .i64 on, .int .u8 ow, .bool be, .bool bf, .string os] 47)) := (Below.refl _ _).alloc (Nat.le_refl _) _
      have HBX := Lib.hid (ts_boxes (hT.below hal) (by omega))
      have HBL := Lib.hid hBL
      have HTT := Lib.hid hT
      have hWs : wr.heap.size ≤ (wr.alloc (.cells #[.int .i64 ok, .int .i64 oa, .int .i64 ob, .int .i64 on, .int .u8 ow, .bool be, .bool bf, .string os] 47)).heap.size := hal.size
      have HWS := Lib.hid hWs
      clear hcell ho hBL hal hT hWs
      unfold pV at HBX
      go_wp2_with fail
      clear q0 q1 q2 q3 q4 q5 q6 q7
      generalize wr.alloc (.cells #[.int .i64 ok, .int .i64 oa, .int .i64 ob, .int .i64 on, .int .u8 ow, .bool be, .bool bf, .string os] 47) = W at *
      generalize hvb : wr.heap.size = vb at *
      have hWs := HWS.out
      have hTl := HTT.out.tin.lt
      refine HBX.out.mono ?_
      rintro _ w2 ⟨l, g, cc, rfl, -, hl1, hl2, ⟨hg0, hg⟩, hlc, hT2, hb2⟩
      obtain ⟨kk, hkk, hkk2⟩ := pickS_in oa (l.length : Int) (by omega)
      obtain ⟨zz, hzz, hzz2⟩ := pickS_in on 9 (by decide)
      have p1 := fun V => pick7 oa (l.length : Int) ha0 ha1 (by omega) (by omega) V
      have p2 := fun V => pick7 on 9 hn0 hn1 (by decide) (by decide) V
      rw [hkk] at p1
      rw [hzz] at p2
      have hkl : kk < l.length := by omega
      have hc0 : w2.cell? ⟨g, kk * 5, none⟩ = some (.int .i64 l[kk].1) := hlc _ _ (bx_cell (List.getElem?_eq_getElem hkl) 0 (by omega))
      have hb3 := HBL.out.only (Only.of_below (F := []) hb2) (by simp)
      have hbl := hTl
      rw [hvb] at hbl
      have hvg : vb ∉ T.blks := fun hx => by have := hbl vb hx; omega
      have hgg : g ∉ T.blks := fun hx => by have := hbl g hx; have := hWs; omega
      have SS : ∀ V, Only T.blks w2 V → (V.cell? ⟨vb, 1, none⟩ = some (.int .i64 oa) ∧ V.cell? ⟨vb, 3, none⟩ = some (.int .i64 on) ∧ V.cell? ⟨vb, 5, none⟩ = some (.bool be) ∧ V.cell? ⟨vb, 6, none⟩ = some (.bool bf) ∧ V.cell? ⟨g, kk * 5, none⟩ = some (.int .i64 l[kk].1) ∧ Only T.blks w2 V) := fun V hV => by
        have h1 := hb3.only hV hvg
        exact ⟨h1.cell 1, h1.cell 3, h1.cell 5, h1.cell 6, (World.cell?_of_block (w := w2) (a := ⟨g, kk * 5, none⟩) (hV.block g hg hgg)).trans hc0, hV⟩
      have o1 : Only T.blks w2 w2.drew := (Only.refl _ _).drew
      have j0 : (0 : Int) ≤ (kk : Int) := Int.natCast_nonneg _
      have j1 : IntKind.i64.wrap ((k : Int) + 2) = (k : Int) + 2 := IntWalk.i64_in _ ⟨by omega, by omega⟩
      have hTd : TS w tb (k + 1) (k + 1) T w2.drew := hT2.below (Below.refl _ _).drew
      have hsp := ts_split (pane := l[kk].1) (q := (k : Int) + 2) (size := (zz : Int)) (M' := k + 2) hTd (by omega) (by omega) (by omega) (by omega) (by omega) be bf
      have HSP := Lib.hid hsp
      have HPK : Hid (∀ x m v, (x = oa ∧ m = (l.length : Int) ∧ v = (kk : Int) ∨ x = on ∧ m = 9 ∧ v = (zz : Int)) → ∀ V, Calls Tryd.prog 7 #[.int .i64 x, .int .i64 m] V fun e w' => e = .returned (.int .i64 v) ∧ V = w') := by
        rintro x m v (⟨rfl, rfl, rfl⟩ | ⟨rfl, rfl, rfl⟩) V
        · exact p1 V
        · exact p2 V
      have hne : ((l.length : Int) == 0) = false := by rw [beq_eq_false_iff_ne]; omega
      unfold pV at HSP
      generalize l[kk].1 = id at *
      generalize l.length = L at *
      clear hlc hc0 hb3 hT2 hTd hsp p1 p2 hkk hzz HBL HBX hkl hl1 hl2 l hbl hTl hWs HWS HTT hvb hvg hgg hg0
      go_wp2_with fail
      go_region_held3 (fun V => V.cell? ⟨vb, 1, none⟩ = some (.int .i64 oa) ∧ V.cell? ⟨vb, 3, none⟩ = some (.int .i64 on) ∧ V.cell? ⟨vb, 5, none⟩ = some (.bool be) ∧ V.cell? ⟨vb, 6, none⟩ = some (.bool bf) ∧ V.cell? ⟨g, kk * 5, none⟩ = some (.int .i64 id) ∧ Only T.blks w2 V)
        (first
          | (refine SS _ ?_; assumption)
          | fail)
        (first
          | (go_at_call 7; refine (HPK.out _ _ _ (by first | exact Or.inl ⟨rfl, rfl, rfl⟩ | exact Or.inr ⟨rfl, rfl, rfl⟩) _).mono ?_; rintro _ w4 ⟨rfl, rfl⟩)
          | (go_at_call 10; refine HSP.out.mono ?_; rintro _ w5 ⟨ans, rfl, hO5, hor⟩; have k5 := o1.trans hO5))
      all_goals
        have HN := Lib.hid (show ∃ T, TS w tb (k + 1 + 1) (k + 1 + 1) T w5 from by
          rcases hor with ⟨-, h, -⟩ | ⟨-, -, -, -, -, -, -, T', -, h, -⟩
          · exact ⟨_, h.more (by omega) (by omega) (by omega)⟩
          · exact ⟨_, h⟩)
        clear hor hO5 k5 SS o1 HPK HSP
        go_wp2_with fail
        go_roundw
        case rel => exact ⟨k + 1, by omega, by omega, by go_num, HN⟩
        case measure => simp [intOf]; omega
    · have hend : (n : Int) ≤ (k : Int) ∨ ((k : Int) < (n : Int) ∧ (30 : Int) ≤ (k : Int)) := by omega
      have HE := Lib.hid (show ∃ T, TS w tb 31 31 T wr from by obtain ⟨T, h⟩ := hTS.out; exact ⟨T, h.more (by omega) (by omega) (by omega)⟩)
      clear hgo hTS HRO
      rcases hend with i1 | ⟨i1, i2⟩
      all_goals
        go_wp2_with fail
        go_ret
        obtain ⟨T, h⟩ := HE.out
        exact ⟨tb, T, rfl, h⟩
end Go.Proofs.YtkanglfpiahecaaDoor.Lyt
/- The law: a split that is closed again leaves no trace. -/
namespace Go.Proofs.YtkanglfpiahecaaDoor.Lyt
open Go.RowKit

section
variable {w0 wr w' : World} {tb m M : Nat} {T : F}
theorem all_in {P : Int → Int → Int → Prop} {q : Int} : ∀ {f : F}, f.all P → f.inP q → ∃ s0 s1, P q s0 s1
  | .leaf _ _ s0 s1 r, h, hi => by
    rcases hi with rfl | hi
    · exact ⟨s0, s1, h.1⟩
    · exact all_in (f := r) h.2 hi
  | .node _ _ _ _ ks r, h, hi => by
    rcases hi with hi | hi
    · exact all_in (f := ks) h.1 hi
    · exact all_in (f := r) h.2 hi
theorem TS.out (h : TS w0 tb m M T wr) {q : Int} (hq : (M : Int) < q) : ¬ T.inP q := fun hi => by
  obtain ⟨_, _, h1⟩ := all_in h.pns hi
  omega
theorem ts_has_no (h : TS w0 tb m M T wr) (hm : m ≤ 40) {q : Int} (hq : ¬ T.inP q) :
    Calls Tryd.prog 11 #[pV tb, .int .i64 q] wr fun e w' => e = .returned (.bool false) ∧ TS w0 tb m M T w' ∧ Below wr.heap.size wr w' := by
  obtain ⟨l, hl⟩ := h.ups q
  have hd : decide (l ≠ []) = false := decide_eq_false (fun hne => hq ((inP_one h.one hl).2 hne))
  refine (Has_at (h.ok hm).one (h.ok hm).big h.tin h.hv hl).mono ?_
  rintro e w' ⟨he, hb⟩
  exact ⟨by rw [he, hd], h.below hb, hb⟩
theorem ts_has_yes (h : TS w0 tb m M T wr) (hm : m ≤ 40) {q : Int} (hq : T.inP q) :
    Calls Tryd.prog 11 #[pV tb, .int .i64 q] wr fun e w' => e = .returned (.bool true) ∧ TS w0 tb m M T w' ∧ Below wr.heap.size wr w' := by
  obtain ⟨l, hl⟩ := h.ups q
  have hd : decide (l ≠ []) = true := decide_eq_true ((inP_one h.one hl).1 hq)
  refine (Has_at (h.ok hm).one (h.ok hm).big h.tin h.hv hl).mono ?_
  rintro e w' ⟨he, hb⟩
  exact ⟨by rw [he, hd], h.below hb, hb⟩
/-- What is alike to a tree but for its places. -/
theorem TS.alike {wo : World} (h : TS w0 tb m M T wo) {T2 : F} (hb : T2.bare = T.bare) (hin : T2.In wr) (hnd : T2.blks.Nodup) (hp : T2.ptrs = [pV tb]) (hnew : ∀ x ∈ T2.blks, w0.heap.size ≤ x) (hfr : Below w0.heap.size w0 wr) : TS w0 tb m M T2 wr := by
  refine ⟨hin, F.all_bare.1 (by rw [hb]; exact F.all_bare.2 h.siz), ?_, hp, hnd, ?_, F.all_bare.1 (by rw [hb]; exact F.all_bare.2 h.pns), h.lim, (fun q => by rw [← F.num_bare, hb, F.num_bare]; exact h.uni q), ?_, hnew, hfr⟩
  · have := congrArg List.length hp
    rwa [F.ptrs_len] at this
  · rw [← F.norm_bare, hb, F.norm_bare]; exact h.norm
  · rw [← F.cnt_bare, hb, F.cnt_bare]; exact h.cnt
/-- A pane is in the tree behind its split; closed, the tree is as it was. -/
theorem ts_undo {wo : World} (h : TS w0 tb m M T wo) {M' : Nat} {T' : F} {pane q s0 s1 sz : Int} {b : Nat} {frs : List Fr} {x : Bool} (hm : m ≤ 39) (hq : ¬ T.inP q) (hT : T = plug (.leaf b pane s0 s1 .nil) frs) (hbr : T'.bare = (rema (t0P x false pane q s0 s1 sz) frs).bare) :
    T'.inP q ∧ (∀ wr, TS w0 tb (m + 1) M' T' wr → Calls Tryd.prog 12 #[pV tb, .int .i64 q] wr fun e w' => e = .returned (.int .i64 0) ∧ ∃ T2, TS w0 tb m M T2 w' ∧ T2.bare = T.bare) := by
  have hpq : pane ≠ q := fun e => hq (by rw [hT]; exact inP_plug.2 (.inl (.inl e)))
  have hn0 : frsN q frs = 0 := by
    rcases Nat.eq_zero_or_pos (frsN q frs) with h0 | h0
    · exact h0
    · exfalso
      refine hq (num_in.2 ?_)
      rw [hT, num_plug]
      omega
  have hnt : (t0P x false pane q s0 s1 sz).num q = 1 := by
    simp [t0P, F.num, hpq]
  have hnT : T'.num q = 1 := by rw [← F.num_bare, hbr, F.num_bare, num_rema, hnt, hn0]
  have hin : T'.inP q := num_in.2 (by omega)
  refine ⟨hin, fun wr h' => ?_⟩
  obtain ⟨l, hl⟩ := h'.ups q
  have hne := (inP_one h'.one hl).1 hin
  obtain ⟨fA, bg, m0, m1, hlv, hz⟩ := zip_one h'.one hl hne
  have hA : ∀ fr ∈ fA, ¬ fr.l.inP q ∧ ¬ fr.r.inP q := by
    refine frsN_no ?_
    have h1 := hnT
    rw [hz, num_plug] at h1
    have h2 : (F.leaf bg q m0 m1 .nil).num q = 1 := by simp [F.num]
    omega
  have hno := h.norm
  rw [hT] at hno hq
  obtain ⟨fr1, up1, l0, eb, h0, h1, rfl, hfl, hun⟩ := undo (par := -1) (al := if x then 0 else 1) (b := b) (p := pane) (q := q) (s0 := s0) (s1 := s1) (sz := sz) (bg := bg) (m0 := m0) (m1 := m1) (frs := frs) (fA := fA) (T1 := T') (by omega) (by cases x <;> simp) hno hq (by
    rw [hbr]
    cases x <;> rfl) hz hA
  refine (Close_behind (h'.ok (by omega)) h'.tin h'.nod h'.hv hl hz hlv hfl).mono ?_
  rintro e w' ⟨he, ⟨T2, k1, -, k3, k4, k5, k6, -⟩, ko⟩
  have hbT : T2.bare = T.bare := k6.trans (hun.trans (by rw [hT]))
  refine ⟨he, T2, h.alike hbT k1 k3 (k5.trans h'.ptr) (fun z hz2 => ?_) (h'.fr.trans (ko.below h'.fr.size h'.new)), hbT⟩
  rcases k4 z hz2 with h8 | h8
  · exact h'.new z h8
  · have := h'.fr.size; omega
end
set_option maxRecDepth 100000 in
set_option maxHeartbeats 4000000 in
theorem undo_walk {B : Nat} (ww hh aa zz : Int) (hw0 : -9223372036854775808 ≤ ww) (hw1 : ww ≤ 9223372036854775807) (hh0 : -9223372036854775808 ≤ hh) (hh1 : hh ≤ 9223372036854775807) (ha0 : -9223372036854775808 ≤ aa) (ha1 : aa ≤ 9223372036854775807) (hz0 : -9223372036854775808 ≤ zz) (hz1 : zz ≤ 9223372036854775807) (be : Bool)
    (A : Option Addr) (n c : Nat) (ops : Nat → OpV) (w : World) (ht : Tab B w) (hB : B ≤ w.heap.size) (hro : RdO w A n ops) :
    Calls Tryd.prog 3 #[.int .i64 ww, .int .i64 hh, .slice A n c, .int .i64 aa, .bool be, .int .i64 zz] w fun e w' => e = .returned (.bool true) ∧ Below w.heap.size w w' := by
  have HT := Lib.hid ht
  have HRO := Lib.hid hro
  have HS := Lib.hid (shown_any w ht hB)
  obtain ⟨pw, hpw, hpw2⟩ := pickS_in ww 60 (by decide)
  obtain ⟨ph, hph, hph2⟩ := pickS_in hh 40 (by decide)
  obtain ⟨pz, hpz, hpz2⟩ := pickS_in zz 9 (by decide)
  have p1 := fun V => pick7 ww 60 hw0 hw1 (by decide) (by decide) V
  have p2 := fun V => pick7 hh 40 hh0 hh1 (by decide) (by decide) V
  have p3 := fun V => pick7 zz 9 hz0 hz1 (by decide) (by decide) V
  rw [hpw] at p1
  rw [hph] at p2
  rw [hpz] at p3
  have P1 := Lib.hid p1
  have P2 := Lib.hid p2
  have P3 := Lib.hid p3
  have j1 : IntKind.i64.wrap (1 + (pw : Int)) = 1 + (pw : Int) := IntWalk.i64_in _ ⟨by omega, by omega⟩
  have j2 : IntKind.i64.wrap (1 + (ph : Int)) = 1 + (ph : Int) := IntWalk.i64_in _ ⟨by omega, by omega⟩
  clear p1 p2 p3 hpw hph hpz hw0 hw1 hh0 hh1 hz0 hz1 ht hro
  go_enter Tryd.func3, Tryd.ntmps3
  go_wp2_with fail
  refine HS.out.mono ?_
  rintro _ w1 ⟨rfl, hb1⟩
  have HB1 := Lib.hid hb1
  have HMd := Lib.hid (made_any (x := 1 + (pw : Int)) (y := 1 + (ph : Int)) (by omega) (by omega) A n c ops w1 (HRO.out.later hb1))
  clear hb1 HS
  unfold pV at HMd
  go_wp2_with fail
  refine (P1.out _).mono ?_
  rintro _ w2 ⟨rfl, rfl⟩
  go_wp2_with fail
  refine (P2.out _).mono ?_
  rintro _ w2 ⟨rfl, rfl⟩
  go_wp2_with fail
  refine HMd.out.mono ?_
  rintro _ w3 ⟨tb, T, rfl, hT⟩
  have HBX := Lib.hid (ts_boxes hT (by omega))
  clear hT HMd P1 P2 HRO
  unfold pV at HBX
  go_wp2_with fail
  refine HBX.out.mono ?_
  rintro _ w4 ⟨l, g, cc, rfl, -, hl1, hl2, ⟨-, hg⟩, hlc, hT4, hb4⟩
  obtain ⟨kk, hkk, hkk2⟩ := pickS_in aa (l.length : Int) (by omega)
  have p4 := fun V => pick7 aa (l.length : Int) ha0 ha1 (by omega) (by omega) V
  rw [hkk] at p4
  have hkl : kk < l.length := by omega
  have hc0 : w4.cell? ⟨g, kk * 5, none⟩ = some (.int .i64 l[kk].1) := hlc _ _ (bx_cell (List.getElem?_eq_getElem hkl) 0 (by omega))
  have k0 : (0 : Int) ≤ (kk : Int) := Int.natCast_nonneg _
  have hne : ((l.length : Int) == 0) = false := by rw [beq_eq_false_iff_ne]; omega
  have P4 := Lib.hid p4
  have HT4 := Lib.hid hT4
  clear hlc hkk p4 hT4 hb4 HBX hg hl1 hl2 ha0 ha1
  generalize l[kk].1 = id at *
  clear hkl
  generalize l.length = L at *
  clear l
  go_wp2_with fail
  refine (P4.out _).mono ?_
  rintro _ w5 ⟨rfl, rfl⟩
  have HPr := Lib.hid (ts_print HT4.out (by omega) (HT.out.on hB (HB1.out.trans (HT4.out.fr.mono HB1.out.size))) (Nat.le_trans hB (Nat.le_trans HB1.out.size HT4.out.fr.size)))
  unfold pV at HPr
  clear P4
  go_wp2_with fail
  refine HPr.out.mono ?_
  rintro _ w6 ⟨rfl, hT6, -⟩
  have HT6 := Lib.hid hT6
  have HEX := Lib.hid (HT.out.on hB HB1.out)
  have HNB := Lib.hid (Nat.le_trans hB HB1.out.size)
  have HSP := Lib.hid (ts_split (pane := id) (q := 999) (size := (pz : Int)) (M' := 999) hT6 (by omega) (by omega) (by omega) (by omega) (by omega) be false)
  have HO := Lib.hid (hT6.out (q := 999) (by omega))
  clear hT6 HPr HT4 HT
  unfold pV at HSP
  obtain ⟨S, hS⟩ : ∃ S, S = bs (prT T) := ⟨_, rfl⟩
  rw [← hS]
  have HSS := Lib.hid hS
  clear hS
  go_wp2_with fail
  refine (P3.out _).mono ?_
  rintro _ w7 ⟨rfl, rfl⟩
  clear P3
  go_wp2_with fail
  refine HSP.out.mono ?_
  rintro _ w8 ⟨ans, rfl, -, ⟨hans, hT8, -⟩ | ⟨rfl, hq, frs, b, s0, s1, sz, T', hTp, hT', hbr⟩⟩
  · have HPr := Lib.hid (ts_print hT8 (by omega) (HEX.out.on HNB.out hT8.fr) (Nat.le_trans HNB.out hT8.fr.size))
    rw [← HSS.out] at HPr
    unfold pV at HPr
    clear hT8 HSP
    go_wp2_with fail
    refine HPr.out.mono ?_
    rintro _ w9 ⟨rfl, hT9, -⟩
    have HHas := Lib.hid (ts_has_no hT9 (by omega) HO.out)
    unfold pV at HHas
    clear hT9 HPr
    go_wp2_with fail
    refine HHas.out.mono ?_
    rintro _ w10 ⟨rfl, hT10, -⟩
    have HF := Lib.hid (HB1.out.trans (hT10.fr.mono HB1.out.size))
    clear hT10 HHas
    go_wp2_with fail
    go_ret
    exact ⟨rfl, HF.out⟩
  · obtain ⟨hin, hcl⟩ := ts_undo (M' := 999) HT6.out (by omega) hq hTp hbr
    have HHas := Lib.hid (ts_has_yes hT' (by omega) hin)
    have HCl := Lib.hid hcl
    unfold pV at HHas HCl
    clear hin hcl hT' hbr hq hTp HSP
    go_wp2_with fail
    refine HHas.out.mono ?_
    rintro _ w9 ⟨rfl, hT9, -⟩
    have HC2 := Lib.hid (HCl.out _ hT9)
    clear hT9 HCl HHas
    go_wp2_with fail
    refine HC2.out.mono ?_
    rintro _ w10 ⟨rfl, T2, hT2, hb2⟩
    have HPr := Lib.hid (ts_print hT2 (by omega) (HEX.out.on HNB.out hT2.fr) (Nat.le_trans HNB.out hT2.fr.size))
    rw [prT_bare hb2, ← HSS.out] at HPr
    unfold pV at HPr
    clear hT2 hb2 HC2
    go_wp2_with fail
    refine HPr.out.mono ?_
    rintro _ w11 ⟨rfl, hT11, -⟩
    have HF := Lib.hid (HB1.out.trans (hT11.fr.mono HB1.out.size))
    clear hT11 HPr
    go_wp2_with fail
    go_ret
    exact ⟨rfl, HF.out⟩
end Go.Proofs.YtkanglfpiahecaaDoor.Lyt
/- Two panes swapped: the tree with its panes renamed. -/
namespace Go.Proofs.YtkanglfpiahecaaDoor.Lyt
open Go.RowKit

/-- A tree with its panes renamed. -/
def F.ren (g : Int → Int) : F → F
  | .nil => .nil
  | .leaf b p s0 s1 r => .leaf b (g p) s0 s1 (r.ren g)
  | .node b kb cap al ks r => .node b kb cap al (ks.ren g) (r.ren g)
/-- Its leaves: block, pane, size; the blocks of its splits. -/
def F.lvs : F → List (Nat × Int × Int × Int)
  | .nil => []
  | .leaf b p s0 s1 r => (b, p, s0, s1) :: r.lvs
  | .node _ _ _ _ ks r => ks.lvs ++ r.lvs
def F.nds : F → List Nat
  | .nil => []
  | .leaf _ _ _ _ r => r.nds
  | .node b kb _ _ ks r => b :: kb :: (ks.nds ++ r.nds)
section
variable {g : Int → Int}
theorem F.ren_len : ∀ f : F, (f.ren g).len = f.len
  | .nil => rfl
  | .leaf _ _ _ _ r => by simp [F.ren, F.len, F.ren_len r]
  | .node _ _ _ _ _ r => by simp [F.ren, F.len, F.ren_len r]
theorem F.ren_ptrs : ∀ f : F, (f.ren g).ptrs = f.ptrs
  | .nil => rfl
  | .leaf _ _ _ _ r => by simp [F.ren, F.ptrs, F.ren_ptrs r]
  | .node _ _ _ _ _ r => by simp [F.ren, F.ptrs, F.ren_ptrs r]
theorem F.ren_blks : ∀ f : F, (f.ren g).blks = f.blks
  | .nil => rfl
  | .leaf _ _ _ _ r => by simp [F.ren, F.blks, F.ren_blks r]
  | .node _ _ _ _ ks r => by simp [F.ren, F.blks, F.ren_blks r, F.ren_blks ks]
theorem F.ren_cnt : ∀ f : F, (f.ren g).cnt = f.cnt
  | .nil => rfl
  | .leaf _ _ _ _ r => by simp [F.ren, F.cnt, F.ren_cnt r]
  | .node _ _ _ _ ks r => by simp [F.ren, F.cnt, F.ren_cnt r, F.ren_cnt ks]
theorem F.ren_all {P : Int → Int → Int → Prop} : ∀ {f : F}, f.all (fun p s0 s1 => P (g p) s0 s1) → (f.ren g).all P
  | .nil, _ => trivial
  | .leaf _ _ _ _ r, h => ⟨h.1, F.ren_all (f := r) h.2⟩
  | .node _ _ _ _ ks r, h => ⟨F.ren_all (f := ks) h.1, F.ren_all (f := r) h.2⟩
theorem F.ren_norm {par : Int} : ∀ {f : F}, f.norm par → (f.ren g).norm par
  | .nil, _ => trivial
  | .leaf _ _ _ _ r, h => F.ren_norm (f := r) h
  | .node _ _ _ _ ks r, h => ⟨h.1, h.2.1, by rw [F.ren_len]; exact h.2.2.1, F.ren_norm (f := ks) h.2.2.2.1, F.ren_norm (f := r) h.2.2.2.2⟩
theorem F.ren_num {q q' : Int} (h : ∀ p, g p = q ↔ p = q') : ∀ f : F, (f.ren g).num q = f.num q'
  | .nil => rfl
  | .leaf _ p _ _ r => by
    simp only [F.ren, F.num, F.ren_num h r]
    by_cases hp : p = q'
    · rw [if_pos hp, if_pos ((h p).2 hp)]
    · rw [if_neg hp, if_neg (fun e => hp ((h p).1 e))]
  | .node _ _ _ _ ks r => by simp only [F.ren, F.num, F.ren_num h r, F.ren_num h ks]
theorem F.ren_ren {k : Int → Int} (h : ∀ p, k (g p) = p) : ∀ f : F, (f.ren g).ren k = f
  | .nil => rfl
  | .leaf _ p _ _ r => by simp [F.ren, h, F.ren_ren h r]
  | .node _ _ _ _ ks r => by simp [F.ren, F.ren_ren h r, F.ren_ren h ks]
theorem F.in_lvs {w : World} : ∀ {f : F}, f.In w → ∀ t ∈ f.lvs, BN w t.1 (leafC t.2.1 t.2.2.1 t.2.2.2)
  | .leaf b p s0 s1 r, h, t, ht => by
    rcases List.mem_cons.1 ht with rfl | ht
    · exact h.1
    · exact F.in_lvs (f := r) h.2 t ht
  | .node _ _ _ _ ks r, h, t, ht => by
    rcases List.mem_append.1 ht with ht | ht
    · exact F.in_lvs (f := ks) h.2.2.1 t ht
    · exact F.in_lvs (f := r) h.2.2.2 t ht
theorem F.in_ren {w w' : World} {G : List Nat} : ∀ {f : F}, f.In w → Only G w w' → (∀ x ∈ f.nds, x ∉ G) → (∀ t ∈ f.lvs, BN w' t.1 (leafC (g t.2.1) t.2.2.1 t.2.2.2)) → (f.ren g).In w'
  | .nil, _, _, _, _ => trivial
  | .leaf b p s0 s1 r, h, ho, hn, hl => ⟨hl _ (List.mem_cons_self ..), F.in_ren (f := r) h.2 ho hn fun t ht => hl t (List.mem_cons_of_mem _ ht)⟩
  | .node b kb cap al ks r, h, ho, hn, hl => by
    refine ⟨?_, ?_, F.in_ren (f := ks) h.2.2.1 ho (fun x hx => hn x (by simp [F.nds, hx])) (fun t ht => hl t (List.mem_append.2 (.inl ht))), F.in_ren (f := r) h.2.2.2 ho (fun x hx => hn x (by simp [F.nds, hx])) (fun t ht => hl t (List.mem_append.2 (.inr ht)))⟩
    · rw [F.ren_len]
      exact h.1.only ho (hn b (by simp [F.nds]))
    · rw [F.ren_ptrs]
      exact h.2.1.only ho (hn kb (by simp [F.nds]))
end
theorem F.count_blks (x : Nat) : ∀ f : F, f.blks.count x = (f.lvs.map (·.1)).count x + f.nds.count x
  | .nil => rfl
  | .leaf b _ _ _ r => by
    have := F.count_blks x r
    simp only [F.blks, F.lvs, F.nds, List.map_cons, List.count_cons]
    omega
  | .node b kb _ _ ks r => by
    have h1 := F.count_blks x ks
    have h2 := F.count_blks x r
    simp only [F.blks, F.lvs, F.nds, List.map_append, List.count_cons, List.count_append]
    omega
theorem F.count_lvs (q : Int) : ∀ f : F, (f.lvs.map (·.2.1)).count q = f.num q
  | .nil => rfl
  | .leaf _ p _ _ r => by
    simp only [F.lvs, F.num, List.map_cons, List.count_cons, F.count_lvs q r]
    by_cases h : p = q <;> simp [h] <;> omega
  | .node _ _ _ _ ks r => by simp only [F.lvs, F.num, List.map_append, List.count_append, F.count_lvs q r, F.count_lvs q ks]
theorem map_inj {α β : Type} {f : α → β} {l : List α} (h : (l.map f).Nodup) {x y : α} (hx : x ∈ l) (hy : y ∈ l) (he : f x = f y) : x = y := by
  obtain ⟨i, hi, rfl⟩ := List.mem_iff_getElem.1 hx
  obtain ⟨j, hj, rfl⟩ := List.mem_iff_getElem.1 hy
  have hp := List.pairwise_iff_getElem.1 h
  rcases Nat.lt_trichotomy i j with hc | hc | hc
  · have q := hp i j (by rw [List.length_map]; exact hi) (by rw [List.length_map]; exact hj) hc
    rw [List.getElem_map, List.getElem_map] at q
    exact absurd he q
  · subst hc; rfl
  · have q := hp j i (by rw [List.length_map]; exact hj) (by rw [List.length_map]; exact hi) hc
    rw [List.getElem_map, List.getElem_map] at q
    exact absurd he.symm q
theorem lvs_app (k : F) : ∀ f : F, (f.app k).lvs = f.lvs ++ k.lvs
  | .nil => rfl
  | .leaf _ _ _ _ r => by simp [F.app, F.lvs, lvs_app k r]
  | .node _ _ _ _ _ r => by simp [F.app, F.lvs, lvs_app k r]
theorem plug_lvs : ∀ {frs : List Fr} {t : F} {x : Nat × Int × Int × Int}, x ∈ t.lvs → x ∈ (plug t frs).lvs
  | [], _, _, h => h
  | fr :: up, t, x, h => by
    refine plug_lvs (frs := up) (t := .node fr.b fr.kb fr.cap fr.al (fr.kids t) .nil) ?_
    simp only [F.lvs, Fr.kids, lvs_app, List.append_nil]
    simp [h]
theorem path_base {w : World} {B B' : Nat} {u : Value} {l : List Value} (h : PathAt w B u l) (hb : B' ≤ B) : PathAt w B' u l := by
  refine ⟨⟨h.1.1, ?_⟩, h.2⟩
  rcases h.1.2 with h2 | ⟨g, cap, cur, h3, hg, h4⟩
  · exact .inl h2
  · exact .inr ⟨g, cap, cur, h3, Nat.le_trans hb hg, h4⟩
def sw (a b p : Int) : Int := if p = a then b else if p = b then a else p
theorem sw_sw (a b p : Int) : sw b a (sw a b p) = p := by
  unfold sw
  repeat' split
  all_goals omega
theorem sw_iff (a b p q : Int) : sw a b p = q ↔ p = sw a b q := by
  unfold sw
  repeat' split
  all_goals omega
set_option maxRecDepth 100000 in
set_option maxHeartbeats 8000000 in
theorem Swap_one {tb ba : Nat} {a s0 s1 : Int} {la ra : List Value} {w : World}
    {IsUp : Int → List Value → Prop} (ia : IsUp a la) (hu : ∀ (p : Int) (l : List Value), IsUp p l → ∀ V, Below w.heap.size w V → Calls Tryd.prog 23 #[pV tb, .int .i64 p] V fun e w' => ∃ x, e = .returned x ∧ PathAt w' w.heap.size x l ∧ Below w.heap.size w w' ∧ Below V.heap.size V w')
    (hla : la = pV ba :: ra) (hA : BN w ba (leafC a s0 s1)) :
    Calls Tryd.prog 13 #[pV tb, .int .i64 a, .int .i64 a] w fun e w' => e = .returned (.int .i64 0) ∧ BN w' ba (leafC a s0 s1) ∧ Only [ba] w w' := by
  have hla1 : 0 < la.length := by rw [hla]; simp
  have hna : la ≠ [] := by rw [hla]; simp
  have hga : la[0]? = some (pV ba) := by rw [hla]; rfl
  have KU := Lib.hid hu
  have HGA := Lib.hid hga
  have HA := Lib.hid hA
  clear hu hla hA hga
  unfold pV at KU ⊢
  have hdw : Below w.heap.size w w.drew := (Below.refl _ _).drew
  go_enter Tryd.func13, Tryd.ntmps13
  go_upto_region 1 with fail
  go_cut [7, 8] (fun s7 s8 wx => ∃ ga ca gb cb, s7 = .slice (some ⟨ga, 0, none⟩) la.length ca ∧ s8 = .slice (some ⟨gb, 0, none⟩) la.length cb ∧ wx.cell? ⟨ga, 0, none⟩ = some (pV ba) ∧ wx.cell? ⟨gb, 0, none⟩ = some (pV ba) ∧ w.heap.size ≤ ga ∧ w.heap.size ≤ gb ∧ Below w.heap.size w wx)
  case first =>
    go_region_law
      (first
        | (go_simp; go_at_call 23; refine (KU.out _ _ (by exact ia) _ (by exact hdw)).mono ?_; rintro _ w1 ⟨x1, rfl, hx1, hw1, hb1⟩; obtain ⟨ga, ca, rfl, hga⟩ := own_some hx1.1 hla1; have hcA := hx1.1.cells (g := ga) rfl 0 _ HGA.out; have hlA := (hx1.1.lt ga rfl).2; clear hx1)
        | (go_simp; go_at_call 23; refine (KU.out _ _ (by exact ia) _ (by exact hw1)).mono ?_; rintro _ w2 ⟨x2, rfl, hx2, hw2, hb2⟩; obtain ⟨gb, cb, rfl, hgb⟩ := own_some hx2.1 hla1; have hcB := hx2.1.cells (g := gb) rfl 0 _ HGA.out; clear hx2))
    all_goals go_wp2_with fail
    all_goals go_meet
    all_goals
      have eA : (⟨ga, 0, none⟩ : Addr).add 0 = ⟨ga, 0, none⟩ := by simp [Addr.add]
      have eB : (⟨gb, 0, none⟩ : Addr).add 0 = ⟨gb, 0, none⟩ := by simp [Addr.add]
      rw [eA] at hcA
      rw [eB] at hcB
      exact ⟨ga, ca, gb, cb, rfl, rfl, (hb2.cell (p := ⟨ga, 0, none⟩) hlA).trans hcA, hcB, hga, hgb, hw2⟩
  case rest =>
    obtain ⟨ga, ca, gb, cb, rfl, rfl, hcA, hcB, hga, hgb, hwx⟩ := hcut
    have q1 := eqnil_some ⟨ga, 0, none⟩ la.length ca wc
    have q2 := eqnil_some ⟨gb, 0, none⟩ la.length cb wc
    have hA1 := HA.out.only (Only.of_below (F := []) hwx) (by simp)
    have dA : wc.drew.cell? ⟨ga, 0, none⟩ = some (.pointer (some ⟨ba, 0, none⟩)) := hcA
    have dB : wc.drew.cell? ⟨gb, 0, none⟩ = some (.pointer (some ⟨ba, 0, none⟩)) := hcB
    have a0 : wc.drew.cell? ⟨ba, 0, none⟩ = some (.int .i64 a) := hA1.cell 0
    have a0f : wc.drew.frozen? ⟨ba, 0, none⟩ = false := hA1.frozen 0
    have o1 : Only [ba] wc (wc.setCell ⟨ba, 0, none⟩ (.int .i64 a)) := (Only.refl _ _).setCell (p := ⟨ba, 0, none⟩) (.inl (by simp)) _
    have hA2 : BN (wc.setCell ⟨ba, 0, none⟩ (.int .i64 a)) ba (leafC a s0 s1) := hA1.set_ 0 (.int .i64 a)
    have b0 : (wc.setCell ⟨ba, 0, none⟩ (.int .i64 a)).cell? ⟨ba, 0, none⟩ = some (.int .i64 a) := hA2.cell 0
    have b0f : (wc.setCell ⟨ba, 0, none⟩ (.int .i64 a)).frozen? ⟨ba, 0, none⟩ = false := hA2.frozen 0
    have o2 : Only [ba] (wc.setCell ⟨ba, 0, none⟩ (.int .i64 a)) ((wc.setCell ⟨ba, 0, none⟩ (.int .i64 a)).setCell ⟨ba, 0, none⟩ (.int .i64 a)) := (Only.refl _ _).setCell (p := ⟨ba, 0, none⟩) (.inl (by simp)) _
    have hA3 : BN ((wc.setCell ⟨ba, 0, none⟩ (.int .i64 a)).setCell ⟨ba, 0, none⟩ (.int .i64 a)) ba (leafC a s0 s1) := hA2.set_ 0 (.int .i64 a)
    have hfin : BN ((wc.setCell ⟨ba, 0, none⟩ (.int .i64 a)).setCell ⟨ba, 0, none⟩ (.int .i64 a)) ba (leafC a s0 s1) ∧ Only [ba] w ((wc.setCell ⟨ba, 0, none⟩ (.int .i64 a)).setCell ⟨ba, 0, none⟩ (.int .i64 a)) :=
      ⟨hA3, ((Only.of_below hwx).trans o1).trans o2⟩
    have HF := Lib.hid hfin
    clear hA1 hA2 hA3 o1 o2 hfin KU hcA hcB
    go_wp2_with fail
    go_region_law (first | fail)
    all_goals
      clear dA dB a0 a0f b0 b0f q1 q2
      go_wp2_with fail
      go_ret
      first
        | exact ⟨rfl, HF.out.1, HF.out.2⟩
        | exact ⟨rfl, HF.out.1, HF.out.2.drew⟩
section
variable {w0 wr w' : World} {tb m M : Nat} {T : F}
theorem TS.up (h : TS w0 tb m M T wr) (hm : m ≤ 40) : ∀ (p : Int) (l : List Value), (T.ups p)[0]? = some l → ∀ V, Below wr.heap.size wr V → Calls Tryd.prog 23 #[pV tb, .int .i64 p] V fun e w' => ∃ x, e = .returned x ∧ PathAt w' wr.heap.size x l ∧ Below wr.heap.size wr w' ∧ Below V.heap.size V w' := fun p l hl V hV => by
  refine (up_at (p := p) T (h.ok hm).one (h.ok hm).big V (h.tin.below hV) 0 _ l h.hv hl).mono ?_
  rintro e w' ⟨x, he, hp, hb⟩
  exact ⟨x, he, path_base hp hV.size, hV.trans (hb.mono hV.size), hb⟩
theorem TS.leaf (h : TS w0 tb m M T wr) {p : Int} (hp : T.inP p) : ∃ b s0 s1 r, (T.ups p)[0]? = some (pV b :: r) ∧ (b, p, s0, s1) ∈ T.lvs ∧ BN wr b (leafC p s0 s1) := by
  obtain ⟨l, hl⟩ := h.ups p
  obtain ⟨frs, b, s0, s1, hlv, hT⟩ := zip_one h.one hl ((inP_one h.one hl).1 hp)
  have hm : (b, p, s0, s1) ∈ T.lvs := by
    rw [hT]
    exact plug_lvs (by simp [F.lvs])
  rw [hlv] at hl
  exact ⟨b, s0, s1, _, hl, hm, F.in_lvs h.tin _ hm⟩
theorem ts_swap_same (h : TS w0 tb m M T wr) (hm : m ≤ 40) {a : Int} (ha : T.inP a) :
    Calls Tryd.prog 13 #[pV tb, .int .i64 a, .int .i64 a] wr fun e w' => e = .returned (.int .i64 0) ∧ TS w0 tb m M T w' ∧ Only T.blks wr w' := by
  obtain ⟨b, s0, s1, r, h1, h2, h3⟩ := h.leaf ha
  refine (Swap_one (IsUp := fun p l => (T.ups p)[0]? = some l) h1 (h.up hm) rfl h3).mono ?_
  rintro e w' ⟨he, h4, ho⟩
  have hbT : ∀ x ∈ [b], x ∈ T.blks := fun x hx => by
    obtain rfl := List.mem_singleton.1 hx
    refine List.count_pos_iff.1 ?_
    rw [F.count_blks]
    have := List.count_pos_iff.2 (List.mem_map.2 ⟨_, h2, rfl⟩ : x ∈ T.lvs.map (·.1))
    omega
  have hbk : ∀ x ∈ [b], w0.heap.size ≤ x := fun x hx => h.new x (hbT x hx)
  refine ⟨he, ⟨?_, h.siz, h.one, h.ptr, h.nod, h.norm, h.pns, h.lim, h.uni, h.cnt, h.new, h.fr.trans (ho.below h.fr.size hbk)⟩, ho.mono hbT⟩
  have hnd := List.nodup_iff_count.1 h.nod
  have hb1 := List.count_pos_iff.2 (List.mem_map.2 ⟨_, h2, rfl⟩ : b ∈ T.lvs.map (·.1))
  have := F.in_ren (g := fun p => p) h.tin ho (fun x hx => by
    have h5 := List.count_pos_iff.2 hx
    have h6 := hnd x
    rw [F.count_blks] at h6
    intro hxb
    obtain rfl := List.mem_singleton.1 hxb
    omega) (fun t ht => by
    by_cases htb : t.1 = b
    · have hln : (T.lvs.map (·.1)).Nodup := List.nodup_iff_count.2 fun x => by
        have h6 := hnd x
        rw [F.count_blks] at h6
        omega
      obtain rfl := map_inj hln ht h2 htb
      exact h4
    · exact (F.in_lvs h.tin t ht).only ho (by simpa using htb))
  rwa [show T.ren (fun p => p) = T from by
    have := F.ren_ren (g := fun p => p) (k := fun p => p) (fun _ => rfl) T
    have h9 : ∀ f : F, f.ren (fun p => p) = f := fun f => by
      induction f with
      | nil => rfl
      | leaf _ _ _ _ r ih => simp [F.ren, ih]
      | node _ _ _ _ ks r ih1 ih2 => simp [F.ren, ih1, ih2]
    exact h9 T] at this
theorem ts_swap (h : TS w0 tb m M T wr) (hm : m ≤ 40) {a b : Int} (hab : a ≠ b) (ha : T.inP a) (hb : T.inP b) :
    Calls Tryd.prog 13 #[pV tb, .int .i64 a, .int .i64 b] wr fun e w' => e = .returned (.int .i64 0) ∧ TS w0 tb m M (T.ren (sw a b)) w' ∧ Only T.blks wr w' := by
  obtain ⟨ba, s0, s1, ra, a1, a2, a3⟩ := h.leaf ha
  obtain ⟨bb, u0, u1, rb, b1, b2, b3⟩ := h.leaf hb
  have hnd := List.nodup_iff_count.1 h.nod
  have hln : (T.lvs.map (·.1)).Nodup := List.nodup_iff_count.2 fun x => by
    have h6 := hnd x
    rw [F.count_blks] at h6
    omega
  have hpn : (T.lvs.map (·.2.1)).Nodup := List.nodup_iff_count.2 fun q => by
    rw [F.count_lvs]
    exact h.uni q
  have hne : ba ≠ bb := fun e => hab (congrArg (·.2.1) (map_inj hln a2 b2 e))
  refine (Swap_two (IsUp := fun p l => (T.ups p)[0]? = some l) hne a1 b1 (h.up hm) rfl rfl a3 b3).mono ?_
  rintro e w' ⟨he, h4, h5, ho⟩
  have hma := List.count_pos_iff.2 (List.mem_map.2 ⟨_, a2, rfl⟩ : ba ∈ T.lvs.map (·.1))
  have hmb := List.count_pos_iff.2 (List.mem_map.2 ⟨_, b2, rfl⟩ : bb ∈ T.lvs.map (·.1))
  have hbT : ∀ x ∈ [ba, bb], x ∈ T.blks := fun x hx => by
    refine List.count_pos_iff.1 ?_
    rw [F.count_blks]
    simp only [List.mem_cons, List.not_mem_nil, or_false] at hx
    rcases hx with rfl | rfl <;> omega
  have hbk : ∀ x ∈ [ba, bb], w0.heap.size ≤ x := fun x hx => h.new x (hbT x hx)
  obtain ⟨_, _, pa⟩ := all_in h.pns ha
  obtain ⟨_, _, pb⟩ := all_in h.pns hb
  have hsw : ∀ p, (1 ≤ p ∧ p ≤ (M : Int)) → (1 ≤ sw a b p ∧ sw a b p ≤ (M : Int)) := fun p hp => by
    unfold sw
    split
    · exact pb
    · split
      · exact pa
      · exact hp
  refine ⟨he, ⟨?_, F.ren_all (F.all_mono (fun _ _ _ hp => hp) h.siz), (F.ren_len T).trans h.one, (F.ren_ptrs T).trans h.ptr, by rw [F.ren_blks]; exact h.nod, F.ren_norm h.norm, F.ren_all (F.all_mono (fun p _ _ hp => hsw p hp) h.pns), h.lim, fun q => ?_, by rw [F.ren_cnt]; exact h.cnt, by rw [F.ren_blks]; exact h.new, h.fr.trans (ho.below h.fr.size hbk)⟩, ho.mono hbT⟩
  · refine F.in_ren h.tin ho (fun x hx => ?_) (fun t ht => ?_)
    · have h7 := List.count_pos_iff.2 hx
      have h6 := hnd x
      rw [F.count_blks] at h6
      intro hxb
      simp only [List.mem_cons, List.not_mem_nil, or_false] at hxb
      rcases hxb with rfl | rfl <;> omega
    · by_cases hta : t.2.1 = a
      · obtain rfl := map_inj hpn ht a2 hta
        unfold sw
        rw [if_pos rfl]
        exact h4
      · by_cases htb : t.2.1 = b
        · obtain rfl := map_inj hpn ht b2 htb
          unfold sw
          rw [if_neg hta, if_pos rfl]
          exact h5
        · unfold sw
          rw [if_neg hta, if_neg htb]
          refine (F.in_lvs h.tin t ht).only ho ?_
          simp only [List.mem_cons, List.not_mem_nil, or_false, not_or]
          exact ⟨fun e => hta (congrArg (·.2.1) (map_inj hln ht a2 e)), fun e => htb (congrArg (·.2.1) (map_inj hln ht b2 e))⟩
  · rw [F.ren_num (q' := sw a b q) (fun p => sw_iff a b p q)]
    exact h.uni _
/-- Two panes swapped, and swapped again. -/
theorem ts_swaps (h : TS w0 tb m M T wr) (hm : m ≤ 40) {a b : Int} (ha : T.inP a) (hb : T.inP b) : ∃ T1 : F,
    (Calls Tryd.prog 13 #[pV tb, .int .i64 a, .int .i64 b] wr fun e w' => e = .returned (.int .i64 0) ∧ TS w0 tb m M T1 w' ∧ Only T.blks wr w') ∧
    (∀ V, TS w0 tb m M T1 V → Calls Tryd.prog 13 #[pV tb, .int .i64 b, .int .i64 a] V fun e w' => e = .returned (.int .i64 0) ∧ TS w0 tb m M T w' ∧ Only T.blks V w') := by
  by_cases hab : a = b
  · subst hab
    exact ⟨T, ts_swap_same h hm ha, fun V hV => ts_swap_same hV hm ha⟩
  · refine ⟨T.ren (sw a b), ts_swap h hm hab ha hb, fun V hV => ?_⟩
    have ia : (T.ren (sw a b)).inP a := num_in.2 (by
      rw [F.ren_num (q' := sw a b a) (fun p => sw_iff a b p a)]
      have : sw a b a = b := by unfold sw; rw [if_pos rfl]
      rw [this]
      exact num_in.1 hb)
    have ib : (T.ren (sw a b)).inP b := num_in.2 (by
      rw [F.ren_num (q' := sw a b b) (fun p => sw_iff a b p b)]
      have : sw a b b = a := by unfold sw; rw [if_neg (fun e => hab e.symm), if_pos rfl]
      rw [this]
      exact num_in.1 ha)
    have := ts_swap hV hm (fun e => hab e.symm) ib ia
    rwa [F.ren_ren (fun p => sw_sw a b p), F.ren_blks] at this
end
end Go.Proofs.YtkanglfpiahecaaDoor.Lyt
/- Boxes that lie beside one another; the one on a pane's side. -/
namespace Go.Proofs.YtkanglfpiahecaaDoor.Lyt
open Go.RowKit

/-- A box's first column or row, and the first behind it. -/
def rchP (b : Bx) (a : Int) : Int × Int := if a = 0 then (b.2.1, wrap64 (b.2.1 + b.2.2.2.1)) else (b.2.2.1, wrap64 (b.2.2.1 + b.2.2.2.2))
/-- Does one box lie ahead of another one, only a line between them? -/
def nextP (p q : Bx) (a : Int) : Bool := (wrap64 ((rchP p a).2 + 1) == (rchP q a).1) && decide ((rchP p (1 - a)).1 < (rchP q (1 - a)).2) && decide ((rchP q (1 - a)).1 < (rchP p (1 - a)).2)
set_option maxRecDepth 100000 in
set_option maxHeartbeats 2000000 in
theorem reach_at (b : Bx) {a : Int} (ha : a = 0 ∨ a = 1) (w : World) :
    Calls Tryd.prog 57 #[.agg (bxC b).toArray, .int .i64 a] w fun e w' => e = .returned (.tuple #[.int .i64 (rchP b a).1, .int .i64 (rchP b a).2]) ∧ Below w.heap.size w w' := by
  obtain ⟨id, x, y, ww, hh⟩ := b
  have h := BL.new w 30 [.int .i64 id, .int .i64 x, .int .i64 y, .int .i64 ww, .int .i64 hh]
  have hb : Below w.heap.size w (w.alloc (.cells #[.int .i64 id, .int .i64 x, .int .i64 y, .int .i64 ww, .int .i64 hh] 30)).drew := ((Below.refl _ _).alloc (Nat.le_refl _) _).drew
  have c1 : (w.alloc (.cells #[.int .i64 id, .int .i64 x, .int .i64 y, .int .i64 ww, .int .i64 hh] 30)).drew.cell? ⟨w.heap.size, 1, none⟩ = some (.int .i64 x) := h.cell 1
  have c2 : (w.alloc (.cells #[.int .i64 id, .int .i64 x, .int .i64 y, .int .i64 ww, .int .i64 hh] 30)).drew.cell? ⟨w.heap.size, 2, none⟩ = some (.int .i64 y) := h.cell 2
  have c3 : (w.alloc (.cells #[.int .i64 id, .int .i64 x, .int .i64 y, .int .i64 ww, .int .i64 hh] 30)).drew.cell? ⟨w.heap.size, 3, none⟩ = some (.int .i64 ww) := h.cell 3
  have c4 : (w.alloc (.cells #[.int .i64 id, .int .i64 x, .int .i64 y, .int .i64 ww, .int .i64 hh] 30)).drew.cell? ⟨w.heap.size, 4, none⟩ = some (.int .i64 hh) := h.cell 4
  clear h
  unfold bxC
  rcases ha with rfl | rfl
  · go_enter Tryd.func57, Tryd.ntmps57
    go_wp2_with fail
    go_region
    go_wp2_with fail
    go_ret2
    exact ⟨rfl, hb⟩
  · go_enter Tryd.func57, Tryd.ntmps57
    go_wp2_with fail
    go_region
    go_wp2_with fail
    go_ret2
    exact ⟨rfl, hb⟩
set_option maxRecDepth 100000 in
theorem other_at {a : Int} (ha : a = 0 ∨ a = 1) (w : World) :
    Calls Tryd.prog 56 #[.int .i64 a] w fun e w' => e = .returned (.int .i64 (1 - a)) ∧ w = w' := by
  rcases ha with rfl | rfl
  · go_enter Tryd.func56, Tryd.ntmps56
    go_wp2_with fail
    go_ret
    exact ⟨rfl, rfl⟩
  · go_enter Tryd.func56, Tryd.ntmps56
    go_wp2_with fail
    go_ret
    exact ⟨rfl, rfl⟩
set_option maxRecDepth 100000 in
set_option maxHeartbeats 2000000 in
theorem next_at (p q : Bx) {a : Int} (ha : a = 0 ∨ a = 1) (w : World) :
    Calls Tryd.prog 37 #[.agg (bxC p).toArray, .agg (bxC q).toArray, .int .i64 a] w fun e w' => e = .returned (.bool (nextP p q a)) ∧ Below w.heap.size w w' := by
  have ha2 : 1 - a = 0 ∨ 1 - a = 1 := by omega
  have R1 := Lib.hid (fun V => reach_at p ha V)
  have R2 := Lib.hid (fun V => reach_at q ha V)
  have R3 := Lib.hid (fun V => reach_at p ha2 V)
  have R4 := Lib.hid (fun V => reach_at q ha2 V)
  have RO := Lib.hid (fun V => other_at ha V)
  obtain ⟨R, hR⟩ : ∃ R, R = nextP p q a := ⟨_, rfl⟩
  rw [← hR]
  unfold nextP at hR
  obtain ⟨⟨p1, p2⟩, e1⟩ : ∃ z, rchP p a = z := ⟨_, rfl⟩
  obtain ⟨⟨q1, q2⟩, e2⟩ : ∃ z, rchP q a = z := ⟨_, rfl⟩
  obtain ⟨⟨r1, r2⟩, e3⟩ : ∃ z, rchP p (1 - a) = z := ⟨_, rfl⟩
  obtain ⟨⟨s1, s2⟩, e4⟩ : ∃ z, rchP q (1 - a) = z := ⟨_, rfl⟩
  rw [e1] at R1
  rw [e2] at R2
  rw [e3] at R3
  rw [e4] at R4
  rw [e1, e2, e3, e4] at hR
  simp only at hR
  have hN := (BL.new w 30 (bxC p)).alloc (.cells (bxC q).toArray 30)
  have hM := BL.new (w.alloc (.cells (bxC p).toArray 30)) 30 (bxC q)
  rw [size_alloc] at hM
  have hb : Below w.heap.size w ((w.alloc (.cells (bxC p).toArray 30)).alloc (.cells (bxC q).toArray 30)) := ((Below.refl _ _).alloc (Nat.le_refl _) _).alloc (by simp) _
  have HN := Lib.hid hN
  have HM := Lib.hid hM
  have HB := Lib.hid hb
  have HR := Lib.hid hR
  generalize (1 - a) = o at *
  clear e1 e2 e3 e4 hR hN hM hb ha ha2
  obtain ⟨x0, x1, x2, x3, x4⟩ := p
  obtain ⟨y0, y1, y2, y3, y4⟩ := q
  simp only [bxC] at *
  go_enter Tryd.func37, Tryd.ntmps37
  go_wp2_with fail
  refine (RO.out _).mono ?_
  rintro _ w1 ⟨rfl, hw1⟩
  subst hw1
  generalize ((w.alloc (.cells #[.int .i64 x0, .int .i64 x1, .int .i64 x2, .int .i64 x3, .int .i64 x4] 30)).alloc (.cells #[.int .i64 y0, .int .i64 y1, .int .i64 y2, .int .i64 y3, .int .i64 y4] 30)) = W at *
  have hall : ∀ V, Below W.heap.size W V → ((V.cell? ⟨w.heap.size, 0, none⟩ = some (.int .i64 x0) ∧ V.cell? ⟨w.heap.size, 1, none⟩ = some (.int .i64 x1) ∧ V.cell? ⟨w.heap.size, 2, none⟩ = some (.int .i64 x2) ∧ V.cell? ⟨w.heap.size, 3, none⟩ = some (.int .i64 x3) ∧ V.cell? ⟨w.heap.size, 4, none⟩ = some (.int .i64 x4)) ∧
      (V.cell? ⟨w.heap.size + 1, 0, none⟩ = some (.int .i64 y0) ∧ V.cell? ⟨w.heap.size + 1, 1, none⟩ = some (.int .i64 y1) ∧ V.cell? ⟨w.heap.size + 1, 2, none⟩ = some (.int .i64 y2) ∧ V.cell? ⟨w.heap.size + 1, 3, none⟩ = some (.int .i64 y3) ∧ V.cell? ⟨w.heap.size + 1, 4, none⟩ = some (.int .i64 y4))) := fun V hV => by
    have h1 := HN.out.only (Only.of_below (F := []) hV) (by simp)
    have h2 := HM.out.only (Only.of_below (F := []) hV) (by simp)
    exact ⟨⟨h1.cell 0, h1.cell 1, h1.cell 2, h1.cell 3, h1.cell 4⟩, ⟨h2.cell 0, h2.cell 1, h2.cell 2, h2.cell 3, h2.cell 4⟩⟩
  have HALL := Lib.hid hall
  clear hall HN HM
  obtain ⟨⟨c0, c1, c2, c3, c4⟩, -⟩ := HALL.out _ (Below.refl _ _)
  go_wp2_with fail
  refine (R1.out _).mono ?_
  rintro _ w2 ⟨rfl, hb2⟩
  clear c0 c1 c2 c3 c4
  obtain ⟨-, ⟨c0, c1, c2, c3, c4⟩⟩ := HALL.out _ hb2
  have HB2 := Lib.hid hb2
  clear hb2
  go_wp2_with fail
  refine (R2.out _).mono ?_
  rintro _ w3 ⟨rfl, hb3⟩
  clear c0 c1 c2 c3 c4
  have HB3 := Lib.hid (HB2.out.trans (hb3.mono HB2.out.size))
  obtain ⟨⟨c0, c1, c2, c3, c4⟩, -⟩ := HALL.out _ HB3.out
  clear hb3 HB2
  go_wp2_with fail
  refine (R3.out _).mono ?_
  rintro _ w4 ⟨rfl, hb4⟩
  clear c0 c1 c2 c3 c4
  have HB4 := Lib.hid (HB3.out.trans (hb4.mono HB3.out.size))
  obtain ⟨-, ⟨c0, c1, c2, c3, c4⟩⟩ := HALL.out _ HB4.out
  clear hb4 HB3
  go_wp2_with fail
  refine (R4.out _).mono ?_
  rintro _ w5 ⟨rfl, hb5⟩
  clear c0 c1 c2 c3 c4
  have HB5 := Lib.hid (HB.out.trans ((HB4.out.trans (hb5.mono HB4.out.size)).mono HB.out.size))
  clear hb5 HB4 HALL R1 R2 R3 R4 RO
  by_cases h1 : wrap64 (p2 + 1) = q1
  · by_cases h2 : r1 < s2
    · have HV := Lib.hid (show R = decide (s1 < r2) by rw [HR.out, h1]; simp [h2])
      subst h1
      go_wp2_with fail
      go_ret
      exact ⟨by rw [HV.out]; rfl, HB5.out⟩
    · have HV := Lib.hid (show R = false by rw [HR.out, h1]; simp [h2])
      subst h1
      go_wp2_with fail
      go_ret
      exact ⟨by rw [HV.out]; rfl, HB5.out⟩
  · have HV := Lib.hid (show R = false by rw [HR.out, beq_eq_false_iff_ne.2 h1]; rfl)
    have hbq : (wrap64 (p2 + 1) == q1) = false := beq_eq_false_iff_ne.2 h1
    clear h1
    go_wp2_with fail
    go_ret
    exact ⟨by rw [HV.out]; rfl, HB5.out⟩
set_option maxRecDepth 100000 in
set_option maxHeartbeats 2000000 in
/-- Is a box a pane's? -/
theorem isPane_at {n0 : Nat} {q : Int} (b : Bx) (w : World) (h : w.cell? ⟨n0, 0, none⟩ = some (.int .i64 q)) :
    Calls Tryd.prog 35 #[.agg (bxC b).toArray, .pointer (some ⟨n0, 0, none⟩)] w fun e w' => e = .returned (.bool (b.1 == q)) ∧ Below w.heap.size w w' := by
  obtain ⟨id, x, y, ww, hh⟩ := b
  have hN := BL.new w 30 [.int .i64 id, .int .i64 x, .int .i64 y, .int .i64 ww, .int .i64 hh]
  have hb : Below w.heap.size w (w.alloc (.cells #[.int .i64 id, .int .i64 x, .int .i64 y, .int .i64 ww, .int .i64 hh] 30)) := (Below.refl _ _).alloc (Nat.le_refl _) _
  have hl : n0 < w.heap.size := cell_lt h
  have c0 := hN.cell 0
  have c1 : (w.alloc (.cells #[.int .i64 id, .int .i64 x, .int .i64 y, .int .i64 ww, .int .i64 hh] 30)).cell? ⟨n0, 0, none⟩ = some (.int .i64 q) := (hb.cell (p := ⟨n0, 0, none⟩) hl).trans h
  have HB := Lib.hid hb
  clear hN hb h
  unfold bxC
  go_enter Tryd.func35, Tryd.ntmps35
  go_wp2_with fail
  go_ret
  exact ⟨rfl, HB.out⟩
set_option maxRecDepth 100000 in
set_option maxHeartbeats 2000000 in
/-- Where a pane's box is: it is among them. -/
theorem Find_at {g c n0 k : Nat} {q : Int} {l : List Bx} {w : World} (hc : ∀ (j : Nat) v, (l.flatMap bxC)[j]? = some v → w.cell? ⟨g, j, none⟩ = some v) (hg : g < w.heap.size) (hq : w.cell? ⟨n0, 0, none⟩ = some (.int .i64 q)) (hk : k < l.length) (hkq : l[k].1 = q) (hno : ∀ j (h : j < l.length), j < k → l[j].1 ≠ q) (hl : l.length ≤ 1000000) :
    Calls Tryd.prog 34 #[.slice (some ⟨g, 0, none⟩) l.length c, .func (.func 35) #[] #[.pointer (some ⟨n0, 0, none⟩)]] w fun e w' => e = .returned (.int .i64 (k : Int)) ∧ Below w.heap.size w w' := by
  have hent := enters_of Tryd.func35 (by kernel_rfl) rfl
  have hn0 : n0 < w.heap.size := cell_lt hq
  have HC := Lib.hid hc
  have HQ := Lib.hid hq
  have HKQ := Lib.hid hkq
  have HNO := Lib.hid hno
  clear hc hq hkq hno
  go_enter Tryd.func34, Tryd.ntmps34
  go_wp2_with fail
  go_loopw [8] (fun i wr => ∃ j : Nat, j ≤ k ∧ i = .int .i64 (j : Int) ∧ Below w.heap.size w wr) (fun i _ => l.length - (intOf i).toNat)
  case atStart => exact ⟨0, Nat.zero_le _, rfl, Below.refl _ _⟩
  case round =>
    obtain ⟨j, hj, rfl, hbl⟩ := hrel
    have hlt : j < l.length := by omega
    have j1 : (j : Int) < (l.length : Int) := by omega
    have j0 : (0 : Int) ≤ (j : Int) := Int.natCast_nonneg _
    obtain ⟨b, hbx⟩ : ∃ b, l[j] = b := ⟨_, rfl⟩
    have f := fun kk hkk => bx_cell (l := l) (i := j) (b := b) (by rw [List.getElem?_eq_getElem hlt, hbx]) kk hkk
    have cl := fun kk u (h : (l.flatMap bxC)[j * 5 + kk]? = some u) => (hbl.cell (p := ⟨g, j * 5 + kk, none⟩) hg).trans (HC.out _ _ h)
    have x0 : wr.cell? ⟨g, j * 5, none⟩ = some (.int .i64 b.1) := cl 0 _ (f 0 (by omega))
    have x1 : wr.cell? ⟨g, j * 5 + 1, none⟩ = some (.int .i64 b.2.1) := cl 1 _ (f 1 (by omega))
    have x2 : wr.cell? ⟨g, j * 5 + 2, none⟩ = some (.int .i64 b.2.2.1) := cl 2 _ (f 2 (by omega))
    have x3 : wr.cell? ⟨g, j * 5 + 3, none⟩ = some (.int .i64 b.2.2.2.1) := cl 3 _ (f 3 (by omega))
    have x4 : wr.cell? ⟨g, j * 5 + 4, none⟩ = some (.int .i64 b.2.2.2.2) := cl 4 _ (f 4 (by omega))
    have KP := Lib.hid (isPane_at b wr ((hbl.cell (p := ⟨n0, 0, none⟩) hn0).trans HQ.out))
    have HB := Lib.hid hbl
    have hlim : j + 1 ≤ l.length := hlt
    by_cases hjk : j = k
    · subst hjk
      have hbq : (b.1 == q) = true := by rw [← hbx, HKQ.out]; simp
      rw [hbq] at KP
      clear f cl hbl hbx hbq
      obtain ⟨y0, y1, y2, y3, y4⟩ := b
      simp only [bxC] at KP
      simp only at x0 x1 x2 x3 x4
      go_wp2_with fail
      refine KP.out.mono ?_
      rintro _ w2 ⟨rfl, hb2⟩
      have HB2 := Lib.hid (HB.out.trans (hb2.mono HB.out.size))
      clear hb2 KP HB
      go_wp2_with fail
      go_ret
      exact ⟨rfl, HB2.out⟩
    · have hbq : (b.1 == q) = false := by rw [← hbx, beq_eq_false_iff_ne]; exact HNO.out j hlt (by omega)
      rw [hbq] at KP
      clear f cl hbl hbx hbq
      obtain ⟨y0, y1, y2, y3, y4⟩ := b
      simp only [bxC] at KP
      simp only at x0 x1 x2 x3 x4
      have HJK := Lib.hid hjk
      clear hjk hlim
      go_wp2_with fail
      refine KP.out.mono ?_
      rintro _ w2 ⟨rfl, hb2⟩
      have HB2 := Lib.hid (HB.out.trans (hb2.mono HB.out.size))
      clear hb2 KP HB
      go_wp2_with fail
      go_roundw
      case rel => exact ⟨j + 1, by have := HJK.out; omega, by go_num, HB2.out⟩
      case measure => simp [intOf]; omega
end Go.Proofs.YtkanglfpiahecaaDoor.Lyt
