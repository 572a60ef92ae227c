/- The law's own: a tree behind some splits. -/
import Derived.Test.YtkanglfpiahecaaDoorPYcn
import Derived.Test.YtkanglfpiahecaaDoorCards
import Derived.Test.YtkanglfpiahecaaDoorTie
import Derived.Test.YtkanglfpiahecaaDoorPFlat
import Derived.Test.YtkanglfpiahecaaDoorPPost
import Derived.ProofKit
import Derived.OpenShut
import Derived.Lay
import Derived.LaidLaws
import Derived.Lib.SmallJoins
import Derived.ChangeMaps5
import Derived.Deep.DeepHandedRow
namespace Go.Proofs.YtkanglfpiahecaaDoor.Lyt
open Go.RowKit

structure OpV where
  k : Int
  a : Int
  b : Int
  n : Int
  way : Int
  be : Bool
  bf : Bool
  s : ByteArray
def opL (o : OpV) : List Value := [.int .i64 o.k, .int .i64 o.a, .int .i64 o.b, .int .i64 o.n, .int .u8 o.way, .bool o.be, .bool o.bf, .string o.s]
def OpV.ok (o : OpV) : Prop := (-9223372036854775808 ≤ o.a ∧ o.a ≤ 9223372036854775807) ∧ (-9223372036854775808 ≤ o.n ∧ o.n ≤ 9223372036854775807)
/-- Calls that can be read. -/
def RdO (w : World) (A : Option Addr) (n : Nat) (ops : Nat → OpV) : Prop := ∀ k, k < n → ∃ g o, A = some ⟨g, o, none⟩ ∧ g < w.heap.size ∧ (ops k).ok ∧ ∀ j, j < 8 → w.cell? ⟨g, o + k * 8 + j, none⟩ = (opL (ops k))[j]?
theorem RdO.later {w w' : World} {A : Option Addr} {n : Nat} {ops : Nat → OpV} (h : RdO w A n ops) (hb : Below w.heap.size w w') : RdO w' A n ops := fun k hk => by
  obtain ⟨g, o, h1, h2, h3, h4⟩ := h k hk
  exact ⟨g, o, h1, Nat.lt_of_lt_of_le h2 hb.size, h3, fun j hj => (hb.cell (p := ⟨g, o + k * 8 + j, none⟩) h2).trans (h4 j hj)⟩
theorem TS.more {w0 wr : World} {tb m m' M M' : Nat} {T : F} (h : TS w0 tb m M T wr) (hm : m ≤ m') (hM : M ≤ M') (hlim : M' ≤ 1000000) : TS w0 tb m' M' T wr :=
  ⟨h.tin, h.siz, h.one, h.ptr, h.nod, h.norm, F.all_mono (fun p _ _ hp => by omega) h.pns, hlim, Nat.le_trans h.cnt hm, h.new, h.fr⟩
set_option maxRecDepth 100000 in
set_option maxHeartbeats 2000000 in
theorem made_any {x y : Int} (hx : 1 ≤ x ∧ x ≤ 250) (hy : 1 ≤ y ∧ y ≤ 120) (A : Option Addr) (n c : Nat) (ops : Nat → OpV) (w : World) (hro : RdO w A n ops) :
    Calls Tryd.prog 6 #[.int .i64 x, .int .i64 y, .slice A n c] w fun e w' => ∃ tb T, e = .returned (pV tb) ∧ TS w tb 31 31 T w' := by
  have HRO := Lib.hid hro
  have HNew := Lib.hid (New_at hx hy (show (1 : Int) ≤ 1 by omega) w)
  clear hro
  unfold pV at HNew ⊢
  go_enter Tryd.func6, Tryd.ntmps6
  go_wp2_with fail
  refine HNew.out.mono ?_
  rintro _ w1 ⟨tb, rfl, htb, hT0, hb1⟩
  have HT0 := Lib.hid (show ∃ T, TS w tb 1 1 T w1 from ⟨_, TS.new_ (Nat.le_refl _) (by omega) (by omega) (by omega) hT0 htb hb1⟩)
  clear hT0 htb hb1 HNew hx hy
  go_wp2_with fail
  go_loopw [9] (fun i wr => ∃ k : Nat, k ≤ n ∧ k ≤ 30 ∧ i = .int .i64 (k : Int) ∧ Hid (∃ T, TS w tb (k + 1) (k + 1) T wr)) (fun i _ => n - (intOf i).toNat)
  case atStart => exact ⟨0, Nat.zero_le _, Nat.zero_le _, rfl, HT0⟩
  case round =>
    obtain ⟨k, hk, hk30, rfl, hTS⟩ := hrel
    clear HT0
    by_cases hgo : k < n ∧ k < 30
    · obtain ⟨hlt, hlt2⟩ := hgo
      have i1 : (k : Int) < (n : Int) := by omega
      have i2 : (k : Int) < 30 := by omega
      obtain ⟨T, hT⟩ := hTS.out
      clear hTS
      obtain ⟨go, oo, rfl, -, hok, hcell⟩ := HRO.out.later hT.fr k hlt
      obtain ⟨o, ho⟩ : ∃ o, ops k = o := ⟨_, rfl⟩
      rw [ho] at hok hcell
      obtain ⟨ok, oa, ob, on, ow, be, bf, os⟩ := o
      obtain ⟨⟨ha0, ha1⟩, ⟨hn0, hn1⟩⟩ := hok
      simp only at ha0 ha1 hn0 hn1
      have q0 : wr.cell? ⟨go, oo + k * 8, none⟩ = some (.int .i64 ok) := hcell 0 (by omega)
      have q1 : wr.cell? ⟨go, oo + k * 8 + 1, none⟩ = some (.int .i64 oa) := hcell 1 (by omega)
      have q2 : wr.cell? ⟨go, oo + k * 8 + 2, none⟩ = some (.int .i64 ob) := hcell 2 (by omega)
      have q3 : wr.cell? ⟨go, oo + k * 8 + 3, none⟩ = some (.int .i64 on) := hcell 3 (by omega)
      have q4 : wr.cell? ⟨go, oo + k * 8 + 4, none⟩ = some (.int .u8 ow) := hcell 4 (by omega)
      have q5 : wr.cell? ⟨go, oo + k * 8 + 5, none⟩ = some (.bool be) := hcell 5 (by omega)
      have q6 : wr.cell? ⟨go, oo + k * 8 + 6, none⟩ = some (.bool bf) := hcell 6 (by omega)
      have q7 : wr.cell? ⟨go, oo + k * 8 + 7, none⟩ = some (.string os) := hcell 7 (by omega)
      have hBL := BL.new wr 47 [.int .i64 ok, .int .i64 oa, .int .i64 ob, .int .i64 on, .int .u8 ow, .bool be, .bool bf, .string os]
      have hal : Below wr.heap.size wr (wr.alloc (.cells #[.int .i64 ok, .int .i64 oa, .int .i64 ob, .int .i64 on, .int .u8 ow, .bool be, .bool bf, .string os] 47)) := (Below.refl _ _).alloc (Nat.le_refl _) _
      have HBX := Lib.hid (ts_boxes (hT.below hal) (by omega))
      have HBL := Lib.hid hBL
      have HTT := Lib.hid hT
      have hWs : wr.heap.size ≤ (wr.alloc (.cells #[.int .i64 ok, .int .i64 oa, .int .i64 ob, .int .i64 on, .int .u8 ow, .bool be, .bool bf, .string os] 47)).heap.size := hal.size
      have HWS := Lib.hid hWs
      clear hcell ho hBL hal hT hWs
      unfold pV at HBX
      go_wp2_with fail
      clear q0 q1 q2 q3 q4 q5 q6 q7
      generalize wr.alloc (.cells #[.int .i64 ok, .int .i64 oa, .int .i64 ob, .int .i64 on, .int .u8 ow, .bool be, .bool bf, .string os] 47) = W at *
      generalize hvb : wr.heap.size = vb at *
      have hWs := HWS.out
      have hTl := HTT.out.tin.lt
      refine HBX.out.mono ?_
      rintro _ w2 ⟨l, g, cc, rfl, -, hl1, hl2, ⟨hg0, hg⟩, hlc, hT2, hb2⟩
      obtain ⟨kk, hkk, hkk2⟩ := pickS_in oa (l.length : Int) (by omega)
      obtain ⟨zz, hzz, hzz2⟩ := pickS_in on 9 (by decide)
      have p1 := fun V => pick7 oa (l.length : Int) ha0 ha1 (by omega) (by omega) V
      have p2 := fun V => pick7 on 9 hn0 hn1 (by decide) (by decide) V
      rw [hkk] at p1
      rw [hzz] at p2
      have hkl : kk < l.length := by omega
      have hc0 : w2.cell? ⟨g, kk * 5, none⟩ = some (.int .i64 l[kk].1) := hlc _ _ (bx_cell (List.getElem?_eq_getElem hkl) 0 (by omega))
      have hb3 := HBL.out.only (Only.of_below (F := []) hb2) (by simp)
      have hbl := hTl
      rw [hvb] at hbl
      have hvg : vb ∉ T.blks := fun hx => by have := hbl vb hx; omega
      have hgg : g ∉ T.blks := fun hx => by have := hbl g hx; have := hWs; omega
      have SS : ∀ V, Only T.blks w2 V → (V.cell? ⟨vb, 1, none⟩ = some (.int .i64 oa) ∧ V.cell? ⟨vb, 3, none⟩ = some (.int .i64 on) ∧ V.cell? ⟨vb, 5, none⟩ = some (.bool be) ∧ V.cell? ⟨vb, 6, none⟩ = some (.bool bf) ∧ V.cell? ⟨g, kk * 5, none⟩ = some (.int .i64 l[kk].1) ∧ Only T.blks w2 V) := fun V hV => by
        have h1 := hb3.only hV hvg
        exact ⟨h1.cell 1, h1.cell 3, h1.cell 5, h1.cell 6, (World.cell?_of_block (w := w2) (a := ⟨g, kk * 5, none⟩) (hV.block g hg hgg)).trans hc0, hV⟩
      have o1 : Only T.blks w2 w2.drew := (Only.refl _ _).drew
      have j0 : (0 : Int) ≤ (kk : Int) := Int.natCast_nonneg _
      have j1 : IntKind.i64.wrap ((k : Int) + 2) = (k : Int) + 2 := IntWalk.i64_in _ ⟨by omega, by omega⟩
      have hTd : TS w tb (k + 1) (k + 1) T w2.drew := hT2.below (Below.refl _ _).drew
      have hsp := ts_split (pane := l[kk].1) (q := (k : Int) + 2) (size := (zz : Int)) (M' := k + 2) hTd (by omega) (by omega) (by omega) (by omega) (by omega) be bf
      have HSP := Lib.hid hsp
      have HPK : Hid (∀ x m v, (x = oa ∧ m = (l.length : Int) ∧ v = (kk : Int) ∨ x = on ∧ m = 9 ∧ v = (zz : Int)) → ∀ V, Calls Tryd.prog 7 #[.int .i64 x, .int .i64 m] V fun e w' => e = .returned (.int .i64 v) ∧ V = w') := by
        rintro x m v (⟨rfl, rfl, rfl⟩ | ⟨rfl, rfl, rfl⟩) V
        · exact p1 V
        · exact p2 V
      have hne : ((l.length : Int) == 0) = false := by rw [beq_eq_false_iff_ne]; omega
      unfold pV at HSP
      generalize l[kk].1 = id at *
      generalize l.length = L at *
      clear hlc hc0 hb3 hT2 hTd hsp p1 p2 hkk hzz HBL HBX hkl hl1 hl2 l hbl hTl hWs HWS HTT hvb hvg hgg hg0
      go_wp2_with fail
      go_region_held3 (fun V => V.cell? ⟨vb, 1, none⟩ = some (.int .i64 oa) ∧ V.cell? ⟨vb, 3, none⟩ = some (.int .i64 on) ∧ V.cell? ⟨vb, 5, none⟩ = some (.bool be) ∧ V.cell? ⟨vb, 6, none⟩ = some (.bool bf) ∧ V.cell? ⟨g, kk * 5, none⟩ = some (.int .i64 id) ∧ Only T.blks w2 V)
        (first
          | (refine SS _ ?_; assumption)
          | fail)
        (first
          | (go_at_call 7; refine (HPK.out _ _ _ (by first | exact Or.inl ⟨rfl, rfl, rfl⟩ | exact Or.inr ⟨rfl, rfl, rfl⟩) _).mono ?_; rintro _ w4 ⟨rfl, rfl⟩)
          | (go_at_call 10; refine HSP.out.mono ?_; rintro _ w5 ⟨ans, rfl, hO5, hor⟩; have k5 := o1.trans hO5))
      all_goals
        have HN := Lib.hid (show ∃ T, TS w tb (k + 1 + 1) (k + 1 + 1) T w5 from by
          rcases hor with ⟨-, h, -⟩ | ⟨-, -, -, -, -, -, -, T', -, h, -⟩
          · exact ⟨_, h.more (by omega) (by omega) (by omega)⟩
          · exact ⟨_, h⟩)
        clear hor hO5 k5 SS o1 HPK HSP
        go_wp2_with fail
        go_roundw
        case rel => exact ⟨k + 1, by omega, by omega, by go_num, HN⟩
        case measure => simp [intOf]; omega
    · have hend : (n : Int) ≤ (k : Int) ∨ ((k : Int) < (n : Int) ∧ (30 : Int) ≤ (k : Int)) := by omega
      have HE := Lib.hid (show ∃ T, TS w tb 31 31 T wr from by obtain ⟨T, h⟩ := hTS.out; exact ⟨T, h.more (by omega) (by omega) (by omega)⟩)
      clear hgo hTS HRO
      rcases hend with i1 | ⟨i1, i2⟩
      all_goals
        go_wp2_with fail
        go_ret
        obtain ⟨T, h⟩ := HE.out
        exact ⟨tb, T, rfl, h⟩
end Go.Proofs.YtkanglfpiahecaaDoor.Lyt
/- The law: a split that is closed again leaves no trace. -/
namespace Go.Proofs.YtkanglfpiahecaaDoor.Lyt
open Go.RowKit

section
variable {w0 wr w' : World} {tb m M : Nat} {T : F}
theorem all_in {P : Int → Int → Int → Prop} {q : Int} : ∀ {f : F}, f.all P → f.inP q → ∃ s0 s1, P q s0 s1
  | .leaf _ _ s0 s1 r, h, hi => by
    rcases hi with rfl | hi
    · exact ⟨s0, s1, h.1⟩
    · exact all_in (f := r) h.2 hi
  | .node _ _ _ _ ks r, h, hi => by
    rcases hi with hi | hi
    · exact all_in (f := ks) h.1 hi
    · exact all_in (f := r) h.2 hi
theorem TS.out (h : TS w0 tb m M T wr) {q : Int} (hq : (M : Int) < q) : ¬ T.inP q := fun hi => by
  obtain ⟨_, _, h1⟩ := all_in h.pns hi
  omega
theorem ts_has_no (h : TS w0 tb m M T wr) (hm : m ≤ 40) {q : Int} (hq : ¬ T.inP q) :
    Calls Tryd.prog 11 #[pV tb, .int .i64 q] wr fun e w' => e = .returned (.bool false) ∧ TS w0 tb m M T w' ∧ Below wr.heap.size wr w' := by
  obtain ⟨l, hl⟩ := h.ups q
  have hd : decide (l ≠ []) = false := decide_eq_false (fun hne => hq ((inP_one h.one hl).2 hne))
  refine (Has_at (h.ok hm).one (h.ok hm).big h.tin h.hv hl).mono ?_
  rintro e w' ⟨he, hb⟩
  exact ⟨by rw [he, hd], h.below hb, hb⟩
theorem ts_has_yes (h : TS w0 tb m M T wr) (hm : m ≤ 40) {q : Int} (hq : T.inP q) :
    Calls Tryd.prog 11 #[pV tb, .int .i64 q] wr fun e w' => e = .returned (.bool true) ∧ TS w0 tb m M T w' ∧ Below wr.heap.size wr w' := by
  obtain ⟨l, hl⟩ := h.ups q
  have hd : decide (l ≠ []) = true := decide_eq_true ((inP_one h.one hl).1 hq)
  refine (Has_at (h.ok hm).one (h.ok hm).big h.tin h.hv hl).mono ?_
  rintro e w' ⟨he, hb⟩
  exact ⟨by rw [he, hd], h.below hb, hb⟩
/-- What is alike to a tree but for its places. -/
theorem TS.alike {wo : World} (h : TS w0 tb m M T wo) {T2 : F} (hb : T2.bare = T.bare) (hin : T2.In wr) (hnd : T2.blks.Nodup) (hp : T2.ptrs = [pV tb]) (hnew : ∀ x ∈ T2.blks, w0.heap.size ≤ x) (hfr : Below w0.heap.size w0 wr) : TS w0 tb m M T2 wr := by
  refine ⟨hin, F.all_bare.1 (by rw [hb]; exact F.all_bare.2 h.siz), ?_, hp, hnd, ?_, F.all_bare.1 (by rw [hb]; exact F.all_bare.2 h.pns), h.lim, ?_, hnew, hfr⟩
  · have := congrArg List.length hp
    rwa [F.ptrs_len] at this
  · rw [← F.norm_bare, hb, F.norm_bare]; exact h.norm
  · rw [← F.cnt_bare, hb, F.cnt_bare]; exact h.cnt
/-- A pane is in the tree behind its split; closed, the tree is as it was. -/
theorem ts_undo {wo : World} (h : TS w0 tb m M T wo) {M' : Nat} {T' : F} {pane q s0 s1 sz : Int} {b : Nat} {frs : List Fr} {x : Bool} (hm : m ≤ 39) (hq : ¬ T.inP q) (hT : T = plug (.leaf b pane s0 s1 .nil) frs) (hbr : T'.bare = (rema (t0P x false pane q s0 s1 sz) frs).bare) :
    T'.inP q ∧ (∀ wr, TS w0 tb (m + 1) M' T' wr → Calls Tryd.prog 12 #[pV tb, .int .i64 q] wr fun e w' => e = .returned (.int .i64 0) ∧ ∃ T2, TS w0 tb m M T2 w' ∧ T2.bare = T.bare) := by
  have hpq : pane ≠ q := fun e => hq (by rw [hT]; exact inP_plug.2 (.inl (.inl e)))
  have hn0 : frsN q frs = 0 := by
    rcases Nat.eq_zero_or_pos (frsN q frs) with h0 | h0
    · exact h0
    · exfalso
      refine hq (num_in.2 ?_)
      rw [hT, num_plug]
      omega
  have hnt : (t0P x false pane q s0 s1 sz).num q = 1 := by
    simp [t0P, F.num, hpq]
  have hnT : T'.num q = 1 := by rw [← F.num_bare, hbr, F.num_bare, num_rema, hnt, hn0]
  have hin : T'.inP q := num_in.2 (by omega)
  refine ⟨hin, fun wr h' => ?_⟩
  obtain ⟨l, hl⟩ := h'.ups q
  have hne := (inP_one h'.one hl).1 hin
  obtain ⟨fA, bg, m0, m1, hlv, hz⟩ := zip_one h'.one hl hne
  have hA : ∀ fr ∈ fA, ¬ fr.l.inP q ∧ ¬ fr.r.inP q := by
    refine frsN_no ?_
    have h1 := hnT
    rw [hz, num_plug] at h1
    have h2 : (F.leaf bg q m0 m1 .nil).num q = 1 := by simp [F.num]
    omega
  have hno := h.norm
  rw [hT] at hno hq
  obtain ⟨fr1, up1, l0, eb, h0, h1, rfl, hfl, hun⟩ := undo (par := -1) (al := if x then 0 else 1) (b := b) (p := pane) (q := q) (s0 := s0) (s1 := s1) (sz := sz) (bg := bg) (m0 := m0) (m1 := m1) (frs := frs) (fA := fA) (T1 := T') (by omega) (by cases x <;> simp) hno hq (by
    rw [hbr]
    cases x <;> rfl) hz hA
  refine (Close_behind (h'.ok (by omega)) h'.tin h'.nod h'.hv hl hz hlv hfl).mono ?_
  rintro e w' ⟨he, ⟨T2, k1, -, k3, k4, k5, k6, -⟩, ko⟩
  have hbT : T2.bare = T.bare := k6.trans (hun.trans (by rw [hT]))
  refine ⟨he, T2, h.alike hbT k1 k3 (k5.trans h'.ptr) (fun z hz2 => ?_) (h'.fr.trans (ko.below h'.fr.size h'.new)), hbT⟩
  rcases k4 z hz2 with h8 | h8
  · exact h'.new z h8
  · have := h'.fr.size; omega
end
set_option maxRecDepth 100000 in
set_option maxHeartbeats 4000000 in
theorem undo_walk {B : Nat} (ww hh aa zz : Int) (hw0 : -9223372036854775808 ≤ ww) (hw1 : ww ≤ 9223372036854775807) (hh0 : -9223372036854775808 ≤ hh) (hh1 : hh ≤ 9223372036854775807) (ha0 : -9223372036854775808 ≤ aa) (ha1 : aa ≤ 9223372036854775807) (hz0 : -9223372036854775808 ≤ zz) (hz1 : zz ≤ 9223372036854775807) (be : Bool)
    (A : Option Addr) (n c : Nat) (ops : Nat → OpV) (w : World) (ht : Tab B w) (hB : B ≤ w.heap.size) (hro : RdO w A n ops) :
    Calls Tryd.prog 3 #[.int .i64 ww, .int .i64 hh, .slice A n c, .int .i64 aa, .bool be, .int .i64 zz] w fun e w' => e = .returned (.bool true) ∧ Below w.heap.size w w' := by
  have HT := Lib.hid ht
  have HRO := Lib.hid hro
  have HS := Lib.hid (shown_any w ht hB)
  obtain ⟨pw, hpw, hpw2⟩ := pickS_in ww 60 (by decide)
  obtain ⟨ph, hph, hph2⟩ := pickS_in hh 40 (by decide)
  obtain ⟨pz, hpz, hpz2⟩ := pickS_in zz 9 (by decide)
  have p1 := fun V => pick7 ww 60 hw0 hw1 (by decide) (by decide) V
  have p2 := fun V => pick7 hh 40 hh0 hh1 (by decide) (by decide) V
  have p3 := fun V => pick7 zz 9 hz0 hz1 (by decide) (by decide) V
  rw [hpw] at p1
  rw [hph] at p2
  rw [hpz] at p3
  have P1 := Lib.hid p1
  have P2 := Lib.hid p2
  have P3 := Lib.hid p3
  have j1 : IntKind.i64.wrap (1 + (pw : Int)) = 1 + (pw : Int) := IntWalk.i64_in _ ⟨by omega, by omega⟩
  have j2 : IntKind.i64.wrap (1 + (ph : Int)) = 1 + (ph : Int) := IntWalk.i64_in _ ⟨by omega, by omega⟩
  clear p1 p2 p3 hpw hph hpz hw0 hw1 hh0 hh1 hz0 hz1 ht hro
  go_enter Tryd.func3, Tryd.ntmps3
  go_wp2_with fail
  refine HS.out.mono ?_
  rintro _ w1 ⟨rfl, hb1⟩
  have HB1 := Lib.hid hb1
  have HMd := Lib.hid (made_any (x := 1 + (pw : Int)) (y := 1 + (ph : Int)) (by omega) (by omega) A n c ops w1 (HRO.out.later hb1))
  clear hb1 HS
  unfold pV at HMd
  go_wp2_with fail
  refine (P1.out _).mono ?_
  rintro _ w2 ⟨rfl, rfl⟩
  go_wp2_with fail
  refine (P2.out _).mono ?_
  rintro _ w2 ⟨rfl, rfl⟩
  go_wp2_with fail
  refine HMd.out.mono ?_
  rintro _ w3 ⟨tb, T, rfl, hT⟩
  have HBX := Lib.hid (ts_boxes hT (by omega))
  clear hT HMd P1 P2 HRO
  unfold pV at HBX
  go_wp2_with fail
  refine HBX.out.mono ?_
  rintro _ w4 ⟨l, g, cc, rfl, -, hl1, hl2, ⟨-, hg⟩, hlc, hT4, hb4⟩
  obtain ⟨kk, hkk, hkk2⟩ := pickS_in aa (l.length : Int) (by omega)
  have p4 := fun V => pick7 aa (l.length : Int) ha0 ha1 (by omega) (by omega) V
  rw [hkk] at p4
  have hkl : kk < l.length := by omega
  have hc0 : w4.cell? ⟨g, kk * 5, none⟩ = some (.int .i64 l[kk].1) := hlc _ _ (bx_cell (List.getElem?_eq_getElem hkl) 0 (by omega))
  have k0 : (0 : Int) ≤ (kk : Int) := Int.natCast_nonneg _
  have hne : ((l.length : Int) == 0) = false := by rw [beq_eq_false_iff_ne]; omega
  have P4 := Lib.hid p4
  have HT4 := Lib.hid hT4
  clear hlc hkk p4 hT4 hb4 HBX hg hl1 hl2 ha0 ha1
  generalize l[kk].1 = id at *
  clear hkl
  generalize l.length = L at *
  clear l
  go_wp2_with fail
  refine (P4.out _).mono ?_
  rintro _ w5 ⟨rfl, rfl⟩
  have HPr := Lib.hid (ts_print HT4.out (by omega) (HT.out.on hB (HB1.out.trans (HT4.out.fr.mono HB1.out.size))) (Nat.le_trans hB (Nat.le_trans HB1.out.size HT4.out.fr.size)))
  unfold pV at HPr
  clear P4
  go_wp2_with fail
  refine HPr.out.mono ?_
  rintro _ w6 ⟨rfl, hT6, -⟩
  have HT6 := Lib.hid hT6
  have HEX := Lib.hid (HT.out.on hB HB1.out)
  have HNB := Lib.hid (Nat.le_trans hB HB1.out.size)
  have HSP := Lib.hid (ts_split (pane := id) (q := 999) (size := (pz : Int)) (M' := 999) hT6 (by omega) (by omega) (by omega) (by omega) (by omega) be false)
  have HO := Lib.hid (hT6.out (q := 999) (by omega))
  clear hT6 HPr HT4 HT
  unfold pV at HSP
  obtain ⟨S, hS⟩ : ∃ S, S = bs (prT T) := ⟨_, rfl⟩
  rw [← hS]
  have HSS := Lib.hid hS
  clear hS
  go_wp2_with fail
  refine (P3.out _).mono ?_
  rintro _ w7 ⟨rfl, rfl⟩
  clear P3
  go_wp2_with fail
  refine HSP.out.mono ?_
  rintro _ w8 ⟨ans, rfl, -, ⟨hans, hT8, -⟩ | ⟨rfl, hq, frs, b, s0, s1, sz, T', hTp, hT', hbr⟩⟩
  · have HPr := Lib.hid (ts_print hT8 (by omega) (HEX.out.on HNB.out hT8.fr) (Nat.le_trans HNB.out hT8.fr.size))
    rw [← HSS.out] at HPr
    unfold pV at HPr
    clear hT8 HSP
    go_wp2_with fail
    refine HPr.out.mono ?_
    rintro _ w9 ⟨rfl, hT9, -⟩
    have HHas := Lib.hid (ts_has_no hT9 (by omega) HO.out)
    unfold pV at HHas
    clear hT9 HPr
    go_wp2_with fail
    refine HHas.out.mono ?_
    rintro _ w10 ⟨rfl, hT10, -⟩
    have HF := Lib.hid (HB1.out.trans (hT10.fr.mono HB1.out.size))
    clear hT10 HHas
    go_wp2_with fail
    go_ret
    exact ⟨rfl, HF.out⟩
  · obtain ⟨hin, hcl⟩ := ts_undo (M' := 999) HT6.out (by omega) hq hTp hbr
    have HHas := Lib.hid (ts_has_yes hT' (by omega) hin)
    have HCl := Lib.hid hcl
    unfold pV at HHas HCl
    clear hin hcl hT' hbr hq hTp HSP
    go_wp2_with fail
    refine HHas.out.mono ?_
    rintro _ w9 ⟨rfl, hT9, -⟩
    have HC2 := Lib.hid (HCl.out _ hT9)
    clear hT9 HCl HHas
    go_wp2_with fail
    refine HC2.out.mono ?_
    rintro _ w10 ⟨rfl, T2, hT2, hb2⟩
    have HPr := Lib.hid (ts_print hT2 (by omega) (HEX.out.on HNB.out hT2.fr) (Nat.le_trans HNB.out hT2.fr.size))
    rw [prT_bare hb2, ← HSS.out] at HPr
    unfold pV at HPr
    clear hT2 hb2 HC2
    go_wp2_with fail
    refine HPr.out.mono ?_
    rintro _ w11 ⟨rfl, hT11, -⟩
    have HF := Lib.hid (HB1.out.trans (hT11.fr.mono HB1.out.size))
    clear hT11 HPr
    go_wp2_with fail
    go_ret
    exact ⟨rfl, HF.out⟩
end Go.Proofs.YtkanglfpiahecaaDoor.Lyt
/- The rows' condition gives the walks what they need of the tables; a world that meets it; calls that came in. -/
namespace Go.Proofs.YtkanglfpiahecaaDoor.Lyt
open Go.RowKit Go.ChangeShapes Go.WideShapes Go.ChangeAt Go.Joins

theorem gDb7 : Tryd.prog.globalNamed "math/bits.deBruijn64tab" = some 3 := by kernel_rfl
theorem tDb7 : (Tryd.prog.globals[3]?).map (·.type) = some 127 := by kernel_rfl
theorem tightDb7 : Flat.tight Tryd.prog 4 127 = true := by kernel_rfl
set_option maxRecDepth 100000 in
theorem flatDb7 : (Flat.flat (Rows.laid_math_bits_deBruijn64tab (H := Unit))).toArray = dbCells := by kernel_rfl
theorem tU107 : (Tryd.prog.globals[0]?).map (·.type) = some 121 := by kernel_rfl
theorem tightU107 : Flat.tight Tryd.prog 4 121 = true := by kernel_rfl
set_option maxRecDepth 100000 in
theorem flatU107 : (Flat.flat (Rows.laid_internal_strconv_uint64pow10 (H := Unit))).toArray = u10Cells := by kernel_rfl
theorem tab_of {W : World} (h : laidMetH Tryd.prog Rows.layoutUndoesRow.laid W) : Tab W.heap.size W := by
  rw [MakeChecks.laidMetH_plain _ _ _ (by kernel_rfl)] at h
  obtain ⟨ps, ⟨ga, ta, csa, fa, pa, qa, hga, hta, hva, hda, ⟨gb, tb, csb, fb, pb, qb, hgb, htb, hvb, hdb, ⟨gc, tc, csc, fc, pc, qc, hgc, htc, hvc, hdc, _⟩, _⟩, _⟩, _⟩ := h
  clear hga hta hva hda
  obtain rfl := Option.some.inj (gDb7.symm.trans hgb)
  obtain rfl := Option.some.inj (tDb7.symm.trans htb)
  have hb := Flat.cells_of_read gDb7 hvb 4 tightDb7 hdb
  rw [flatDb7] at hb
  obtain rfl := Option.some.inj (gU10.symm.trans hgc)
  obtain rfl := Option.some.inj (tU107.symm.trans htc)
  have hc := Flat.cells_of_read gU10 hvc 4 tightU107 hdc
  rw [flatU107] at hc
  have lb : _ < W.heap.size := (Array.getElem?_eq_some_iff.1 hb.choose_spec.choose_spec).1
  have lc : _ < W.heap.size := (Array.getElem?_eq_some_iff.1 hc.choose_spec.choose_spec).1
  exact ⟨⟨lc, lb⟩, hc, hb⟩

/-- A world for the witness: the settled one, every listed variable as the row lists it. -/
noncomputable def laidWorld (os : Os) : World := World.laidAll Tryd.prog os Rows.layoutUndoesRow.laid
theorem own : ownKnob Tryd.prog.godebug = none := by kernel_rfl
theorem laid_met (os : Os) (args : Array Value) : laidMet Tryd.prog Rows.layoutUndoesRow.laid ((laidWorld os).forCall (fun _ _ => 0) ⟨#[], args, []⟩).memory := laidMet_laidAll _ (by kernel_rfl) (by kernel_rfl)
theorem shaped (os : Os) (args : Array Value) : ((laidWorld os).forCall (fun _ _ => 0) ⟨#[], args, []⟩).Shaped Tryd.prog := World.shaped_of_ZipB (by kernel_rfl) (by kernel_rfl)
theorem witness_row_shaped {H : Type} {enc : TypeId × Value → H} {C : Checked} {os : Os} {f : FuncId} {fn : Func} {s : OpenSpec} {conds : List PathCond} {apart : Bool} {laid : List (String × DataW Unit)} (w0 : World) (args : Array Value) (hos : w0.os = os)
    (hsh : (w0.forCall (fun _ _ => 0) ⟨#[], args, []⟩).Shaped C.prog)
    (hok : Input.okWideB C.prog (w0.forCall (fun _ _ => 0) ⟨#[], args, []⟩) f ⟨#[], args, []⟩ = true)
    (hrow : s.preRow enc C.prog fn conds apart laid (w0.forCall (fun _ _ => 0) ⟨#[], args, []⟩).memory args) :
    ∃ (w : World) (tape : Tape) (i : Input), w.os = os ∧ (w.forCall tape i).Shaped C.prog ∧ i.vars = [] ∧ Input.okWide C.prog (w.forCall tape i) .any w.heap.size f i ∧
      s.preRow enc C.prog fn conds apart laid (w.forCall tape i).memory i.args ∧ ({} : Assume).holds C.prog (lone (Frame.enter C.prog f i.args .normal) [] (w.forCall tape i)) :=
  ⟨w0, fun _ _ => 0, ⟨#[], args, []⟩, hos, hsh, (Input.okWide_of_okWideB (base := 0) hok).1, (Input.okWide_of_okWideB hok).2, hrow, by simp [Assume.holds]⟩
theorem k_int7 : Tryd.prog.cellsOf 3 = 1 := by kernel_rfl
theorem k_u87 : Tryd.prog.cellsOf 5 = 1 := by kernel_rfl
theorem k_bool7 : Tryd.prog.cellsOf 4 = 1 := by kernel_rfl
theorem k_str7 : Tryd.prog.cellsOf 9 = 1 := by kernel_rfl
theorem k_op7 : Tryd.prog.cellsOf 47 = 8 := by kernel_rfl
section
variable {H : Type} {enc : TypeId × Value → H} {w : World}
set_option maxRecDepth 100000 in
theorem open_op {n : Nat} {cs : List Value} {y : DataW H × List MemPlace} (h : DataW.trod enc Tryd.prog w 0 (fun _ => true) true n 47 cs = some y) : ∃ o : OpV, cs = opL o ∧ o.ok := by
  obtain ⟨xs, m, _, hx, hl, hlen, hf⟩ := DataW.trod_struct Tryd.underlying47 h
  rw [k_op7] at hl
  match cs, hl, xs, hlen with
  | [c0, c1, c2, c3, c4, c5, c6, c7], _, [y0, y1, y2, y3, y4, y5, y6, y7], _ =>
    have g0 : DataW.trod enc Tryd.prog w 0 (fun _ => true) true m 3 [c0] = some y0 := by simpa [k_int7] using hf 0 _ rfl
    have g1 : DataW.trod enc Tryd.prog w 0 (fun _ => true) true m 3 [c1] = some y1 := by simpa [k_int7] using hf 1 _ rfl
    have g2 : DataW.trod enc Tryd.prog w 0 (fun _ => true) true m 3 [c2] = some y2 := by simpa [k_int7] using hf 2 _ rfl
    have g3 : DataW.trod enc Tryd.prog w 0 (fun _ => true) true m 3 [c3] = some y3 := by simpa [k_int7] using hf 3 _ rfl
    have g4 : DataW.trod enc Tryd.prog w 0 (fun _ => true) true m 5 [c4] = some y4 := by simpa [k_u87] using hf 4 _ rfl
    have g5 : DataW.trod enc Tryd.prog w 0 (fun _ => true) true m 4 [c5] = some y5 := by simpa [k_bool7] using hf 5 _ rfl
    have g6 : DataW.trod enc Tryd.prog w 0 (fun _ => true) true m 4 [c6] = some y6 := by simpa [k_bool7] using hf 6 _ rfl
    have g7 : DataW.trod enc Tryd.prog w 0 (fun _ => true) true m 9 [c7] = some y7 := by simpa [k_str7] using hf 7 _ rfl
    obtain ⟨k, e0, _, _⟩ := DataW.trod_int Tryd.underlying3 g0
    obtain ⟨a, e1, _, wa⟩ := DataW.trod_int Tryd.underlying3 g1
    obtain ⟨b, e2, _, _⟩ := DataW.trod_int Tryd.underlying3 g2
    obtain ⟨nn, e3, _, wn⟩ := DataW.trod_int Tryd.underlying3 g3
    obtain ⟨way, e4, _, _⟩ := DataW.trod_int Tryd.underlying5 g4
    obtain ⟨be, e5, _⟩ := DataW.trod_bool Tryd.underlying4 g5
    obtain ⟨bf, e6, _⟩ := DataW.trod_bool Tryd.underlying4 g6
    obtain ⟨s, e7, _, _⟩ := DataW.trod_string Tryd.underlying9 g7
    simp [Lit.wf, IntKind.min, IntKind.max, IntKind.signed, IntKind.bits] at wa wn
    injection e0 with e0
    injection e1 with e1
    injection e2 with e2
    injection e3 with e3
    injection e4 with e4
    injection e5 with e5
    injection e6 with e6
    injection e7 with e7
    exact ⟨⟨k, a, b, nn, way, be, bf, s⟩, by unfold opL; simp only; rw [e0, e1, e2, e3, e4, e5, e6, e7], wa, wn⟩
set_option maxRecDepth 100000 in
theorem open_ops {r : Reach} {b0 : Nat} {v : Value} {d : DataW H} {p : List MemPlace}
    (hv : Value.okWide Tryd.prog w r b0 22 v) (h : DataW.Trod enc Tryd.prog w 0 (fun _ => true) true 22 v d p) :
    ∃ (A : Option Addr) (n c : Nat) (ops : Nat → OpV), v = .slice A n c ∧ RdO w A n ops := by
  obtain ⟨a0, n0, c0, rfl⟩ := okWide_slice Tryd.underlying22 hv
  obtain ⟨fuel, hf⟩ := h
  rcases DataW.trod_slice Tryd.underlying22 hf with ⟨e, _⟩ | ⟨a, len, cap, elems, rest, n, _, e, hx, _, hl, hm, hel, hat, _, _⟩
  · simp [Value.cells] at e
    obtain ⟨rfl, rfl, rfl⟩ := e
    exact ⟨none, 0, 0, fun _ => ⟨0, 0, 0, 0, 0, false, false, ⟨#[]⟩⟩, rfl, (fun k hk => by simp at hk)⟩
  · simp [Value.cells] at e
    obtain ⟨rfl, rfl, rfl⟩ := e
    rw [k_op7] at hat
    have hex : ∀ k, ∃ o : OpV, k < n0 → o.ok ∧ ∀ j, j < 8 → w.cell? ((a.add (k * 8)).add j) = (opL o)[j]? := fun k => by
      by_cases hk : k < n0
      · have h1 := hat k hk
        rw [List.getElem?_eq_getElem (show k < elems.length by omega)] at h1
        obtain ⟨cs, hcs, ht⟩ := Option.bind_eq_some_iff.1 h1
        obtain ⟨o, rfl, hok⟩ := open_op ht
        obtain ⟨_, _, hc⟩ := World.cells?_some hcs
        exact ⟨o, fun _ => ⟨hok, hc⟩⟩
      · exact ⟨⟨0, 0, 0, 0, 0, false, false, ⟨#[]⟩⟩, fun h => absurd h hk⟩
    obtain ⟨ops, hops⟩ : ∃ ops : Nat → OpV, ∀ k, k < n0 → (ops k).ok ∧ ∀ j, j < 8 → w.cell? ((a.add (k * 8)).add j) = (opL (ops k))[j]? := ⟨fun k => Classical.choose (hex k), fun k => Classical.choose_spec (hex k)⟩
    clear hex hat hx hf hv
    refine ⟨some a, n0, c0, ops, rfl, fun k hk => ?_⟩
    have h0 := (hops 0 (by omega)).2 0 (by omega)
    obtain ⟨hok, hcell⟩ := hops k hk
    clear hops
    obtain ⟨g, o, sp⟩ := a
    have e0 : (((⟨g, o, sp⟩ : Addr).add (0 * 8)).add 0) = ⟨g, o, sp⟩ := by unfold Addr.add; simp
    rw [e0] at h0
    have h0' : w.cell? ⟨g, o, sp⟩ = some (.int .i64 (ops 0).k) := h0
    clear h0 e0
    have hsn : sp = none := by
      unfold World.cell? at h0'
      cases sp with
      | none => rfl
      | some x => simp at h0'; split at h0' <;> simp at h0'
    subst hsn
    have hg : g < w.heap.size := by
      rcases Nat.lt_or_ge g w.heap.size with q | q
      · exact q
      · unfold World.cell? at h0'
        simp [Array.getElem?_eq_none q] at h0'
    refine ⟨g, o, rfl, hg, hok, fun j hj => ?_⟩
    have h1 := hcell j hj
    have ek : (((⟨g, o, none⟩ : Addr).add (k * 8)).add j) = ⟨g, o + k * 8 + j, none⟩ := by
      unfold Addr.add
      by_cases hk0 : k * 8 = 0
      · by_cases hj0 : j = 0
        · simp [hk0, hj0]
        · simp [hk0, hj0]
      · by_cases hj0 : j = 0
        · simp [hk0, hj0]
        · simp [hk0, hj0]
    rw [ek] at h1
    exact h1
end
end Go.Proofs.YtkanglfpiahecaaDoor.Lyt
/- LayoutUndoes: its card. No condition beyond the listed tables, tied to the text. -/
namespace Go.Proofs.YtkanglfpiahecaaDoor.Lyt
open Go.RowKit Go.ChangeShapes Go.WideShapes Go.ChangeAt Go.ChangeMaps

namespace LawLayoutUndoes
set_option maxRecDepth 100000 in
theorem contract (H : Type) (enc : TypeId × Value → H) (W : World) (base : Nat) (args : Array Value) (ds gs : List (DataW H)) (before : List MemPlace)
    (hval : ∀ (j : Nat) t v, Tryd.f3.params[j]? = some t → args[j]? = some v → Value.okWide Tryd.prog W .any base t v)
    (hW : DataW.Whole enc Tryd.prog Tryd.f3.params.toList Rows.layoutUndoesSpec.vars false W args.toList ds gs before) (hL : laidMetH Tryd.prog Rows.layoutUndoesRow.laid W) :
    Calls Tryd.prog 3 args W fun e W' => ∃ v, e = .returned v ∧ Rows.layoutUndoesSpec.post enc Tryd.prog Tryd.f3 false true false false W args v W' := by
  have hW' := hW
  obtain ⟨p, q, hA0, hV, hbefore, hfz, hnd⟩ := hW
  have hA : DataW.TrodAll enc Tryd.prog W 0 (fun _ => true) true Tryd.f3.params.toList args.toList ds p := hA0
  rw [Tryd.params3] at hA hval
  obtain ⟨v0, vs0, d0, ds0, p0, q0, hargs, rfl, rfl, h0, r0⟩ := trodAll_cons hA
  obtain ⟨v1, vs1, d1, ds1, p1, q1, rfl, rfl, rfl, h1, r1⟩ := trodAll_cons r0
  obtain ⟨v2, vs2, d2, ds2, p2, q2, rfl, rfl, rfl, h2, r2⟩ := trodAll_cons r1
  obtain ⟨v3, vs3, d3, ds3, p3, q3, rfl, rfl, rfl, h3, r3⟩ := trodAll_cons r2
  obtain ⟨v4, vs4, d4, ds4, p4, q4, rfl, rfl, rfl, h4, r4⟩ := trodAll_cons r3
  obtain ⟨v5, vs5, d5, ds5, p5, q5, rfl, rfl, rfl, h5, r5⟩ := trodAll_cons r4
  obtain ⟨rfl, rfl, rfl⟩ := trodAll_nil r5
  obtain rfl : args = #[v0, v1, v2, v3, v4, v5] := by cases args; simp_all
  obtain ⟨rfl, rfl⟩ := trodVars_none hV
  have fin : ∀ W' : World, Below W.heap.size W W' → Rows.layoutUndoesSpec.post enc Tryd.prog Tryd.f3 false true false false W #[v0, v1, v2, v3, v4, v5] (.bool true) W' := fun W' hb =>
    Post.law_post (by kernel_rfl) (by kernel_rfl) rfl (by kernel_rfl) Tryd.underlying4 hW' rfl hb
  obtain ⟨x0, rfl, rfl, rfl, hx0⟩ := open_int Tryd.underlying3 (hval 0 3 v0 rfl rfl) h0
  simp [Lit.wf, IntKind.min, IntKind.max, IntKind.signed, IntKind.bits] at hx0
  obtain ⟨x1, rfl, rfl, rfl, hx1⟩ := open_int Tryd.underlying3 (hval 1 3 v1 rfl rfl) h1
  simp [Lit.wf, IntKind.min, IntKind.max, IntKind.signed, IntKind.bits] at hx1
  obtain ⟨A2, n2, c2, ops2, rfl, hrd2⟩ := open_ops (hval 2 22 v2 rfl rfl) h2
  obtain ⟨x3, rfl, rfl, rfl, hx3⟩ := open_int Tryd.underlying3 (hval 3 3 v3 rfl rfl) h3
  simp [Lit.wf, IntKind.min, IntKind.max, IntKind.signed, IntKind.bits] at hx3
  obtain ⟨b4, rfl, rfl, rfl⟩ := open_bool Tryd.underlying4 (hval 4 4 v4 rfl rfl) h4
  obtain ⟨x5, rfl, rfl, rfl, hx5⟩ := open_int Tryd.underlying3 (hval 5 3 v5 rfl rfl) h5
  simp [Lit.wf, IntKind.min, IntKind.max, IntKind.signed, IntKind.bits] at hx5
  clear hA0 hA
  refine (undo_walk x0 x1 x3 x5 (by omega) (by omega) (by omega) (by omega) (by omega) (by omega) (by omega) (by omega) b4 A2 n2 c2 ops2 W (tab_of hL) (Nat.le_refl _) hrd2).mono fun e W' ⟨he, hg⟩ => ?_
  subst he
  exact ⟨_, rfl, fin W' hg⟩

theorem reads (os : Os) {H : Type} (enc : TypeId × Value → H) : ∃ places, DataW.whole enc Tryd.prog ((laidWorld os).forCall (fun _ _ => 0) ⟨#[], #[.int .i64 0, .int .i64 0, .slice none 0 0, .int .i64 0, .bool false, .int .i64 0], []⟩).memory Tryd.f3.params.toList Rows.layoutUndoesSpec.vars false #[.int .i64 0, .int .i64 0, .slice none 0 0, .int .i64 0, .bool false, .int .i64 0].toList 8 = some ([.lit (.int .i64 0), .lit (.int .i64 0), .nil, .lit (.int .i64 0), .lit (.bool false), .lit (.int .i64 0)], [], places) :=
  ⟨[], by kernel_rfl⟩

set_option maxRecDepth 100000 in
theorem lifted (os : Os) (started : os.Started) (H : Type) (enc : TypeId × Value → H) (F : Stop.Interp) :
    ReturnsInHanded {} Tryd.checked os 3 .any ((OpenSpec.ofChange Rows.layoutUndoesSpec).preRow enc Tryd.prog Tryd.f3 Rows.layoutUndoesRow.domain false Rows.layoutUndoesRow.laid) (((OpenSpec.ofChange Rows.layoutUndoesSpec).at F).post enc Tryd.prog Tryd.f3 false true false false) := by
  obtain ⟨places, hx⟩ := reads os enc
  refine returnsInHanded_of_row (C := Tryd.checked) (s := OpenSpec.ofChange Rows.layoutUndoesSpec) own started (by kernel_rfl) Tryd.func3
    (witness_row_shaped (enc := enc) (C := Tryd.checked) (laidWorld os) #[.int .i64 0, .int .i64 0, .slice none 0 0, .int .i64 0, .bool false, .int .i64 0] (World.laidAll_os _ _ _) (shaped os _) (by kernel_rfl)
      (OpenSpec.preRow_of_cond 8 hx (by kernel_rfl) (fun k hk => by cases hk) (by kernel_rfl) (laid_met os _))) ?_
  intro W base args ds gs before hval hW _ _ _ hL _ _
  exact contract H enc W base args ds gs before hval hW hL

theorem said : Rows.LayoutUndoesSaid :=
  OpenClaim.holds_of_cond 3 Tryd.f3 rfl rfl rfl rfl rfl rfl rfl ⟨rfl, rfl, rfl, rfl, rfl⟩ rfl rfl rfl rfl rfl (by kernel_rfl) Tryd.func3 (by kernel_rfl)
    (of_decide_eq_true (by kernel_rfl)) (by unfold Func.isWrapper; first | (rw [if_pos (by decide +kernel)]; kernel_rfl) | (rw [if_neg (by decide +kernel)]; exact ⟨rfl, rfl⟩))
    (fun os started H enc _ F => by rw [OpenClaim.pre_eq_preRow]; exact lifted os started H enc F)

/-- No parameter wants a stand-in; the program's own looks. -/
theorem plain (f : FuncId) (fn : Func) (hf : Tryd.pinned.checked.prog.funcNamed Rows.layoutUndoesRow.func = some f) (hfn : Tryd.pinned.checked.prog.funcs[f]? = some fn) :
    false = Tryd.pinned.checked.prog.looks [] ∧ ∀ (j : Nat) t, fn.params[j]? = some t → Tryd.pinned.checked.prog.wantsStandIn t = false := by
  obtain rfl : f = 3 := Option.some.inj ((show Tryd.prog.funcNamed Rows.layoutUndoesRow.func = some 3 by kernel_rfl).symm.trans hf) |>.symm
  obtain rfl : fn = Tryd.f3 := (Option.some.inj (Tryd.func3.symm.trans hfn)).symm
  refine ⟨by kernel_rfl, fun j t ht => ?_⟩
  rw [Tryd.params3] at ht
  have hm : t ∈ [3, 3, 22, 3, 4, 3] := by simpa using Array.mem_of_getElem? ht
  have hall : ([3, 3, 22, 3, 4, 3].all fun u => !Tryd.prog.wantsStandIn u) = true := by kernel_rfl
  exact (show Tryd.prog.wantsStandIn t = false by simpa using List.all_eq_true.1 hall t hm)

theorem card : Rows.LayoutUndoesCardSaid :=
  Claim7.holds_tied_plain_at .later [] _ _ _ _ said (fun _ h => by cases h) (by kernel_rfl) (fun _ h => by cases h) layoutUndoes_row_tie rfl ⟨rfl, rfl⟩ (by kernel_rfl) rfl plain (by kernel_rfl)
end LawLayoutUndoes
end Go.Proofs.YtkanglfpiahecaaDoor.Lyt
