/- The walk of the law on looks. -/
import Derived.Test.YtjklnnklgkihlaaGreatDoorPbi
import Derived.Deep.QuietTactic
import Derived.BigQuiet
import Derived.Deep.DeepCutAuto
import Derived.Deep.CutRange
import Derived.Deep.AppendLies
import Derived.Test.YtjklnnklgkihlaaGreatDoorCards
import Derived.Test.YtjklnnklgkihlaaGreatDoorTie
import Derived.Test.YtjklnnklgkihlaaGreatDoorPay
import Derived.Test.YtjklnnklgkihlaaGreatDoorPaz
import Derived.Test.YtjklnnklgkihlaaGreatDoorPbf
import Derived.ProofKit
import Derived.OpenShut
import Derived.Lay
import Derived.LaidLaws
import Derived.Lib.SmallJoins
import Derived.ChangeMaps5
import Derived.Deep.DeepHandedRow
namespace Go.Proofs.YtjklnnklgkihlaaGreatDoor.Scr
open Go.RowKit Cel Grd

set_option maxRecDepth 100000 in
set_option maxHeartbeats 8000000 in
theorem looks_walk (a1 a2 a3 b1 b2 b3 : Int) (w : World) (ht : Tabled w.heap.size w) :
    Calls Tryz.prog 3 #[.agg #[.int .i64 a1, .int .i64 a2, .int .i64 a3], .agg #[.int .i64 b1, .int .i64 b2, .int .i64 b3]] w fun e w' => e = .returned (.bool true) ∧ Below w.heap.size w w' := by
  obtain ⟨oa, ha⟩ : ∃ o, Sty.rightS a1 a2 a3 = o := ⟨_, rfl⟩
  obtain ⟨ob, hb⟩ : ∃ o, Sty.rightS b1 b2 b3 = o := ⟨_, rfl⟩
  have hra := fun V => Sty.right_any a1 a2 a3 oa ha V
  have hrb := fun V => Sty.right_any b1 b2 b3 ob hb V
  have hA := (Sty.Blk.new w 23 #[.int .i64 a1, .int .i64 a2, .int .i64 a3]).alloc (.cells #[.int .i64 b1, .int .i64 b2, .int .i64 b3] 23)
  have hD := Sty.Blk.new (w.alloc (.cells #[.int .i64 a1, .int .i64 a2, .int .i64 a3] 23)) 23 #[.int .i64 b1, .int .i64 b2, .int .i64 b3]
  rw [Sty.size_alloc] at hD
  have hbel : Below w.heap.size w ((w.alloc (.cells #[.int .i64 a1, .int .i64 a2, .int .i64 a3] 23)).alloc (.cells #[.int .i64 b1, .int .i64 b2, .int .i64 b3] 23)) := ((Below.refl _ _).alloc (Nat.le_refl _) _).alloc (by simp) _
  have hsz0 : ((w.alloc (.cells #[.int .i64 a1, .int .i64 a2, .int .i64 a3] 23)).alloc (.cells #[.int .i64 b1, .int .i64 b2, .int .i64 b3] 23)).heap.size = w.heap.size + 2 := by simp
  have ht0 := (ht.below hbel (Nat.le_refl _)).up (C := w.heap.size + 2) (by omega)
  have HRA := Lib.hid hra
  have HRB := Lib.hid hrb
  have HAA := Lib.hid ha
  have HBB := Lib.hid hb
  clear hra hrb ha hb ht
  go_enter Tryz.func3, Tryz.ntmps3
  go_upto_region 1 with fail
  generalize (w.alloc (.cells #[.int .i64 a1, .int .i64 a2, .int .i64 a3] 23)).alloc (.cells #[.int .i64 b1, .int .i64 b2, .int .i64 b3] 23) = W at *
  have k1 := Lib.hid (shown6 W (by rw [hsz0]; exact ht0))
  have HA := Lib.hid hA
  have HD := Lib.hid hD
  have HT := Lib.hid ht0
  have HZ := Lib.hid hbel
  clear hA hD ht0 hbel
  go_wp2_with fail
  refine k1.out.mono ?_
  rintro _ w1 ⟨rfl, hb1⟩
  have hs1 := hb1.size
  go_wp2_with fail
  refine (made6 9 3 0 (by decide) (by decide) (by decide) (by decide) (by decide) (by decide) w1).mono ?_
  rintro _ w2 ⟨c, r, h0, sb, g, F, pb, db, tb, hc1, hc2, hr1, hr2, hh, rfl, hn2⟩
  have hb2 : Below (w.heap.size + 2) W w2 := (hb1.mono (by omega)).trans (hn2.bel.mono (by omega))
  have hp2 : PenAt (w.heap.size + 2) w2 sb (-1, -1, 0) [] := pen_new hn2 (by omega)
  clear hn2 hc1 hc2 hr1 hr2 hh hb1 k1
  have HB2 := Lib.hid hb2
  have HP2 := Lib.hid hp2
  have hA2 := HA.out.below hb2 (by omega)
  have hD2 := HD.out.below hb2 (by omega)
  have c0 := hA2.cell 0
  have c1 := hA2.cell 1
  have c2 := hA2.cell 2
  have HA2 := Lib.hid hA2
  have HD2 := Lib.hid hD2
  clear hA2 hD2 hb2 hp2
  unfold ptrV
  go_wp2_with fail
  refine (HRA.out w2).mono ?_
  rintro _ w3 ⟨rfl, hb3⟩
  have hB3 : Below (w.heap.size + 2) w2 w3 := hb3.mono (by have := HB2.out.size; omega)
  have hD3 := HD2.out.below hB3 (by omega)
  have d0 := hD3.cell 0
  have d1 := hD3.cell 1
  have d2 := hD3.cell 2
  have hp3 := HP2.out.below hb3
  have HB3 := Lib.hid hB3
  have HP3 := Lib.hid hp3
  clear hB3 hD3 hp3 c0 c1 c2
  go_wp2_with fail
  refine (HRB.out w3).mono ?_
  rintro _ w4 ⟨rfl, hb4⟩
  have hB4 : Below (w.heap.size + 2) W w4 := (HB2.out.trans HB3.out).trans (hb4.mono (by have := HB2.out.size; have := HB3.out.size; omega))
  have hp4 := HP3.out.below hb4
  have hA4 := HA.out.below hB4 (by omega)
  have hD4 := HD.out.below hB4 (by omega)
  have hend : Below w.heap.size w w4 := HZ.out.trans (hB4.mono (by omega))
  have hsz4 := hB4.size
  have ht4 := HT.out.below hB4 (Nat.le_refl _)
  have HB4 := Lib.hid hB4
  have HP4 := Lib.hid hp4
  have HA4 := Lib.hid hA4
  have HD4 := Lib.hid hD4
  have HE := Lib.hid hend
  have HT4 := Lib.hid ht4
  clear hB4 hp4 hA4 hD4 hend ht4 d0 d1 d2 hb3 hb4 HP2 HP3 HA2 HD2 HB2 HB3
  cases oa with
  | false =>
    go_wp2_with fail
    go_ret
    exact ⟨rfl, HE.out⟩
  | true =>
    cases ob with
    | false =>
      go_wp2_with fail
      go_ret
      exact ⟨rfl, HE.out⟩
    | true =>
      obtain ⟨la, hla, hqa, hca⟩ := sgr_text (B := w.heap.size + 2) (-1) (-1) 0 a1 a2 a3 (by decide) HAA.out
      obtain ⟨lb, hlb, hqb, hcb⟩ := sgr_text (B := w.heap.size + 2) a1 a2 a3 b1 b2 b3 HAA.out HBB.out
      have hta := fun V => text_bytes V la
      have htb := fun V => text_bytes V lb
      have hfa := fun (V V1 : World) (A : Option Addr) (cp : Nat) (h : PenAt (w.heap.size + 2) V sb (-1, -1, 0) []) (ht : Tabled (w.heap.size + 2) V) (hB : w.heap.size + 2 ≤ V.heap.size) (hb : Below V.heap.size V V1) (hin : Vt.InB V1 A la) (hA : ∀ g o, A = some ⟨g, o, none⟩ → V.heap.size ≤ g) => pen_feed h ht hB hqa (by omega) hb hin hA cp
      have hfb := fun (V V1 : World) (A : Option Addr) (cp : Nat) (K : List (Nat × Array Value)) (h : PenAt (w.heap.size + 2) V sb (a1, a2, a3) K) (ht : Tabled (w.heap.size + 2) V) (hB : w.heap.size + 2 ≤ V.heap.size) (hb : Below V.heap.size V V1) (hin : Vt.InB V1 A lb) (hA : ∀ g o, A = some ⟨g, o, none⟩ → V.heap.size ≤ g) => pen_feed h ht hB hqb (by omega) hb hin hA cp
      generalize Sty.bs la = Ya at *
      generalize Sty.bs lb = Yb at *
      generalize la.length = na at *
      generalize lb.length = nb at *
      unfold ptrV at hfa hfb
      have HCA := Lib.hid hca
      have HCB := Lib.hid hcb
      have HTA := Lib.hid hta
      have HTB := Lib.hid htb
      have HFA := Lib.hid hfa
      have HFB := Lib.hid hfb
      clear hla hlb hqa hqb hca hcb hta htb hfa hfb HRA HRB HAA HBB
      go_upto_region 7 with fail
      go_cut [9] (fun s9 wx => ∃ A c', s9 = .slice A 0 c' ∧ PenAt (w.heap.size + 2) wx sb (a1, a2, a3) [] ∧ Below (w.heap.size + 2) w4 wx)
      case first =>
        have od : Below w4.heap.size w4 w4.drew := (Below.refl _ _).drew
        have hA5 := HA4.out.below od (by omega)
        have e0 : w4.drew.cell? ⟨w.heap.size, 0, none⟩ = some (.int .i64 a1) := hA5.cell 0
        have e1 : w4.drew.cell? ⟨w.heap.size, 1, none⟩ = some (.int .i64 a2) := hA5.cell 1
        have e2 : w4.drew.cell? ⟨w.heap.size, 2, none⟩ = some (.int .i64 a3) := hA5.cell 2
        have HOD := Lib.hid od
        clear hA5 od
        go_region_law
          (first
            | (go_simp; go_at_call 10; refine (Sty.plain_any _).mono ?_; rintro _ w5 ⟨rfl, hb5⟩; have hb45 := HOD.out.trans (hb5.mono HOD.out.size); have hA6 := HA4.out.below hb45 (by omega); have g0 : w5.cell? ⟨w.heap.size, 0, none⟩ = some (.int .i64 a1) := hA6.cell 0; have g1 : w5.cell? ⟨w.heap.size, 1, none⟩ = some (.int .i64 a2) := hA6.cell 1; have g2 : w5.cell? ⟨w.heap.size, 2, none⟩ = some (.int .i64 a3) := hA6.cell 2; clear hA6)
            | (go_simp; go_at_call 9; refine (HCA.out _ ((HT4.out.below hb45 (by omega)).sty) (by have := hb45.size; omega)).mono ?_; rintro _ w6 ⟨rfl, hb6⟩; obtain ⟨A7, c7, w7, hcv, hb7, hin7, hn7⟩ := HTA.out w6)
            | (go_simp; go_at_call 8; refine (HFA.out w4 _ _ _ HP4.out HT4.out (by omega) ((hb45.trans (hb6.mono hb45.size)).trans (hb7.mono (Nat.le_trans hb45.size hb6.size))) hin7 (fun g o e => Nat.le_trans (Nat.le_trans hb45.size hb6.size) (hn7 g o e))).mono ?_; rintro _ w8 ⟨A8, c8, rfl, hp8, hb8⟩))
        all_goals go_wp2_with fail
        all_goals go_meet
        all_goals exact ⟨_, _, rfl, hp8, hb8⟩
      case rest =>
        obtain ⟨A8, c8, rfl, hp8, hb8⟩ := hcut
        have hb8W := HB4.out.trans hb8
        have hs8 := hb8W.size
        have ks := pen_style hp8
        unfold ptrV at ks
        have HP8 := Lib.hid hp8
        have HB8 := Lib.hid hb8W
        clear hp8 hb8 hb8W HFA HTA HCA HP4 HA4 HD4 HE HT4
        go_wp2_with fail
        refine ks.mono ?_
        rintro _ w9 ⟨rfl, hb9⟩
        have hs9 := hb9.size
        go_upto_region 9 with fail
        have hpN := (HP8.out.below hb9).add #[.int .i64 a1, .int .i64 a2, .int .i64 a3]
        have hbN : Below (w.heap.size + 2) W (w9.alloc (.cells #[.int .i64 a1, .int .i64 a2, .int .i64 a3] 23)) := (HB8.out.trans (hb9.mono (by omega))).alloc (by omega) _
        generalize w9.heap.size = n9 at *
        generalize w9.alloc (.cells #[.int .i64 a1, .int .i64 a2, .int .i64 a3] 23) = W9 at *
        have hsN := hbN.size
        have hA9 := HA.out.below hbN (by omega)
        have hD9 := HD.out.below hbN (by omega)
        have e0 := hA9.cell 0
        have e1 := hA9.cell 1
        have e2 := hA9.cell 2
        have f0 := hD9.cell 0
        have f1 := hD9.cell 1
        have f2 := hD9.cell 2
        have htN := HT.out.below hbN (Nat.le_refl _)
        have HPN := Lib.hid hpN
        have HBN := Lib.hid hbN
        have HTN := Lib.hid htN
        clear hpN hbN hA9 hD9 htN HP8 HB8 hb9 ks hs8
        go_wp2_with fail
        refine (HCB.out W9 HTN.out.sty (by omega)).mono ?_
        rintro _ w10 ⟨rfl, hb10⟩
        obtain ⟨A11, c11, w11, hcv, hb11, hin11, hn11⟩ := HTB.out w10
        have hs10 := hb10.size
        have hf := HFB.out W9 w11 A11 c11 _ HPN.out HTN.out (by omega) (hb10.trans (hb11.mono hs10)) hin11 (fun g o e => Nat.le_trans hs10 (hn11 g o e))
        have HF := Lib.hid hf
        clear hf hb10 hb11 hin11 hn11 HFB HTB HCB e0 e1 e2 f0 f1 f2
        go_wp2_with fail
        refine HF.out.mono ?_
        rintro _ w12 ⟨A12, c12, rfl, hp12, hb12⟩
        have hbW12 := HBN.out.trans hb12
        have hs12 := hbW12.size
        have ks := pen_style hp12
        unfold ptrV at ks
        have HP12 := Lib.hid hp12
        have HB12 := Lib.hid hbW12
        clear hp12 hb12 hbW12 HPN HBN HTN HF hcv
        go_wp2_with fail
        refine ks.mono ?_
        rintro _ w13 ⟨rfl, hb13⟩
        have hs13 := hb13.size
        go_upto_region 11 with fail
        have hpN := (HP12.out.below hb13).add #[.int .i64 b1, .int .i64 b2, .int .i64 b3]
        have hbN : Below (w.heap.size + 2) W (w13.alloc (.cells #[.int .i64 b1, .int .i64 b2, .int .i64 b3] 23)) := (HB12.out.trans (hb13.mono (by omega))).alloc (by omega) _
        generalize w13.heap.size = n13 at *
        generalize w13.alloc (.cells #[.int .i64 b1, .int .i64 b2, .int .i64 b3] 23) = W13 at *
        have hsN := hbN.size
        have kc := Vt.convert_const W13
        have htN := HT.out.below hbN (Nat.le_refl _)
        have hf := pen_feed (w1 := W13.alloc (.cells #[.int .u8 27, .int .u8 91, .int .u8 109] 5 (3, 4))) hpN htN (by omega) (bare_turns _) (by decide) ((Below.refl _ _).alloc (Nat.le_refl _) _) (A := some ⟨W13.heap.size, 0, none⟩) (Vt.inb_const W13 (3, 4) rfl) (fun g o e => by injection e with e; injection e with e; omega) 3
        unfold ptrV at hf
        have HF := Lib.hid hf
        have HBN := Lib.hid hbN
        clear hf hpN hbN htN HP12 HB12 hb13 ks
        go_wp2_with fail
        refine HF.out.mono ?_
        rintro _ w14 ⟨A14, c14, rfl, hp14, hb14⟩
        have hbW := HBN.out.trans hb14
        have hA9 := HA.out.below hbW (by omega)
        have hD9 := HD.out.below hbW (by omega)
        have hX := hp14.blk (k := n9) (cs := #[.int .i64 a1, .int .i64 a2, .int .i64 a3]) (.tail _ (.head _))
        have hY := hp14.blk (k := n13) (cs := #[.int .i64 b1, .int .i64 b2, .int .i64 b3]) (.head _)
        have e0 := hA9.cell 0
        have e1 := hA9.cell 1
        have e2 := hA9.cell 2
        have f0 := hD9.cell 0
        have f1 := hD9.cell 1
        have f2 := hD9.cell 2
        have x0 := hX.cell 0
        have x1 := hX.cell 1
        have x2 := hX.cell 2
        have y0 := hY.cell 0
        have y1 := hY.cell 1
        have y2 := hY.cell 2
        have ks := pen_style hp14
        unfold ptrV at ks
        have hend : Below w.heap.size w w14 := HZ.out.trans (hbW.mono (by omega))
        have HE := Lib.hid hend
        have hs14 := hbW.size
        clear hA9 hD9 hX hY hp14 hbW hend hb14 HBN HF kc HA HD HZ HT
        have q1 := Sty.eq_run a1 a2 a3 a1 a2 a3 true (by simp)
        have q2 := Sty.eq_run b1 b2 b3 b1 b2 b3 true (by simp)
        have q3 := Sty.eq_run (-1) (-1) 0 (-1) (-1) 0 true (by simp)
        go_wp2_with fail
        refine ks.mono ?_
        rintro _ w15 ⟨rfl, hb15⟩
        go_wp2_with fail
        refine (Sty.plain_any w15).mono ?_
        rintro _ w16 ⟨rfl, hb16⟩
        go_wp2_with fail
        go_ret
        exact ⟨rfl, (HE.out.trans (hb15.mono HE.out.size)).trans (hb16.mono (Nat.le_trans HE.out.size hb15.size))⟩
end Go.Proofs.YtjklnnklgkihlaaGreatDoor.Scr
/- The rows' condition gives the walks what they need of the tables; a world that meets it. -/
namespace Go.Proofs.YtjklnnklgkihlaaGreatDoor.Scr
open Go.RowKit Go.ChangeShapes Go.WideShapes Go.ChangeAt Go.Joins Cel Sty Grd

theorem gDb6 : Tryz.prog.globalNamed "math/bits.deBruijn64tab" = some 9 := by kernel_rfl
theorem tDb6 : (Tryz.prog.globals[9]?).map (·.type) = some 214 := by kernel_rfl
theorem tightDb6 : Flat.tight Tryz.prog 4 214 = true := by kernel_rfl
set_option maxRecDepth 100000 in
theorem flatDb6 : (Flat.flat (Rows.laid_math_bits_deBruijn64tab (H := Unit))).toArray = Cel.dbCells := by kernel_rfl
theorem gU106 : Tryz.prog.globalNamed "internal/strconv.uint64pow10" = some 4 := by kernel_rfl
theorem tU106 : (Tryz.prog.globals[4]?).map (·.type) = some 201 := by kernel_rfl
theorem tightU106 : Flat.tight Tryz.prog 4 201 = true := by kernel_rfl
set_option maxRecDepth 100000 in
theorem flatU106 : (Flat.flat (Rows.laid_internal_strconv_uint64pow10 (H := Unit))).toArray = Cel.u10Cells := by kernel_rfl
theorem gRo6 : Tryz.prog.globalNamed "mullion/cell.openings" = some 3 := by kernel_rfl
theorem tRo6 : (Tryz.prog.globals[3]?).map (·.type) = some 190 := by kernel_rfl
theorem tightRo6 : Flat.tight Tryz.prog 4 190 = true := by kernel_rfl
set_option maxRecDepth 100000 in
theorem flatRo6 : (Flat.flat (Rows.laid_mullion_cell_openings (H := Unit))).toArray = Cel.rowCells := by kernel_rfl
theorem gSp6 : Tryz.prog.globalNamed "mullion/cell.spans" = some 0 := by kernel_rfl
theorem tSp6 : (Tryz.prog.globals[0]?).map (·.type) = some 155 := by kernel_rfl
theorem tightSp6 : Flat.tight Tryz.prog 4 155 = true := by kernel_rfl
set_option maxRecDepth 100000 in
theorem flatSp6 : (Flat.flat (Rows.laid_mullion_cell_spans (H := Unit))).toArray = spanCells := by kernel_rfl
theorem gAt6 : Tryz.prog.globalNamed "mullion/screen.attributes" = some 7 := by kernel_rfl
theorem tAt6 : (Tryz.prog.globals[7]?).map (·.type) = some 211 := by kernel_rfl
theorem tightAt6 : Flat.tight Tryz.prog 4 211 = true := by kernel_rfl
set_option maxRecDepth 100000 in
theorem flatAt6 : (Flat.flat (Rows.laid_mullion_screen_attributes (H := Unit))).toArray = attrCells := by kernel_rfl
theorem tabled_of {W : World} (h : laidMetH Tryz.prog Rows.screenLinesRow.laid W) : Tabled W.heap.size W := by
  rw [MakeChecks.laidMetH_plain _ _ _ (by kernel_rfl)] at h
  obtain ⟨ps, ⟨ga, ta, csa, fa, pa, qa, hga, hta, hva, hda, ⟨gb, tb, csb, fb, pb, qb, hgb, htb, hvb, hdb, ⟨gc, tc, csc, fc, pc, qc, hgc, htc, hvc, hdc, ⟨gd, td, csd, fd, pd, qd, hgd, htd, hvd, hdd, ⟨ge, te, cse, fe, pe, qe, hge, hte, hve, hde, ⟨gf, tf, csf, ff, pf, qf, hgf, htf, hvf, hdf, ⟨gg, tg, csg, fg, pg, qg, hgg, htg, hvg, hdg, _⟩, _⟩, _⟩, _⟩, _⟩, _⟩, _⟩, _⟩ := h
  clear hga hta hva hda hgd htd hvd hdd
  obtain rfl := Option.some.inj (gDb6.symm.trans hgb)
  obtain rfl := Option.some.inj (tDb6.symm.trans htb)
  have hb := Flat.cells_of_read gDb6 hvb 4 tightDb6 hdb
  rw [flatDb6] at hb
  obtain rfl := Option.some.inj (gU106.symm.trans hgc)
  obtain rfl := Option.some.inj (tU106.symm.trans htc)
  have hc := Flat.cells_of_read gU106 hvc 4 tightU106 hdc
  rw [flatU106] at hc
  obtain rfl := Option.some.inj (gRo6.symm.trans hge)
  obtain rfl := Option.some.inj (tRo6.symm.trans hte)
  have he := Flat.cells_of_read gRo6 hve 4 tightRo6 hde
  rw [flatRo6] at he
  obtain rfl := Option.some.inj (gSp6.symm.trans hgf)
  obtain rfl := Option.some.inj (tSp6.symm.trans htf)
  have hf := Flat.cells_of_read gSp6 hvf 4 tightSp6 hdf
  rw [flatSp6] at hf
  obtain rfl := Option.some.inj (gAt6.symm.trans hgg)
  obtain rfl := Option.some.inj (tAt6.symm.trans htg)
  have hg := Flat.cells_of_read gAt6 hvg 4 tightAt6 hdg
  rw [flatAt6] at hg
  have lb : _ < W.heap.size := (Array.getElem?_eq_some_iff.1 hb.choose_spec.choose_spec).1
  have lc : _ < W.heap.size := (Array.getElem?_eq_some_iff.1 hc.choose_spec.choose_spec).1
  have le : _ < W.heap.size := (Array.getElem?_eq_some_iff.1 he.choose_spec.choose_spec).1
  have lf : _ < W.heap.size := (Array.getElem?_eq_some_iff.1 hf.choose_spec.choose_spec).1
  have lg : _ < W.heap.size := (Array.getElem?_eq_some_iff.1 hg.choose_spec.choose_spec).1
  exact ⟨⟨hf, lf⟩, ⟨hg, lg⟩, ⟨he, hc, hb⟩, by unfold Cel.low; omega⟩

/-- A world for the witness: the settled one, every listed variable as the row lists it. -/
noncomputable def laidWorld (os : Os) : World := World.laidAll Tryz.prog os Rows.screenLinesRow.laid
theorem own : ownKnob Tryz.prog.godebug = none := by kernel_rfl
theorem laid_met (os : Os) (args : Array Value) : laidMet Tryz.prog Rows.screenLinesRow.laid ((laidWorld os).forCall (fun _ _ => 0) ⟨#[], args, []⟩).memory := laidMet_laidAll _ (by kernel_rfl) (by kernel_rfl)
theorem shaped (os : Os) (args : Array Value) : ((laidWorld os).forCall (fun _ _ => 0) ⟨#[], args, []⟩).Shaped Tryz.prog := World.shaped_of_ZipB (by kernel_rfl) (by kernel_rfl)
theorem witness_row_shaped {H : Type} {enc : TypeId × Value → H} {C : Checked} {os : Os} {f : FuncId} {fn : Func} {s : OpenSpec} {conds : List PathCond} {apart : Bool} {laid : List (String × DataW Unit)} (w0 : World) (args : Array Value) (hos : w0.os = os)
    (hsh : (w0.forCall (fun _ _ => 0) ⟨#[], args, []⟩).Shaped C.prog)
    (hok : Input.okWideB C.prog (w0.forCall (fun _ _ => 0) ⟨#[], args, []⟩) f ⟨#[], args, []⟩ = true)
    (hrow : s.preRow enc C.prog fn conds apart laid (w0.forCall (fun _ _ => 0) ⟨#[], args, []⟩).memory args) :
    ∃ (w : World) (tape : Tape) (i : Input), w.os = os ∧ (w.forCall tape i).Shaped C.prog ∧ i.vars = [] ∧ Input.okWide C.prog (w.forCall tape i) .any w.heap.size f i ∧
      s.preRow enc C.prog fn conds apart laid (w.forCall tape i).memory i.args ∧ ({} : Assume).holds C.prog (lone (Frame.enter C.prog f i.args .normal) [] (w.forCall tape i)) :=
  ⟨w0, fun _ _ => 0, ⟨#[], args, []⟩, hos, hsh, (Input.okWide_of_okWideB (base := 0) hok).1, (Input.okWide_of_okWideB hok).2, hrow, by simp [Assume.holds]⟩
end Go.Proofs.YtjklnnklgkihlaaGreatDoor.Scr
