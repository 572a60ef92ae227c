/- format: texts that belong together, merged (Ffr Fpi Fex Fnm Fch Fma Fcm Frk Frp Frt Fmd Fme Fmo Fup Fap Fhs Fmy Fbk Fxp Frn Fev Feg Fis Frw Fsh Flg Fpb Fpw). -/
import Derived.Test.YtbiinghmopgjnaaGreatDoorFfi
import Derived.Test.YtbiinghmopgjnaaGreatDoorFad
import Derived.Test.YtbiinghmopgjnaaGreatDoorFln
import Derived.Deep.LoopGhost
import Derived.Test.YtbiinghmopgjnaaGreatDoorFco
import Derived.Test.YtbiinghmopgjnaaGreatDoorRec
import Derived.Test.YtbiinghmopgjnaaGreatDoorShelf
import Derived.Test.YtbiinghmopgjnaaGreatDoorFlo
import Derived.Deep.RegionWith
import Derived.Test.YtbiinghmopgjnaaGreatDoorFst
import Derived.Test.YtbiinghmopgjnaaGreatDoorFsp
import Derived.Test.YtbiinghmopgjnaaGreatDoorFmm
import Derived.Test.YtbiinghmopgjnaaGreatDoorCut
import Derived.Deep.MidRow
import Derived.Test.YtbiinghmopgjnaaGreatDoorFle
import Derived.Defers
import Derived.Recover
import Derived.Deep.RegionHeld3
import Derived.Test.YtbiinghmopgjnaaGreatDoorFsq
import Derived.Lib.IndexLaws
namespace Go.Proofs.YtbiinghmopgjnaaGreatDoor.Fmt
open Go.RowKit

set_option maxRecDepth 100000 in
theorem value_any (w : World) (p : Value) (ch : List Lv) (s : Tx) (h : ChAt w p ch) (v : Option Tx) (hv : valueF (some ch) s = some v) :
    Calls Tryz.prog 22 #[p, .string (bs s)] w fun e w' => e = .returned (.string (bs (v.getD []))) ∧ Below w.heap.size w w' := by
  have HF := Lib.hid (find_any w p ch s h v hv)
  clear h hv
  go_enter Tryz.func22, Tryz.ntmps22
  go_wp2_with fail
  refine HF.out.mono ?_
  rintro _ w9 ⟨rfl, hb⟩
  have HB := Lib.hid hb
  clear hb
  go_wp2_with fail
  go_ret
  exact ⟨rfl, HB.out⟩
/-- The same, of what is seen. -/
theorem value_cx {B w mb st d v} {en : Env} (hC : Cx B w mb st d v en) {s : Tx} {x : Option Tx} (h : valueF en s = some x) :
    Calls Tryz.prog 22 #[v, .string (bs s)] w fun e w' => e = .returned (.string (bs (x.getD []))) ∧ Lf w mb st d w' := by
  cases en with
  | none => cases h
  | some ch => exact (value_any w v ch s hC.seen x h).mono fun e w' he => ⟨he.1, hC.lf he.2⟩
theorem bs_one_ext (c : UInt8) (r : Tx) : (bs (c :: r)).extract 0 1 = bs [c] := by rw [cut_ext]; rfl
theorem bs_snd_ext (c e : UInt8) (r : Tx) : (bs (c :: e :: r)).extract 1 2 = bs [e] := by rw [cut_ext]; rfl
set_option maxRecDepth 100000 in
set_option maxHeartbeats 4000000 in
theorem front_any {X : Ex} (hX : Okx 21 X) {en : Env} {s : Tx} {d st : Nat} {t : Tx} {n st' : Nat} (h : frontP X en s d st = some (t, n, st')) (hs : s ≠ []) (hl : s.length ≤ 8192) {B mb : Nat} {w : World} {v : Value} (hC : Cx B w mb st d v en) :
    Calls Tryz.prog 15 #[mkV mb, .string (bs s), v] w fun e w' => e = .returned (.tuple #[.string (bs t), .int .i64 (n : Int)]) ∧ Lf w mb st' d w' := by
  have hidx := Tryz.strings_IndexByte (bs s) 35 w
  rw [bs_list] at hidx
  obtain ⟨I, hI⟩ : ∃ I, I = Lib.indexByte s 35 := ⟨_, rfl⟩
  have hidx2 : Calls Tryz.prog 17 #[.string (bs s), .int .u8 35] w fun e w' => e = .returned (.int .i64 I) ∧ w' = w := by rw [hI]; exact hidx
  have hz : (bs s).size = s.length := bs_size s
  unfold frontP at h
  rw [← hI] at h
  clear hidx
  by_cases h1 : I < 0
  · rw [if_pos h1] at h
    simp only [Option.some.injEq, Prod.mk.injEq] at h
    obtain ⟨rfl, rfl, rfl⟩ := h
    have hi0 : ¬ I = 0 := by omega
    have HI := Lib.hid hidx2
    have HC := Lib.hid (Lf.refl hC)
    have HZ := Lib.hid hz
    have hi8 : ((bs s).size : Int) ≤ 8192 := by omega
    clear hidx2 hC hX hI hz hl hs
    generalize bs s = S at *
    go_enter Tryz.func15, Tryz.ntmps15
    go_wp2_with fail
    refine HI.out.mono ?_
    rintro _ w9 ⟨rfl, rfl⟩
    go_wp2_with fail
    go_ret2
    exact ⟨by rw [← HZ.out]; rfl, HC.out⟩
  rw [if_neg h1] at h
  by_cases h2 : 0 < I
  · rw [if_pos h2] at h
    simp only [Option.some.injEq, Prod.mk.injEq] at h
    obtain ⟨rfl, rfl, rfl⟩ := h
    obtain ⟨i, hi⟩ : ∃ i : Nat, I = (i : Int) := ⟨_, (Int.toNat_of_nonneg (by omega)).symm⟩
    have hlt : i < s.length := (List.getElem?_eq_some_iff.1 (Lib.indexByte_some (hI.symm.trans hi)).1).1
    subst hi
    have hi0 : ¬ (i : Int) = 0 := by omega
    have hi1 : (i : Int) ≤ ((bs s).size : Int) := by omega
    have hi8 : ((bs s).size : Int) ≤ 8192 := by omega
    have HI := Lib.hid hidx2
    have HC := Lib.hid (Lf.refl hC)
    have HS := Lib.hid (bs_take s i)
    rw [Int.toNat_natCast]
    clear hidx2 hC hX hI hz hl hs hlt
    generalize bs s = S at *
    go_enter Tryz.func15, Tryz.ntmps15
    go_wp2_with fail
    refine HI.out.mono ?_
    rintro _ w9 ⟨rfl, rfl⟩
    go_wp2_with fail
    go_ret2
    exact ⟨by rw [← HS.out]; rfl, HC.out⟩
  rw [if_neg h2] at h
  obtain rfl : I = 0 := by omega
  have hg := (Lib.indexByte_some (l := s) (o := 0) hI.symm).1
  cases s with
  | nil => exact absurd rfl hs
  | cons c r =>
    obtain rfl : c = 35 := by simpa using hg
    clear hg hI h1 h2 hs
    cases r with
    | nil =>
      simp only [List.drop_succ_cons, List.drop_zero, Option.some.injEq, Prod.mk.injEq] at h
      obtain ⟨rfl, rfl, rfl⟩ := h
      have HI := Lib.hid hidx2
      have HC := Lib.hid (Lf.refl hC)
      have hz1 : ((bs [35]).size : Int) = 1 := rfl
      clear hidx2 hC hX hz hl
      generalize bs [35] = S at *
      go_enter Tryz.func15, Tryz.ntmps15
      go_wp2_with fail
      refine HI.out.mono ?_
      rintro _ w9 ⟨rfl, rfl⟩
      go_wp2_with fail
      go_ret2
      exact ⟨rfl, HC.out⟩
    | cons e r =>
      simp only [List.drop_succ_cons, List.drop_zero] at h
      simp only [List.length_cons] at hz hl
      have HI := Lib.hid hidx2
      have hz1 : ¬ ((bs (35 :: e :: r)).size : Int) = 1 := by omega
      have hz2 : (2 : Int) ≤ ((bs (35 :: e :: r)).size : Int) := by omega
      have hz8 : ((bs (35 :: e :: r)).size : Int) ≤ 8192 := by omega
      have hlt1 : 1 < (bs (35 :: e :: r)).size := by omega
      have hb1 : (((bs (35 :: e :: r))[1].toNat : Nat) : Int) = (e.toNat : Int) := rfl
      have HX := Lib.hid (bs_snd_ext 35 e r)
      have HX1 := Lib.hid (bs_one_ext 35 (e :: r))
      have hx2 : (bs (35 :: e :: r)).extract 2 (bs (35 :: e :: r)).size = bs r := by rw [bs_drop]; rfl
      have hsh := fun V => shorthand_any e V
      have hmk := fun V => marked_any e V
      have HSH := Lib.hid hsh
      clear hidx2 hsh
      by_cases hm : marked e = true
      · rw [if_pos hm] at h
        simp only [Option.some.injEq, Prod.mk.injEq] at h
        obtain ⟨rfl, rfl, rfl⟩ := h
        rw [hm] at hmk
        have HM := Lib.hid hmk
        have HC := Lib.hid (Lf.refl hC)
        clear hmk hC hX hz hl hm hx2
        generalize bs (35 :: e :: r) = S at *
        go_enter Tryz.func15, Tryz.ntmps15
        go_wp2_with fail
        refine HI.out.mono ?_
        rintro _ w9 ⟨rfl, rfl⟩
        go_wp2_with fail
        refine (HSH.out _).mono ?_
        rintro _ w9 ⟨rfl, rfl⟩
        go_wp2_with fail
        refine (HM.out _).mono ?_
        rintro _ w9 ⟨rfl, rfl⟩
        go_wp2_with fail
        go_ret2
        exact ⟨by rw [← HX.out]; rfl, HC.out⟩
      rw [if_neg hm] at h
      have hm2 : marked e = false := by simpa using hm
      rw [hm2] at hmk
      have HM := Lib.hid hmk
      clear hmk hm hm2
      by_cases h123 : e = 123
      · rw [if_pos h123] at h
        cases ho : outR 125 r 0 0 with
        | none => rw [ho] at h; cases h
        | some k =>
          rw [ho] at h
          simp only at h
          cases hx : X en (r.take k) d st with
          | none => rw [hx] at h; cases h
          | some p =>
            obtain ⟨t1, s1⟩ := p
            rw [hx] at h
            simp only [Option.some.injEq, Prod.mk.injEq] at h
            obtain ⟨rfl, rfl, rfl⟩ := h
            have hk := (outR_le 125 _ r 0 0 k (Nat.le_refl _) ho).2
            have hcall := hX.2 en (r.take k) d st t1 s1 hx (by simp; omega) B w mb v hC
            have hou := outside_any r 125 (by omega) w
            rw [ho] at hou
            have HO : Hid (Calls Tryz.prog 20 #[.string (bs r), .int .u8 125] w fun e w' => e = .returned (.int .i64 (k : Int)) ∧ w = w') := hou
            have hrz : (bs r).size = r.length := bs_size r
            have e3 : (bs r).extract 0 k = bs (r.take k) := bs_take r k
            have k1 : (k : Int) ≤ ((bs r).size : Int) := by omega
            have k2 : ¬ (k : Int) < 0 := by omega
            have k3 : (k : Int) ≤ 8192 := by omega
            have HCALL := Lib.hid hcall
            subst h123
            have hb2 : (((bs (35 :: 123 :: r))[1].toNat : Nat) : Int) = 123 := rfl
            clear hou hcall hC hX hz hl ho hx hk hrz hb1
            generalize bs (35 :: 123 :: r) = S at *
            generalize bs r = R at *
            generalize bs (r.take k) = R1 at *
            go_enter Tryz.func15, Tryz.ntmps15
            go_wp2_with fail
            refine HI.out.mono ?_
            rintro _ w9 ⟨rfl, rfl⟩
            go_wp2_with fail
            refine (HSH.out _).mono ?_
            rintro _ w9 ⟨rfl, rfl⟩
            go_wp2_with fail
            refine (HM.out _).mono ?_
            rintro _ w9 ⟨rfl, rfl⟩
            go_wp2_with fail
            refine HO.out.mono ?_
            rintro _ w9 ⟨rfl, rfl⟩
            go_wp2_with fail
            refine HCALL.out.mono ?_
            rintro _ w9 ⟨rfl, hlf⟩
            have HLF := Lib.hid hlf
            clear hlf
            go_wp2_with fail
            go_ret2
            exact ⟨by go_num, HLF.out⟩
      rw [if_neg h123] at h
      have k123 : ¬ (e.toNat : Int) = 123 := fun h => h123 (u8_int h)
      clear h123
      by_cases hsp : shortP e = []
      · rw [if_pos hsp] at h
        simp only [Option.some.injEq, Prod.mk.injEq] at h
        obtain ⟨rfl, rfl, rfl⟩ := h
        have hsh0 := HSH.out
        rw [hsp] at hsh0
        have HSH0 : Hid (∀ V, Calls Tryz.prog 18 #[.int .u8 (e.toNat : Int)] V fun e w' => e = .returned (.string { data := #[] }) ∧ V = w') := hsh0
        clear HSH hsh0
        have HC := Lib.hid (Lf.refl hC)
        clear hC hX hz hl hx2 hsp
        generalize bs (35 :: e :: r) = S at *
        go_enter Tryz.func15, Tryz.ntmps15
        go_wp2_with fail
        refine HI.out.mono ?_
        rintro _ w9 ⟨rfl, rfl⟩
        go_wp2_with fail
        refine (HSH0.out _).mono ?_
        rintro _ w9 ⟨rfl, rfl⟩
        go_wp2_with fail
        refine (HM.out _).mono ?_
        rintro _ w9 ⟨rfl, rfl⟩
        go_wp2_with fail
        go_ret2
        exact ⟨by rw [← HX1.out]; rfl, HC.out⟩
      · rw [if_neg hsp] at h
        cases hv : valueF en (shortP e) with
        | none => rw [hv] at h; cases h
        | some x =>
          rw [hv] at h
          simp only [Option.some.injEq, Prod.mk.injEq] at h
          obtain ⟨rfl, rfl, rfl⟩ := h
          have HV := Lib.hid (value_cx hC hv)
          have hnil : ((bs (shortP e)).toList == ([] : List UInt8)) = false := by rw [bs_tl]; exact beq_eq_false_iff_ne.2 hsp
          clear hC hX hz hl hx2 hsp hv
          generalize bs (35 :: e :: r) = S at *
          generalize bs (shortP e) = M at *
          go_enter Tryz.func15, Tryz.ntmps15
          go_wp2_with fail
          refine HI.out.mono ?_
          rintro _ w9 ⟨rfl, rfl⟩
          go_wp2_with fail
          refine (HSH.out _).mono ?_
          rintro _ w9 ⟨rfl, rfl⟩
          go_wp2_with fail
          refine (HM.out _).mono ?_
          rintro _ w9 ⟨rfl, rfl⟩
          go_wp2_with fail
          refine HV.out.mono ?_
          rintro _ w9 ⟨rfl, hlf⟩
          have HLF := Lib.hid hlf
          clear hlf
          go_wp2_with fail
          go_ret2
          exact ⟨rfl, HLF.out⟩
end Go.Proofs.YtbiinghmopgjnaaGreatDoor.Fmt
namespace Go.Proofs.YtbiinghmopgjnaaGreatDoor.Fmt
open Go.RowKit

set_option maxRecDepth 100000 in
set_option maxHeartbeats 4000000 in
theorem pieces_any (l : Tx) (k : Nat) (m : Int) (hm : m = (k : Int) + 1) (hk : k ≤ 2) (hl : l.length ≤ 8192) (w : World) :
    Calls Tryz.prog 37 #[.string (bs l), .int .i64 m] w fun e w' => ∃ v, e = .returned v ∧ w'.ownsRow w.heap.size 9 1 v (piecesP k l).length (strL (piecesP k l)) ∧ Below w.heap.size w w' := by
  obtain ⟨P, hP⟩ : ∃ P, P = piecesP k l := ⟨_, rfl⟩
  obtain ⟨S0, hS0⟩ : ∃ S0, S0 = bs l := ⟨_, rfl⟩
  rw [← hP, ← hS0]
  have HP := Lib.hid hP
  have HS0 := Lib.hid hS0
  clear hP hS0
  have hm1 : IntKind.i64.wrap (m - 1) = (k : Int) := by rw [hm]; exact (IntWalk.i64_in _ ⟨by omega, by omega⟩).trans (by omega)
  have hm2 : m - 1 = (k : Int) := by omega
  clear hm
  go_enter Tryz.func37, Tryz.ntmps37
  go_wp2_with fail
  go_loopg [0, 5] k (fun j sv lv wr => ∃ (rest : Tx) (done : List Tx), sv = .string (bs rest) ∧ done.length + j = k ∧ rest.length ≤ 8192 ∧ P = done ++ piecesP j rest ∧ wr.ownsRow w.heap.size 9 1 lv done.length (strL done) ∧ Below w.heap.size w wr)
  case atStart => exact ⟨l, [], by rw [HS0.out], by simp, hl, by rw [HP.out]; rfl, World.ownsRow_nil _ _ _ _, Below.refl _ _⟩
  case round =>
    obtain ⟨rest, done, rfl, hj, hr, hPP, hown, hb⟩ := hrel
    clear HP HS0
    obtain ⟨S, hS⟩ : ∃ S, S = bs rest := ⟨_, rfl⟩
    rw [← hS]
    have hsz : S.size = rest.length := by rw [hS, bs_size]
    obtain ⟨nd, hnd⟩ : ∃ nd, done.length = nd := ⟨_, rfl⟩
    obtain ⟨A, c, rfl⟩ := own_slice hown
    rw [hnd] at hown hj ⊢
    have h100 : done.length ≤ 100000 := by omega
    have HO := Lib.hid hown
    have HB := Lib.hid hb
    have HND := Lib.hid hnd
    have HPP := Lib.hid hPP
    have HS := Lib.hid hS
    have H100 := Lib.hid h100
    have hout := outside_any rest 44 hr
    rw [← hS] at hout
    have HOU := Lib.hid hout
    have hpl : done.length + (piecesP gk rest).length ≤ 100000 := by have := (piecesP_len gk rest).2; omega
    have HPL := Lib.hid hpl
    have hrs : rest.length ≤ 8192 := hr
    have HRS := Lib.hid hrs
    have HSZ := Lib.hid hsz
    clear hown hb hnd hPP hS h100 hout hpl hr hrs hsz
    have HO1 : Hid ((wr.alloc (.cells #[.string S] 9)).ownsRow w.heap.size 9 1 (.slice A nd c) done.length (strL done)) := by
      show World.ownsRow _ _ _ _ _ _ _
      rw [HND.out]; exact HO.out.alloc _
    have HN1 : Hid (BL (wr.alloc (.cells #[.string S] 9)) wr.heap.size 9 [.string (bs rest)]) := by
      show BL _ _ _ _
      rw [← HS.out]; exact BL.new _ _ _
    have HB1 := Lib.hid (HB.out.alloc HB.out.size (.cells #[.string S] 9))
    cases gk with
    | zero =>
      have k1 : ¬ (nd : Int) < (k : Int) := by omega
      have HE := Lib.hid (show P = done ++ [rest] from HPP.out)
      go_wp2_with (at_builtin; refine wpList_app_str rfl _ _ rfl w.heap.size (.slice A nd c) done rest rfl HO1.out wr.heap.size 1 rfl HN1.out HB1.out.size H100.out ?_; intro v5 w5 ho5 hg5; have HO5 := Lib.hid ho5; have HB5 := Lib.hid (HB1.out.grown hg5 HB1.out.size (fun i hi => (HO1.out.lt i hi).1)); clear ho5 hg5)
      go_ret
      exact ⟨_, rfl, by rw [HE.out]; exact HO5.out, HB5.out⟩
    | succ gj =>
      have k1 : (nd : Int) < (k : Int) := by omega
      have hq := HOU.out wr
      have hpp := HPP.out
      cases ho : outR 44 rest 0 0 with
      | none =>
        rw [ho] at hq
        have HQ : Hid (Calls Tryz.prog 20 #[.string S, .int .u8 44] wr fun e w' => e = .returned (.int .i64 (-1)) ∧ wr = w') := hq
        have e0 : piecesP (gj + 1) rest = [rest] := by unfold piecesP; rw [ho]
        rw [e0] at hpp
        have HE := Lib.hid hpp
        clear hq hpp e0 ho
        go_wp2_with fail
        refine HQ.out.mono ?_
        rintro _ w9 ⟨rfl, rfl⟩
        go_wp2_with (at_builtin; refine wpList_app_str rfl _ _ rfl w.heap.size (.slice A nd c) done rest rfl HO1.out wr.heap.size 1 rfl HN1.out HB1.out.size H100.out ?_; intro v5 w5 ho5 hg5; have HO5 := Lib.hid ho5; have HB5 := Lib.hid (HB1.out.grown hg5 HB1.out.size (fun i hi => (HO1.out.lt i hi).1)); clear ho5 hg5)
        go_ret
        exact ⟨_, rfl, by rw [HE.out]; exact HO5.out, HB5.out⟩
      | some a =>
        rw [ho] at hq
        have HQ : Hid (Calls Tryz.prog 20 #[.string S, .int .u8 44] wr fun e w' => e = .returned (.int .i64 (a : Int)) ∧ wr = w') := hq
        have e0 : piecesP (gj + 1) rest = rest.take a :: piecesP gj (rest.drop (a + 1)) := by rw [piecesP, ho]
        rw [e0] at hpp
        have ha : a < rest.length := by have := (outR_le 44 _ rest 0 0 a (Nat.le_refl _) ho).2; omega
        obtain ⟨T1, hT1⟩ : ∃ T1, T1 = bs (rest.take a) := ⟨_, rfl⟩
        obtain ⟨T2, hT2⟩ : ∃ T2, T2 = bs (rest.drop (a + 1)) := ⟨_, rfl⟩
        have e1 : S.extract 0 a = T1 := by rw [hT1, HS.out, bs_take]
        have e2 : S.extract (a + 1) S.size = T2 := by rw [hT2, HS.out, bs_drop]
        have a1 : (a : Int) ≤ (S.size : Int) := by have := HSZ.out; omega
        have a2 : (a : Int) + 1 ≤ (S.size : Int) := by have := HSZ.out; omega
        have a3 : (S.size : Int) ≤ 8192 := by have := HSZ.out; have := HRS.out; omega
        have a4 : ¬ (a : Int) < 0 := by omega
        have HE := Lib.hid (show P = (done ++ [rest.take a]) ++ piecesP gj (rest.drop (a + 1)) by rw [hpp]; simp)
        have HL3 := Lib.hid (show (rest.drop (a + 1)).length ≤ 8192 by rw [List.length_drop]; have := HRS.out; omega)
        have HT2 := Lib.hid hT2
        have HO3 : Hid ((wr.alloc (.cells #[.string T1] 9)).ownsRow w.heap.size 9 1 (.slice A nd c) done.length (strL done)) := by
          show World.ownsRow _ _ _ _ _ _ _
          rw [HND.out]; exact HO.out.alloc _
        have HN3 : Hid (BL (wr.alloc (.cells #[.string T1] 9)) wr.heap.size 9 [.string (bs (rest.take a))]) := by
          show BL _ _ _ _
          rw [← hT1]; exact BL.new _ _ _
        have HB3 := Lib.hid (HB.out.alloc HB.out.size (.cells #[.string T1] 9))
        clear hq hpp e0 ho hT1 hT2 ha
        go_wp2_with fail
        refine HQ.out.mono ?_
        rintro _ w9 ⟨rfl, rfl⟩
        go_wp2_with (at_builtin; refine wpList_app_str rfl _ _ rfl w.heap.size (.slice A nd c) done (rest.take a) rfl HO3.out wr.heap.size 1 rfl HN3.out HB3.out.size H100.out ?_; intro v5 w5 ho5 hg5; have HO5 := Lib.hid ho5; have HB5 := Lib.hid (HB3.out.grown hg5 HB3.out.size (fun i hi => (HO3.out.lt i hi).1)); clear ho5 hg5)
        go_roundg gj
        case measure => omega
        case rel => exact ⟨rest.drop (a + 1), done ++ [rest.take a], by rw [HT2.out], by rw [List.length_append, HND.out]; simp; omega, HL3.out, HE.out, HO5.out, HB5.out⟩
end Go.Proofs.YtbiinghmopgjnaaGreatDoor.Fmt
namespace Go.Proofs.YtbiinghmopgjnaaGreatDoor.Fmt
open Go.RowKit

theorem text_nil (w : World) : (convert 27 9 (.slice none 0 0)).run Tryz.prog w = .ok (.string (bs [])) w := by kernel_rfl
theorem own_text {w : World} {base : Nat} {v : Value} {l : Tx} (h : w.ownsRow base 5 1 v l.length (bytV l)) : (convert 27 9 v).run Tryz.prog w = .ok (.string (bs l)) w := by
  obtain ⟨h1, h2⟩ := h
  rcases h2 with ⟨rfl, h0⟩ | ⟨g, cap, cur, rfl, k1, k2, k3, k4, k5, k6⟩
  · have : l = [] := List.eq_nil_of_length_eq_zero (by omega)
    subst this
    exact text_nil w
  · refine run_convert_bytes_back (P := Tryz.prog) w 27 9 5 ⟨g, 0, none⟩ cap l Tryz.underlying27 Tryz.underlying5 Tryz.underlying9 fun j hj => ?_
    have e2 : (⟨g, 0, none⟩ : Addr).add j = ⟨g, j, none⟩ := by unfold Addr.add; split <;> simp_all
    rw [e2, cell_of_row w g j cur _ _ k2, ← Array.getElem?_toList]
    have h8 : (cur.toList.take (l.length * 1))[j]? = (bytV l)[j]? := by rw [k6]
    rw [List.getElem?_take, if_pos (by omega)] at h8
    rw [h8]
    simp [bytV, List.getElem?_eq_getElem hj]
theorem expL_nil (X : Ex) (en : Env) (d k st : Nat) (acc : Tx) : expL X en d k [] st acc = some (acc, st) := by cases k <;> rfl
/-- What a text that grows leaves of what was there. -/
theorem grows_lf {B mb st d : Nat} {w w2 w3 : World} {v : Value} {en : Env} {st0 ob : Nat} {F : List Nat} (hC : Cx B w mb st0 d v en) (h2 : Lf w mb st d w2) (hob : w.heap.size ≤ ob) (hF : ∀ x ∈ F, w.heap.size ≤ x) (h3 : Only (ob :: F) w2 w3) : Lf w mb st d w3 := by
  have hm : mb < w.heap.size := hC.box.lt
  refine ⟨h2.only.trans2 h3 fun x hx => .inr ?_, h2.box.only h3 ?_⟩
  · rcases List.mem_cons.1 hx with rfl | hx
    · exact hob
    · exact hF x hx
  · intro hx
    rcases List.mem_cons.1 hx with rfl | hx
    · omega
    · have := hF mb hx; omega
set_option maxRecDepth 100000 in
set_option maxHeartbeats 4000000 in
theorem expand_any {X : Ex} (hX : Okx 21 X) : Okx 13 (expandP X) := by
  refine ⟨expandP_le X, ?_⟩
  intro en s d st t st' h hl B w mb v hC
  have h' : expL X en d s.length s st [] = some (t, st') := h
  clear h
  have hZ := BL.new w 51 [.slice none 0 0]
  have hC1 : Lf w mb st d (w.alloc (.cells #[.slice none 0 0] 51)) := hC.lf ((Below.refl _ w).alloc (Nat.le_refl _) _)
  have HZ := Lib.hid hZ
  have HC1 := Lib.hid hC1
  have HC := Lib.hid hC
  have HE := Lib.hid h'
  obtain ⟨S0, hS0⟩ : ∃ S0, S0 = bs s := ⟨_, rfl⟩
  rw [← hS0]
  have HS0 := Lib.hid hS0
  clear hZ hC1 hC h' hS0
  unfold mkV
  go_enter Tryz.func13, Tryz.ntmps13
  go_wp2_with fail
  go_loopg [1] s.length (fun k sv wr => ∃ (rest : Tx) (st1 : Nat) (acc : Tx) (vv : Value), sv = .string (bs rest) ∧ rest.length ≤ 8192 ∧ acc.length ≤ 8192 ∧ expL X en d k rest st1 acc = some (t, st') ∧ Lf w mb st1 d wr ∧ BL wr w.heap.size 51 [vv] ∧ wr.ownsRow w.heap.size 5 1 vv acc.length (bytV acc))
  case atStart => exact ⟨s, st, [], .slice none 0 0, by rw [HS0.out], hl, by simp, HE.out, HC1.out, HZ.out, World.ownsRow_nil _ _ _ _⟩
  case round =>
    obtain ⟨rest, st1, acc, vv, rfl, hr, ha, he, hlf, hob, hown⟩ := hrel
    clear HE HC1 HZ HS0
    cases rest with
    | nil =>
      rw [expL_nil] at he
      simp only [Option.some.injEq, Prod.mk.injEq] at he
      obtain ⟨rfl, rfl⟩ := he
      have c0 : wr.cell? ⟨w.heap.size, 0, none⟩ = some vv := hob.cell 0
      have hcv := own_text hown
      have HL := Lib.hid hlf
      have ht : ((bs ([] : Tx)).toList == ([] : List UInt8)) = true := by rw [bs_tl]; rfl
      obtain ⟨T, hT⟩ : ∃ T, T = bs acc := ⟨_, rfl⟩
      rw [← hT] at hcv
      have HT := Lib.hid hT
      obtain ⟨A, c, rfl⟩ := own_slice hown
      obtain ⟨na, hna⟩ : ∃ na, acc.length = na := ⟨_, rfl⟩
      rw [hna] at c0 hcv
      clear hob hown hlf hT hna ha
      go_wp2_with fail
      go_ret
      exact ⟨by rw [← HT.out]; rfl, HL.out⟩
    | cons c r =>
      cases gk with
      | zero => simp [expL] at he
      | succ gj =>
        unfold expL at he
        cases hf : frontP X en (c :: r) d st1 with
        | none => rw [hf] at he; cases he
        | some p =>
          obtain ⟨t1, n, st2⟩ := p
          rw [hf] at he
          simp only at he
          split at he
          · cases he
          · rename_i hle
            obtain ⟨htl, hn1, hn2⟩ := frontP_le hX.1 hf (by simp) hr
            have hcall := front_any hX hf (by simp) hr (HC.out.next hlf)
            have hne : ((bs (c :: r)).toList == ([] : List UInt8)) = false := by rw [bs_tl]; rfl
            have hsz : (bs (c :: r)).size = (c :: r).length := bs_size _
            have e2 : (bs (c :: r)).extract n (bs (c :: r)).size = bs ((c :: r).drop n) := bs_drop _ _
            have n1 : (n : Int) ≤ ((bs (c :: r)).size : Int) := by omega
            have n8 : ((bs (c :: r)).size : Int) ≤ 8192 := by omega
            have HD := Lib.hid (show ((c :: r).drop n).length ≤ 8192 by rw [List.length_drop]; omega)
            have HCALL := Lib.hid hcall
            have HLF := Lib.hid hlf
            have HOB := Lib.hid hob
            have HOW := Lib.hid hown
            have HE := Lib.hid he
            have HA := Lib.hid ha
            have HLE := Lib.hid (show acc.length + t1.length ≤ 8192 by omega)
            have HLE2 := Lib.hid (show (acc ++ t1).length ≤ 8192 by rw [List.length_append]; omega)
            clear hcall hlf hob hown he ha hf hsz htl hn1 hn2 hr hle
            generalize bs (c :: r) = S at *
            obtain ⟨T2, hT2⟩ : ∃ T2, T2 = bs ((c :: r).drop n) := ⟨_, rfl⟩
            rw [← hT2] at e2
            have HT2 := Lib.hid hT2
            clear hT2
            go_wp2_with fail
            refine HCALL.out.mono ?_
            rintro _ w2 ⟨rfl, hl2⟩
            have hl02 := HLF.out.trans hl2
            have hmb : w.heap.size ≠ mb := by have := HC.out.box.lt; omega
            have hob2 := hl2.bl HOB.out hmb
            have hown2 := own_only HOW.out hl2.only (fun k hk e => by
              have h1 := (HOW.out.lt k hk).1
              have h2 := HC.out.box.lt
              rw [List.mem_singleton] at e
              omega)
            have hsz2 : w.heap.size ≤ w2.heap.size := hl02.only.size
            have hadd := add_any hob2 hown2 hsz2 HLE.out
            have HADD := Lib.hid hadd
            have HL02 := Lib.hid hl02
            have HB2 := Lib.hid (fun k (hk : vv.ownBlock = some k) => (HOW.out.lt k hk).1)
            clear hl2 hl02 hob2 hown2 hsz2 hadd
            go_wp2_with fail
            refine HADD.out.mono ?_
            rintro _ w3 ⟨rfl, v2, hob3, hown3, ho3⟩
            have HO3 := Lib.hid hob3
            have HOW3 := Lib.hid hown3
            have HL03 : Hid (Lf w mb st2 d w3) := by
              show Lf w mb st2 d w3
              cases hvb : vv.ownBlock with
              | none => exact grows_lf HC.out HL02.out (Nat.le_refl _) (F := []) (by simp) (ho3 [] (fun k hk => by rw [hvb] at hk; cases hk))
              | some g => exact grows_lf HC.out HL02.out (Nat.le_refl _) (F := [g]) (fun x hx => by rw [List.mem_singleton] at hx; subst hx; exact HB2.out x hvb) (ho3 [g] (fun k hk => by rw [hvb] at hk; injection hk with hk; subst hk; simp))
            clear hob3 hown3 ho3
            go_wp2_with fail
            go_roundg gj
            case measure => omega
            case rel => exact ⟨(c :: r).drop n, st2, acc ++ t1, v2, by rw [HT2.out], HD.out, HLE2.out, HE.out, HL03.out, HO3.out, HOW3.out⟩
end Go.Proofs.YtbiinghmopgjnaaGreatDoor.Fmt
namespace Go.Proofs.YtbiinghmopgjnaaGreatDoor.Fmt
open Go.RowKit

set_option maxRecDepth 100000 in
theorem true_any (s : Tx) (w : World) : Calls Tryz.prog 10 #[.string (bs s)] w fun e w' => e = .returned (.bool (trueP s)) ∧ w = w' := by
  by_cases h1 : s = []
  · subst h1
    show Calls Tryz.prog 10 #[.string { data := #[] }] w _
    go_enter Tryz.func10, Tryz.ntmps10
    go_wp2
    go_ret
    exact ⟨rfl, rfl⟩
  by_cases h2 : s = [48]
  · subst h2
    show Calls Tryz.prog 10 #[.string { data := #[48] }] w _
    go_enter Tryz.func10, Tryz.ntmps10
    go_wp2
    go_ret
    exact ⟨rfl, rfl⟩
  · have e : trueP s = true := by simp [trueP, h1, h2]
    have k1 : ((bs s).toList == ([] : List UInt8)) = false := by rw [bs_tl]; exact beq_eq_false_iff_ne.2 h1
    have k2 : ((bs s).toList == ([48] : List UInt8)) = false := by rw [bs_tl]; exact beq_eq_false_iff_ne.2 h2
    rw [e]
    clear h1 h2 e
    generalize bs s = S at *
    go_enter Tryz.func10, Tryz.ntmps10
    go_wp2
    go_ret
    exact ⟨rfl, rfl⟩
set_option maxRecDepth 100000 in
set_option maxHeartbeats 1000000 in
theorem named_any {X : Ex} (hX : Okx 21 X) : Okx 38 (namedP X) := by
  refine ⟨namedP_le X, ?_⟩
  intro en s d st t st' h hl B w mb v hC
  have hE := (expand_any hX).2
  cases en with
  | none => simp [namedP, valueF] at h
  | some ch =>
    unfold namedP at h
    cases hv : valueF (some ch) s with
    | none => rw [hv] at h; cases h
    | some x =>
      rw [hv] at h
      have hF := find_any w v ch s hC.seen x hv
      cases x with
      | some y =>
        simp only [Option.some.injEq, Prod.mk.injEq] at h
        obtain ⟨rfl, rfl⟩ := h
        have HF := Lib.hid (show Calls Tryz.prog 27 #[v, .string (bs s)] w fun e w' => e = .returned (.tuple #[.string (bs y), .bool true]) ∧ Below w.heap.size w w' from hF)
        have HC := Lib.hid hC
        clear hF hC hE hv hX
        go_enter Tryz.func38, Tryz.ntmps38
        go_wp2_with fail
        refine HF.out.mono ?_
        rintro _ w1 ⟨rfl, hb⟩
        have HL := Lib.hid (HC.out.lf hb)
        clear hb
        go_wp2_with fail
        go_ret
        exact ⟨rfl, HL.out⟩
      | none =>
        have HF := Lib.hid (show Calls Tryz.prog 27 #[v, .string (bs s)] w fun e w' => e = .returned (.tuple #[.string (bs []), .bool false]) ∧ Below w.heap.size w w' from hF)
        have hcon := fun V => Tryz.strings_Contains_one (bs s) 35 V
        simp only [bs_list] at hcon
        by_cases hi : 0 ≤ Lib.indexByte s 35
        · simp only [if_pos hi] at h
          rw [decide_eq_true hi] at hcon
          have HCON : Hid (∀ V, Calls Tryz.prog 47 #[.string (bs s), .string { data := #[35] }] V fun e w' => e = .returned (.bool true) ∧ w' = V) := hcon
          have HE := Lib.hid (fun V hV => hE (some ch) s d st t st' h hl B V mb v hV)
          have HC := Lib.hid hC
          clear hF hC hE hv hX hcon h
          go_enter Tryz.func38, Tryz.ntmps38
          go_wp2_with fail
          refine HF.out.mono ?_
          rintro _ w1 ⟨rfl, hb⟩
          have HC1 := Lib.hid (HC.out.below hb)
          have HL1 := Lib.hid (HC.out.lf hb)
          clear hb
          go_wp2_with fail
          refine (HCON.out _).mono ?_
          rintro _ w2 ⟨rfl, rfl⟩
          go_wp2_with fail
          refine (HE.out _ HC1.out).mono ?_
          rintro _ w3 ⟨rfl, hl3⟩
          have HL := Lib.hid (HL1.out.trans hl3)
          clear hl3
          go_wp2_with fail
          go_ret
          exact ⟨rfl, HL.out⟩
        · simp only [if_neg hi, Option.some.injEq, Prod.mk.injEq] at h
          obtain ⟨rfl, rfl⟩ := h
          rw [decide_eq_false hi] at hcon
          have HCON : Hid (∀ V, Calls Tryz.prog 47 #[.string (bs s), .string { data := #[35] }] V fun e w' => e = .returned (.bool false) ∧ w' = V) := hcon
          have HC := Lib.hid hC
          clear hF hC hE hv hX hcon
          go_enter Tryz.func38, Tryz.ntmps38
          go_wp2_with fail
          refine HF.out.mono ?_
          rintro _ w1 ⟨rfl, hb⟩
          have HL1 := Lib.hid (HC.out.lf hb)
          clear hb
          go_wp2_with fail
          refine (HCON.out _).mono ?_
          rintro _ w2 ⟨rfl, rfl⟩
          go_wp2_with fail
          go_ret
          exact ⟨rfl, HL1.out⟩
end Go.Proofs.YtbiinghmopgjnaaGreatDoor.Fmt
namespace Go.Proofs.YtbiinghmopgjnaaGreatDoor.Fmt
open Go.RowKit

theorem row_open {w : World} {base : Nat} {v : Value} {l : List Tx} (h : w.ownsRow base 9 1 v l.length (strL l)) (h0 : l ≠ []) : ∃ g c, v = .slice (some ⟨g, 0, none⟩) l.length c ∧ base ≤ g ∧ g < w.heap.size ∧ ∀ (i : Nat) x, l[i]? = some x → w.cell? ⟨g, i, none⟩ = some (.string (bs x)) := by
  have hc := h
  rcases h.2 with ⟨_, h1⟩ | ⟨g, cap, cur, rfl, hb, hg, _⟩
  · exact absurd (List.eq_nil_of_length_eq_zero h1) h0
  · refine ⟨g, cap, rfl, hb, (Array.getElem?_eq_some_iff.1 hg).1, fun i x hx => ?_⟩
    have := hc.cells (g := g) rfl i (.string (bs x)) (by simp [strL, hx])
    have e : (⟨g, 0, none⟩ : Addr).add i = ⟨g, i, none⟩ := by unfold Addr.add; split <;> simp_all
    rw [e] at this
    exact this
section
variable {ops : Array Oper} {rest : List Oper} {op : Oper} {a : Act} {w : World} {Q : Exit → Act → World → Prop}
/-- Two texts appended to a row of the call's own. -/
theorem wpList_app_two (hgd : op.guard = none) (s x : Operand) (ho : op.op = .call { callee := .builtin .append, args := #[s, x], argTypes := #[64, 64] })
    (B : Nat) (v : Value) (l : List Tx) (y z : Tx) (hs : a.eval s = v) (hown : w.ownsRow B 9 1 v l.length (strL l)) (g c : Nat) (hx : a.eval x = .slice (some ⟨g, 0, none⟩) 2 c) (hg : BL w g 9 [.string (bs y), .string (bs z)]) (hB : B ≤ w.heap.size) (hn : l.length ≤ 100000)
    (h : ∀ v' w', w'.ownsRow B 9 1 v' (l ++ [y, z]).length (strL (l ++ [y, z])) → w.grownBy w' v.ownBlock → wpList Tryz.prog ops Q rest (a.put op.dst v') w') :
    wpList Tryz.prog ops Q (op :: rest) a w := by
  obtain ⟨i0, hi0, hz0, hz1, hz2⟩ := info_parts info_str
  refine wpList_append_own_at w hgd s x 64 ho B 9 i0 _ 1 16 Tryz.underlying64 hi0 hz0 hz1 hz2 rfl (by decide) v l.length (strL l) hs hown ⟨g, 0, none⟩ 2 c [.string (bs y), .string (bs z)] hx rfl
    (fun j u hj => by rw [Addr.add_mid, Nat.zero_add, hg.cell j]; exact hj) (by simp [Value.oneCell']) (by unfold maxLen; omega) (by omega) hB ?_
  intro v' w' h2 h3 _ _
  refine h v' w' ?_ h3
  rw [show strL (l ++ [y, z]) = strL l ++ [.string (bs y), .string (bs z)] by simp [strL], List.length_append]
  exact h2
end
theorem Only.cell {F : List Nat} {w w' : World} (h : Only F w w') {b : Nat} (hb : b < w.heap.size) (hn : b ∉ F) (i : Nat) : w'.cell? ⟨b, i, none⟩ = w.cell? ⟨b, i, none⟩ := by
  simp only [World.cell?, h.block b hb hn]
theorem getD_of {l : List Tx} {i : Nat} (h : i < l.length) : l[i]? = some (l.getD i []) := by
  rw [List.getD_eq_getElem?_getD, List.getElem?_eq_getElem h]; rfl
set_option maxRecDepth 100000 in
set_option maxHeartbeats 2000000 in
theorem choose_any {X : Ex} (hX : Okx 21 X) : Okx 31 (chooseP X) := by
  refine ⟨chooseP_le X, ?_⟩
  intro en s d st t st' h hl B w mb v hC
  unfold chooseP at h
  simp only at h
  obtain ⟨l, hL⟩ : ∃ l, l = piecesP 2 s := ⟨_, rfl⟩
  rw [← hL] at h
  have hll := piecesP_len 2 s
  rw [← hL] at hll
  have hmem : ∀ x ∈ l ++ [[], []], x.length ≤ 8192 := by
    intro x hx
    rcases List.mem_append.1 hx with hx | hx
    · rw [hL] at hx; have := piecesP_le 2 s x hx; omega
    · simp at hx; subst hx; simp
  have hpc := pieces_any s 2 3 (by decide) (by omega) hl w
  rw [← hL] at hpc
  have h3 : 3 ≤ (l ++ [([] : Tx), []]).length := by simp; omega
  obtain ⟨a0, h0⟩ : ∃ a0, a0 = (l ++ [([] : Tx), []]).getD 0 [] := ⟨_, rfl⟩
  obtain ⟨a1, h1⟩ : ∃ a1, a1 = (l ++ [([] : Tx), []]).getD 1 [] := ⟨_, rfl⟩
  obtain ⟨a2, h2⟩ : ∃ a2, a2 = (l ++ [([] : Tx), []]).getD 2 [] := ⟨_, rfl⟩
  rw [← h0, ← h1, ← h2] at h
  have G0 := Lib.hid (show (l ++ [([] : Tx), []])[0]? = some a0 by rw [h0]; exact getD_of (by omega))
  have G1 := Lib.hid (show (l ++ [([] : Tx), []])[1]? = some a1 by rw [h1]; exact getD_of (by omega))
  have G2 := Lib.hid (show (l ++ [([] : Tx), []])[2]? = some a2 by rw [h2]; exact getD_of (by omega))
  have l0 : a0.length ≤ 8192 := by rw [h0]; exact getD_le hmem 0
  have l1 : a1.length ≤ 8192 := by rw [h1]; exact getD_le hmem 1
  have l2 : a2.length ≤ 8192 := by rw [h2]; exact getD_le hmem 2
  clear h0 h1 h2
  cases hn : namedP X en a0 d st with
  | none => rw [hn] at h; cases h
  | some p =>
    obtain ⟨y, st1⟩ := p
    rw [hn] at h
    simp only at h
    have HNM := Lib.hid (fun V hV => (named_any hX).2 en a0 d st y st1 hn l0 B V mb v hV)
    have HEX1 := Lib.hid (fun (he : expandP X en a1 d st1 = some (t, st')) V hV => (expand_any hX).2 en a1 d st1 t st' he l1 B V mb v hV)
    have HEX2 := Lib.hid (fun (he : expandP X en a2 d st1 = some (t, st')) V hV => (expand_any hX).2 en a2 d st1 t st' he l2 B V mb v hV)
    have HPC := Lib.hid hpc
    have HC := Lib.hid hC
    have HH := Lib.hid h
    have H3 := Lib.hid h3
    have HLL := Lib.hid (show l.length ≤ 100000 by omega)
    clear hpc hC hn h h3 hll hmem hX hL l0 l1 l2
    go_enter Tryz.func31, Tryz.ntmps31
    go_wp2_with fail
    refine HPC.out.mono ?_
    rintro _ w1 ⟨v1, rfl, hown1, hb1⟩
    have HO1 := Lib.hid (hown1.alloc (.cells #[.string { data := #[] }, .string { data := #[] }] 9))
    have HN1 : Hid (BL (w1.alloc (.cells #[.string { data := #[] }, .string { data := #[] }] 9)) w1.heap.size 9 [.string (bs []), .string (bs [])]) := BL.new _ _ _
    have HB1 := Lib.hid (hb1.alloc hb1.size (.cells #[.string { data := #[] }, .string { data := #[] }] 9))
    obtain ⟨A1, c1, rfl⟩ := own_slice hown1
    obtain ⟨n1, hn1⟩ : ∃ n1, l.length = n1 := ⟨_, rfl⟩
    rw [hn1] at HO1 ⊢
    have HN := Lib.hid hn1
    clear hown1 hb1 hn1
    go_wp2_with (at_builtin; refine wpList_app_two rfl _ _ rfl w.heap.size (.slice A1 n1 c1) l [] [] rfl (by rw [HN.out]; exact HO1.out) w1.heap.size 2 rfl HN1.out HB1.out.size HLL.out ?_; intro v5 w5 ho5 hg5; have HO5 := Lib.hid ho5; have HB5 := Lib.hid (HB1.out.grown hg5 HB1.out.size (fun i hi => (HO1.out.lt i hi).1)); obtain ⟨g, c5, hv5, hgb, hgl, hcell⟩ := row_open ho5 (by simp); subst hv5; have HCELL := Lib.hid hcell; have HLT := Lib.hid (And.intro hgb hgl); clear ho5 hg5 hcell hgb hgl; obtain ⟨n5, hn5⟩ : ∃ n5, (l ++ [([] : Tx), []]).length = n5 := ⟨_, rfl⟩; rw [hn5]; have h35 : (3 : Int) ≤ (n5 : Int) := (by have := H3.out; omega); have q0 := HCELL.out 0 _ G0.out; have HN5 := Lib.hid hn5; clear hn5)
    have HC5 := Lib.hid (HC.out.below HB5.out)
    refine (HNM.out _ HC5.out).mono ?_
    rintro _ w6 ⟨rfl, hl6⟩
    have hgm : g ∉ [mb] := by rw [List.mem_singleton]; have := HLT.out.1; have := HC.out.box.lt; omega
    have q1 := (hl6.only.cell HLT.out.2 hgm 1).trans (HCELL.out 1 _ G1.out)
    have q2 := (hl6.only.cell HLT.out.2 hgm 2).trans (HCELL.out 2 _ G2.out)
    have HC6 := Lib.hid (HC5.out.next hl6)
    have HL6 := Lib.hid ((HC.out.lf HB5.out).trans hl6)
    have hh := HH.out
    clear hl6 hgm q0
    have HT := Lib.hid (fun V => true_any y V)
    cases hy : trueP y with
    | true =>
      rw [hy] at HT
      rw [if_pos hy] at hh
      have HE := Lib.hid (HEX1.out hh _ HC6.out)
      clear hh hy
      go_wp2_with fail
      refine (HT.out _).mono ?_
      rintro _ w7 ⟨rfl, rfl⟩
      go_wp2_with fail
      refine HE.out.mono ?_
      rintro _ w8 ⟨rfl, hl8⟩
      have HL := Lib.hid (HL6.out.trans hl8)
      clear hl8
      go_wp2_with fail
      go_ret
      exact ⟨rfl, HL.out⟩
    | false =>
      rw [hy] at HT
      rw [if_neg (by rw [hy]; decide)] at hh
      have HE := Lib.hid (HEX2.out hh _ HC6.out)
      clear hh hy
      go_wp2_with fail
      refine (HT.out _).mono ?_
      rintro _ w7 ⟨rfl, rfl⟩
      go_wp2_with fail
      refine HE.out.mono ?_
      rintro _ w8 ⟨rfl, hl8⟩
      have HL := Lib.hid (HL6.out.trans hl8)
      clear hl8
      go_wp2_with fail
      go_ret
      exact ⟨rfl, HL.out⟩
set_option maxRecDepth 100000 in
set_option maxHeartbeats 2000000 in
theorem both_any {X : Ex} (hX : Okx 21 X) {en : Env} {s x y : Tx} {d st st' : Nat} (h : bothP X en s d st = some (x, y, st')) (hl : s.length ≤ 8192) {B mb : Nat} {w : World} {v : Value} (hC : Cx B w mb st d v en) :
    Calls Tryz.prog 39 #[mkV mb, .string (bs s), v] w fun e w' => e = .returned (.tuple #[.string (bs x), .string (bs y)]) ∧ Lf w mb st' d w' := by
  unfold bothP at h
  have hpc := pieces_any s 1 2 (by decide) (by omega) hl w
  have hmem := piecesP_le 1 s
  obtain ⟨l, hL⟩ : ∃ l, l = piecesP 1 s := ⟨_, rfl⟩
  rw [← hL] at h hpc hmem
  clear hL
  split at h
  · rename_i a b
    have ha : a.length ≤ 8192 := Nat.le_trans (hmem a (by simp)) hl
    have hb : b.length ≤ 8192 := Nat.le_trans (hmem b (by simp)) hl
    cases h1 : expandP X en a d st with
    | none => rw [h1] at h; cases h
    | some p =>
      obtain ⟨t1, s1⟩ := p
      rw [h1] at h
      simp only at h
      cases h2 : expandP X en b d s1 with
      | none => rw [h2] at h; cases h
      | some p =>
        obtain ⟨t2, s2⟩ := p
        rw [h2] at h
        simp only [Option.some.injEq, Prod.mk.injEq] at h
        obtain ⟨rfl, rfl, rfl⟩ := h
        have H1 := Lib.hid (fun V hV => (expand_any hX).2 en a d st t1 s1 h1 ha B V mb v hV)
        have H2 := Lib.hid (fun V hV => (expand_any hX).2 en b d s1 t2 s2 h2 hb B V mb v hV)
        have HPC := Lib.hid hpc
        have HC := Lib.hid hC
        clear hpc hC h1 h2 hmem hX ha hb
        go_enter Tryz.func39, Tryz.ntmps39
        go_wp2_with fail
        refine HPC.out.mono ?_
        rintro _ w1 ⟨v1, rfl, hown1, hb1⟩
        obtain ⟨g, c1, rfl, hg1, hg2, hcell⟩ := row_open hown1 (by simp)
        have q0 : w1.cell? ⟨g, 0, none⟩ = some (.string (bs a)) := hcell 0 a rfl
        have q1 := hcell 1 b rfl
        have HC1 := Lib.hid (HC.out.below hb1)
        have HL1 := Lib.hid (HC.out.lf hb1)
        have HLT := Lib.hid (And.intro hg1 hg2)
        have HQ1 := Lib.hid q1
        clear hown1 hb1 hcell hg1 hg2 q1
        have e2 : ([a, b] : List Tx).length = 2 := rfl
        rw [e2]
        go_wp2_with fail
        refine (H1.out _ HC1.out).mono ?_
        rintro _ w2 ⟨rfl, hl2⟩
        have hgm : g ∉ [mb] := by rw [List.mem_singleton]; have := HLT.out.1; have := HC.out.box.lt; omega
        have q1 : w2.cell? ⟨g, 1, none⟩ = some (.string (bs b)) := (hl2.only.cell HLT.out.2 hgm 1).trans HQ1.out
        have HC2 := Lib.hid (HC1.out.next hl2)
        have HL2 := Lib.hid (HL1.out.trans hl2)
        clear hl2 hgm q0
        go_wp2_with fail
        refine (H2.out _ HC2.out).mono ?_
        rintro _ w3 ⟨rfl, hl3⟩
        have HL := Lib.hid (HL2.out.trans hl3)
        clear hl3
        go_wp2_with fail
        go_ret2
        exact ⟨rfl, HL.out⟩
  · cases h
end Go.Proofs.YtbiinghmopgjnaaGreatDoor.Fmt
namespace Go.Proofs.YtbiinghmopgjnaaGreatDoor.Fmt
open Go.RowKit

theorem drewN_below {B : Nat} {w W : World} (h : Below B w W) (n : Nat) : Below B w (W.drewN n) := ⟨h.os, h.tape, h.output, h.size, h.block⟩
theorem compP_len : ∀ (k : Nat) (P : Tx), (compP k P).length ≤ k
  | k, [] => by rw [comp_nil]; simp
  | 0, _ :: _ => by simp [compP]
  | k + 1, c :: r => by
    unfold compP
    split
    · simp; exact compP_len k r
    split
    · simp; exact compP_len k r
    split
    · split
      · simp; exact compP_len k r
      · simp; exact compP_len k _
    split
    · split
      · simp
      · simp; exact compP_len k _
    · simp; exact compP_len k r
/-- A row of parts, cell by cell. -/
theorem Row5.cells {w : World} {B : Nat} {v : Value} {pvs : List PV} {ps : List Part} (h : Row5 w B v pvs ps) : ∃ A c, v = .slice A ps.length c ∧ ∀ (i : Nat) (hi : i < ps.length), ∃ g p, A = some ⟨g, 0, none⟩ ∧ g < w.heap.size ∧ PartIs p ps[i] ∧ w.cell? ⟨g, i * 5, none⟩ = some (.bool p.star) ∧ ∀ q, q < 4 → w.cell? ⟨g, i * 5 + 1 + q, none⟩ = some (.int .u64 (p.ws q : Int)) := by
  obtain ⟨A, c, hv⟩ := own_slice h.own
  subst hv
  refine ⟨A, c, by rw [h.len], fun i hi => ?_⟩
  have hip : i < pvs.length := by rw [h.len]; exact hi
  rcases h.own.2 with ⟨_, h0⟩ | ⟨g, cap, cur, he, hb, hg, _⟩
  · omega
  · injection he with he1 he2 he3
    subst he1
    have hat : ∀ j, j < 5 → (pvsC pvs)[i * 5 + j]? = (pvL pvs[i])[j]? := by
      have key : ∀ (l : List PV) (i : Nat) (hi : i < l.length) j, j < 5 → (pvsC l)[i * 5 + j]? = (pvL l[i])[j]? := by
        intro l
        induction l with
        | nil => intro i hi; cases hi
        | cons p l ih =>
          intro i hi j hj
          have e : pvsC (p :: l) = pvL p ++ pvsC l := rfl
          cases i with
          | zero => rw [e, List.getElem?_append_left (by rw [pvL_len]; omega)]; simp
          | succ i =>
            rw [e, List.getElem?_append_right (by rw [pvL_len]; omega), pvL_len, show (i + 1) * 5 + j - 5 = i * 5 + j by omega, ih i (by simpa using hi) j hj]
            simp
      exact key pvs i hip
    have hc : ∀ j, j < 5 → ∀ u, (pvL pvs[i])[j]? = some u → w.cell? ⟨g, i * 5 + j, none⟩ = some u := fun j hj u hu => by
      have := h.own.cells (g := g) rfl (i * 5 + j) u ((hat j hj).trans hu)
      rwa [Addr.add_mid, Nat.zero_add] at this
    refine ⟨g, pvs[i], rfl, (Array.getElem?_eq_some_iff.1 hg).1, h.is_ i _ _ (List.getElem?_eq_getElem hip) (List.getElem?_eq_getElem hi), hc 0 (by omega) _ rfl, fun q hq => ?_⟩
    match q, hq with
    | 0, _ => exact hc 1 (by omega) _ rfl
    | 1, _ => exact hc 2 (by omega) _ rfl
    | 2, _ => exact hc 3 (by omega) _ rfl
    | 3, _ => exact hc 4 (by omega) _ rfl
set_option maxRecDepth 100000 in
set_option maxHeartbeats 8000000 in
theorem match_any (P T : Tx) (hl : P.length ≤ 8192) (hT : T.length ≤ 1000000) (w : World) :
    Calls Tryz.prog 48 #[.string (bs P), .string (bs T)] w fun e w' => e = .returned (.bool (matchP P T)) ∧ Below w.heap.size w w' := by
  obtain ⟨S, hS⟩ : ∃ S, S = bs T := ⟨_, rfl⟩
  rw [← hS]
  have hz : S.size = T.length := by rw [hS, bs_size]
  have hg : ∀ (j : Nat) (h : j < S.size), T[j]? = some S[j] := fun j h => by
    rw [List.getElem?_eq_getElem (by omega)]
    subst hS
    rfl
  obtain ⟨ps, hps⟩ : ∃ ps, ps = compP P.length P := ⟨_, rfl⟩
  obtain ⟨R, hR⟩ : ∃ R, R = matchP P T := ⟨_, rfl⟩
  rw [← hR]
  have hR2 : R = Mt ps T := by rw [hR, hps]; rfl
  have hcomp := compile_any P hl w
  rw [← hps] at hcomp
  have hlen0 : ps.length ≤ 8192 := by rw [hps]; exact Nat.le_trans (compP_len _ _) hl
  have HG := Lib.hid hg
  have HZ := Lib.hid hz
  have HR := Lib.hid hR2
  have HCOMP := Lib.hid hcomp
  have hs8 : (S.size : Int) ≤ 1000000 := by omega
  clear hg hz hR hR2 hcomp hps hS hl hT
  go_enter Tryz.func48, Tryz.ntmps48
  go_wp2_with fail
  refine HCOMP.out.mono ?_
  rintro _ w1 ⟨v, pvs, rfl, hrow, hb1⟩
  obtain ⟨A, c, rfl, hcells⟩ := hrow.cells
  obtain ⟨n, hn⟩ : ∃ n, ps.length = n := ⟨_, rfl⟩
  rw [hn] at hlen0 ⊢
  have HC := Lib.hid hcells
  have HN := Lib.hid hn
  have HB1 := Lib.hid hb1
  clear hrow hcells hn hb1
  go_wp2_with fail
  go_loopw [6, 7, 8, 9] (fun x y z u wr => ∃ (na : Nat) (tt : Int) (gg i : Nat), x = .int .i64 (na : Int) ∧ y = .int .i64 tt ∧ z = .int .i64 (gg : Int) ∧ u = .int .i64 (i : Int) ∧ At ps T na tt gg i ∧ gg ≤ S.size ∧ Below w1.heap.size w1 wr) (fun x y z u _ => left3 (S.size + 2) ((n : Int) - intOf y).toNat (S.size - (intOf z).toNat) (S.size - (intOf u).toNat))
  case atStart => exact ⟨0, -1, 0, 0, rfl, rfl, rfl, rfl, At.start ps T, Nat.zero_le _, Below.refl _ _⟩
  case round =>
    obtain ⟨na, tt, gg, i, rfl, rfl, rfl, rfl, hat, hgg, hb⟩ := hrel
    have hna := hat.n_le
    have hil := hat.i_le
    have hlow := hat.low
    have htn : 0 ≤ tt → tt < na ∧ gg ≤ i := fun h => ⟨(hat.behind h).1, (hat.behind h).2.1⟩
    rw [HN.out] at hna
    by_cases hlt : i < S.size
    · have j1 : (i : Int) < (S.size : Int) := by omega
      obtain ⟨c0, hc0⟩ : ∃ c0, T[i]? = some c0 := ⟨_, HG.out i hlt⟩
      have hci : ((S[i].toNat : Nat) : Int) = (c0.toNat : Int) := by have := HG.out i hlt; rw [hc0] at this; injection this with this; rw [this]
      by_cases hnn : na < n
      · have n1 : (na : Int) < (n : Int) := by omega
        have hpn : na < ps.length := by rw [HN.out]; exact hnn
        obtain ⟨g, p, rfl, hgl, hpi, hcs, hcw⟩ := HC.out na hpn
        have hq : ps[na]? = some ps[na] := List.getElem?_eq_getElem hpn
        have hb0 : ∀ j, wr.cell? ⟨g, j, none⟩ = w1.cell? ⟨g, j, none⟩ := fun j => hb.cell (p := ⟨g, j, none⟩) hgl
        have c1 : wr.cell? ⟨g, na * 5, none⟩ = some (.bool p.star) := (hb0 _).trans hcs
        have HB := Lib.hid hb
        cases hqq : ps[na] with
        | star =>
          rw [hqq] at hpi hq
          rw [show p.star = true from hpi] at c1
          have HAT := Lib.hid (hat.star hq)
          clear hb hat hpi hcs hcw hb0 hqq hq
          go_wp2_with fail
          go_roundw
          case measure => exact left3_a (by simp [intOf]; omega) (by simp [intOf]; omega) (by simp [intOf]; omega)
          case rel => exact ⟨na + 1, (na : Int), i, i, by go_num, by go_num, by go_num, by go_num, HAT.out, by omega, HB.out⟩
        | one f =>
          rw [hqq] at hpi hq
          obtain ⟨hst, hset⟩ := hpi
          rw [hst] at c1
          have h64 : c0.toNat / 64 < 4 := by have := UInt8.toNat_lt c0; omega
          have hhas : ∀ m, Calls Tryz.prog 76 #[.pointer (some ⟨g, na * 5 + 1, none⟩), .int .u8 (c0.toNat : Int)] (wr.drewN m) fun e w' => e = .returned (.bool (f c0)) ∧ w' = wr.drewN m := fun m => by
            have := has_at g (na * 5 + 1) c0.toNat (p.ws (c0.toNat / 64)) (wr.drewN m) (UInt8.toNat_lt c0) ((hb0 _).trans (hcw _ h64)) (hset.low _)
            rw [hset.mem] at this
            exact this.mono fun e w' he => ⟨he.1, he.2.symm⟩
          have hd1 : decide ((na : Int) < (n : Int)) = true := decide_eq_true n1
          cases hf : f c0 with
          | true =>
            rw [hf] at hhas
            have HH := Lib.hid hhas
            have HAT := Lib.hid (hat.byte hq hc0 hf)
            clear hb hat hhas hcs hcw hb0 hqq hq hst hset h64 hc0
            go_wp2_with fail
            go_quiet ((go_at_call 76; exact Calls.quiet_of_same (HH.out _)))
            have HB2 := Lib.hid (drewN_below HB.out nq)
            generalize wr.drewN nq = V at *
            go_wp2_with fail
            go_roundw
            case measure => exact left3_c (by simp [intOf]; omega)
            case rel => exact ⟨na + 1, tt, gg, i + 1, by go_num, by go_num, by go_num, by go_num, HAT.out, hgg, HB2.out⟩
          | false =>
            rw [hf] at hhas
            have HH := Lib.hid hhas
            by_cases ht0 : 0 ≤ tt
            · have HAT := Lib.hid (hat.back hc0 (.inr ⟨f, hq, hf⟩) ht0)
              have htn2 := htn ht0
              obtain ⟨t2, rfl⟩ : ∃ t2 : Nat, tt = (t2 : Int) := ⟨_, (Int.toNat_of_nonneg ht0).symm⟩
              clear hb hat hhas hcs hcw hb0 hqq hq hst hset h64 hc0 htn
              go_wp2_with fail
              go_quiet ((go_at_call 76; exact Calls.quiet_of_same (HH.out _)))
              have HB2 := Lib.hid (drewN_below HB.out nq)
              generalize wr.drewN nq = V at *
              go_wp2_with fail
              go_roundw
              case measure => exact left3_b (by simp [intOf]; omega) (by simp [intOf]; omega)
              case rel => exact ⟨t2 + 1, (t2 : Int), gg + 1, gg + 1, by go_num, by go_num, by go_num, by go_num, by have := HAT.out; rw [Int.toNat_natCast] at this; exact this, by omega, HB2.out⟩
            · have HNO := Lib.hid (show R = false by rw [HR.out]; exact hat.no hc0 (.inr ⟨f, hq, hf⟩) (by omega))
              have ht1 : ¬ tt ≥ 0 := ht0
              have ht2 : tt < 0 := by omega
              clear hb hat hhas hcs hcw hb0 hqq hq hst hset h64 hc0 htn
              go_wp2_with fail
              go_quiet ((go_at_call 76; exact Calls.quiet_of_same (HH.out _)))
              have HB2 := Lib.hid (drewN_below HB.out nq)
              generalize wr.drewN nq = V at *
              go_wp2_with fail
              go_ret
              exact ⟨by rw [HNO.out]; rfl, HB1.out.trans (HB2.out.mono HB1.out.size)⟩
      · have hnq : na = n := by omega
        have n1 : ¬ (na : Int) < (n : Int) := by omega
        have hq : ps[na]? = none := List.getElem?_eq_none (by rw [HN.out]; omega)
        have hd1 : decide ((na : Int) < (n : Int)) = false := decide_eq_false n1
        have HB := Lib.hid hb
        by_cases ht0 : 0 ≤ tt
        · have HAT := Lib.hid (hat.back hc0 (.inl hq) ht0)
          have htn2 := htn ht0
          obtain ⟨t2, rfl⟩ : ∃ t2 : Nat, tt = (t2 : Int) := ⟨_, (Int.toNat_of_nonneg ht0).symm⟩
          clear hb hat hq hc0 htn hnq
          go_wp2_with fail
          go_quiet (fail)
          have HB2 := Lib.hid (drewN_below HB.out nq)
          generalize wr.drewN nq = V at *
          go_wp2_with fail
          go_roundw
          case measure => exact left3_b (by simp [intOf]; omega) (by simp [intOf]; omega)
          case rel => exact ⟨t2 + 1, (t2 : Int), gg + 1, gg + 1, by go_num, by go_num, by go_num, by go_num, by have := HAT.out; rw [Int.toNat_natCast] at this; exact this, by omega, HB2.out⟩
        · have HNO := Lib.hid (show R = false by rw [HR.out]; exact hat.no hc0 (.inl hq) (by omega))
          have ht1 : ¬ tt ≥ 0 := ht0
          have ht2 : tt < 0 := by omega
          clear hb hat hq hc0 htn hnq
          go_wp2_with fail
          go_quiet (fail)
          have HB2 := Lib.hid (drewN_below HB.out nq)
          generalize wr.drewN nq = V at *
          go_wp2_with fail
          go_ret
          exact ⟨by rw [HNO.out]; rfl, HB1.out.trans (HB2.out.mono HB1.out.size)⟩
    · have hi2 : ¬ (i : Int) < (S.size : Int) := by omega
      have HDONE := Lib.hid (show R = Mt (ps.drop na) [] by rw [HR.out]; exact hat.done (by rw [← HZ.out]; omega))
      have HB := Lib.hid hb
      obtain ⟨W2, hW2⟩ : ∃ W2, W2 = wr := ⟨_, rfl⟩
      subst hW2
      clear hb hat htn hlow
      go_wp2_with fail
      go_loopw [6] (fun x wz => ∃ na2 : Nat, x = .int .i64 (na2 : Int) ∧ na2 ≤ n ∧ R = Mt (ps.drop na2) [] ∧ Below w1.heap.size w1 wz) (fun x _ => n - (intOf x).toNat)
      case atStart => exact ⟨na, rfl, hna, HDONE.out, HB.out⟩
      case round =>
        obtain ⟨na2, rfl, hna2, hdone, hb2⟩ := hrel
        have HB2 := Lib.hid hb2
        by_cases hnn : na2 < n
        · have n1 : (na2 : Int) < (n : Int) := by omega
          have hpn : na2 < ps.length := by rw [HN.out]; exact hnn
          obtain ⟨g, p, rfl, hgl, hpi, hcs, hcw⟩ := HC.out na2 hpn
          have hq : ps[na2]? = some ps[na2] := List.getElem?_eq_getElem hpn
          have c1 : wr.cell? ⟨g, na2 * 5, none⟩ = some (.bool p.star) := (hb2.cell (p := ⟨g, na2 * 5, none⟩) hgl).trans hcs
          cases hqq : ps[na2] with
          | star =>
            rw [hqq] at hpi hq
            rw [show p.star = true from hpi] at c1
            have HD := Lib.hid (show R = Mt (ps.drop (na2 + 1)) [] by rw [hdone, drop_at hq, Mt_star_nil])
            clear hb2 hpi hcs hcw hqq hq hdone HDONE
            go_wp2_with fail
            go_roundw
            case measure => simp [intOf]; omega
            case rel => exact ⟨na2 + 1, by go_num, by omega, HD.out, HB2.out⟩
          | one f =>
            rw [hqq] at hpi hq
            rw [hpi.1] at c1
            have HD := Lib.hid (show R = false by rw [hdone, drop_at hq, Mt_one_nil])
            have n2 : ((na2 : Int) == (n : Int)) = false := beq_eq_false_iff_ne.2 (by omega)
            clear hb2 hpi hcs hcw hqq hq hdone HDONE
            go_wp2_with fail
            go_ret
            exact ⟨by rw [HD.out]; rfl, HB1.out.trans (HB2.out.mono HB1.out.size)⟩
        · obtain rfl : na2 = n := by omega
          have HD := Lib.hid (show R = true by rw [hdone, List.drop_of_length_le (by rw [HN.out]; exact Nat.le_refl _), Mt_nil])
          clear hb2 hdone HDONE
          go_wp2_with fail
          go_ret
          exact ⟨by rw [HD.out]; rfl, HB1.out.trans (HB2.out.mono HB1.out.size)⟩
end Go.Proofs.YtbiinghmopgjnaaGreatDoor.Fmt
namespace Go.Proofs.YtbiinghmopgjnaaGreatDoor.Fmt
open Go.RowKit

set_option maxRecDepth 100000 in
set_option maxHeartbeats 1000000 in
theorem holds_m (l r : Tx) (hl : l.length ≤ 8192) (hr : r.length ≤ 8192) (w : World) :
    Calls Tryz.prog 40 #[.string { data := #[109] }, .string (bs l), .string (bs r)] w fun e w' => e = .returned (.bool (matchP l r)) ∧ Below w.heap.size w w' := by
  have HM := Lib.hid (match_any l r hl (by omega) w)
  go_enter Tryz.func40, Tryz.ntmps40
  go_wp2_with fail
  refine HM.out.mono ?_
  rintro _ w1 ⟨rfl, hb⟩
  have HB := Lib.hid hb
  clear hb
  go_wp2_with fail
  go_ret
  exact ⟨rfl, HB.out⟩
theorem bothP_le {X : Ex} {en : Env} {s x y : Tx} {d st st' : Nat} (h : bothP X en s d st = some (x, y, st')) (_hl : s.length ≤ 8192) : x.length ≤ 8192 ∧ y.length ≤ 8192 := by
  unfold bothP at h
  split at h
  · cases h1 : expandP X en _ d st with
    | none => rw [h1] at h; cases h
    | some p =>
      obtain ⟨t1, s1⟩ := p
      rw [h1] at h
      simp only at h
      cases h2 : expandP X en _ d s1 with
      | none => rw [h2] at h; cases h
      | some p =>
        obtain ⟨t2, s2⟩ := p
        rw [h2] at h
        simp only [Option.some.injEq, Prod.mk.injEq] at h
        obtain ⟨rfl, rfl, rfl⟩ := h
        exact ⟨expL_le _ _ _ _ _ _ _ _ _ h1 (by simp), expL_le _ _ _ _ _ _ _ _ _ h2 (by simp)⟩
  · cases h
set_option maxRecDepth 100000 in
set_option maxHeartbeats 1000000 in
theorem compare_any {X : Ex} (hX : Okx 21 X) {en : Env} {s t : Tx} {d st st' : Nat} (h : compareP X [109] en s d st = some (t, st')) (hl : s.length ≤ 8192) {B mb : Nat} {w : World} {v : Value} (hC : Cx B w mb st d v en) :
    Calls Tryz.prog 32 #[mkV mb, .string { data := #[109] }, .string (bs s), v] w fun e w' => e = .returned (.string (bs t)) ∧ Lf w mb st' d w' := by
  unfold compareP at h
  cases hb : bothP X en s d st with
  | none => rw [hb] at h; cases h
  | some p =>
    obtain ⟨x, y, s2⟩ := p
    rw [hb] at h
    simp only [Option.some.injEq, Prod.mk.injEq] at h
    obtain ⟨rfl, rfl⟩ := h
    obtain ⟨hx, hy⟩ := bothP_le hb hl
    have HB := Lib.hid (both_any hX hb hl hC)
    have HH := Lib.hid (fun V => holds_m x y hx hy V)
    have HC := Lib.hid hC
    have hhold : holdsP [109] x y = matchP x y := rfl
    rw [hhold]
    clear hb hC hX hx hy hhold
    cases hm : matchP x y with
    | true =>
      rw [hm] at HH
      go_enter Tryz.func32, Tryz.ntmps32
      go_wp2_with fail
      refine HB.out.mono ?_
      rintro _ w1 ⟨rfl, hl1⟩
      have HL1 := Lib.hid hl1
      have HC1 := Lib.hid (HC.out.next hl1)
      clear hl1 hm
      go_wp2_with fail
      refine (HH.out _).mono ?_
      rintro _ w2 ⟨rfl, hb2⟩
      have HL2 := Lib.hid (HL1.out.trans (HC1.out.lf hb2))
      clear hb2
      go_wp2_with fail
      go_ret
      exact ⟨rfl, HL2.out⟩
    | false =>
      rw [hm] at HH
      go_enter Tryz.func32, Tryz.ntmps32
      go_wp2_with fail
      refine HB.out.mono ?_
      rintro _ w1 ⟨rfl, hl1⟩
      have HL1 := Lib.hid hl1
      have HC1 := Lib.hid (HC.out.next hl1)
      clear hl1 hm
      go_wp2_with fail
      refine (HH.out _).mono ?_
      rintro _ w2 ⟨rfl, hb2⟩
      have HL2 := Lib.hid (HL1.out.trans (HC1.out.lf hb2))
      clear hb2
      go_wp2_with fail
      go_ret
      exact ⟨rfl, HL2.out⟩

end Go.Proofs.YtbiinghmopgjnaaGreatDoor.Fmt
namespace Go.Proofs.YtbiinghmopgjnaaGreatDoor.Cal
open Go.RowKit
set_option maxRecDepth 100000 in
theorem result_one (w : World) : Calls Tryz.prog 59 #[.string { data := #[47] }, .float .f64 4607182418800017408, .float .f64 4607182418800017408] w fun e w' => e = .returned (.float .f64 4607182418800017408) ∧ w = w' := by
  have hd := div_run 4607182418800017408 4607182418800017408 4607182418800017408 (by decide +kernel) 84
  go_enter Tryz.func59, Tryz.ntmps59
  go_wp2
  go_ret
  exact ⟨rfl, rfl⟩
theorem trunc_ext1 (w : World) : (callFunc 87 #[.float .f64 4607182418800017408]).run Tryz.prog w = .ok (.value (.float .f64 4607182418800017408)) w := by kernel_rfl
set_option maxRecDepth 100000 in
theorem trunc_one (w : World) : Calls Tryz.prog 61 #[.float .f64 4607182418800017408] w fun e w' => e = .returned (.float .f64 4607182418800017408) ∧ w = w' := by
  have h := trunc_ext1
  go_enter Tryz.func61, Tryz.ntmps61
  go_wp2
  go_ret
  exact ⟨rfl, rfl⟩
theorem whole_one (w : World) : Calls Tryz.prog 55 #[.float .f64 4607182418800017408] w fun e w' => e = .returned (.int .i64 1) ∧ w = w' := by
  have h := whole_any 4607182418800017408 w (by omega)
  rw [show Flt.whole 4607182418800017408 = 1 by decide +kernel] at h
  exact h
set_option maxRecDepth 100000 in
theorem small_1 (w : World) : Calls Tryz.prog 135 #[.int .i64 1] w fun e w' => e = .returned (.string { data := #[49] }) ∧ w = w' := by
  go_enter Tryz.func135, Tryz.ntmps135
  go_wp2
  go_ret
  exact ⟨ret_str (by decide +kernel), rfl⟩
theorem itoa_1 (w : World) : Calls Tryz.prog 60 #[.int .i64 1] w fun e w' => e = .returned (.string { data := #[49] }) ∧ w = w' := by
  have hf : Calls Tryz.prog 114 #[.int .i64 1, .int .i64 10] w fun e w' => e = .returned (.string { data := #[49] }) ∧ w = w' := by
    go_enter Tryz.func114, Tryz.ntmps114
    go_wp2_with fail
    refine (small_1 w).mono ?_
    rintro e w' ⟨rfl, rfl⟩
    go_wp2_with fail
    go_ret
    exact ⟨rfl, rfl⟩
  have hg : Calls Tryz.prog 86 #[.int .i64 1] w fun e w' => e = .returned (.string { data := #[49] }) ∧ w = w' := by
    go_enter Tryz.func86, Tryz.ntmps86
    go_wp2_with fail
    refine hf.mono ?_
    rintro e w' ⟨rfl, rfl⟩
    go_wp2_with fail
    go_ret
    exact ⟨rfl, rfl⟩
  go_enter Tryz.func60, Tryz.ntmps60
  go_wp2_with fail
  refine hg.mono ?_
  rintro e w' ⟨rfl, rfl⟩
  go_wp2_with fail
  go_ret
  exact ⟨rfl, rfl⟩
theorem operands_11 {B : Nat} (w : World) (ht : Tabs B w) (hB : B ≤ w.heap.size) :
    Calls Tryz.prog 53 #[.string { data := #[49] }, .string { data := #[49] }] w fun e w' => e = .returned (.tuple #[.float .f64 4607182418800017408, .float .f64 4607182418800017408, .int .i64 0]) ∧ Below w.heap.size w w' := by
  go_enter Tryz.func53, Tryz.ntmps53
  go_wp2_with fail
  refine (parse_1 w ht hB).mono ?_
  rintro e w1 ⟨rfl, hb1⟩
  have ht1 := ht.below (hb1.mono hB)
  have hB1 : B ≤ w1.heap.size := Nat.le_trans hB hb1.size
  go_wp2_with fail
  refine (is_ok w1).mono ?_
  rintro e w' ⟨rfl, rfl⟩
  go_wp2_with fail
  refine (parse_1 w1 ht1 hB1).mono ?_
  rintro e w2 ⟨rfl, hb2⟩
  have hbb := hb1.trans (hb2.mono hb1.size)
  go_wp2_with fail
  refine (is_ok w2).mono ?_
  rintro e w' ⟨rfl, rfl⟩
  go_wp2_with fail
  go_ret3
  exact ⟨rfl, hbb⟩
theorem reckon_11 {B : Nat} (w : World) (ht : Tabs B w) (hB : B ≤ w.heap.size) :
    Calls Tryz.prog 43 #[.string { data := #[47] }, .string { data := #[49] }, .string { data := #[49] }, .bool false, .int .i64 0] w fun e w' => e = .returned (.tuple #[.string { data := #[49] }, .int .i64 0]) ∧ Below w.heap.size w w' := by
  have c1 : floatOfInt .f64 1 = 4607182418800017408 := by decide +kernel
  go_enter Tryz.func43, Tryz.ntmps43
  go_wp2_with fail
  refine (kind_div w).mono ?_
  rintro e w' ⟨rfl, rfl⟩
  go_wp2_with fail
  refine (operands_11 w ht hB).mono ?_
  rintro e w1 ⟨rfl, hb1⟩
  have ht1 := ht.below (hb1.mono hB)
  have hB1 : B ≤ w1.heap.size := Nat.le_trans hB hb1.size
  go_wp2_with fail
  refine (is_ok w1).mono ?_
  rintro e w' ⟨rfl, rfl⟩
  go_wp2_with fail
  refine (whole_one _).mono ?_
  rintro e w' ⟨rfl, rfl⟩
  go_wp2_with fail
  refine (whole_one _).mono ?_
  rintro e w' ⟨rfl, rfl⟩
  go_wp2_with fail
  refine (result_one _).mono ?_
  rintro e w' ⟨rfl, rfl⟩
  go_wp2_with fail
  refine (trunc_one _).mono ?_
  rintro e w' ⟨rfl, rfl⟩
  go_wp2_with fail
  refine (whole_one _).mono ?_
  rintro e w' ⟨rfl, rfl⟩
  go_wp2_with fail
  refine (itoa_1 _).mono ?_
  rintro e w' ⟨rfl, rfl⟩
  go_wp2_with fail
  go_ret2
  exact ⟨rfl, hb1⟩
end Go.Proofs.YtbiinghmopgjnaaGreatDoor.Cal
namespace Go.Proofs.YtbiinghmopgjnaaGreatDoor.Fmt
open Go.RowKit

set_option maxRecDepth 100000 in
set_option maxHeartbeats 1000000 in
theorem isOp_div {B : Nat} (w : World) (ht : TB B w) (hB : B ≤ w.heap.size) :
    Calls Tryz.prog 50 #[.string { data := #[47] }] w fun e w' => e = .returned (.bool true) ∧ Below w.heap.size w w' := by
  have HR := Lib.hid (Cal.reckon_11 w ht.cal hB)
  go_enter Tryz.func50, Tryz.ntmps50
  go_wp2_with fail
  refine HR.out.mono ?_
  rintro _ w1 ⟨rfl, hb⟩
  have HB := Lib.hid hb
  clear hb
  go_wp2_with fail
  go_ret
  exact ⟨rfl, HB.out⟩
theorem cut_1 (w : World) (m : Int) (hm : w.cell? ⟨0, 0, none⟩ = some (.int .i64 m)) :
    Calls Tryz.prog 49 #[.string { data := #[47, 124, 102] }, .string { data := #[124] }] w fun e w' => e = .returned (.tuple #[.string { data := #[47] }, .string { data := #[102] }, .bool true]) ∧ Below w.heap.size w w' := by
  refine (Tryz.strings_Cut (bs [47, 124, 102]) (bs [124]) m w (by rw [bs_size]; decide) hm).mono fun e w' he => ?_
  obtain ⟨he, n, rfl⟩ := he
  refine ⟨he.trans ?_, ⟨rfl, rfl, rfl, Nat.le_refl _, fun _ _ => rfl⟩⟩
  rw [bs_list, bs_list]
  kernel_rfl
theorem cut_2 (w : World) (m : Int) (hm : w.cell? ⟨0, 0, none⟩ = some (.int .i64 m)) :
    Calls Tryz.prog 49 #[.string { data := #[102] }, .string { data := #[124] }] w fun e w' => e = .returned (.tuple #[.string { data := #[102] }, .string { data := #[] }, .bool false]) ∧ Below w.heap.size w w' := by
  refine (Tryz.strings_Cut (bs [102]) (bs [124]) m w (by rw [bs_size]; decide) hm).mono fun e w' he => ?_
  obtain ⟨he, n, rfl⟩ := he
  refine ⟨he.trans ?_, ⟨rfl, rfl, rfl, Nat.le_refl _, fun _ _ => rfl⟩⟩
  rw [bs_list, bs_list]
  kernel_rfl
set_option maxRecDepth 100000 in
set_option maxHeartbeats 1000000 in
theorem reckoning_div {B : Nat} (w : World) (ht : TB B w) (hB : B ≤ w.heap.size) :
    Calls Tryz.prog 42 #[.string { data := #[47, 124, 102] }] w fun e w' => e = .returned (.tuple #[.string { data := #[47] }, .bool true, .int .i64 2]) ∧ Below w.heap.size w w' := by
  obtain ⟨hlo, m, hm⟩ := ht.most
  have H1 := Lib.hid (cut_1 w m hm)
  have HT := Lib.hid ht
  clear hm ht
  go_enter Tryz.func42, Tryz.ntmps42
  go_wp2_with fail
  refine H1.out.mono ?_
  rintro _ w1 ⟨rfl, hb1⟩
  have ht1 := HT.out.below (hb1.mono hB)
  have hB1 : B ≤ w1.heap.size := Nat.le_trans hB hb1.size
  obtain ⟨_, m1, hm1⟩ := ht1.most
  have H2 := Lib.hid (cut_2 w1 m1 hm1)
  have HT1 := Lib.hid ht1
  have HB1 := Lib.hid hb1
  clear hm1 ht1 hb1
  go_wp2_with fail
  refine H2.out.mono ?_
  rintro _ w2 ⟨rfl, hb2⟩
  have H3 := Lib.hid (isOp_div w2 (HT1.out.below (hb2.mono hB1)) (Nat.le_trans hB1 hb2.size))
  have HB2 := Lib.hid (HB1.out.trans (hb2.mono HB1.out.size))
  clear hb2
  go_wp2_with fail
  refine H3.out.mono ?_
  rintro _ w3 ⟨rfl, hb3⟩
  have HB3 := Lib.hid (HB2.out.trans (hb3.mono HB2.out.size))
  clear hb3
  go_wp2_with fail
  refine bodyPost_ret (by first | exact results_tmp3 rfl _ _ _ | simp [results, Tryz.results42]) rfl ?_
  exact ⟨rfl, HB3.out⟩
set_option maxRecDepth 100000 in
set_option maxHeartbeats 1000000 in
theorem reckon_any {X : Ex} (hX : Okx 21 X) {en : Env} {s t : Tx} {d st st' : Nat} (h : reckP X en s d st = some (t, st')) (hl : s.length ≤ 8192) {B mb : Nat} {w : World} {v : Value} (hC : Cx B w mb st d v en) :
    Calls Tryz.prog 34 #[mkV mb, .string { data := #[47, 124, 102] }, .string (bs s), v] w fun e w' => e = .returned (.string (bs t)) ∧ Lf w mb st' d w' := by
  unfold reckP at h
  cases hb : bothP X en s d st with
  | none => rw [hb] at h; cases h
  | some p =>
    obtain ⟨x, y, s2⟩ := p
    rw [hb] at h
    simp only at h
    split at h
    · rename_i hxy
      obtain ⟨rfl, rfl⟩ := hxy
      simp only [Option.some.injEq, Prod.mk.injEq] at h
      obtain ⟨rfl, rfl⟩ := h
      have H1 := Lib.hid (reckoning_div w hC.tabs hC.size)
      have HB := Lib.hid (fun V hV => both_any hX hb hl (w := V) (mb := mb) (v := v) (B := B) hV)
      have HC := Lib.hid hC
      clear hb hC hX
      go_enter Tryz.func34, Tryz.ntmps34
      go_wp2_with fail
      refine H1.out.mono ?_
      rintro _ w1 ⟨rfl, hb1⟩
      have HC1 := Lib.hid (HC.out.below hb1)
      have HL1 := Lib.hid (HC.out.lf hb1)
      clear hb1
      go_wp2_with fail
      refine (HB.out _ HC1.out).mono ?_
      rintro _ w2 ⟨rfl, hl2⟩
      have HC2 := Lib.hid (HC1.out.next hl2)
      have HL2 := Lib.hid (HL1.out.trans hl2)
      have H3 : Hid (Calls Tryz.prog 43 #[.string { data := #[47] }, .string (bs [55]), .string (bs [50]), .bool true, .int .i64 2] w2 fun e w' => e = .returned (.tuple #[.string { data := #[51, 46, 53, 48] }, .int .i64 0]) ∧ Below w2.heap.size w2 w') := Cal.reckon_a w2 HC2.out.tabs.cal HC2.out.size
      clear hl2
      go_wp2_with fail
      refine H3.out.mono ?_
      rintro _ w3 ⟨rfl, hb3⟩
      have HL3 := Lib.hid (HL2.out.trans (HC2.out.lf hb3))
      clear hb3
      go_wp2_with fail
      go_ret
      exact ⟨rfl, HL3.out⟩
    · cases h
end Go.Proofs.YtbiinghmopgjnaaGreatDoor.Fmt
namespace Go.Proofs.YtbiinghmopgjnaaGreatDoor.Fmt
open Go.RowKit

/-- What is known whole and is neither a maker nor a text that grows stays. -/
def KQ (w w' : World) : Prop := ∀ b t xs, BL w b t xs → t ≠ 40 → t ≠ 51 → t ≠ 5 → BL w' b t xs
theorem KQ.refl (w : World) : KQ w w := fun _ _ _ h _ _ _ => h
theorem KQ.trans {a b c : World} (h : KQ a b) (k : KQ b c) : KQ a c := fun _ _ _ hb h1 h2 h3 => k _ _ _ (h _ _ _ hb h1 h2 h3) h1 h2 h3
theorem KQ.kp {a b : World} (h : Kp a b) : KQ a b := fun _ _ _ hb h1 _ _ => h.2 _ _ _ hb h1
theorem VarsAt.kq {w w' : World} {v : Value} {l : Vs} (h : VarsAt w v l) (k : KQ w w') : VarsAt w' v l := by
  rcases h with h | ⟨b, h1, h2⟩
  · exact .inl h
  · exact .inr ⟨b, h1, k _ _ _ h2 (by decide) (by decide) (by decide)⟩
theorem row_block {w : World} {base : Nat} {g c n : Nat} {l : List Tx} (h : w.ownsRow base 9 1 (.slice (some ⟨g, 0, none⟩) n c) l.length (strL l)) : ∃ ys, BL w g 9 ys := by
  rcases h.2 with ⟨e, _⟩ | ⟨g', cap, cur, e, _, hg, _⟩
  · cases e
  · injection e with e1 _ _
    injection e1 with e1
    injection e1 with e1 _ _
    subst e1
    exact ⟨cur.toList, by unfold BL; rw [hg]⟩
theorem repL_cons {X : Ex} {ch : List Lv} {l : List Tx} {d : Nat} {v : Vs} {r : List Vs} {st : Nat} {acc t : Tx} {st' : Nat} (h : repL X ch l d (v :: r) st acc = some (t, st')) :
    st < 10000 ∧ ∃ p t1 s1, pieceP l v = some p ∧ expandP X (some (⟨v, []⟩ :: ch)) p d (st + 1) = some (t1, s1) ∧ acc.length + t1.length ≤ 8192 ∧ repL X ch l d r s1 (acc ++ t1) = some (t, st') := by
  unfold repL at h
  split at h
  · rename_i hst
    split at h
    · cases h
    · rename_i p hp
      split at h
      · cases h
      · rename_i t1 s1 he
        split at h
        · cases h
        · exact ⟨hst, p, t1, s1, hp, he, by omega, h⟩
  · cases h
theorem active_value {v : Vs} {b : Bool} (h : activeP v = some b) : ∃ x : Option Tx, valueF (some [⟨v, []⟩]) [97, 99, 116, 105, 118, 101] = some x ∧ trueP (x.getD []) = b := by
  unfold activeP at h
  cases hl : lookV v [97, 99, 116, 105, 118, 101] with
  | none =>
    rw [hl] at h
    injection h with h
    exact ⟨none, by simp only [valueF, findP, hl], by rw [← h]; rfl⟩
  | some t =>
    rw [hl] at h
    simp only at h
    split at h
    · rename_i hle
      injection h with h
      exact ⟨some t, by simp only [valueF, findP, hl, if_pos hle], h⟩
    · cases h
set_option maxRecDepth 100000 in
set_option maxHeartbeats 8000000 in
theorem repeat_any {X : Ex} (hX : Okx 21 X) {en : Env} {s t : Tx} {kd : UInt8} {d st st' : Nat} (h : repeatP X kd en s d st = some (t, st')) (hl : s.length ≤ 8192) {B mb : Nat} {w : World} {v : Value} (hC : Cx B w mb st d v en) :
    Calls Tryz.prog 33 #[mkV mb, .int .u8 (kd.toNat : Int), .string (bs s), v] w fun e w' => e = .returned (.string (bs t)) ∧ Lf w mb st' d w' := by
  cases en with
  | none => simp [repeatP] at h
  | some ch =>
  obtain ⟨q, rfl⟩ : ∃ q, v = .pointer q := by
    have hs := hC.seen
    cases ch with
    | nil => exact ⟨none, hs⟩
    | cons lv r => obtain ⟨b, _, _, _, e, _⟩ := hs; exact ⟨_, e⟩
  have h' : repL X ch (piecesP 1 s) d (loopP ch kd) st [] = some (t, st') := h
  clear h
  have hpc := pieces_any s 1 2 (by decide) (by omega) hl w
  have hmem : ∀ x ∈ piecesP 1 s, x.length ≤ 8192 := fun x hx => Nat.le_trans (piecesP_le 1 s x hx) hl
  have hpl := piecesP_len 1 s
  obtain ⟨l, hL⟩ : ∃ l, l = piecesP 1 s := ⟨_, rfl⟩
  obtain ⟨vs, hVS⟩ : ∃ vs, vs = loopP ch kd := ⟨_, rfl⟩
  rw [← hL] at h' hpc hmem hpl
  rw [← hVS] at h'
  have hne : l ≠ [] := fun e => by rw [e] at hpl; simp at hpl
  have HE := Lib.hid (expand_any hX).2
  have HLO := Lib.hid (fun V (hV : ChAt V (.pointer q) ch) => by have := loop_any V (.pointer q) ch kd hV; rw [← hVS] at this; exact this)
  have HPC := Lib.hid hpc
  have HC := Lib.hid hC
  have HH := Lib.hid h'
  have HMEM := Lib.hid hmem
  have HNE := Lib.hid hne
  have HPL := Lib.hid hpl
  clear hX hpc hC h' hmem hne hL hVS hpl
  go_enter Tryz.func33, Tryz.ntmps33
  go_wp2_with fail
  refine HPC.out.mono ?_
  rintro _ w1 ⟨v1, rfl, hown1, hb1⟩
  obtain ⟨g, c1, rfl, hg1, hg2, hcell⟩ := row_open hown1 HNE.out
  obtain ⟨n1, hn1⟩ : ∃ n1, l.length = n1 := ⟨_, rfl⟩
  rw [hn1]
  have hb2 := hb1.alloc hb1.size (.cells #[.slice none 0 0] 51)
  have HOB := Lib.hid (BL.new w1 51 [.slice none 0 0])
  have HC2 := Lib.hid (HC.out.below hb2)
  have HL2 := Lib.hid (HC.out.lf hb2)
  have HROW := Lib.hid (show ∀ V : World, Below w1.heap.size w1 V → ∀ i x, l[i]? = some x → V.cell? ⟨g, i, none⟩ = some (.string (bs x)) from fun V hV i x hx => (hV.cell (p := ⟨g, i, none⟩) hg2).trans (hcell i x hx))
  have HCELL := Lib.hid hcell
  obtain ⟨ys, hys⟩ := row_block hown1
  have HYS := Lib.hid hys
  clear hys
  have HG := Lib.hid (And.intro hg1 hg2)
  have HN1 := Lib.hid hn1
  have hw1 : w.heap.size ≤ w1.heap.size := hb1.size
  clear hown1 hb1 hcell hg1 hg2 hn1 hb2
  go_wp2_with fail
  refine (HLO.out _ HC2.out.seen).mono ?_
  rintro _ w3 ⟨sv, rfl, hsc, hb3⟩
  have HL3 := Lib.hid (HL2.out.trans (HC2.out.lf hb3))
  have HOB3 := Lib.hid (HOB.out.keep (hb3.block _ HOB.out.lt))
  obtain ⟨A, n, us, ⟨rfl, hn0⟩, hn, hcs⟩ : ∃ (A : Option Addr) (n : Nat) (us : List Value), (sv = .slice A n n ∧ n ≤ 1000000) ∧ n = vs.length ∧ ∀ j (hj : j < vs.length), ∃ gb u, A = some ⟨gb, 0, none⟩ ∧ BL w3 gb 25 (us.flatMap fun u => [u, .slice none 0 0]) ∧ us[j]? = some u ∧ VarsAt w3 u vs[j] := by
    rcases hsc with ⟨h1, h2⟩ | ⟨gb, us, ⟨h1, h2⟩, h3, h4, h5⟩
    · exact ⟨none, 0, [], ⟨h2, by omega⟩, by rw [h1]; rfl, fun j hj => by rw [h1] at hj; cases hj⟩
    · exact ⟨_, _, us, ⟨h1, h2⟩, rfl, fun j hj => ⟨gb, us[j], rfl, h4, List.getElem?_eq_getElem (by omega), h5 j _ _ (List.getElem?_eq_getElem (by omega)) (List.getElem?_eq_getElem hj)⟩⟩
  have HCS := Lib.hid hcs
  have HN := Lib.hid hn
  have hb13 : Below w1.heap.size w1 w3 := ((Below.refl w1.heap.size w1).alloc (Nat.le_refl _) (.cells #[.slice none 0 0] 51)).trans (hb3.mono (by simp))
  have HGE := Lib.hid (hb13.block g HG.out.2)
  have HWG := Lib.hid (show w1.heap.size ≤ w3.heap.size from hb13.size)
  have HC3 := Lib.hid (HC2.out.below hb3)
  clear hb13
  clear hsc hcs hn hb3
  obtain ⟨ob, hob⟩ : ∃ ob, ob = w1.heap.size := ⟨_, rfl⟩
  rw [← hob] at HOB3 ⊢
  have HOBW := Lib.hid (show w.heap.size ≤ ob by omega)
  have HOBE := Lib.hid hob
  clear HOB hob
  go_wp2_with fail
  go_loopw [21] (fun i wr => ∃ (k st1 : Nat) (acc : Tx) (vv : Value), i = .int .i64 (k : Int) ∧ k ≤ n ∧ acc.length ≤ 8192 ∧ repL X ch l d (vs.drop k) st1 acc = some (t, st') ∧ Lf w mb st1 d wr ∧ KQ w3 wr ∧ BL wr ob 51 [vv] ∧ wr.ownsRow w.heap.size 5 1 vv acc.length (bytV acc) ∧ wr.heap[g]? = w1.heap[g]?) (fun i _ => n - (intOf i).toNat)
  case atStart => exact ⟨0, st, [], .slice none 0 0, rfl, Nat.zero_le _, by simp, HH.out, HL3.out, KQ.refl _, HOB3.out, World.ownsRow_nil _ _ _ _, HGE.out⟩
  case round =>
    obtain ⟨k, st1, acc, vv, rfl, hk, hacc, hrep, hlf, hlf3, hobr, hown, hcell⟩ := hrel
    by_cases hlt : k < n
    · have j1 : (k : Int) < (n : Int) := by omega
      have hkv : k < vs.length := by rw [← HN.out]; exact hlt
      rw [List.drop_eq_getElem_cons hkv] at hrep
      obtain ⟨hst, p, t1, s1, hp, he, hle, hrep2⟩ := repL_cons hrep
      obtain ⟨gb, u, rfl, hgb, hus, hva⟩ := HCS.out k hkv
      have hgb2 := hlf3 _ _ _ hgb (by decide) (by decide) (by decide)
      have hva2 := hva.kq hlf3
      obtain ⟨hku, huu⟩ := List.getElem?_eq_some_iff.1 hus
      obtain ⟨p0, p1⟩ := two_at (fun u => u) (fun _ => Value.slice none 0 0) us k hku
      rw [huu] at p0
      obtain ⟨A', n', hu⟩ : ∃ A' n', u = .slice A' n' n' := by
        rcases hva2 with ⟨_, e⟩ | ⟨b', ⟨e, _⟩, _⟩
        · exact ⟨_, _, e⟩
        · exact ⟨_, _, e⟩
      have d0 : wr.cell? ⟨gb, k * 2, none⟩ = some u := (hgb2.cell _).trans p0
      have d1 : wr.cell? ⟨gb, k * 2 + 1, none⟩ = some (.slice none 0 0) := (hgb2.cell _).trans p1
      subst hu
      have hw1b : Below wr.heap.size wr (wr.alloc (.cells #[.slice A' n' n', .slice none 0 0] 25)) := (Below.refl _ _).alloc (Nat.le_refl _) _
      have HCR := Lib.hid (HC.out.next hlf)
      have HC4 := Lib.hid (HCR.out.below hw1b)
      have HSTEP := Lib.hid (step_any HC4.out.box hst)
      have HONE := Lib.hid (BL.new wr 25 [.slice A' n' n', .slice none 0 0])
      have HLF := Lib.hid hlf
      have HLF3 := Lib.hid hlf3
      have HOBR := Lib.hid hobr
      have HOWN := Lib.hid hown
      have HCL := Lib.hid hcell
      have HVA := Lib.hid hva2
      have HP := Lib.hid hp
      have HEX := Lib.hid he
      have HLE := Lib.hid hle
      have HREP := Lib.hid hrep2
      have HACC := Lib.hid hacc
      have HW1B := Lib.hid hw1b
      have hmb := HC.out.box.lt
      have HMB := Lib.hid hmb
      have hwr : w.heap.size ≤ wr.heap.size := hlf.only.size
      have HWR := Lib.hid hwr
      clear hlf hlf3 hobr hown hcell hva hva2 hp he hle hrep hrep2 hacc hgb hgb2 p0 p1 hus huu hku hw1b hmb hst
      go_wp2_with fail
      refine HSTEP.out.mono ?_
      rintro _ w2 ⟨rfl, hl2⟩
      have hnm : wr.heap.size ≠ mb := by have := HMB.out; have := HWR.out; omega
      have hone2 := hl2.bl HONE.out hnm
      have o0 : w2.cell? ⟨wr.heap.size, 0, none⟩ = some (.slice A' n' n') := hone2.cell 0
      have o1 : w2.cell? ⟨wr.heap.size, 1, none⟩ = some (.slice none 0 0) := hone2.cell 1
      have hgm : g ∉ [mb] := by rw [List.mem_singleton]; have := HG.out.1; have := HMB.out; omega
      have hgw : g < wr.heap.size := (show BL wr g _ ys from HYS.out.keep HCL.out).lt
      have HCL2 := Lib.hid (show ∀ i x, l[i]? = some x → w2.cell? ⟨g, i, none⟩ = some (.string (bs x)) from fun i x hx => by
        have hcw : wr.cell? ⟨g, i, none⟩ = w1.cell? ⟨g, i, none⟩ := by simp only [World.cell?, HCL.out]
        have hz : (wr.alloc (.cells #[.slice A' n' n', .slice none 0 0] 25)).cell? ⟨g, i, none⟩ = some (.string (bs x)) := (HW1B.out.cell (p := ⟨g, i, none⟩) hgw).trans (hcw.trans (HCELL.out i x hx))
        exact (hl2.only.cell (by simp; omega) hgm i).trans hz)
      have HSB2 := Lib.hid (HC4.out.next hl2)
      have HL12 := Lib.hid hl2
      have HLF2 := Lib.hid (HLF.out.trans ((HCR.out.lf HW1B.out).trans hl2))
      have HONE2 := Lib.hid hone2
      have hw2z : wr.heap.size < w2.heap.size := hone2.lt
      have HW2Z := Lib.hid hw2z
      clear hl2 hone2 hgm hgw hnm
      cases hl0 : l with
      | nil => exact absurd hl0 HNE.out
      | cons a rest =>
        have q0 := HCL2.out 0 a (by rw [hl0]; rfl)
        have hw2b : Below w2.heap.size w2 (w2.alloc (.cells #[.slice A' n' n', .slice none 0 0, .pointer none] 49)) := (Below.refl _ _).alloc (Nat.le_refl _) _
        have hgw2 : g < w2.heap.size := by have : g < wr.heap.size := (show BL wr g _ ys from HYS.out.keep HCL.out).lt; have := HW2Z.out; omega
        have q0a : (w2.alloc (.cells #[.slice A' n' n', .slice none 0 0, .pointer none] 49)).cell? ⟨g, 0, none⟩ = some (.string (bs a)) := (hw2b.cell (p := ⟨g, 0, none⟩) hgw2).trans q0
        have HW2B := Lib.hid hw2b
        have HGW2 := Lib.hid hgw2
        clear hw2b hgw2
        have n1p : 0 < n1 := by have := HPL.out.1; have := HN1.out; omega
        have n1q : (0 : Int) < (n1 : Int) := by omega
        go_wp2_with fail
        go_region
        have hb23 : Below w2.heap.size w2 ((w2.alloc (.cells #[.slice A' n' n', .slice none 0 0, .pointer none] 49)).drew) := HW2B.out.drew
        have hal := (BL.new w2 49 [.slice A' n' n', .slice none 0 0, .pointer none]).drew
        generalize (w2.alloc (.cells #[.slice A' n' n', .slice none 0 0, .pointer none] 49)).drew = W3 at *
        have HCW := Lib.hid (HSB2.out.below hb23)
        have HLWW := Lib.hid (HLF2.out.trans (HSB2.out.lf hb23))
        have HLRW := Lib.hid ((((HCR.out.lf HW1B.out).trans ((HL12.out))).trans (HSB2.out.lf hb23)))
        have hw12 : KQ wr W3 := KQ.kp (HLRW.out.kp HCR.out)
        have HVAW := Lib.hid (HVA.out.kq hw12)
        have hoW : BL W3 wr.heap.size 25 [.slice A' n' n', .slice none 0 0] := HONE2.out.keep (hb23.block _ HONE2.out.lt)
        have o0w : W3.cell? ⟨wr.heap.size, 0, none⟩ = some (.slice A' n' n') := hoW.cell 0
        have o1w : W3.cell? ⟨wr.heap.size, 1, none⟩ = some (.slice none 0 0) := hoW.cell 1
        have HGO := Lib.hid (show g < ob by have := HG.out.2; have := HOBE.out; omega)
        have HALS := Lib.hid (show ChAt W3 (.pointer (some ⟨w2.heap.size, 0, none⟩)) [⟨vs[k], []⟩] from ⟨_, _, _, _, rfl, hal, HVAW.out, .inl ⟨rfl, rfl⟩, rfl⟩)
        have HB23 := Lib.hid hb23
        clear hb23 hal hw12 hoW q0 q0a o0 o1 d0 d1
        cases rest with
        | nil =>
          have hn2 : ((n1 : Int) == 2) = false := beq_eq_false_iff_ne.2 (by have := HN1.out; rw [hl0] at this; simp at this; omega)
          obtain rfl : a = p := by have := HP.out; rw [hl0] at this; simpa [pieceP] using this
          have hb34 : Below W3.heap.size W3 (W3.alloc (.cells #[.slice A' n' n', .slice none 0 0, .pointer q] 49)) := (Below.refl _ _).alloc (Nat.le_refl _) _
          have hn4 := BL.new W3 49 [.slice A' n' n', .slice none 0 0, .pointer q]
          have hC4 := HCW.out.below hb34
          have hseen : ChAt (W3.alloc (.cells #[.slice A' n' n', .slice none 0 0, .pointer q] 49)) (.pointer (some ⟨W3.heap.size, 0, none⟩)) (⟨vs[k], []⟩ :: ch) := ⟨_, _, _, _, rfl, hn4, HVAW.out.kp (Kp.below hb34), .inl ⟨rfl, rfl⟩, hC4.seen⟩
          have HX4 := Lib.hid (HE.out _ _ _ _ _ _ HEX.out (HMEM.out _ (by rw [hl0]; simp)) B _ mb (.pointer (some ⟨W3.heap.size, 0, none⟩)) (⟨hC4.tabs, hC4.low, hC4.box, hseen⟩ : Cx B _ mb (st1 + 1) d _ (some (⟨vs[k], []⟩ :: ch))))
          have HC44 := Lib.hid hC4
          have HB34 := Lib.hid hb34
          clear hb34 hn4 hC4 hseen
          go_wp2_with fail
          refine HX4.out.mono ?_
          rintro _ w5 ⟨rfl, hl5⟩
          have hlw : Lf w mb s1 d w5 := HLWW.out.trans ⟨(Only.of_below HB34.out).trans hl5.only, hl5.box⟩
          have hlr : Lf wr mb s1 d w5 := HLRW.out.trans ⟨(Only.of_below HB34.out).trans hl5.only, hl5.box⟩
          have hobm : ob ≠ mb := by have := HOBW.out; have := HMB.out; omega
          have hob5 := hlr.bl HOBR.out hobm
          have hown5 := own_only HOWN.out hlr.only (fun i hi e => by
            have h1 := (HOWN.out.lt i hi).1
            have h2 := HMB.out
            rw [List.mem_singleton] at e
            omega)
          have hsz5 : w.heap.size ≤ w5.heap.size := hlw.only.size
          have hg5 : w5.heap[g]? = w1.heap[g]? := (hlr.only.block g (show BL wr g _ ys from HYS.out.keep HCL.out).lt (by rw [List.mem_singleton]; have := HG.out.1; have := HMB.out; omega)).trans HCL.out
          have hbg5 : BL w5 g 9 ys := HYS.out.keep hg5
          have hkq5 : KQ w3 w5 := HLF3.out.trans (KQ.kp (hlr.kp HCR.out))
          have HADD := Lib.hid (add_any hob5 hown5 hsz5 HLE.out)
          have HLW5 := Lib.hid hlw
          have HG5 := Lib.hid hg5
          have HKQ5 := Lib.hid hkq5
          have HUF := Lib.hid (fun (b : Nat) (t : TypeId) (xs : List Value) (hb : BL w5 b t xs) (ht : 5 ≠ t) => own_far hown5 hb ht)
          have HOB5 := Lib.hid hob5
          have HBG5 := Lib.hid hbg5
          have HVB := Lib.hid (fun i (hi : vv.ownBlock = some i) => And.intro (HOWN.out.lt i hi).1 (HOWN.out.lt i hi).2)
          have HGF := Lib.hid (show ∀ i, vv.ownBlock = some i → i ≠ g from fun i hi e => HUF.out g _ _ hbg5 (by decide) (by rw [hi, e]))
          clear hl5 hlw hlr hob5 hown5 hsz5 hg5 hkq5 hbg5 hobm
          go_wp2_with fail
          refine HADD.out.mono ?_
          rintro _ w6 ⟨rfl, v2, hob6, hown6, ho6⟩
          have hO6 : ∃ F, Only (ob :: F) w5 w6 ∧ ∀ x ∈ F, w.heap.size ≤ x ∧ x ≠ g ∧ ∀ t xs, BL w5 x t xs → 5 ≠ t → False := by
            cases hvb : vv.ownBlock with
            | none => exact ⟨[], ho6 [] (fun i hi => by rw [hvb] at hi; cases hi), by simp⟩
            | some q => exact ⟨[q], ho6 [q] (fun i hi => by rw [hvb] at hi; injection hi with hi; subst hi; simp), fun x hx => by rw [List.mem_singleton] at hx; subst hx; exact ⟨(HVB.out x hvb).1, HGF.out x hvb, fun t xs hb ht => HUF.out x t xs hb ht hvb⟩⟩
          obtain ⟨F, ho6F, hF⟩ := hO6
          have HL6 := Lib.hid (grows_lf HC.out HLW5.out HOBW.out (fun x hx => (hF x hx).1) ho6F)
          have HKQ6 : Hid (KQ w3 w6) := by
            refine HKQ5.out.trans fun b t xs hb h1 h2 h3 => hb.only ho6F fun hm => ?_
            rcases List.mem_cons.1 hm with e | hm
            · subst e; exact h2 (hb.type HOB5.out)
            · exact (hF b hm).2.2 t xs hb (fun e => h3 e.symm)
          have HG6 : Hid (w6.heap[g]? = w1.heap[g]?) := (ho6F.block g HBG5.out.lt (by
            intro hm
            rcases List.mem_cons.1 hm with e | hm
            · have := HGO.out; omega
            · exact (hF g hm).2.1 rfl)).trans HG5.out
          have HO6 := Lib.hid hob6
          have HOW6 := Lib.hid hown6
          have HA6 := Lib.hid (show (acc ++ t1).length ≤ 8192 by rw [List.length_append]; exact HLE.out)
          clear hob6 hown6 ho6 ho6F hF
          go_wp2_with fail
          go_roundw
          case measure => simp [intOf]; omega
          case rel => exact ⟨k + 1, s1, acc ++ t1, v2, by go_num, by omega, HA6.out, HREP.out, HL6.out, HKQ6.out, HO6.out, HOW6.out, HG6.out⟩
        | cons b rest =>
          have hrest : rest = [] := by have := HPL.out.2; rw [hl0] at this; simp at this; exact this
          subst hrest
          have hn2 : ((n1 : Int) == 2) = true := beq_iff_eq.2 (by have := HN1.out; rw [hl0] at this; simp at this; omega)
          have hn3 : (2 : Int) ≤ (n1 : Int) := by have := beq_iff_eq.1 hn2; omega
          have hpp : (match activeP vs[k] with | none => none | some true => some b | some false => some a) = some p := by have := HP.out; rw [hl0] at this; exact this
          cases hact : activeP vs[k] with
          | none => rw [hact] at hpp; cases hpp
          | some act =>
            rw [hact] at hpp
            obtain ⟨x, hx, hxt⟩ := active_value hact
            have HVC := Lib.hid (value_any W3 _ _ _ HALS.out x hx)
            have HTR := Lib.hid (fun V => true_any (x.getD []) V)
            rw [hxt] at HTR
            clear hx hxt hact
            have hgW : g < W3.heap.size := by have := HG.out.2; have : g < wr.heap.size := (show BL wr g _ ys from HYS.out.keep HCL.out).lt; have := HW2Z.out; have := HB23.out.size; omega
            have hcl3 : W3.cell? ⟨g, 1, none⟩ = some (.string (bs b)) := (HB23.out.cell (p := ⟨g, 1, none⟩) (by show g < w2.heap.size; have : g < wr.heap.size := (show BL wr g _ ys from HYS.out.keep HCL.out).lt; have := HW2Z.out; omega)).trans (HCL2.out 1 b (by rw [hl0]; rfl))
            cases act with
            | true =>
              obtain rfl : b = p := by injection hpp
              go_wp2_with fail
              refine HVC.out.mono ?_
              rintro _ w4 ⟨rfl, hb4⟩
              go_wp2_with fail
              refine (HTR.out _).mono ?_
              rintro _ w44 ⟨rfl, rfl⟩
              have o0x : w4.cell? ⟨wr.heap.size, 0, none⟩ = some (.slice A' n' n') := (hb4.cell (p := ⟨wr.heap.size, 0, none⟩) (by have := HW2Z.out; have := HB23.out.size; show wr.heap.size < W3.heap.size; omega)).trans o0w
              have o1x : w4.cell? ⟨wr.heap.size, 1, none⟩ = some (.slice none 0 0) := (hb4.cell (p := ⟨wr.heap.size, 1, none⟩) (by have := HW2Z.out; have := HB23.out.size; show wr.heap.size < W3.heap.size; omega)).trans o1w
              replace HVAW := Lib.hid (HVAW.out.kp (Kp.below hb4))
              replace HLWW := Lib.hid (HLWW.out.trans (HCW.out.lf hb4))
              replace HLRW := Lib.hid (HLRW.out.trans (HCW.out.lf hb4))
              replace HCW := Lib.hid (HCW.out.below hb4)
              have q1 : w4.cell? ⟨g, 1, none⟩ = some (.string (bs b)) := (hb4.cell (p := ⟨g, 1, none⟩) hgW).trans hcl3
              clear hb4 hcl3
              have hb34 : Below w4.heap.size w4 (w4.alloc (.cells #[.slice A' n' n', .slice none 0 0, .pointer q] 49)) := (Below.refl _ _).alloc (Nat.le_refl _) _
              have hn4 := BL.new w4 49 [.slice A' n' n', .slice none 0 0, .pointer q]
              have hC4 := HCW.out.below hb34
              have hseen : ChAt (w4.alloc (.cells #[.slice A' n' n', .slice none 0 0, .pointer q] 49)) (.pointer (some ⟨w4.heap.size, 0, none⟩)) (⟨vs[k], []⟩ :: ch) := ⟨_, _, _, _, rfl, hn4, HVAW.out.kp (Kp.below hb34), .inl ⟨rfl, rfl⟩, hC4.seen⟩
              have HX4 := Lib.hid (HE.out _ _ _ _ _ _ HEX.out (HMEM.out _ (by rw [hl0]; simp)) B _ mb (.pointer (some ⟨w4.heap.size, 0, none⟩)) (⟨hC4.tabs, hC4.low, hC4.box, hseen⟩ : Cx B _ mb (st1 + 1) d _ (some (⟨vs[k], []⟩ :: ch))))
              have HC44 := Lib.hid hC4
              have HB34 := Lib.hid hb34
              clear hb34 hn4 hC4 hseen
              go_wp2_with fail
              refine HX4.out.mono ?_
              rintro _ w5 ⟨rfl, hl5⟩
              have hlw : Lf w mb s1 d w5 := HLWW.out.trans ⟨(Only.of_below HB34.out).trans hl5.only, hl5.box⟩
              have hlr : Lf wr mb s1 d w5 := HLRW.out.trans ⟨(Only.of_below HB34.out).trans hl5.only, hl5.box⟩
              have hobm : ob ≠ mb := by have := HOBW.out; have := HMB.out; omega
              have hob5 := hlr.bl HOBR.out hobm
              have hown5 := own_only HOWN.out hlr.only (fun i hi e => by
                have h1 := (HOWN.out.lt i hi).1
                have h2 := HMB.out
                rw [List.mem_singleton] at e
                omega)
              have hsz5 : w.heap.size ≤ w5.heap.size := hlw.only.size
              have hg5 : w5.heap[g]? = w1.heap[g]? := (hlr.only.block g (show BL wr g _ ys from HYS.out.keep HCL.out).lt (by rw [List.mem_singleton]; have := HG.out.1; have := HMB.out; omega)).trans HCL.out
              have hbg5 : BL w5 g 9 ys := HYS.out.keep hg5
              have hkq5 : KQ w3 w5 := HLF3.out.trans (KQ.kp (hlr.kp HCR.out))
              have HADD := Lib.hid (add_any hob5 hown5 hsz5 HLE.out)
              have HLW5 := Lib.hid hlw
              have HG5 := Lib.hid hg5
              have HKQ5 := Lib.hid hkq5
              have HUF := Lib.hid (fun (b : Nat) (t : TypeId) (xs : List Value) (hb : BL w5 b t xs) (ht : 5 ≠ t) => own_far hown5 hb ht)
              have HOB5 := Lib.hid hob5
              have HBG5 := Lib.hid hbg5
              have HVB := Lib.hid (fun i (hi : vv.ownBlock = some i) => And.intro (HOWN.out.lt i hi).1 (HOWN.out.lt i hi).2)
              have HGF := Lib.hid (show ∀ i, vv.ownBlock = some i → i ≠ g from fun i hi e => HUF.out g _ _ hbg5 (by decide) (by rw [hi, e]))
              clear hl5 hlw hlr hob5 hown5 hsz5 hg5 hkq5 hbg5 hobm
              go_wp2_with fail
              refine HADD.out.mono ?_
              rintro _ w6 ⟨rfl, v2, hob6, hown6, ho6⟩
              have hO6 : ∃ F, Only (ob :: F) w5 w6 ∧ ∀ x ∈ F, w.heap.size ≤ x ∧ x ≠ g ∧ ∀ t xs, BL w5 x t xs → 5 ≠ t → False := by
                cases hvb : vv.ownBlock with
                | none => exact ⟨[], ho6 [] (fun i hi => by rw [hvb] at hi; cases hi), by simp⟩
                | some q => exact ⟨[q], ho6 [q] (fun i hi => by rw [hvb] at hi; injection hi with hi; subst hi; simp), fun x hx => by rw [List.mem_singleton] at hx; subst hx; exact ⟨(HVB.out x hvb).1, HGF.out x hvb, fun t xs hb ht => HUF.out x t xs hb ht hvb⟩⟩
              obtain ⟨F, ho6F, hF⟩ := hO6
              have HL6 := Lib.hid (grows_lf HC.out HLW5.out HOBW.out (fun x hx => (hF x hx).1) ho6F)
              have HKQ6 : Hid (KQ w3 w6) := by
                refine HKQ5.out.trans fun b t xs hb h1 h2 h3 => hb.only ho6F fun hm => ?_
                rcases List.mem_cons.1 hm with e | hm
                · subst e; exact h2 (hb.type HOB5.out)
                · exact (hF b hm).2.2 t xs hb (fun e => h3 e.symm)
              have HG6 : Hid (w6.heap[g]? = w1.heap[g]?) := (ho6F.block g HBG5.out.lt (by
                intro hm
                rcases List.mem_cons.1 hm with e | hm
                · have := HGO.out; omega
                · exact (hF g hm).2.1 rfl)).trans HG5.out
              have HO6 := Lib.hid hob6
              have HOW6 := Lib.hid hown6
              have HA6 := Lib.hid (show (acc ++ t1).length ≤ 8192 by rw [List.length_append]; exact HLE.out)
              clear hob6 hown6 ho6 ho6F hF
              go_wp2_with fail
              go_roundw
              case measure => simp [intOf]; omega
              case rel => exact ⟨k + 1, s1, acc ++ t1, v2, by go_num, by omega, HA6.out, HREP.out, HL6.out, HKQ6.out, HO6.out, HOW6.out, HG6.out⟩
            | false =>
              obtain rfl : a = p := by injection hpp
              go_wp2_with fail
              refine HVC.out.mono ?_
              rintro _ w4 ⟨rfl, hb4⟩
              go_wp2_with fail
              refine (HTR.out _).mono ?_
              rintro _ w44 ⟨rfl, rfl⟩
              have o0x : w4.cell? ⟨wr.heap.size, 0, none⟩ = some (.slice A' n' n') := (hb4.cell (p := ⟨wr.heap.size, 0, none⟩) (by have := HW2Z.out; have := HB23.out.size; show wr.heap.size < W3.heap.size; omega)).trans o0w
              have o1x : w4.cell? ⟨wr.heap.size, 1, none⟩ = some (.slice none 0 0) := (hb4.cell (p := ⟨wr.heap.size, 1, none⟩) (by have := HW2Z.out; have := HB23.out.size; show wr.heap.size < W3.heap.size; omega)).trans o1w
              replace HVAW := Lib.hid (HVAW.out.kp (Kp.below hb4))
              replace HLWW := Lib.hid (HLWW.out.trans (HCW.out.lf hb4))
              replace HLRW := Lib.hid (HLRW.out.trans (HCW.out.lf hb4))
              replace HCW := Lib.hid (HCW.out.below hb4)
              clear hb4 hcl3
              have hb34 : Below w4.heap.size w4 (w4.alloc (.cells #[.slice A' n' n', .slice none 0 0, .pointer q] 49)) := (Below.refl _ _).alloc (Nat.le_refl _) _
              have hn4 := BL.new w4 49 [.slice A' n' n', .slice none 0 0, .pointer q]
              have hC4 := HCW.out.below hb34
              have hseen : ChAt (w4.alloc (.cells #[.slice A' n' n', .slice none 0 0, .pointer q] 49)) (.pointer (some ⟨w4.heap.size, 0, none⟩)) (⟨vs[k], []⟩ :: ch) := ⟨_, _, _, _, rfl, hn4, HVAW.out.kp (Kp.below hb34), .inl ⟨rfl, rfl⟩, hC4.seen⟩
              have HX4 := Lib.hid (HE.out _ _ _ _ _ _ HEX.out (HMEM.out _ (by rw [hl0]; simp)) B _ mb (.pointer (some ⟨w4.heap.size, 0, none⟩)) (⟨hC4.tabs, hC4.low, hC4.box, hseen⟩ : Cx B _ mb (st1 + 1) d _ (some (⟨vs[k], []⟩ :: ch))))
              have HC44 := Lib.hid hC4
              have HB34 := Lib.hid hb34
              clear hb34 hn4 hC4 hseen
              go_wp2_with fail
              refine HX4.out.mono ?_
              rintro _ w5 ⟨rfl, hl5⟩
              have hlw : Lf w mb s1 d w5 := HLWW.out.trans ⟨(Only.of_below HB34.out).trans hl5.only, hl5.box⟩
              have hlr : Lf wr mb s1 d w5 := HLRW.out.trans ⟨(Only.of_below HB34.out).trans hl5.only, hl5.box⟩
              have hobm : ob ≠ mb := by have := HOBW.out; have := HMB.out; omega
              have hob5 := hlr.bl HOBR.out hobm
              have hown5 := own_only HOWN.out hlr.only (fun i hi e => by
                have h1 := (HOWN.out.lt i hi).1
                have h2 := HMB.out
                rw [List.mem_singleton] at e
                omega)
              have hsz5 : w.heap.size ≤ w5.heap.size := hlw.only.size
              have hg5 : w5.heap[g]? = w1.heap[g]? := (hlr.only.block g (show BL wr g _ ys from HYS.out.keep HCL.out).lt (by rw [List.mem_singleton]; have := HG.out.1; have := HMB.out; omega)).trans HCL.out
              have hbg5 : BL w5 g 9 ys := HYS.out.keep hg5
              have hkq5 : KQ w3 w5 := HLF3.out.trans (KQ.kp (hlr.kp HCR.out))
              have HADD := Lib.hid (add_any hob5 hown5 hsz5 HLE.out)
              have HLW5 := Lib.hid hlw
              have HG5 := Lib.hid hg5
              have HKQ5 := Lib.hid hkq5
              have HUF := Lib.hid (fun (b : Nat) (t : TypeId) (xs : List Value) (hb : BL w5 b t xs) (ht : 5 ≠ t) => own_far hown5 hb ht)
              have HOB5 := Lib.hid hob5
              have HBG5 := Lib.hid hbg5
              have HVB := Lib.hid (fun i (hi : vv.ownBlock = some i) => And.intro (HOWN.out.lt i hi).1 (HOWN.out.lt i hi).2)
              have HGF := Lib.hid (show ∀ i, vv.ownBlock = some i → i ≠ g from fun i hi e => HUF.out g _ _ hbg5 (by decide) (by rw [hi, e]))
              clear hl5 hlw hlr hob5 hown5 hsz5 hg5 hkq5 hbg5 hobm
              go_wp2_with fail
              refine HADD.out.mono ?_
              rintro _ w6 ⟨rfl, v2, hob6, hown6, ho6⟩
              have hO6 : ∃ F, Only (ob :: F) w5 w6 ∧ ∀ x ∈ F, w.heap.size ≤ x ∧ x ≠ g ∧ ∀ t xs, BL w5 x t xs → 5 ≠ t → False := by
                cases hvb : vv.ownBlock with
                | none => exact ⟨[], ho6 [] (fun i hi => by rw [hvb] at hi; cases hi), by simp⟩
                | some q => exact ⟨[q], ho6 [q] (fun i hi => by rw [hvb] at hi; injection hi with hi; subst hi; simp), fun x hx => by rw [List.mem_singleton] at hx; subst hx; exact ⟨(HVB.out x hvb).1, HGF.out x hvb, fun t xs hb ht => HUF.out x t xs hb ht hvb⟩⟩
              obtain ⟨F, ho6F, hF⟩ := hO6
              have HL6 := Lib.hid (grows_lf HC.out HLW5.out HOBW.out (fun x hx => (hF x hx).1) ho6F)
              have HKQ6 : Hid (KQ w3 w6) := by
                refine HKQ5.out.trans fun b t xs hb h1 h2 h3 => hb.only ho6F fun hm => ?_
                rcases List.mem_cons.1 hm with e | hm
                · subst e; exact h2 (hb.type HOB5.out)
                · exact (hF b hm).2.2 t xs hb (fun e => h3 e.symm)
              have HG6 : Hid (w6.heap[g]? = w1.heap[g]?) := (ho6F.block g HBG5.out.lt (by
                intro hm
                rcases List.mem_cons.1 hm with e | hm
                · have := HGO.out; omega
                · exact (hF g hm).2.1 rfl)).trans HG5.out
              have HO6 := Lib.hid hob6
              have HOW6 := Lib.hid hown6
              have HA6 := Lib.hid (show (acc ++ t1).length ≤ 8192 by rw [List.length_append]; exact HLE.out)
              clear hob6 hown6 ho6 ho6F hF
              go_wp2_with fail
              go_roundw
              case measure => simp [intOf]; omega
              case rel => exact ⟨k + 1, s1, acc ++ t1, v2, by go_num, by omega, HA6.out, HREP.out, HL6.out, HKQ6.out, HO6.out, HOW6.out, HG6.out⟩
    · obtain rfl : k = n := by omega
      rw [List.drop_of_length_le (by rw [HN.out]; exact Nat.le_refl _)] at hrep
      unfold repL at hrep
      simp only [Option.some.injEq, Prod.mk.injEq] at hrep
      obtain ⟨rfl, rfl⟩ := hrep
      have c0 : wr.cell? ⟨ob, 0, none⟩ = some vv := hobr.cell 0
      have hcv := own_text hown
      have HL := Lib.hid hlf
      obtain ⟨T, hT⟩ : ∃ T, T = bs acc := ⟨_, rfl⟩
      rw [← hT] at hcv
      have HT := Lib.hid hT
      obtain ⟨A2, c2, rfl⟩ := own_slice hown
      obtain ⟨na, hna⟩ : ∃ na, acc.length = na := ⟨_, rfl⟩
      rw [hna] at c0 hcv
      clear hobr hown hlf hlf3 hT hna hacc hcell
      go_wp2_with fail
      go_ret
      exact ⟨by rw [← HT.out]; rfl, HL.out⟩
end Go.Proofs.YtbiinghmopgjnaaGreatDoor.Fmt
namespace Go.Proofs.YtbiinghmopgjnaaGreatDoor.Fmt
open Go.RowKit

def mdL (m : Md) : List Value := [.string (bs m.letter), .bool false, .int .i64 (m.columns : Int), .string (bs m.src), .string (bs m.dst)]
theorem mdL_one (m : Md) : (mdL m).toArray.all (·.oneCell') = true := by simp [mdL, Value.oneCell']
theorem mdL_one2 (m : Md) : ∀ u ∈ mdL m, u.oneCell' = true := by
  intro u hu; simp [mdL] at hu; rcases hu with h | h | h | h | h <;> (subst h; rfl)
set_option maxRecDepth 100000 in
theorem taken_any (c : UInt8) (r : Tx) (hl : (c :: r).length ≤ 8192) (w : World) :
    Calls Tryz.prog 63 #[.string (bs (c :: r))] w fun e w' => e = .returned (.tuple #[.string (bs [c]), .string (bs r)]) ∧ Below w.heap.size w w' := by
  have hz : (bs (c :: r)).size = (c :: r).length := bs_size _
  have e1 : (bs (c :: r)).extract 0 1 = bs [c] := bs_one_ext c r
  have e2 : (bs (c :: r)).extract 1 (bs (c :: r)).size = bs r := by rw [bs_drop]; rfl
  have hne : ((bs (c :: r)).toList == ([] : List UInt8)) = false := by rw [bs_tl]; rfl
  have z1 : (1 : Int) ≤ ((bs (c :: r)).size : Int) := by rw [hz]; simp; omega
  have z8 : ((bs (c :: r)).size : Int) ≤ 8192 := by omega
  have E1 := Lib.hid e1
  have E2 := Lib.hid e2
  clear e1 e2 hz hl
  generalize bs (c :: r) = S at *
  go_enter Tryz.func63, Tryz.ntmps63
  go_wp2_with fail
  go_region
  go_wp2_with fail
  go_ret2
  exact ⟨by rw [← E1.out, ← E2.out]; rfl, (Below.refl _ _).drew⟩
set_option maxRecDepth 100000 in
set_option maxHeartbeats 2000000 in
theorem number_3 (f : UInt8) (r : Tx) (hf : f = 58 ∨ f = 59) (hl : (51 :: f :: r).length ≤ 8192) (w : World) :
    Calls Tryz.prog 51 #[.string (bs (51 :: f :: r)), .int .i64 3] w fun e w' => e = .returned (.tuple #[.int .i64 3, .string (bs (f :: r))]) ∧ Below w.heap.size w w' := by
  have hz : (bs (51 :: f :: r)).size = (51 :: f :: r).length := bs_size _
  have e2 : (bs (51 :: f :: r)).extract 1 (bs (51 :: f :: r)).size = bs (f :: r) := by rw [bs_drop]; rfl
  have z2 : (2 : Int) ≤ ((bs (51 :: f :: r)).size : Int) := by rw [hz]; simp; omega
  have z8 : ((bs (51 :: f :: r)).size : Int) ≤ 8192 := by omega
  have hlt0 : 0 < (bs (51 :: f :: r)).size := by omega
  have hlt1 : 1 < (bs (51 :: f :: r)).size := by omega
  have b0 : (((bs (51 :: f :: r))[0].toNat : Nat) : Int) = 51 := rfl
  have b1 : (((bs (51 :: f :: r))[1].toNat : Nat) : Int) = (f.toNat : Int) := rfl
  have m1 : (2 : Int) ≤ min (3 : Int) ((bs (51 :: f :: r)).size : Int) := by omega
  have hfi : (48 : Int) ≤ (f.toNat : Int) ∧ ¬ (f.toNat : Int) ≤ 57 := by rcases hf with rfl | rfl <;> exact ⟨by decide, by decide⟩
  obtain ⟨f1, f2⟩ := hfi
  have E2 := Lib.hid e2
  clear e2 hz hl hf
  generalize bs (51 :: f :: r) = S at *
  go_enter Tryz.func51, Tryz.ntmps51
  go_wp2_with fail
  refine wp_loop_rounds 2 ?_
  rw [rounds_succ]
  go_wp2_with fail
  rw [rounds_succ]
  go_wp2_with fail
  go_region
  go_wp2_with fail
  go_ret2
  exact ⟨by rw [← E2.out]; rfl, (Below.refl _ _).drew⟩
def zeroM : List Value := [.string { data := #[] }, .bool false, .int .i64 0, .string { data := #[] }, .string { data := #[] }]

set_option maxRecDepth 100000 in
set_option maxHeartbeats 2000000 in
theorem first_98 (r : Tx) (hl : ((98 : UInt8) :: r).length ≤ 8192) (w : World) :
    Calls Tryz.prog 62 #[.string (bs (98 :: r))] w fun e w' => e = .returned (.tuple #[.agg (mdL ⟨[98], 0, [], []⟩).toArray, .string (bs r)]) ∧ Below w.heap.size w w' := by
  have HR := Lib.hid (BL.new w 78 zeroM)
  have hbr : Below w.heap.size w (w.alloc (.cells zeroM.toArray 78)) := (Below.refl _ _).alloc (Nat.le_refl _) _
  have H1 : Hid (Calls Tryz.prog 63 #[.string (bs (98 :: r))] (w.alloc (.cells zeroM.toArray 78)) fun e w' => e = .returned (.tuple #[.string { data := #[98] }, .string (bs r)]) ∧ Below (w.alloc (.cells zeroM.toArray 78)).heap.size (w.alloc (.cells zeroM.toArray 78)) w') := taken_any 98 r hl _
  have HBR := Lib.hid hbr
  clear hbr
  go_enter Tryz.func62, Tryz.ntmps62
  go_wp2_with fail
  refine H1.out.mono ?_
  rintro _ w1 ⟨rfl, hb1⟩
  have HR1 := Lib.hid (HR.out.keep (hb1.block _ HR.out.lt))
  have hb01 : Below w.heap.size w w1 := HBR.out.trans (hb1.mono HBR.out.size)
  have hlt := HR1.out.lt
  have HR2 := Lib.hid (HR1.out.alloc (.cells zeroM.toArray 78))
  have HM2 := Lib.hid (BL.new w1 78 zeroM)
  have HB2 := Lib.hid (hb01.alloc hb01.size (.cells zeroM.toArray 78))
  have HLT := Lib.hid hlt
  clear hb1 hb01 hlt
  go_wp2_with (first
    | (refine wpList_store_at rfl 78 _ _ rfl w1.heap.size 0 (mdL ⟨[98], 0, [], []⟩) rfl rfl 78 _ HM2.out (by decide) (by kernel_rfl) (mdL_one _) ?_; intro w6 h6 ho6 hs6; have HM6 := Lib.hid (show BL w6 w1.heap.size 78 (mdL ⟨[98], 0, [], []⟩) from h6); have HR6 := Lib.hid (HR2.out.only ho6 (by simp; exact Nat.ne_of_lt HLT.out)); have HB6 := Lib.hid (HB2.out.trans (ho6.below (by simp; have := HB2.out.size; simpa using this) (by simp; exact Nat.le_of_lt HLT.out))); clear h6 ho6 hs6)
    | (refine wpList_load_mid rfl 78 _ rfl w1.heap.size 0 rfl (mdL ⟨[98], 0, [], []⟩) _ (HM6.out.range (o := 0) (vs := mdL ⟨[98], 0, [], []⟩) (fun j v hj => by rw [Nat.zero_add]; exact hj)) Tryz.underlying78 rfl (by kernel_rfl) ?_)
    | (refine wpList_store_at rfl 78 _ _ rfl w.heap.size 0 (mdL ⟨[98], 0, [], []⟩) rfl rfl 78 _ HR6.out (by decide) (by kernel_rfl) (mdL_one _) ?_; intro w7 h7 ho7 hs7; have HR7 := Lib.hid (show BL w7 w.heap.size 78 (mdL ⟨[98], 0, [], []⟩) from h7); have HB7 := Lib.hid (HB6.out.trans (ho7.below (HB6.out.size) (by simp))); clear h7 ho7 hs7))
  refine bodyPost_ret (results_ct rfl _ _ w.heap.size _ _ _ rfl HR7.out Tryz.underlying78 rfl (by kernel_rfl)) rfl ?_
  exact ⟨rfl, HB7.out⟩

set_option maxRecDepth 100000 in
set_option maxHeartbeats 2000000 in
theorem first_117 (r : Tx) (hl : ((117 : UInt8) :: r).length ≤ 8192) (w : World) :
    Calls Tryz.prog 62 #[.string (bs (117 :: r))] w fun e w' => e = .returned (.tuple #[.agg (mdL ⟨[117], 0, [], []⟩).toArray, .string (bs r)]) ∧ Below w.heap.size w w' := by
  have HR := Lib.hid (BL.new w 78 zeroM)
  have hbr : Below w.heap.size w (w.alloc (.cells zeroM.toArray 78)) := (Below.refl _ _).alloc (Nat.le_refl _) _
  have H1 : Hid (Calls Tryz.prog 63 #[.string (bs (117 :: r))] (w.alloc (.cells zeroM.toArray 78)) fun e w' => e = .returned (.tuple #[.string { data := #[117] }, .string (bs r)]) ∧ Below (w.alloc (.cells zeroM.toArray 78)).heap.size (w.alloc (.cells zeroM.toArray 78)) w') := taken_any 117 r hl _
  have HBR := Lib.hid hbr
  clear hbr
  go_enter Tryz.func62, Tryz.ntmps62
  go_wp2_with fail
  refine H1.out.mono ?_
  rintro _ w1 ⟨rfl, hb1⟩
  have HR1 := Lib.hid (HR.out.keep (hb1.block _ HR.out.lt))
  have hb01 : Below w.heap.size w w1 := HBR.out.trans (hb1.mono HBR.out.size)
  have hlt := HR1.out.lt
  have HR2 := Lib.hid (HR1.out.alloc (.cells zeroM.toArray 78))
  have HM2 := Lib.hid (BL.new w1 78 zeroM)
  have HB2 := Lib.hid (hb01.alloc hb01.size (.cells zeroM.toArray 78))
  have HLT := Lib.hid hlt
  clear hb1 hb01 hlt
  go_wp2_with (first
    | (refine wpList_store_at rfl 78 _ _ rfl w1.heap.size 0 (mdL ⟨[117], 0, [], []⟩) rfl rfl 78 _ HM2.out (by decide) (by kernel_rfl) (mdL_one _) ?_; intro w6 h6 ho6 hs6; have HM6 := Lib.hid (show BL w6 w1.heap.size 78 (mdL ⟨[117], 0, [], []⟩) from h6); have HR6 := Lib.hid (HR2.out.only ho6 (by simp; exact Nat.ne_of_lt HLT.out)); have HB6 := Lib.hid (HB2.out.trans (ho6.below (by simp; have := HB2.out.size; simpa using this) (by simp; exact Nat.le_of_lt HLT.out))); clear h6 ho6 hs6)
    | (refine wpList_load_mid rfl 78 _ rfl w1.heap.size 0 rfl (mdL ⟨[117], 0, [], []⟩) _ (HM6.out.range (o := 0) (vs := mdL ⟨[117], 0, [], []⟩) (fun j v hj => by rw [Nat.zero_add]; exact hj)) Tryz.underlying78 rfl (by kernel_rfl) ?_)
    | (refine wpList_store_at rfl 78 _ _ rfl w.heap.size 0 (mdL ⟨[117], 0, [], []⟩) rfl rfl 78 _ HR6.out (by decide) (by kernel_rfl) (mdL_one _) ?_; intro w7 h7 ho7 hs7; have HR7 := Lib.hid (show BL w7 w.heap.size 78 (mdL ⟨[117], 0, [], []⟩) from h7); have HB7 := Lib.hid (HB6.out.trans (ho7.below (HB6.out.size) (by simp))); clear h7 ho7 hs7))
  refine bodyPost_ret (results_ct rfl _ _ w.heap.size _ _ _ rfl HR7.out Tryz.underlying78 rfl (by kernel_rfl)) rfl ?_
  exact ⟨rfl, HB7.out⟩

set_option maxRecDepth 100000 in
set_option maxHeartbeats 2000000 in
theorem first_108 (r : Tx) (hl : ((108 : UInt8) :: r).length ≤ 8192) (w : World) :
    Calls Tryz.prog 62 #[.string (bs (108 :: r))] w fun e w' => e = .returned (.tuple #[.agg (mdL ⟨[108], 0, [], []⟩).toArray, .string (bs r)]) ∧ Below w.heap.size w w' := by
  have HR := Lib.hid (BL.new w 78 zeroM)
  have hbr : Below w.heap.size w (w.alloc (.cells zeroM.toArray 78)) := (Below.refl _ _).alloc (Nat.le_refl _) _
  have H1 : Hid (Calls Tryz.prog 63 #[.string (bs (108 :: r))] (w.alloc (.cells zeroM.toArray 78)) fun e w' => e = .returned (.tuple #[.string { data := #[108] }, .string (bs r)]) ∧ Below (w.alloc (.cells zeroM.toArray 78)).heap.size (w.alloc (.cells zeroM.toArray 78)) w') := taken_any 108 r hl _
  have HBR := Lib.hid hbr
  clear hbr
  go_enter Tryz.func62, Tryz.ntmps62
  go_wp2_with fail
  refine H1.out.mono ?_
  rintro _ w1 ⟨rfl, hb1⟩
  have HR1 := Lib.hid (HR.out.keep (hb1.block _ HR.out.lt))
  have hb01 : Below w.heap.size w w1 := HBR.out.trans (hb1.mono HBR.out.size)
  have hlt := HR1.out.lt
  have HR2 := Lib.hid (HR1.out.alloc (.cells zeroM.toArray 78))
  have HM2 := Lib.hid (BL.new w1 78 zeroM)
  have HB2 := Lib.hid (hb01.alloc hb01.size (.cells zeroM.toArray 78))
  have HLT := Lib.hid hlt
  clear hb1 hb01 hlt
  go_wp2_with (first
    | (refine wpList_store_at rfl 78 _ _ rfl w1.heap.size 0 (mdL ⟨[108], 0, [], []⟩) rfl rfl 78 _ HM2.out (by decide) (by kernel_rfl) (mdL_one _) ?_; intro w6 h6 ho6 hs6; have HM6 := Lib.hid (show BL w6 w1.heap.size 78 (mdL ⟨[108], 0, [], []⟩) from h6); have HR6 := Lib.hid (HR2.out.only ho6 (by simp; exact Nat.ne_of_lt HLT.out)); have HB6 := Lib.hid (HB2.out.trans (ho6.below (by simp; have := HB2.out.size; simpa using this) (by simp; exact Nat.le_of_lt HLT.out))); clear h6 ho6 hs6)
    | (refine wpList_load_mid rfl 78 _ rfl w1.heap.size 0 rfl (mdL ⟨[108], 0, [], []⟩) _ (HM6.out.range (o := 0) (vs := mdL ⟨[108], 0, [], []⟩) (fun j v hj => by rw [Nat.zero_add]; exact hj)) Tryz.underlying78 rfl (by kernel_rfl) ?_)
    | (refine wpList_store_at rfl 78 _ _ rfl w.heap.size 0 (mdL ⟨[108], 0, [], []⟩) rfl rfl 78 _ HR6.out (by decide) (by kernel_rfl) (mdL_one _) ?_; intro w7 h7 ho7 hs7; have HR7 := Lib.hid (show BL w7 w.heap.size 78 (mdL ⟨[108], 0, [], []⟩) from h7); have HB7 := Lib.hid (HB6.out.trans (ho7.below (HB6.out.size) (by simp))); clear h7 ho7 hs7))
  refine bodyPost_ret (results_ct rfl _ _ w.heap.size _ _ _ rfl HR7.out Tryz.underlying78 rfl (by kernel_rfl)) rfl ?_
  exact ⟨rfl, HB7.out⟩

theorem noDash (x : UInt8) (hx : x = 51) (r : Tx) (w : World) : Calls Tryz.prog 30 #[.string (bs (x :: r)), .string { data := #[45] }] w fun e w' => e = .returned (.tuple #[.string (bs (x :: r)), .bool false]) ∧ w = w' := by
  refine (Tryz.strings_CutPrefix (bs (x :: r)) (bs [45]) w).mono fun e w' he => ?_
  obtain ⟨he, rfl⟩ := he
  refine ⟨he.trans ?_, rfl⟩
  rw [bs_list, bs_list]
  have hp : Lib.hasPrefix (x :: r) [45] = false := by rw [show x = 51 from hx]; rfl
  have ht : Lib.trimPrefix (x :: r) [45] = x :: r := by unfold Lib.trimPrefix; rw [hp]; rfl
  rw [hp, ht]
  rfl
set_option maxRecDepth 100000 in
set_option maxHeartbeats 4000000 in
theorem first_eq (f : UInt8) (r : Tx) (hf : f = 58 ∨ f = 59) (hl : (61 :: 51 :: f :: r).length ≤ 8192) (w : World) :
    Calls Tryz.prog 62 #[.string (bs (61 :: 51 :: f :: r))] w fun e w' => e = .returned (.tuple #[.agg (mdL ⟨[61], 3, [], []⟩).toArray, .string (bs (f :: r))]) ∧ Below w.heap.size w w' := by
  have HR := Lib.hid (BL.new w 78 zeroM)
  have hbr : Below w.heap.size w (w.alloc (.cells zeroM.toArray 78)) := (Below.refl _ _).alloc (Nat.le_refl _) _
  have H1 : Hid (Calls Tryz.prog 63 #[.string (bs (61 :: 51 :: f :: r))] (w.alloc (.cells zeroM.toArray 78)) fun e w' => e = .returned (.tuple #[.string { data := #[61] }, .string (bs (51 :: f :: r))]) ∧ Below (w.alloc (.cells zeroM.toArray 78)).heap.size (w.alloc (.cells zeroM.toArray 78)) w') := taken_any 61 _ hl _
  have HBR := Lib.hid hbr
  have H2 := Lib.hid (noDash 51 rfl (f :: r))
  have H3 := Lib.hid (fun V => number_3 f r hf (by simp at hl ⊢; omega) V)
  clear hbr hf hl
  generalize bs (61 :: 51 :: f :: r) = S at *
  generalize bs (51 :: f :: r) = S2 at *
  generalize bs (f :: r) = S3 at *
  go_enter Tryz.func62, Tryz.ntmps62
  go_wp2_with fail
  refine H1.out.mono ?_
  rintro _ w1 ⟨rfl, hb1⟩
  have HR1 := Lib.hid (HR.out.keep (hb1.block _ HR.out.lt))
  have hb01 : Below w.heap.size w w1 := HBR.out.trans (hb1.mono HBR.out.size)
  have hlt := HR1.out.lt
  have HR2 := Lib.hid (HR1.out.alloc (.cells zeroM.toArray 78))
  have HM2 := Lib.hid (BL.new w1 78 zeroM)
  have HB2 := Lib.hid (hb01.alloc hb01.size (.cells zeroM.toArray 78))
  have HLT := Lib.hid hlt
  clear hb1 hb01 hlt
  go_wp2_with (first
    | (refine wpList_store_at rfl 78 _ _ rfl w1.heap.size 0 (mdL ⟨[61], 0, [], []⟩) rfl rfl 78 _ HM2.out (by decide) (by kernel_rfl) (mdL_one _) ?_; intro w6 h6 ho6 hs6; have HM6 := Lib.hid (show BL w6 w1.heap.size 78 (mdL ⟨[61], 0, [], []⟩) from h6); have HR6 := Lib.hid (HR2.out.only ho6 (by simp; exact Nat.ne_of_lt HLT.out)); have HB6 := Lib.hid (HB2.out.trans (ho6.below (by simp; have := HB2.out.size; simpa using this) (by simp; exact Nat.le_of_lt HLT.out))); clear h6 ho6 hs6))
  refine (H2.out _).mono ?_
  rintro _ w7 ⟨rfl, rfl⟩
  have c1 := HM6.out.cell 1
  have f1 := HM6.out.frozen 1
  replace c1 : w6.cell? ⟨w1.heap.size, 1, none⟩ = some (.bool false) := c1
  obtain ⟨mb, hmb⟩ : ∃ mb, mb = w1.heap.size := ⟨_, rfl⟩
  rw [← hmb] at c1 f1 HM6 HLT ⊢
  clear hmb HM2 HB2 HR2 HR1 HR
  have HM8 := Lib.hid (show BL (w6.setCell ⟨mb, 1, none⟩ (.bool false)) mb 78 (mdL ⟨[61], 0, [], []⟩) from HM6.out.set_ 1 (.bool false))
  have ho7 : Only [mb] w6 (w6.setCell ⟨mb, 1, none⟩ (.bool false)) := (Only.refl _ _).setCell (p := ⟨mb, 1, none⟩) (.inl (by simp)) _
  have HR8 := Lib.hid (HR6.out.only ho7 (by simp; exact Nat.ne_of_lt HLT.out))
  have HB8 := Lib.hid (HB6.out.trans (ho7.below HB6.out.size (by simp; exact Nat.le_of_lt HLT.out)))
  clear ho7 HM6 HR6 HB6
  go_wp2_with fail
  refine (H3.out _).mono ?_
  rintro _ w9 ⟨rfl, hb9⟩
  have HM9 := Lib.hid (HM8.out.keep (hb9.block _ HM8.out.lt))
  have HR9 := Lib.hid (HR8.out.keep (hb9.block _ HR8.out.lt))
  have HB9 := Lib.hid (HB8.out.trans (hb9.mono HB8.out.size))
  clear hb9 c1 f1
  have c2 : w9.cell? ⟨mb, 2, none⟩ = some (.int .i64 0) := HM9.out.cell 2
  have f2 := HM9.out.frozen 2
  have HMX := Lib.hid (show BL (w9.setCell ⟨mb, 2, none⟩ (.int .i64 3)) mb 78 (mdL ⟨[61], 3, [], []⟩) from HM9.out.set_ 2 (.int .i64 3))
  have hoX : Only [mb] w9 (w9.setCell ⟨mb, 2, none⟩ (.int .i64 3)) := (Only.refl _ _).setCell (p := ⟨mb, 2, none⟩) (.inl (by simp)) _
  have HRX := Lib.hid (HR9.out.only hoX (by simp; exact Nat.ne_of_lt HLT.out))
  have HBX := Lib.hid (HB9.out.trans (hoX.below HB9.out.size (by simp; exact Nat.le_of_lt HLT.out)))
  clear hoX
  go_wp2_with (first
    | (refine wpList_load_mid rfl 78 _ rfl mb 0 rfl (mdL ⟨[61], 3, [], []⟩) _ (HMX.out.range (o := 0) (vs := mdL ⟨[61], 3, [], []⟩) (fun j v hj => by rw [Nat.zero_add]; exact hj)) Tryz.underlying78 rfl (by kernel_rfl) ?_)
    | (refine wpList_store_at rfl 78 _ _ rfl w.heap.size 0 (mdL ⟨[61], 3, [], []⟩) rfl rfl 78 _ HRX.out (by decide) (by kernel_rfl) (mdL_one _) ?_; intro wz hz hoz hsz; have HRZ := Lib.hid (show BL wz w.heap.size 78 (mdL ⟨[61], 3, [], []⟩) from hz); have HBZ := Lib.hid (HBX.out.trans (hoz.below (HBX.out.size) (by simp))); clear hz hoz hsz))
  refine bodyPost_ret (results_ct rfl _ _ w.heap.size _ _ _ rfl HRZ.out Tryz.underlying78 rfl (by kernel_rfl)) rfl ?_
  exact ⟨rfl, HBZ.out⟩
end Go.Proofs.YtbiinghmopgjnaaGreatDoor.Fmt
namespace Go.Proofs.YtbiinghmopgjnaaGreatDoor.Fmt
open Go.RowKit
def splitRow : List Value := [.string { data := #[98] }, .string { data := #[81] }, .string { data := #[58, 120] }]
theorem split_3 (m : Int) (w : World) (hm : w.cell? ⟨0, 0, none⟩ = some (.int .i64 m)) : Calls Tryz.prog 89 #[.string { data := #[98, 47, 81, 47, 58, 120] }, .string { data := #[47] }, .int .i64 3] w fun e w' => e = .returned (.slice (some ⟨w.heap.size, 0, none⟩) 3 3) ∧ w' = w.alloc (.cells splitRow.toArray 9) := by
  refine (Tryz.strings_SplitN { data := #[98, 47, 81, 47, 58, 120] } { data := #[47] } 3 m w (by decide) hm (by decide) (by decide) (by decide)).mono fun e w' he => ?_
  obtain ⟨he, hw⟩ := he
  refine ⟨he.trans ?_, hw.trans ?_⟩
  · kernel_rfl
  · kernel_rfl
set_option maxRecDepth 100000 in
set_option maxHeartbeats 4000000 in
theorem first_s {B : Nat} (w : World) (ht : TB B w) (hB : B ≤ w.heap.size) :
    Calls Tryz.prog 62 #[.string (bs [115, 47, 98, 47, 81, 47, 58, 120])] w fun e w' => e = .returned (.tuple #[.agg (mdL ⟨[115], 0, [98], [81]⟩).toArray, .string (bs [58, 120])]) ∧ Below w.heap.size w w' := by
  have HR := Lib.hid (BL.new w 78 zeroM)
  have hbr : Below w.heap.size w (w.alloc (.cells zeroM.toArray 78)) := (Below.refl _ _).alloc (Nat.le_refl _) _
  have H1 : Hid (Calls Tryz.prog 63 #[.string (bs [115, 47, 98, 47, 81, 47, 58, 120])] (w.alloc (.cells zeroM.toArray 78)) fun e w' => e = .returned (.tuple #[.string { data := #[115] }, .string { data := #[47, 98, 47, 81, 47, 58, 120] }]) ∧ Below (w.alloc (.cells zeroM.toArray 78)).heap.size (w.alloc (.cells zeroM.toArray 78)) w') := taken_any 115 _ (by decide) _
  have H2 : Hid (∀ V : World, Calls Tryz.prog 63 #[.string { data := #[47, 98, 47, 81, 47, 58, 120] }] V fun e w' => e = .returned (.tuple #[.string { data := #[47] }, .string { data := #[98, 47, 81, 47, 58, 120] }]) ∧ Below V.heap.size V w') := fun V => taken_any 47 [98, 47, 81, 47, 58, 120] (by decide) V
  have HBR := Lib.hid hbr
  have HT := Lib.hid ht
  clear hbr ht
  go_enter Tryz.func62, Tryz.ntmps62
  go_wp2_with fail
  refine H1.out.mono ?_
  rintro _ w1 ⟨rfl, hb1⟩
  have HR1 := Lib.hid (HR.out.keep (hb1.block _ HR.out.lt))
  have hb01 : Below w.heap.size w w1 := HBR.out.trans (hb1.mono HBR.out.size)
  have hlt := HR1.out.lt
  have HR2 := Lib.hid (HR1.out.alloc (.cells zeroM.toArray 78))
  have HM2 := Lib.hid (BL.new w1 78 zeroM)
  have HB2 := Lib.hid (hb01.alloc hb01.size (.cells zeroM.toArray 78))
  have HLT := Lib.hid hlt
  clear hb1 hb01 hlt
  go_wp2_with (first
    | (refine wpList_store_at rfl 78 _ _ rfl w1.heap.size 0 (mdL ⟨[115], 0, [], []⟩) rfl rfl 78 _ HM2.out (by decide) (by kernel_rfl) (mdL_one _) ?_; intro w6 h6 ho6 hs6; have HM6 := Lib.hid (show BL w6 w1.heap.size 78 (mdL ⟨[115], 0, [], []⟩) from h6); have HR6 := Lib.hid (HR2.out.only ho6 (by simp; exact Nat.ne_of_lt HLT.out)); have HB6 := Lib.hid (HB2.out.trans (ho6.below (by simp; have := HB2.out.size; simpa using this) (by simp; exact Nat.le_of_lt HLT.out))); clear h6 ho6 hs6))
  refine (H2.out _).mono ?_
  rintro _ w7 ⟨rfl, hb7⟩
  obtain ⟨mb, hmb⟩ : ∃ mb, mb = w1.heap.size := ⟨_, rfl⟩
  rw [← hmb] at HM6 HLT ⊢
  clear hmb HM2 HB2 HR2 HR1 HR
  have HM7 := Lib.hid (HM6.out.keep (hb7.block _ HM6.out.lt))
  have HR7 := Lib.hid (HR6.out.keep (hb7.block _ HR6.out.lt))
  have HB7 := Lib.hid (HB6.out.trans (hb7.mono HB6.out.size))
  clear hb7 HM6 HR6 HB6
  have hlo := (HT.out.below (HB7.out.mono hB)).most.1
  obtain ⟨m, hm⟩ := (HT.out.below (HB7.out.mono hB)).most.2
  have H3 := Lib.hid (split_3 m w7 hm)
  clear hlo hm
  go_wp2_with fail
  refine H3.out.mono ?_
  rintro _ w8 ⟨rfl, h8⟩
  have hL8 : BL w8 w7.heap.size 9 splitRow := by rw [h8]; exact BL.new _ _ _
  have HM8 : Hid (BL w8 mb 78 (mdL ⟨[115], 0, [], []⟩)) := by rw [h8]; exact Lib.hid (HM7.out.alloc _)
  have HR8 : Hid (BL w8 w.heap.size 78 zeroM) := by rw [h8]; exact Lib.hid (HR7.out.alloc _)
  have HB8 : Hid (Below w.heap.size w w8) := by rw [h8]; exact Lib.hid (HB7.out.alloc HB7.out.size _)
  obtain ⟨lb, hlb⟩ : ∃ lb, lb = w7.heap.size := ⟨_, rfl⟩
  have HNE : Hid (mb < lb) := by rw [hlb]; exact Lib.hid HM7.out.lt
  rw [← hlb] at hL8 ⊢
  clear h8 HM7 HR7 HB7 hlb H3
  have l0 : w8.cell? ⟨lb, 0, none⟩ = some (.string { data := #[98] }) := hL8.cell 0
  have l1 : w8.cell? ⟨lb, 1, none⟩ = some (.string { data := #[81] }) := hL8.cell 1
  have l2 : w8.cell? ⟨lb, 2, none⟩ = some (.string { data := #[58, 120] }) := hL8.cell 2
  have c3 : w8.cell? ⟨mb, 3, none⟩ = some (.string { data := #[] }) := HM8.out.cell 3
  have c4 : w8.cell? ⟨mb, 4, none⟩ = some (.string { data := #[] }) := HM8.out.cell 4
  have f3 := HM8.out.frozen 3
  have f4 := HM8.out.frozen 4
  clear hL8
  go_wp2_with fail
  have ne1 : ¬ mb = lb := Nat.ne_of_lt HNE.out
  have ne2 : ¬ lb = mb := Ne.symm ne1
  go_region
  have hoX : Only [mb] w8 (((w8.setCell ⟨mb, 3, none⟩ (.string { data := #[98] })).setCell ⟨mb, 4, none⟩ (.string { data := #[81] })).drew) := (((Only.refl _ _).setCell (p := ⟨mb, 3, none⟩) (.inl (by simp)) _).setCell (p := ⟨mb, 4, none⟩) (.inl (by simp)) _).drew
  have HMX : Hid (BL (((w8.setCell ⟨mb, 3, none⟩ (.string { data := #[98] })).setCell ⟨mb, 4, none⟩ (.string { data := #[81] })).drew) mb 78 (mdL ⟨[115], 0, [98], [81]⟩)) := ((HM8.out.set_ 3 (.string { data := #[98] })).set_ 4 (.string { data := #[81] })).drew
  have HRX := Lib.hid (HR8.out.only hoX (by simp; exact Nat.ne_of_lt HLT.out))
  have HBX := Lib.hid (HB8.out.trans (hoX.below HB8.out.size (by simp; exact Nat.le_of_lt HLT.out)))
  clear hoX l0 l1 l2 c3 c4 f3 f4 HR8 HB8 HM8 ne1 ne2 HNE
  generalize ((w8.setCell ⟨mb, 3, none⟩ (.string { data := #[98] })).setCell ⟨mb, 4, none⟩ (.string { data := #[81] })).drew = wx at *
  go_wp2_with (first
    | (refine wpList_load_mid rfl 78 _ rfl mb 0 rfl (mdL ⟨[115], 0, [98], [81]⟩) _ (HMX.out.range (o := 0) (vs := mdL ⟨[115], 0, [98], [81]⟩) (fun j v hj => by rw [Nat.zero_add]; exact hj)) Tryz.underlying78 rfl (by kernel_rfl) ?_)
    | (refine wpList_store_at rfl 78 _ _ rfl w.heap.size 0 (mdL ⟨[115], 0, [98], [81]⟩) rfl rfl 78 _ HRX.out (by decide) (by kernel_rfl) (mdL_one _) ?_; intro wz hz hoz hsz; have HRZ := Lib.hid (show BL wz w.heap.size 78 (mdL ⟨[115], 0, [98], [81]⟩) from hz); have HBZ := Lib.hid (HBX.out.trans (hoz.below (HBX.out.size) (by simp))); clear hz hoz hsz))
  refine bodyPost_ret (results_ct rfl _ _ w.heap.size _ _ _ rfl HRZ.out Tryz.underlying78 rfl (by kernel_rfl)) rfl ?_
  exact ⟨rfl, HBZ.out⟩
theorem first_any {s : Tx} {m : Md} {r : Tx} (h : firstP s = some (m, r)) (hl : s.length ≤ 8192) {B : Nat} (w : World) (ht : TB B w) (hB : B ≤ w.heap.size) :
    Calls Tryz.prog 62 #[.string (bs s)] w fun e w' => e = .returned (.tuple #[.agg (mdL m).toArray, .string (bs r)]) ∧ Below w.heap.size w w' := by
  unfold firstP at h
  split at h
  · cases h
  · rename_i c r0
    split at h
    · rename_i hc
      subst hc
      split at h
      · rename_i e f r'
        split at h
        · rename_i hef
          obtain ⟨rfl, hf⟩ := hef
          simp only [Option.some.injEq, Prod.mk.injEq] at h
          obtain ⟨rfl, rfl⟩ := h
          exact first_eq f r' hf hl w
        · cases h
      · cases h
    · split at h
      · rename_i hc
        subst hc
        split at h
        · rename_i hr
          subst hr
          simp only [Option.some.injEq, Prod.mk.injEq] at h
          obtain ⟨rfl, rfl⟩ := h
          exact first_s w ht hB
        · cases h
      · split at h
        · rename_i hc
          simp only [Option.some.injEq, Prod.mk.injEq] at h
          obtain ⟨rfl, rfl⟩ := h
          rcases hc with rfl | rfl | rfl
          · exact first_98 _ hl w
          · exact first_117 _ hl w
          · exact first_108 _ hl w
        · cases h
end Go.Proofs.YtbiinghmopgjnaaGreatDoor.Fmt
namespace Go.Proofs.YtbiinghmopgjnaaGreatDoor.Fmt
open Go.RowKit
def mdsC (l : List Md) : List Value := l.flatMap mdL
theorem mdsC_app (l : List Md) (p : Md) : mdsC (l ++ [p]) = mdsC l ++ mdL p := by simp [mdsC]
theorem info_mod : (Tryz.prog.info? 78).map (fun i => (i.zero, i.size, i.bytes)) = some (some (.agg #[.string { data := #[] }, .bool false, .int .i64 0, .string { data := #[] }, .string { data := #[] }]), 5, 64) := by kernel_rfl
section
variable {ops : Array Oper} {rest : List Oper} {op : Oper} {a : Act} {w : World} {Q : Exit → Act → World → Prop}
/-- One modifier appended to a row of the call's own. -/
theorem wpList_app_mod (hgd : op.guard = none) (s x : Operand) (ho : op.op = .call { callee := .builtin .append, args := #[s, x], argTypes := #[73, 73] })
    (B : Nat) (v : Value) (l : List Md) (y : Md) (n : Nat) (hn0 : n = l.length) (hs : a.eval s = v) (hown : w.ownsRow B 78 5 v n (mdsC l)) (g c : Nat) (hx : a.eval x = .slice (some ⟨g, 0, none⟩) 1 c) (hg : BL w g 78 (mdL y)) (hB : B ≤ w.heap.size) (hn : n ≤ 100000)
    (h : ∀ v' w', w'.ownsRow B 78 5 v' (n + 1) (mdsC (l ++ [y])) → w.grownBy w' v.ownBlock → wpList Tryz.prog ops Q rest (a.put op.dst v') w') :
    wpList Tryz.prog ops Q (op :: rest) a w := by
  obtain ⟨i0, hi0, hz0, hz1, hz2⟩ := info_parts info_mod
  refine wpList_append_own_at w hgd s x 73 ho B 78 i0 _ 5 64 Tryz.underlying73 hi0 hz0 hz1 hz2 rfl (by decide) v n (mdsC l) hs hown ⟨g, 0, none⟩ 1 c (mdL y) hx rfl
    (fun j u hj => by rw [Addr.add_mid, Nat.zero_add, hg.cell j]; exact hj) (mdL_one2 y) (by unfold maxLen; omega) (by omega) hB ?_
  intro v' w' h2 h3 _ _
  refine h v' w' ?_ h3
  rw [mdsC_app]
  exact h2
end
theorem size_mod : (Tryz.prog.info? 78).map (·.size) = some 5 := by kernel_rfl
theorem firstP_len {s : Tx} {m : Md} {r : Tx} (h : firstP s = some (m, r)) : r.length ≤ s.length := by
  unfold firstP at h
  split at h
  · cases h
  · split at h
    · split at h
      · split at h
        · simp only [Option.some.injEq, Prod.mk.injEq] at h
          obtain ⟨_, rfl⟩ := h
          simp
        · cases h
      · cases h
    · split at h
      · split at h
        · rename_i hr
          subst hr
          simp only [Option.some.injEq, Prod.mk.injEq] at h
          obtain ⟨_, rfl⟩ := h
          simp
        · cases h
      · split at h
        · simp only [Option.some.injEq, Prod.mk.injEq] at h
          obtain ⟨_, rfl⟩ := h
          simp
        · cases h
theorem modsP_succ {k : Nat} {s : Tx} {L : List Md} {t : Tx} (h : modsP (k + 1) s = some (L, t)) : ∃ m r, (firstP s = some (m, 58 :: r) ∧ L = [m] ∧ t = r) ∨ (∃ l, firstP s = some (m, 59 :: r) ∧ modsP k r = some (l, t) ∧ L = m :: l) := by
  unfold modsP at h
  cases hf : firstP s with
  | none => rw [hf] at h; cases h
  | some p =>
    obtain ⟨m, r⟩ := p
    rw [hf] at h
    simp only at h
    cases r with
    | nil => cases h
    | cons c r' =>
      simp only at h
      split at h
      · rename_i hc
        subst hc
        simp only [Option.some.injEq, Prod.mk.injEq] at h
        exact ⟨m, r', .inl ⟨rfl, h.1.symm, h.2.symm⟩⟩
      · split at h
        · rename_i hc
          subst hc
          cases hm : modsP k r' with
          | none => rw [hm] at h; cases h
          | some q =>
            obtain ⟨l, t'⟩ := q
            rw [hm] at h
            simp only [Option.some.injEq, Prod.mk.injEq] at h
            obtain ⟨rfl, rfl⟩ := h
            exact ⟨m, r', .inr ⟨l, rfl, hm, rfl⟩⟩
        · cases h
set_option maxRecDepth 100000 in
set_option maxHeartbeats 8000000 in
theorem modifiers_any {k0 : Nat} {s t : Tx} {L : List Md} (h : modsP k0 s = some (L, t)) (hl : s.length ≤ 8192) (hk0 : k0 ≤ 8192) {B : Nat} (w : World) (ht : TB B w) (hB : B ≤ w.heap.size) :
    Calls Tryz.prog 44 #[.string (bs s)] w fun e w' => ∃ v, e = .returned (.tuple #[v, .string (bs t)]) ∧ w'.ownsRow w.heap.size 78 5 v L.length (mdsC L) ∧ L.length ≤ 8192 ∧ t.length ≤ 8192 ∧ Below w.heap.size w w' := by
  have HT := Lib.hid ht
  have HE := Lib.hid h
  have HLL := Lib.hid hl
  obtain ⟨S0, hS0⟩ : ∃ S0, S0 = bs s := ⟨_, rfl⟩
  rw [← hS0]
  have HS0 := Lib.hid hS0
  clear h ht hl hS0
  go_enter Tryz.func44, Tryz.ntmps44
  go_wp2_with fail
  go_loopg [0, 4, 5] k0 (fun k c lv sg wr => ∃ (acc : List Md), wr.ownsRow w.heap.size 78 5 lv acc.length (mdsC acc) ∧ acc.length + k ≤ 8192 ∧ Below w.heap.size w wr ∧ ((∃ s1 l1, c = .string (bs s1) ∧ sg = .string { data := #[59] } ∧ s1.length ≤ 8192 ∧ modsP k s1 = some (l1, t) ∧ L = acc ++ l1) ∨ (c = .string (bs t) ∧ sg = .string { data := #[58] } ∧ L = acc ∧ t.length ≤ 8192)))
  case atStart => exact ⟨[], World.ownsRow_nil _ _ _ _, by simp; exact hk0, Below.refl _ _, .inl ⟨s, L, by rw [HS0.out], rfl, HLL.out, HE.out, rfl⟩⟩
  case round =>
    obtain ⟨acc, hown, hacc, hb, hcase⟩ := hrel
    rcases hcase with ⟨s1, l1, rfl, rfl, hs1, hm, hL⟩ | ⟨rfl, rfl, rfl, htl⟩
    · cases gk with
      | zero => simp [modsP] at hm
      | succ gj =>
        clear HE HS0 HLL hk0
        obtain ⟨m, r, hh⟩ := modsP_succ hm
        obtain ⟨x, hx, hf⟩ : ∃ x : UInt8, (x = 58 ∨ x = 59) ∧ firstP s1 = some (m, x :: r) := by
          rcases hh with ⟨h1, _⟩ | ⟨_, h1, _⟩
          · exact ⟨58, .inl rfl, h1⟩
          · exact ⟨59, .inr rfl, h1⟩
        have hrl : (x :: r).length ≤ 8192 := Nat.le_trans (firstP_len hf) hs1
        have hrl2 : r.length ≤ 8192 := by simp at hrl; omega
        obtain ⟨n, hn⟩ : ∃ n, acc.length = n := ⟨_, rfl⟩
        have hn1 : n ≤ 100000 := by omega
        have hb0 : Below w.heap.size w (wr.alloc (.cells zeroM.toArray 78)) := hb.alloc hb.size _
        have H1 := Lib.hid (first_any hf hs1 (wr.alloc (.cells zeroM.toArray 78)) (HT.out.below (hb0.mono hB)) (Nat.le_trans hB hb0.size))
        have H2 := Lib.hid (fun V => taken_any x r hrl V)
        have HM0 := Lib.hid (BL.new wr 78 zeroM)
        have HO0 := Lib.hid (hown.alloc (.cells zeroM.toArray 78))
        have HWR0 := Lib.hid hb.size
        have HFR := Lib.hid (fun i hi => (hown.lt i hi).2)
        have HB0 := Lib.hid hb0
        have HN := Lib.hid hn
        have HN1 := Lib.hid hn1
        have HACC := Lib.hid hacc
        have HX := Lib.hid hx
        have HHH := Lib.hid hh
        have HF1 := Lib.hid hf
        have HRL := Lib.hid hrl2
        have HLL := Lib.hid hL
        obtain ⟨A, c, rfl⟩ := own_slice hown
        rw [hn] at HO0 HFR ⊢
        clear hb0 hown hn hn1 hacc hx hh hrl hrl2 hL hb hm hf hs1
        generalize bs s1 = S1 at *
        go_wp2_with fail
        refine H1.out.mono ?_
        rintro _ w1 ⟨rfl, hb1⟩
        have HM1 := Lib.hid (HM0.out.keep (hb1.block _ HM0.out.lt))
        have HO1 := Lib.hid (own_only (F := []) HO0.out (Only.of_below hb1) (fun _ _ h => by cases h))
        have HB1 := Lib.hid (HB0.out.trans (hb1.mono HB0.out.size))
        obtain ⟨mb, hmb⟩ : ∃ mb, mb = wr.heap.size := ⟨_, rfl⟩
        have HWR : Hid (w.heap.size ≤ mb) := by rw [hmb]; exact HWR0
        rw [← hmb] at HM1 HFR ⊢
        clear hb1 HM0 HO0 HB0 H1 hmb
        go_wp2_with (first
          | (refine wpList_store_at rfl 78 _ _ rfl mb 0 (mdL m) rfl rfl 78 _ HM1.out (by show 0 + 5 ≤ 5; omega) size_mod (mdL_one _) ?_; intro w6 h6 ho6 hs6; have HM6 := Lib.hid (show BL w6 mb 78 (mdL m) from h6); have HO6 := Lib.hid (own_only (F := [mb]) HO1.out ho6 (fun k hk h => by have := HFR.out k hk; simp at h; omega)); have HB6 := Lib.hid (HB1.out.trans (ho6.below HB1.out.size (by simp; exact HWR.out))); clear h6 ho6 hs6)
          | (refine wpList_load_mid rfl 78 _ rfl mb 0 rfl [.string (bs m.letter), .bool false, .int .i64 (m.columns : Int), .string (bs m.src), .string (bs m.dst)] _ (HM6.out.range (o := 0) (vs := [.string (bs m.letter), .bool false, .int .i64 (m.columns : Int), .string (bs m.src), .string (bs m.dst)]) (fun j v hj => by rw [Nat.zero_add]; exact hj)) Tryz.underlying78 rfl size_mod ?_)
          | (at_builtin; refine wpList_app_mod rfl _ _ rfl w.heap.size (.slice A n c) acc m n HN.out.symm rfl (HO6.out.alloc (.cells (mdL m).toArray 78)) _ 1 rfl (BL.new _ _ _) (HB6.out.alloc HB6.out.size _).size HN1.out ?_; intro v5 w5 ho5 hg5; obtain ⟨A5, c5, rfl⟩ := own_slice ho5; have HO5 := Lib.hid ho5; have HB5 := Lib.hid ((HB6.out.alloc HB6.out.size (.cells (mdL m).toArray 78)).grown hg5 (HB6.out.alloc HB6.out.size (.cells (mdL m).toArray 78)).size (fun i hi => ((HO6.out.alloc (.cells (mdL m).toArray 78)).lt i hi).1)); clear ho5 hg5))
        rcases HX.out with rfl | rfl
        · have H3 : Hid (Calls Tryz.prog 63 #[.string (bs (58 :: r))] w5 fun e w' => e = .returned (.tuple #[.string { data := #[58] }, .string (bs r)]) ∧ Below w5.heap.size w5 w') := H2.out w5
          refine H3.out.mono ?_
          rintro _ w9 ⟨rfl, hb9⟩
          have HO9 := Lib.hid (own_only (F := []) HO5.out (Only.of_below hb9) (fun _ _ h => by cases h))
          have HB9 := Lib.hid (HB5.out.trans (hb9.mono HB5.out.size))
          clear hb9
          have HLEN : Hid ((acc ++ [m]).length = n + 1) := Lib.hid (by rw [List.length_append, HN.out]; rfl)
          have HF : Hid (L = acc ++ [m] ∧ t = r) := by
            rcases HHH.out with ⟨_, h2, h3⟩ | ⟨l, h1, _⟩
            · exact Lib.hid ⟨by rw [HLL.out, h2], h3⟩
            · exact absurd (HF1.out.symm.trans h1) (by simp)
          go_wp2_with fail
          go_roundg gj
          case measure => omega
          case rel => exact ⟨acc ++ [m], by rw [HLEN.out]; exact HO9.out, by rw [HLEN.out]; have := HACC.out; have := HN.out; omega, HB9.out, .inr ⟨by rw [HF.out.2], rfl, HF.out.1, by rw [HF.out.2]; exact HRL.out⟩⟩
        · have H3 : Hid (Calls Tryz.prog 63 #[.string (bs (59 :: r))] w5 fun e w' => e = .returned (.tuple #[.string { data := #[59] }, .string (bs r)]) ∧ Below w5.heap.size w5 w') := H2.out w5
          refine H3.out.mono ?_
          rintro _ w9 ⟨rfl, hb9⟩
          have HO9 := Lib.hid (own_only (F := []) HO5.out (Only.of_below hb9) (fun _ _ h => by cases h))
          have HB9 := Lib.hid (HB5.out.trans (hb9.mono HB5.out.size))
          clear hb9
          have HLEN : Hid ((acc ++ [m]).length = n + 1) := Lib.hid (by rw [List.length_append, HN.out]; rfl)
          have HF : Hid (∃ l, modsP gj r = some (l, t) ∧ L = (acc ++ [m]) ++ l) := by
            rcases HHH.out with ⟨h1, _⟩ | ⟨l, _, h1, h2⟩
            · exact absurd (HF1.out.symm.trans h1) (by simp)
            · exact Lib.hid ⟨l, h1, by rw [HLL.out, h2]; simp⟩
          go_wp2_with fail
          go_roundg gj
          case measure => omega
          case rel =>
            obtain ⟨l, h1, h2⟩ := HF.out
            exact ⟨acc ++ [m], by rw [HLEN.out]; exact HO9.out, by rw [HLEN.out]; have := HACC.out; have := HN.out; omega, HB9.out, .inl ⟨r, l, rfl, rfl, HRL.out, h1, h2⟩⟩
    · obtain ⟨A, c, rfl⟩ := own_slice hown
      have HO := Lib.hid hown
      have HB := Lib.hid hb
      have HN := Lib.hid (show L.length ≤ 8192 by omega)
      have HTL := Lib.hid htl
      obtain ⟨nL, hnL⟩ : ∃ nL, L.length = nL := ⟨_, rfl⟩
      rw [hnL] at HO HN ⊢
      have HNL := Lib.hid hnL
      clear hown hb hacc hnL htl
      go_wp2_with fail
      go_ret2
      exact ⟨_, rfl, by rw [HNL.out]; exact HO.out, by rw [HNL.out]; exact HN.out, HTL.out, HB.out⟩
end Go.Proofs.YtbiinghmopgjnaaGreatDoor.Fmt
namespace Go.Proofs.YtbiinghmopgjnaaGreatDoor.Fmt
open Go.RowKit

def u8s (l : List UInt8) : List Value := l.map fun b => Value.int .u8 (b.toNat : Int)
/-- The slice v holds just these bytes, in a row of the call's own (marked behind its end, or not). -/
def OwnsB (w : World) (base : Nat) (v : Value) (l : List UInt8) : Prop :=
  ∃ g cap cur fz, v = .slice (some ⟨g, 0, none⟩) l.length cap ∧ base ≤ g ∧ w.heap[g]? = some (.cells cur 5 fz) ∧ cap ≤ cur.size ∧ l.length ≤ cap ∧ (fz = (0, 0) ∨ cur.size ≤ fz.1) ∧ cur.toList.take l.length = u8s l

theorem OwnsB.below {w w' : World} {base B : Nat} {v : Value} {l : List UInt8} (h : OwnsB w base v l) (hb : Below B w w') (hB : w.heap.size ≤ B) : OwnsB w' base v l := by
  obtain ⟨g, cap, cur, fz, h1, h2, h3, h4⟩ := h
  exact ⟨g, cap, cur, fz, h1, h2, (hb.block g (Nat.lt_of_lt_of_le (Array.getElem?_eq_some_iff.1 h3).1 hB)).trans h3, h4⟩

/-- '[]byte(s)'. -/
theorem bytes_of (w : World) (s : ByteArray) : ∃ v W, (convert 9 27 (.string s)).run Tryz.prog w = .ok v W ∧ OwnsB W w.heap.size v s.data.toList ∧ Below w.heap.size w W := by
  have hr := run_bytes_of_string (P := Tryz.prog) w 9 27 5 s Tryz.underlying9 Tryz.underlying27 Tryz.underlying5
  have hsz : s.data.toList.length = s.size := by rw [Array.length_toList]; rfl
  have hge := grownCap_ge w s.size 0 5
  refine ⟨_, _, hr, ⟨w.heap.size, _, _, _, by rw [hsz], Nat.le_refl _, heap_alloc_new _ _, ?_, by rw [hsz]; exact hge, .inr (Nat.le_refl _), ?_⟩, (Below.refl _ _).drew.alloc (Nat.le_refl _) _⟩
  · simp only [bytesRow, Array.size_append, Array.size_map, Array.size_replicate]
    have : s.data.size = s.size := rfl
    omega
  · simp only [bytesRow, Array.toList_append, Array.toList_map]
    rw [List.take_left']
    · rfl
    · simp

theorem OwnsB.cells {w : World} {base : Nat} {v : Value} {l : List UInt8} (h : OwnsB w base v l) (c : Nat) (A : Option Addr) (hv : v = .slice A l.length c) :
    (convert 27 9 v).run Tryz.prog w = .ok (.string ⟨l.toArray⟩) w := by
  obtain ⟨g, cap, cur, fz, rfl, h2, h3, h4, h5, h6, h7⟩ := h
  refine run_convert_bytes_back (P := Tryz.prog) w 27 9 5 ⟨g, 0, none⟩ cap l Tryz.underlying27 Tryz.underlying5 Tryz.underlying9 fun j hj => ?_
  have e2 : (⟨g, 0, none⟩ : Addr).add j = ⟨g, j, none⟩ := by unfold Addr.add; split <;> simp_all
  rw [e2, cell_of_row w g j cur _ fz h3]
  have h8 : (cur.toList.take l.length)[j]? = (u8s l)[j]? := by rw [h7]
  rw [List.getElem?_take, if_pos hj] at h8
  rw [← Array.getElem?_toList, h8]
  simp [u8s, List.getElem?_eq_getElem hj]

theorem setCell_heap {w : World} {g i : Nat} {cs : Array Value} {t : TypeId} {fz : Nat × Nat} (h : w.heap[g]? = some (.cells cs t fz)) (u : Value) : (w.setCell ⟨g, i, none⟩ u).heap[g]? = some (.cells (cs.setIfInBounds i u) t fz) := by
  simp [World.setCell, Array.getElem?_modify, h]


def lw (b : UInt8) : UInt8 := if 97 ≤ b.toNat ∧ b.toNat ≤ 122 then b - 32 else b
def low (l : Tx) : Tx := l.map lw
theorem lw_yes {c : UInt8} (h1 : 97 ≤ c.toNat) (h2 : c.toNat ≤ 122) : ((lw c).toNat : Int) = (c.toNat : Int) - 97 + 65 := by
  unfold lw
  rw [if_pos ⟨h1, h2⟩, UInt8.toNat_sub]
  show (((256 - 32 + c.toNat) % 256 : Nat) : Int) = _
  omega
theorem lw_no {c : UInt8} (h : ¬ (97 ≤ c.toNat ∧ c.toNat ≤ 122)) : lw c = c := by unfold lw; rw [if_neg h]
/-- The first k letters made small. -/
def lowk (k : Nat) (l : Tx) : Tx := low (l.take k) ++ l.drop k
theorem lowk_len (k : Nat) (l : Tx) : (lowk k l).length = l.length := by simp [lowk, low]; omega
theorem lowk_zero (l : Tx) : lowk 0 l = l := rfl
theorem lowk_all (l : Tx) : lowk l.length l = low l := by simp [lowk]
theorem lowk_succ (k : Nat) (l : Tx) (h : k < l.length) : lowk (k + 1) l = (lowk k l).set k (lw l[k]) := by
  unfold lowk low
  rw [List.take_succ_eq_append_getElem h, List.map_append, List.append_assoc]
  have hl : (List.map lw (List.take k l)).length = k := by rw [List.length_map, List.length_take]; omega
  rw [List.set_append_right _ _ (by omega), hl, Nat.sub_self, List.drop_eq_getElem_cons h]
  rfl
theorem lowk_at (k : Nat) (l : Tx) (h : k < l.length) : (lowk k l)[k]? = some l[k] := by
  unfold lowk low
  have hl : (List.map lw (List.take k l)).length = k := by rw [List.length_map, List.length_take]; omega
  rw [List.getElem?_append_right (by omega), hl, Nat.sub_self, List.drop_eq_getElem_cons h]
  rfl
theorem lowk_same (k : Nat) (l : Tx) (h : k < l.length) (hl : lw l[k] = l[k]) : lowk (k + 1) l = lowk k l := by
  rw [lowk_succ k l h, hl]
  refine List.ext_getElem? fun i => ?_
  rw [List.getElem?_set]
  by_cases e : k = i
  · subst e
    rw [if_pos rfl, lowk_at k l h]
    simp [lowk_len, h]
  · rw [if_neg e]

/-- A row of bytes of the call's own, in block g. -/
def RowB (w : World) (g cap : Nat) (l : Tx) : Prop :=
  ∃ cur fz, w.heap[g]? = some (.cells cur 5 fz) ∧ cap ≤ cur.size ∧ l.length ≤ cap ∧ (fz = (0, 0) ∨ cur.size ≤ fz.1) ∧ cur.toList.take l.length = u8s l
theorem RowB.cell {w : World} {g cap : Nat} {l : Tx} (h : RowB w g cap l) (i : Nat) (x : UInt8) (hx : l[i]? = some x) : w.cell? ⟨g, i, none⟩ = some (.int .u8 (x.toNat : Int)) := by
  obtain ⟨cur, fz, h3, h4, h5, h6, h7⟩ := h
  have hi : i < l.length := (List.getElem?_eq_some_iff.1 hx).1
  rw [cell_of_row w g i cur _ fz h3]
  have h8 : (cur.toList.take l.length)[i]? = (u8s l)[i]? := by rw [h7]
  rw [List.getElem?_take, if_pos hi] at h8
  rw [← Array.getElem?_toList, h8]
  simp [u8s, hx]
theorem RowB.frozen {w : World} {g cap : Nat} {l : Tx} (h : RowB w g cap l) (i : Nat) (hi : i < l.length) : w.frozen? ⟨g, i, none⟩ = false := by
  obtain ⟨cur, fz, h3, h4, h5, h6, h7⟩ := h
  obtain ⟨f1, f2⟩ := fz
  simp only [World.frozen?, h3]
  rcases h6 with h6 | h6
  · injection h6 with e1 e2
    subst e1; subst e2
    simp
  · simp only at h6
    have : ¬ f1 ≤ i := by omega
    simp [this]
theorem RowB.set_ {w : World} {g cap : Nat} {l : Tx} (h : RowB w g cap l) (i : Nat) (x : UInt8) (v : Int) (hv : v = (x.toNat : Int)) : RowB (w.setCell ⟨g, i, none⟩ (.int .u8 v)) g cap (l.set i x) := by
  obtain ⟨cur, fz, h3, h4, h5, h6, h7⟩ := h
  refine ⟨cur.setIfInBounds i (.int .u8 v), fz, setCell_heap h3 _, by simpa using h4, by simpa using h5, by simpa using h6, ?_⟩
  rw [Array.toList_setIfInBounds, List.length_set, List.take_set, h7, hv]
  simp [u8s]
theorem RowB.lt {w : World} {g cap : Nat} {l : Tx} (h : RowB w g cap l) : g < w.heap.size := by
  obtain ⟨cur, fz, h3, _⟩ := h
  exact (Array.getElem?_eq_some_iff.1 h3).1
theorem RowB.text {w : World} {g cap : Nat} {l : Tx} (h : RowB w g cap l) (n : Nat) (hn : n = l.length) :
    (convert 27 9 (.slice (some ⟨g, 0, none⟩) n cap)).run Tryz.prog w = .ok (.string (bs l)) w := by
  subst hn
  refine run_convert_bytes_back (P := Tryz.prog) w 27 9 5 ⟨g, 0, none⟩ cap l Tryz.underlying27 Tryz.underlying5 Tryz.underlying9 fun j hj => ?_
  have e2 : (⟨g, 0, none⟩ : Addr).add j = ⟨g, j, none⟩ := by unfold Addr.add; split <;> simp_all
  rw [e2]
  exact h.cell j _ (List.getElem?_eq_getElem hj)
theorem rowB_of (w : World) (s : ByteArray) : ∃ W g cap, (convert 9 27 (.string s)).run Tryz.prog w = .ok (.slice (some ⟨g, 0, none⟩) s.size cap) W ∧ w.heap.size ≤ g ∧ RowB W g cap s.data.toList ∧ Below w.heap.size w W := by
  obtain ⟨v, W, hr, ⟨g, cap, cur, fz, rfl, hg, h3⟩, hb⟩ := bytes_of w s
  have e : s.data.toList.length = s.size := by rw [Array.length_toList]; rfl
  refine ⟨W, g, cap, ?_, hg, ⟨cur, fz, h3⟩, hb⟩
  rw [hr, e]

set_option maxRecDepth 100000 in
set_option maxHeartbeats 400000 in
theorem upper_any (l : Tx) (w : World) (hs : l.length ≤ 140737488355328) :
    Calls Tryz.prog 73 #[.string (bs l)] w fun e w' => e = .returned (.string (bs (low l))) ∧ Below w.heap.size w w' := by
  obtain ⟨W, g, cap, hcv, hg, hrow, hb⟩ := rowB_of w (bs l)
  rw [bs_list] at hrow
  rw [bs_size] at hcv
  generalize hS : bs l = S at hcv
  go_enter Tryz.func73, Tryz.ntmps73
  go_wp2
  have hbs := hb.size
  go_loopw [10] (fun i wr => ∃ k : Nat, k ≤ l.length ∧ i = .int .i64 (k : Int) ∧ RowB wr g cap (lowk k l) ∧ Below w.heap.size w wr) (fun i _ => l.length - (intOf i).toNat)
  case atStart => exact ⟨0, Nat.zero_le _, rfl, hrow, hb⟩
  case round =>
    obtain ⟨k, hk, rfl, hr, hbr⟩ := hrel
    have hlt2 := hr.lt
    by_cases hlt : k < l.length
    · have hcell := hr.cell k _ (lowk_at k l hlt)
      have hfz := hr.frozen k (by rw [lowk_len]; exact hlt)
      by_cases h1 : 97 ≤ l[k].toNat ∧ l[k].toNat ≤ 122
      · have hset := hr.set_ k (lw l[k]) _ (lw_yes h1.1 h1.2).symm
        rw [← lowk_succ k l hlt] at hset
        have h2 : ((l[k].toNat : Int)) ≤ 122 := by omega
        have h3 : 97 ≤ ((l[k].toNat : Int)) := by omega
        clear h1 hr hrow
        generalize l[k].toNat = c at *
        go_wp2
        go_roundw
        case rel => exact ⟨k + 1, by omega, by go_num, hset, hbr.setCell (by simpa using hg) _⟩
        case measure => simp [intOf]; omega
      · have hsame := lowk_same k l hlt (lw_no h1)
        have hr2 : RowB wr g cap (lowk (k + 1) l) := by rw [hsame]; exact hr
        have h3 : l[k].toNat < 256 := UInt8.toNat_lt _
        clear hr hrow hsame
        generalize l[k].toNat = c at *
        by_cases h4 : 97 ≤ c
        · have h5 : 122 < c := by omega
          clear h1
          go_wp2
          go_roundw
          case rel => exact ⟨k + 1, by omega, by go_num, hr2, hbr⟩
          case measure => simp [intOf]; omega
        · clear h1
          go_wp2
          go_roundw
          case rel => exact ⟨k + 1, by omega, by go_num, hr2, hbr⟩
          case measure => simp [intOf]; omega
    · obtain rfl : k = l.length := by omega
      rw [lowk_all] at hr
      have hcv2 := hr.text l.length (by simp [low])
      go_wp2
      go_ret
      exact ⟨rfl, hbr⟩
end Go.Proofs.YtbiinghmopgjnaaGreatDoor.Fmt
namespace Go.Proofs.YtbiinghmopgjnaaGreatDoor.Fmt
open Go.RowKit
theorem cut_3 {B : Nat} (w : World) (ht : TB B w) (hB : B ≤ w.heap.size) : Calls Tryz.prog 67 #[.string { data := #[97, 47, 98, 46, 99] }, .int .i64 3] w fun e w' => e = .returned (.string { data := #[97, 47, 98] }) ∧ Below w.heap.size w w' := by
  refine (Cel.cut_any { data := #[97, 47, 98, 46, 99] } 3 w ht.cel (Nat.le_trans ht.low hB) (by decide)).mono fun e w' he => ?_
  obtain ⟨he, hb⟩ := he
  exact ⟨he.trans (by kernel_rfl), hb⟩
theorem rep_s {B : Nat} (w : World) (ht : TB B w) : Calls Tryz.prog 70 #[.string { data := #[97, 47, 98, 46, 99] }, .string { data := #[98] }, .string { data := #[81] }] w fun e w' => e = .returned (.string { data := #[97, 47, 81, 46, 99] }) ∧ Below w.heap.size w w' := by
  obtain ⟨hlo, m, hm⟩ := ht.most
  refine (Tryz.strings_ReplaceAll { data := #[97, 47, 98, 46, 99] } { data := #[98] } { data := #[81] } m w (by decide) hm (by decide) (by decide +kernel)).mono fun e w' he => ?_
  obtain ⟨he, hb⟩ := he
  exact ⟨he.trans (by kernel_rfl), hb⟩
theorem last_b (w : World) : Calls Tryz.prog 71 #[.string { data := #[97, 47, 98, 46, 99] }, .int .u8 47] w fun e w' => e = .returned (.int .i64 1) ∧ w = w' := by
  refine (Tryz.strings_LastIndexByte { data := #[97, 47, 98, 46, 99] } 47 (by decide) w).mono fun e w' he => ?_
  obtain ⟨he, hb⟩ := he
  exact ⟨he.trans (by kernel_rfl), hb.symm⟩
theorem upper_ab (w : World) : Calls Tryz.prog 73 #[.string { data := #[97, 47, 98] }] w fun e w' => e = .returned (.string { data := #[65, 47, 66] }) ∧ Below w.heap.size w w' := upper_any [97, 47, 98] w (by decide)
set_option maxRecDepth 100000 in
set_option maxHeartbeats 2000000 in
theorem apply_eq (X Y : ByteArray) {B : Nat} (w : World) (ht : TB B w) (hB : B ≤ w.heap.size) :
    Calls Tryz.prog 46 #[.agg #[.string { data := #[61] }, .bool false, .int .i64 3, .string X, .string Y], .string { data := #[97, 47, 98, 46, 99] }] w fun e w' => e = .returned (.string { data := #[97, 47, 98] }) ∧ Below w.heap.size w w' := by
  have hb0 : Below w.heap.size w (w.alloc (.cells #[.string { data := #[61] }, .bool false, .int .i64 3, .string X, .string Y] 78)) := (Below.refl _ _).alloc (Nat.le_refl _) _
  have H1 := Lib.hid (cut_3 _ (ht.below (hb0.mono hB)) (Nat.le_trans hB hb0.size))
  have HB0 := Lib.hid hb0
  clear ht hb0
  go_enter Tryz.func46, Tryz.ntmps46
  go_wp2_with fail
  refine H1.out.mono ?_
  rintro _ w9 ⟨rfl, hb9⟩
  have HB9 := Lib.hid (HB0.out.trans (hb9.mono HB0.out.size))
  clear hb9
  go_wp2_with fail
  go_ret
  exact ⟨rfl, HB9.out⟩
set_option maxRecDepth 100000 in
set_option maxHeartbeats 2000000 in
theorem apply_s (c : Int) {B : Nat} (w : World) (ht : TB B w) (hB : B ≤ w.heap.size) :
    Calls Tryz.prog 46 #[.agg #[.string { data := #[115] }, .bool false, .int .i64 c, .string { data := #[98] }, .string { data := #[81] }], .string { data := #[97, 47, 98, 46, 99] }] w fun e w' => e = .returned (.string { data := #[97, 47, 81, 46, 99] }) ∧ Below w.heap.size w w' := by
  have hb0 : Below w.heap.size w (w.alloc (.cells #[.string { data := #[115] }, .bool false, .int .i64 c, .string { data := #[98] }, .string { data := #[81] }] 78)) := (Below.refl _ _).alloc (Nat.le_refl _) _
  have H1 := Lib.hid (rep_s _ (ht.below (hb0.mono hB)))
  have HB0 := Lib.hid hb0
  clear ht hb0
  go_enter Tryz.func46, Tryz.ntmps46
  go_wp2_with fail
  refine H1.out.mono ?_
  rintro _ w9 ⟨rfl, hb9⟩
  have HB9 := Lib.hid (HB0.out.trans (hb9.mono HB0.out.size))
  clear hb9
  go_wp2_with fail
  go_ret
  exact ⟨rfl, HB9.out⟩
set_option maxRecDepth 100000 in
set_option maxHeartbeats 2000000 in
theorem apply_b (c : Int) (X Y : ByteArray) (w : World) :
    Calls Tryz.prog 46 #[.agg #[.string { data := #[98] }, .bool false, .int .i64 c, .string X, .string Y], .string { data := #[97, 47, 98, 46, 99] }] w fun e w' => e = .returned (.string { data := #[98, 46, 99] }) ∧ Below w.heap.size w w' := by
  have hb0 : Below w.heap.size w (w.alloc (.cells #[.string { data := #[98] }, .bool false, .int .i64 c, .string X, .string Y] 78)) := (Below.refl _ _).alloc (Nat.le_refl _) _
  have H1 := Lib.hid (last_b (w.alloc (.cells #[.string { data := #[98] }, .bool false, .int .i64 c, .string X, .string Y] 78)))
  have HB0 := Lib.hid hb0
  clear hb0
  go_enter Tryz.func46, Tryz.ntmps46
  go_wp2_with fail
  refine H1.out.mono ?_
  rintro _ w9 ⟨rfl, rfl⟩
  have HB9 := HB0
  go_wp2_with fail
  go_ret
  exact ⟨rfl, HB9.out⟩
set_option maxRecDepth 100000 in
set_option maxHeartbeats 2000000 in
theorem apply_u (c : Int) (X Y : ByteArray) (w : World) :
    Calls Tryz.prog 46 #[.agg #[.string { data := #[117] }, .bool false, .int .i64 c, .string X, .string Y], .string { data := #[97, 47, 98] }] w fun e w' => e = .returned (.string { data := #[65, 47, 66] }) ∧ Below w.heap.size w w' := by
  have hb0 : Below w.heap.size w (w.alloc (.cells #[.string { data := #[117] }, .bool false, .int .i64 c, .string X, .string Y] 78)) := (Below.refl _ _).alloc (Nat.le_refl _) _
  have H1 := Lib.hid (upper_ab (w.alloc (.cells #[.string { data := #[117] }, .bool false, .int .i64 c, .string X, .string Y] 78)))
  have HB0 := Lib.hid hb0
  clear hb0
  go_enter Tryz.func46, Tryz.ntmps46
  go_wp2_with fail
  refine H1.out.mono ?_
  rintro _ w9 ⟨rfl, hb9⟩
  have HB9 := Lib.hid (HB0.out.trans (hb9.mono HB0.out.size))
  clear hb9
  go_wp2_with fail
  go_ret
  exact ⟨rfl, HB9.out⟩
set_option maxRecDepth 100000 in
set_option maxHeartbeats 2000000 in
theorem apply_l (c : Int) (X Y V : ByteArray) (w : World) :
    Calls Tryz.prog 46 #[.agg #[.string { data := #[108] }, .bool false, .int .i64 c, .string X, .string Y], .string V] w fun e w' => e = .returned (.string V) ∧ Below w.heap.size w w' := by
  have hb0 : Below w.heap.size w (w.alloc (.cells #[.string { data := #[108] }, .bool false, .int .i64 c, .string X, .string Y] 78)) := (Below.refl _ _).alloc (Nat.le_refl _) _
  have HB0 := Lib.hid hb0
  clear hb0
  go_enter Tryz.func46, Tryz.ntmps46
  go_wp2_with fail
  have HB9 := HB0
  go_ret
  exact ⟨rfl, HB9.out⟩
theorem apply_any {m : Md} {v x : Tx} (h : applyP m v = some x) {B : Nat} (w : World) (ht : TB B w) (hB : B ≤ w.heap.size) :
    Calls Tryz.prog 46 #[.agg (mdL m).toArray, .string (bs v)] w fun e w' => e = .returned (.string (bs x)) ∧ Below w.heap.size w w' := by
  obtain ⟨ml, mc, ms, md⟩ := m
  unfold applyP at h
  simp only at h
  split at h
  · rename_i h1
    subst h1
    split at h
    · rename_i h2
      obtain ⟨rfl, rfl⟩ := h2
      injection h with h
      subst h
      exact apply_eq (bs ms) (bs md) w ht hB
    · cases h
  · split at h
    · rename_i h1
      subst h1
      split at h
      · rename_i h2
        obtain ⟨rfl, rfl, rfl⟩ := h2
        injection h with h
        subst h
        exact apply_s (mc : Int) w ht hB
      · cases h
    · split at h
      · rename_i h1
        subst h1
        split at h
        · rename_i h2
          subst h2
          injection h with h
          subst h
          exact apply_b (mc : Int) (bs ms) (bs md) w
        · cases h
      · split at h
        · rename_i h1
          subst h1
          split at h
          · rename_i h2
            subst h2
            injection h with h
            subst h
            exact apply_u (mc : Int) (bs ms) (bs md) w
          · cases h
        · split at h
          · rename_i h1
            subst h1
            injection h with h
            subst h
            exact apply_l (mc : Int) (bs ms) (bs md) (bs v) w
          · cases h
end Go.Proofs.YtbiinghmopgjnaaGreatDoor.Fmt
namespace Go.Proofs.YtbiinghmopgjnaaGreatDoor.Fmt
open Go.RowKit
theorem md_cell {l : List Md} {i : Nat} {b : Md} (h : l[i]? = some b) (j : Nat) (hj : j < 5) : (mdsC l)[i * 5 + j]? = (mdL b)[j]? := by
  unfold mdsC
  induction l generalizing i with
  | nil => simp at h
  | cons a l ih =>
    rw [List.flatMap_cons]
    cases i with
    | zero =>
      obtain rfl : a = b := by simpa using h
      rw [Nat.zero_mul, Nat.zero_add, List.getElem?_append_left (by simpa [mdL] using hj)]
    | succ i =>
      rw [List.getElem?_append_right (by simp [mdL]; omega)]
      have : (i + 1) * 5 + j - (mdL a).length = i * 5 + j := by show (i + 1) * 5 + j - 5 = _; omega
      rw [this]
      exact ih (by simpa using h)
/-- The row of modifiers, where it lies. -/
def MdAt (w : World) (g : Nat) (l : List Md) : Prop := g < w.heap.size ∧ ∀ j v, (mdsC l)[j]? = some v → w.cell? ⟨g, j, none⟩ = some v
theorem MdAt.below {w w' : World} {g : Nat} {l : List Md} (h : MdAt w g l) (hb : Below w.heap.size w w') : MdAt w' g l :=
  ⟨Nat.lt_of_lt_of_le h.1 hb.size, fun j v hj => (hb.cell (p := ⟨g, j, none⟩) h.1).trans (h.2 j v hj)⟩
theorem mds_open {w : World} {base : Nat} {v : Value} {l : List Md} (h : w.ownsRow base 78 5 v l.length (mdsC l)) (h0 : l ≠ []) : ∃ g c, v = .slice (some ⟨g, 0, none⟩) l.length c ∧ base ≤ g ∧ MdAt w g l := by
  have hc := h
  rcases h.2 with ⟨_, h1⟩ | ⟨g, cap, cur, rfl, hb, hg, _⟩
  · exact absurd (List.eq_nil_of_length_eq_zero h1) h0
  · refine ⟨g, cap, rfl, hb, (Array.getElem?_eq_some_iff.1 hg).1, fun i x hx => ?_⟩
    have := hc.cells (g := g) rfl i x hx
    have e : (⟨g, 0, none⟩ : Addr).add i = ⟨g, i, none⟩ := by unfold Addr.add; split <;> simp_all
    rw [e] at this
    exact this
set_option maxRecDepth 100000 in
set_option maxHeartbeats 1000000 in
theorem has1_any (m : Md) (c : UInt8) (w : World) (g : Nat) (hg : w.cell? ⟨g, 0, none⟩ = some (.string { data := #[c] })) (hlt : g < w.heap.size) :
    Calls Tryz.prog 65 #[.agg (mdL m).toArray, .pointer (some ⟨g, 0, none⟩)] w fun e w' => e = .returned (.bool (m.letter == [c])) ∧ Below w.heap.size w w' := by
  have hb0 : Below w.heap.size w (w.alloc (.cells (mdL m).toArray 78)) := (Below.refl _ _).alloc (Nat.le_refl _) _
  obtain ⟨b, hb⟩ : ∃ b, (m.letter == [c]) = b := ⟨_, rfl⟩
  have he : ((bs m.letter).toList == [c]) = b := by rw [bs_tl]; exact hb
  rw [hb]
  have HB0 := Lib.hid hb0
  clear hb hb0
  show Calls Tryz.prog 65 #[.agg #[.string (bs m.letter), .bool false, .int .i64 (m.columns : Int), .string (bs m.src), .string (bs m.dst)], .pointer (some ⟨g, 0, none⟩)] w _
  go_enter Tryz.func65, Tryz.ntmps65
  go_wp2_with fail
  go_ret
  exact ⟨rfl, HB0.out⟩
theorem anyMd_take (p : Md → Bool) (l : List Md) (j : Nat) (h : j < l.length) : (l.take (j + 1)).any p = ((l.take j).any p || p l[j]) := by
  rw [List.take_succ_eq_append_getElem h, List.any_append]; simp
set_option maxRecDepth 100000 in
set_option maxHeartbeats 2000000 in
/-- Where the first one is, or below zero. -/
theorem index_any {g c n0 : Nat} {x : UInt8} {l : List Md} {w : World} (hc : MdAt w g l) (hq : w.cell? ⟨n0, 0, none⟩ = some (.string { data := #[x] })) (hn0 : n0 < w.heap.size) (hl : l.length ≤ 8192) :
    Calls Tryz.prog 90 #[.slice (some ⟨g, 0, none⟩) l.length c, .func (.func 65) #[] #[.pointer (some ⟨n0, 0, none⟩)]] w fun e w' => (∃ k : Int, e = .returned (.int .i64 k) ∧ decide (0 ≤ k) = hasP l x) ∧ Below w.heap.size w w' := by
  have hent := enters_of Tryz.func65 (by kernel_rfl) rfl
  have HC := Lib.hid hc
  have HQ := Lib.hid hq
  clear hc hq
  go_enter Tryz.func90, Tryz.ntmps90
  go_wp2_with fail
  go_loopw [8] (fun i wr => ∃ j : Nat, j ≤ l.length ∧ i = .int .i64 (j : Int) ∧ (l.take j).any (fun m => m.letter == [x]) = false ∧ Below w.heap.size w wr) (fun i _ => l.length - (intOf i).toNat)
  case atStart => exact ⟨0, Nat.zero_le _, rfl, by simp, Below.refl _ _⟩
  case round =>
    obtain ⟨j, hj, rfl, hno, hbl⟩ := hrel
    by_cases hlt : j < l.length
    · have j1 : (j : Int) < (l.length : Int) := by omega
      have j0 : (0 : Int) ≤ (j : Int) := Int.natCast_nonneg _
      obtain ⟨b, hbx⟩ : ∃ b, l[j] = b := ⟨_, rfl⟩
      have f := fun kk hkk => md_cell (l := l) (i := j) (b := b) (by rw [List.getElem?_eq_getElem hlt, hbx]) kk hkk
      have cl := fun kk u (h : (mdsC l)[j * 5 + kk]? = some u) => (hbl.cell (p := ⟨g, j * 5 + kk, none⟩) HC.out.1).trans (HC.out.2 _ _ h)
      have x0 : wr.cell? ⟨g, j * 5, none⟩ = some (.string (bs b.letter)) := cl 0 _ (f 0 (by omega))
      have x1 : wr.cell? ⟨g, j * 5 + 1, none⟩ = some (.bool false) := cl 1 _ (f 1 (by omega))
      have x2 : wr.cell? ⟨g, j * 5 + 2, none⟩ = some (.int .i64 (b.columns : Int)) := cl 2 _ (f 2 (by omega))
      have x3 : wr.cell? ⟨g, j * 5 + 3, none⟩ = some (.string (bs b.src)) := cl 3 _ (f 3 (by omega))
      have x4 : wr.cell? ⟨g, j * 5 + 4, none⟩ = some (.string (bs b.dst)) := cl 4 _ (f 4 (by omega))
      have KP := Lib.hid (has1_any b x wr n0 ((hbl.cell (p := ⟨n0, 0, none⟩) hn0).trans HQ.out) (Nat.lt_of_lt_of_le hn0 hbl.size))
      have HB := Lib.hid hbl
      have hat := anyMd_take (fun m : Md => m.letter == [x]) l j hlt
      rw [hno, hbx, Bool.false_or] at hat
      cases hbq : (b.letter == [x]) with
      | true =>
        rw [hbq] at KP
        have hat2 : (l.take (j + 1)).any (fun m : Md => m.letter == [x]) = true := hat.trans hbq
        have HR : Hid (hasP l x = true) := Lib.hid (by
          unfold hasP
          rw [← List.take_append_drop (j + 1) l, List.any_append, hat2, Bool.true_or])
        clear f cl hbl hbx hbq hat hat2 hno
        unfold mdL at KP
        go_wp2_with fail
        refine KP.out.mono ?_
        rintro _ w2 ⟨rfl, hb2⟩
        have HB2 := Lib.hid (HB.out.trans (hb2.mono HB.out.size))
        clear hb2 KP HB
        go_wp2_with fail
        go_ret
        exact ⟨⟨_, rfl, by rw [HR.out]; simp⟩, HB2.out⟩
      | false =>
        rw [hbq] at KP
        have HAT := Lib.hid (show (l.take (j + 1)).any (fun m : Md => m.letter == [x]) = false from hat.trans hbq)
        clear f cl hbl hbx hbq hat hno
        unfold mdL at KP
        go_wp2_with fail
        refine KP.out.mono ?_
        rintro _ w2 ⟨rfl, hb2⟩
        have HB2 := Lib.hid (HB.out.trans (hb2.mono HB.out.size))
        clear hb2 KP HB
        go_wp2_with fail
        go_roundw
        case rel => exact ⟨j + 1, hlt, by go_num, HAT.out, HB2.out⟩
        case measure => simp [intOf]; omega
    · obtain rfl : j = l.length := by omega
      rw [List.take_length] at hno
      have HR : Hid (hasP l x = false) := Lib.hid hno
      have HB := Lib.hid hbl
      clear hno hbl
      go_wp2_with fail
      go_ret
      exact ⟨⟨_, rfl, by rw [HR.out]; rfl⟩, HB.out⟩
set_option maxRecDepth 100000 in
set_option maxHeartbeats 1000000 in
theorem hasMd_any {g c : Nat} {x : UInt8} {l : List Md} {w : World} (hc : MdAt w g l) (hl : l.length ≤ 8192) :
    Calls Tryz.prog 45 #[.slice (some ⟨g, 0, none⟩) l.length c, .string { data := #[x] }] w fun e w' => e = .returned (.bool (hasP l x)) ∧ Below w.heap.size w w' := by
  have hb0 : Below w.heap.size w (w.alloc (.cells #[.string { data := #[x] }] 9)) := (Below.refl _ _).alloc (Nat.le_refl _) _
  have H1 := Lib.hid (index_any (c := c) (x := x) (n0 := w.heap.size) (hc.below hb0) ((BL.new w 9 [.string { data := #[x] }]).cell 0) (by simp) hl)
  have HB0 := Lib.hid hb0
  have H2 : Hid (Calls Tryz.prog 64 #[.slice (some ⟨g, 0, none⟩) l.length c, .func (.func 65) #[] #[.pointer (some ⟨w.heap.size, 0, none⟩)]] (w.alloc (.cells #[.string { data := #[x] }] 9)) fun e w' => e = .returned (.bool (hasP l x)) ∧ Below (w.alloc (.cells #[.string { data := #[x] }] 9)).heap.size (w.alloc (.cells #[.string { data := #[x] }] 9)) w') := by
    refine Lib.hid ?_
    generalize w.alloc (.cells #[.string { data := #[x] }] 9) = V at *
    go_enter Tryz.func64, Tryz.ntmps64
    go_wp2_with fail
    refine H1.out.mono ?_
    rintro _ w2 ⟨⟨k, rfl, hk⟩, hb2⟩
    have HB2 := Lib.hid hb2
    have HK := Lib.hid hk
    clear hb2 hk
    go_wp2_with fail
    go_ret
    exact ⟨by rw [← HK.out]; rfl, HB2.out⟩
  clear hb0
  go_enter Tryz.func45, Tryz.ntmps45
  go_wp2_with fail
  refine H2.out.mono ?_
  rintro _ w2 ⟨rfl, hb2⟩
  have HB2 := Lib.hid (HB0.out.trans (hb2.mono HB0.out.size))
  clear hb2
  go_wp2_with fail
  go_ret
  exact ⟨rfl, HB2.out⟩
end Go.Proofs.YtbiinghmopgjnaaGreatDoor.Fmt
namespace Go.Proofs.YtbiinghmopgjnaaGreatDoor.Fmt
open Go.RowKit
theorem cell_of_block {w w' : World} {g : Nat} (h : w'.heap[g]? = w.heap[g]?) (j : Nat) : w'.cell? ⟨g, j, none⟩ = w.cell? ⟨g, j, none⟩ := by simp only [World.cell?, h]
theorem MdAt.only {w w' : World} {g mb : Nat} {l : List Md} (h : MdAt w g l) (ho : Only [mb] w w') (hn : g ≠ mb) : MdAt w' g l :=
  ⟨Nat.lt_of_lt_of_le h.1 ho.size, fun j v hj => (cell_of_block (ho.block g h.1 (by simpa using hn)) j).trans (h.2 j v hj)⟩
theorem applyL_cons {m : Md} {r : List Md} {v x : Tx} (h : applyL (m :: r) v = some x) : ∃ y, applyP m v = some y ∧ y.length ≤ 8192 ∧ applyL r y = some x := by
  unfold applyL at h
  cases ha : applyP m v with
  | none => rw [ha] at h; cases h
  | some y =>
    rw [ha] at h
    simp only at h
    split at h
    · exact ⟨y, rfl, ‹_›, h⟩
    · cases h
theorem modsP_ne {k : Nat} {s : Tx} {L : List Md} {t : Tx} (h : modsP k s = some (L, t)) : L ≠ [] := by
  cases k with
  | zero => simp [modsP] at h
  | succ k =>
    obtain ⟨m, r, ⟨_, rfl, _⟩ | ⟨l, _, _, rfl⟩⟩ := modsP_succ h <;> simp
set_option maxRecDepth 100000 in
set_option maxHeartbeats 8000000 in
theorem modify_any {X : Ex} (hX : Okx 21 X) : Okx 35 (modifyP X) := by
  refine ⟨modifyP_le X, ?_⟩
  intro en s d st t st' h hl B w mb vv hC
  have hN := (named_any hX).2
  unfold modifyP at h
  cases hm : modsP s.length s with
  | none => rw [hm] at h; cases h
  | some p =>
  obtain ⟨L, t0⟩ := p
  rw [hm] at h
  simp only at h
  split at h
  · cases h
  · rename_i h69
    have h69b : hasP L 69 = false := by cases hh : hasP L 69 with | true => exact absurd hh h69 | false => rfl
    have hmods := modifiers_any hm hl hl w hC.tabs hC.size
    have hLne := modsP_ne hm
    have HHE0 : ∀ (g c : Nat) (V : World), MdAt V g L → L.length ≤ 8192 → Calls Tryz.prog 45 #[.slice (some ⟨g, 0, none⟩) L.length c, .string { data := #[69] }] V fun e w' => e = .returned (.bool false) ∧ Below V.heap.size V w' := fun g c V hV hlen => by
      have := hasMd_any (c := c) (x := 69) hV hlen
      rw [h69b] at this
      exact this
    have HMODS := Lib.hid hmods
    have HC := Lib.hid hC
    have HHE1 := Lib.hid HHE0
    have HLNE := Lib.hid hLne
    have HMM := Lib.hid hm
    have HMBX := Lib.hid hC.box.lt
    cases h108 : hasP L 108 with
    | true =>
      rw [h108] at h
      simp only [if_true] at h
      cases ha : applyL L t0 with
      | none => rw [ha] at h; cases h
      | some x =>
        rw [ha] at h
        simp only [Option.some.injEq, Prod.mk.injEq] at h
        obtain ⟨rfl, rfl⟩ := h
        have HL8 := Lib.hid (fun (g c : Nat) (V : World) (hV : MdAt V g L) (hlen : L.length ≤ 8192) => (h108 ▸ hasMd_any (c := c) (x := 108) hV hlen : Calls Tryz.prog 45 #[.slice (some ⟨g, 0, none⟩) L.length c, .string { data := #[108] }] V fun e w' => e = .returned (.bool true) ∧ Below V.heap.size V w'))
        have HAP := Lib.hid (show applyL (L.drop 0) t0 = some x from ha)
        clear hN hm hmods hLne HHE0 h69 h69b h108 ha hC hX hl
        unfold mkV at *
        go_enter Tryz.func35, Tryz.ntmps35
        go_wp2_with fail
        refine HMODS.out.mono ?_
        rintro _ w1 ⟨v1, rfl, hown1, hLl, htl, hb1⟩
        obtain ⟨g, c, rfl, hg1, hmd1⟩ := mds_open hown1 HLNE.out
        have HM1 := Lib.hid hmd1
        have HC1 := Lib.hid (HC.out.below hb1)
        have HL1 := Lib.hid (HC.out.lf hb1)
        have HLL := Lib.hid hLl
        have HLQ := Lib.hid (fun V (hV : MdAt V g L) => HL8.out g c V hV hLl)
        have HHE := Lib.hid (fun V (hV : MdAt V g L) => HHE1.out g c V hV hLl)
        have HY0 := Lib.hid htl
        clear hown1 hmd1 hb1 hLl htl hg1
        go_wp2_with fail
        refine (HLQ.out _ HM1.out).mono ?_
        rintro _ w2 ⟨rfl, hb2⟩
        have HC2 := Lib.hid (HC1.out.below hb2)
        have HL2 := Lib.hid (HL1.out.trans (HC1.out.lf hb2))
        have HM2 := Lib.hid (HM1.out.below hb2)
        clear hb2
        go_wp2_with fail

        refine (HHE.out _ HM2.out).mono ?_
        rintro _ w3 ⟨rfl, hb3⟩
        have HC3 := Lib.hid (HC2.out.below hb3)
        have HL3 := Lib.hid (HL2.out.trans (HC2.out.lf hb3))
        have HM3 := Lib.hid (HM2.out.below hb3)
        clear hb3
        go_wp2_with fail
        go_loopw [8, 37] (fun val i wr => ∃ (j : Nat) (y : Tx), j ≤ L.length ∧ i = .int .i64 (j : Int) ∧ val = .string (bs y) ∧ y.length ≤ 8192 ∧ applyL (L.drop j) y = some x ∧ Lf w3 mb st d wr ∧ MdAt wr g L) (fun _ i _ => L.length - (intOf i).toNat)
        case atStart => exact ⟨0, t0, Nat.zero_le _, rfl, rfl, HY0.out, HAP.out, Lf.refl HC3.out, HM3.out⟩
        case round =>
          obtain ⟨j, y, hj, rfl, rfl, hy, hap, hlf, hmd⟩ := hrel
          by_cases hlt : j < L.length
          · have j1 : (j : Int) < (L.length : Int) := by omega
            have j0 : (0 : Int) ≤ (j : Int) := Int.natCast_nonneg _
            have hL8 := HLL.out
            have hlim : j + 1 ≤ L.length := hlt
            obtain ⟨b, hbx⟩ : ∃ b, L[j] = b := ⟨_, rfl⟩
            rw [List.drop_eq_getElem_cons hlt, hbx] at hap
            obtain ⟨y2, ha, hy2, hap2⟩ := applyL_cons hap
            have f := fun kk hkk => md_cell (l := L) (i := j) (b := b) (by rw [List.getElem?_eq_getElem hlt, hbx]) kk hkk
            have x0 : wr.cell? ⟨g, j * 5, none⟩ = some (.string (bs b.letter)) := hmd.2 _ _ (f 0 (by omega))
            have x1 : wr.cell? ⟨g, j * 5 + 1, none⟩ = some (.bool false) := hmd.2 _ _ (f 1 (by omega))
            have x2 : wr.cell? ⟨g, j * 5 + 2, none⟩ = some (.int .i64 (b.columns : Int)) := hmd.2 _ _ (f 2 (by omega))
            have x3 : wr.cell? ⟨g, j * 5 + 3, none⟩ = some (.string (bs b.src)) := hmd.2 _ _ (f 3 (by omega))
            have x4 : wr.cell? ⟨g, j * 5 + 4, none⟩ = some (.string (bs b.dst)) := hmd.2 _ _ (f 4 (by omega))
            have HCr := Lib.hid (HC3.out.next hlf)
            have HLr := Lib.hid hlf
            have HMr := Lib.hid hmd
            have HP0 := Lib.hid (BL.new wr 78 zeroM)
            have HLT := Lib.hid hlt
            have HB0 : Hid (Below wr.heap.size wr (wr.alloc (.cells zeroM.toArray 78))) := Lib.hid ((Below.refl _ _).alloc (Nat.le_refl _) _)
            have HA := Lib.hid ha
            have HY2 := Lib.hid hy2
            have HAP2 := Lib.hid hap2
            clear hlf hmd ha hy2 hap2 hap f hbx hy
            go_wp2_with (first
              | (refine wpList_store_at rfl 78 _ _ rfl wr.heap.size 0 (mdL b) rfl rfl 78 _ HP0.out (by show 0 + 5 ≤ 5; omega) size_mod (mdL_one _) ?_; intro w6 h6 ho6 hs6; have HP6 := Lib.hid (show BL w6 wr.heap.size 78 (mdL b) from h6); have HB6 := Lib.hid (HB0.out.trans (ho6.below HB0.out.size (by simp))); clear h6 ho6 hs6 x0 x1 x2 x3 x4)
              | (refine wpList_load_mid rfl 78 _ rfl wr.heap.size 0 rfl (mdL b) _ (HP6.out.range (o := 0) (vs := mdL b) (fun j v hj => by rw [Nat.zero_add]; exact hj)) Tryz.underlying78 rfl size_mod ?_))
            refine (apply_any HA.out _ (HCr.out.below HB6.out).tabs (HCr.out.below HB6.out).size).mono ?_
            rintro _ w7 ⟨rfl, hb7⟩
            have HB7 := Lib.hid (HB6.out.trans (hb7.mono HB6.out.size))
            clear hb7
            go_wp2_with fail
            refine (short_any y2 HY2.out _).mono ?_
            rintro _ w8 ⟨rfl, rfl⟩
            go_wp2_with fail
            go_roundw
            case rel => exact ⟨j + 1, y2, HLT.out, by go_num, rfl, HY2.out, HAP2.out, HLr.out.trans (HCr.out.lf HB7.out), HMr.out.below HB7.out⟩
            case measure => have := HLT.out; simp [intOf]; omega
          · obtain rfl : j = L.length := by omega
            rw [List.drop_length] at hap
            have HXY : Hid (y = x) := Lib.hid (by unfold applyL at hap; injection hap)
            have HL9 := Lib.hid (HL3.out.trans hlf)
            clear hlf hmd hap
            go_wp2_with fail
            go_ret
            exact ⟨by rw [HXY.out]; rfl, HL9.out⟩
    | false =>
      rw [h108] at h
      simp only [Bool.false_eq_true, if_false] at h
      cases hn : namedP X en t0 d st with
      | none => rw [hn] at h; cases h
      | some p =>
      obtain ⟨y0, s1⟩ := p
      rw [hn] at h
      simp only at h
      cases ha : applyL L y0 with
      | none => rw [ha] at h; cases h
      | some x =>
        rw [ha] at h
        simp only [Option.some.injEq, Prod.mk.injEq] at h
        obtain ⟨rfl, rfl⟩ := h
        have HL8 := Lib.hid (fun (g c : Nat) (V : World) (hV : MdAt V g L) (hlen : L.length ≤ 8192) => (h108 ▸ hasMd_any (c := c) (x := 108) hV hlen : Calls Tryz.prog 45 #[.slice (some ⟨g, 0, none⟩) L.length c, .string { data := #[108] }] V fun e w' => e = .returned (.bool false) ∧ Below V.heap.size V w'))
        have HAP := Lib.hid (show applyL (L.drop 0) y0 = some x from ha)
        have HNM := Lib.hid (fun V (ht0 : t0.length ≤ 8192) (hV : Cx B V mb st d vv en) => hN en t0 d st y0 s1 hn ht0 B V mb vv hV)
        have HYL := Lib.hid (fun (ht0 : t0.length ≤ 8192) => namedP_le X _ _ _ _ _ _ hn ht0)
        clear hN hm hmods hLne HHE0 h69 h69b h108 ha hC hX hl hn
        unfold mkV at *
        go_enter Tryz.func35, Tryz.ntmps35
        go_wp2_with fail
        refine HMODS.out.mono ?_
        rintro _ w1 ⟨v1, rfl, hown1, hLl, htl, hb1⟩
        obtain ⟨g, c, rfl, hg1, hmd1⟩ := mds_open hown1 HLNE.out
        have HM1 := Lib.hid hmd1
        have HC1 := Lib.hid (HC.out.below hb1)
        have HL1 := Lib.hid (HC.out.lf hb1)
        have HLL := Lib.hid hLl
        have HLQ := Lib.hid (fun V (hV : MdAt V g L) => HL8.out g c V hV hLl)
        have HHE := Lib.hid (fun V (hV : MdAt V g L) => HHE1.out g c V hV hLl)
        have HY0 := Lib.hid (HYL.out htl)
        have HNQ := Lib.hid (fun V hV => HNM.out V htl hV)
        have HGM := Lib.hid (show g ≠ mb by have := HMBX.out; omega)
        clear hown1 hmd1 hb1 hLl htl hg1
        go_wp2_with fail
        refine (HLQ.out _ HM1.out).mono ?_
        rintro _ wq ⟨rfl, hb2⟩
        have HCQ := Lib.hid (HC1.out.below hb2)
        have HLA := Lib.hid (HL1.out.trans (HC1.out.lf hb2))
        have HMQ := Lib.hid (HM1.out.below hb2)
        clear hb2
        go_wp2_with fail
        refine (HNQ.out _ HCQ.out).mono ?_
        rintro _ w2 ⟨rfl, hl2⟩
        have HC2 := Lib.hid (HCQ.out.next hl2)
        have HL2 := Lib.hid (HLA.out.trans hl2)
        have HM2 := Lib.hid (HMQ.out.only hl2.only HGM.out)
        clear hl2
        go_wp2_with fail

        refine (HHE.out _ HM2.out).mono ?_
        rintro _ w3 ⟨rfl, hb3⟩
        have HC3 := Lib.hid (HC2.out.below hb3)
        have HL3 := Lib.hid (HL2.out.trans (HC2.out.lf hb3))
        have HM3 := Lib.hid (HM2.out.below hb3)
        clear hb3
        go_wp2_with fail
        go_loopw [8, 37] (fun val i wr => ∃ (j : Nat) (y : Tx), j ≤ L.length ∧ i = .int .i64 (j : Int) ∧ val = .string (bs y) ∧ y.length ≤ 8192 ∧ applyL (L.drop j) y = some x ∧ Lf w3 mb s1 d wr ∧ MdAt wr g L) (fun _ i _ => L.length - (intOf i).toNat)
        case atStart => exact ⟨0, y0, Nat.zero_le _, rfl, rfl, HY0.out, HAP.out, Lf.refl HC3.out, HM3.out⟩
        case round =>
          obtain ⟨j, y, hj, rfl, rfl, hy, hap, hlf, hmd⟩ := hrel
          by_cases hlt : j < L.length
          · have j1 : (j : Int) < (L.length : Int) := by omega
            have j0 : (0 : Int) ≤ (j : Int) := Int.natCast_nonneg _
            have hL8 := HLL.out
            have hlim : j + 1 ≤ L.length := hlt
            obtain ⟨b, hbx⟩ : ∃ b, L[j] = b := ⟨_, rfl⟩
            rw [List.drop_eq_getElem_cons hlt, hbx] at hap
            obtain ⟨y2, ha, hy2, hap2⟩ := applyL_cons hap
            have f := fun kk hkk => md_cell (l := L) (i := j) (b := b) (by rw [List.getElem?_eq_getElem hlt, hbx]) kk hkk
            have x0 : wr.cell? ⟨g, j * 5, none⟩ = some (.string (bs b.letter)) := hmd.2 _ _ (f 0 (by omega))
            have x1 : wr.cell? ⟨g, j * 5 + 1, none⟩ = some (.bool false) := hmd.2 _ _ (f 1 (by omega))
            have x2 : wr.cell? ⟨g, j * 5 + 2, none⟩ = some (.int .i64 (b.columns : Int)) := hmd.2 _ _ (f 2 (by omega))
            have x3 : wr.cell? ⟨g, j * 5 + 3, none⟩ = some (.string (bs b.src)) := hmd.2 _ _ (f 3 (by omega))
            have x4 : wr.cell? ⟨g, j * 5 + 4, none⟩ = some (.string (bs b.dst)) := hmd.2 _ _ (f 4 (by omega))
            have HCr := Lib.hid (HC3.out.next hlf)
            have HLr := Lib.hid hlf
            have HMr := Lib.hid hmd
            have HP0 := Lib.hid (BL.new wr 78 zeroM)
            have HLT := Lib.hid hlt
            have HB0 : Hid (Below wr.heap.size wr (wr.alloc (.cells zeroM.toArray 78))) := Lib.hid ((Below.refl _ _).alloc (Nat.le_refl _) _)
            have HA := Lib.hid ha
            have HY2 := Lib.hid hy2
            have HAP2 := Lib.hid hap2
            clear hlf hmd ha hy2 hap2 hap f hbx hy
            go_wp2_with (first
              | (refine wpList_store_at rfl 78 _ _ rfl wr.heap.size 0 (mdL b) rfl rfl 78 _ HP0.out (by show 0 + 5 ≤ 5; omega) size_mod (mdL_one _) ?_; intro w6 h6 ho6 hs6; have HP6 := Lib.hid (show BL w6 wr.heap.size 78 (mdL b) from h6); have HB6 := Lib.hid (HB0.out.trans (ho6.below HB0.out.size (by simp))); clear h6 ho6 hs6 x0 x1 x2 x3 x4)
              | (refine wpList_load_mid rfl 78 _ rfl wr.heap.size 0 rfl (mdL b) _ (HP6.out.range (o := 0) (vs := mdL b) (fun j v hj => by rw [Nat.zero_add]; exact hj)) Tryz.underlying78 rfl size_mod ?_))
            refine (apply_any HA.out _ (HCr.out.below HB6.out).tabs (HCr.out.below HB6.out).size).mono ?_
            rintro _ w7 ⟨rfl, hb7⟩
            have HB7 := Lib.hid (HB6.out.trans (hb7.mono HB6.out.size))
            clear hb7
            go_wp2_with fail
            refine (short_any y2 HY2.out _).mono ?_
            rintro _ w8 ⟨rfl, rfl⟩
            go_wp2_with fail
            go_roundw
            case rel => exact ⟨j + 1, y2, HLT.out, by go_num, rfl, HY2.out, HAP2.out, HLr.out.trans (HCr.out.lf HB7.out), HMr.out.below HB7.out⟩
            case measure => have := HLT.out; simp [intOf]; omega
          · obtain rfl : j = L.length := by omega
            rw [List.drop_length] at hap
            have HXY : Hid (y = x) := Lib.hid (by unfold applyL at hap; injection hap)
            have HL9 := Lib.hid (HL3.out.trans hlf)
            clear hlf hmd hap
            go_wp2_with fail
            go_ret
            exact ⟨by rw [HXY.out]; rfl, HL9.out⟩
end Go.Proofs.YtbiinghmopgjnaaGreatDoor.Fmt
namespace Go.Proofs.YtbiinghmopgjnaaGreatDoor.Fmt
open Go.RowKit
theorem cutQ (c : Tx) (p : Tx) (w : World) : Calls Tryz.prog 30 #[.string (bs c), .string (bs p)] w fun e w' => e = .returned (.tuple #[.string (bs (Lib.trimPrefix c p)), .bool (Lib.hasPrefix c p)]) ∧ w = w' := by
  refine (Tryz.strings_CutPrefix (bs c) (bs p) w).mono fun e w' he => ?_
  obtain ⟨he, rfl⟩ := he
  refine ⟨he.trans ?_, rfl⟩
  rw [bs_list, bs_list]
  rfl
theorem trimQ {c : Tx} (h : Lib.hasPrefix c [63] = true) : Lib.trimPrefix c [63] = c.drop 1 := by
  unfold Lib.trimPrefix
  rw [h]
  rfl
theorem ne_of_heads {h : Tx} (hh : heads.contains h ≠ true) (k : Tx) (hk : k ∈ heads) : (h == k) = false := by
  cases e : (h == k) with
  | false => rfl
  | true =>
    exact absurd (by rw [List.contains_iff_mem]; rw [beq_iff_eq.1 e]; exact hk) hh
set_option maxRecDepth 100000 in
set_option maxHeartbeats 8000000 in
theorem byKind_any {X : Ex} (hX : Okx 21 X) : Okx 26 (byKindP X) := by
  refine ⟨byKindP_le X, ?_⟩
  intro en s d st t st' h hl B w mb v hC
  unfold byKindP at h
  have hcq := cutQ s [63] w
  have HC := Lib.hid hC
  split at h
  · rename_i hp
    rw [hp, trimQ hp] at hcq
    have HCQ : Hid (Calls Tryz.prog 30 #[.string (bs s), .string { data := #[63] }] w fun e w' => e = .returned (.tuple #[.string (bs (s.drop 1)), .bool true]) ∧ w = w') := hcq
    have HCH := Lib.hid ((choose_any hX).2 en (s.drop 1) d st t st' h (by rw [List.length_drop]; omega) B w mb v hC)
    clear hcq h hp hC hX hl
    generalize bs (s.drop 1) = S1 at *
    generalize bs s = S at *
    unfold mkV at *
    go_enter Tryz.func26, Tryz.ntmps26
    go_wp2_with fail
    refine HCQ.out.mono ?_
    rintro _ w1 ⟨rfl, rfl⟩
    go_wp2_with fail
    refine HCH.out.mono ?_
    rintro _ w3 ⟨rfl, hl3⟩
    have HL3 := Lib.hid hl3
    clear hl3
    go_wp2_with fail
    go_ret
    exact ⟨rfl, HL3.out⟩
  · rename_i hp
    have hpf : Lib.hasPrefix s [63] = false := by cases e : Lib.hasPrefix s [63] with | true => exact absurd e hp | false => rfl
    rw [hpf] at hcq
    have HCQ : Hid (Calls Tryz.prog 30 #[.string (bs s), .string { data := #[63] }] w fun e w' => e = .returned (.tuple #[.string (bs (Lib.trimPrefix s [63])), .bool false]) ∧ w = w') := hcq
    have ho := outside_any s 58 hl w
    clear hcq hp hpf
    cases hk : outR 58 s 0 0 with
    | none =>
      rw [hk] at h ho
      simp only at h
      cases hv : valueF en s with
      | none => rw [hv] at h; cases h
      | some x =>
        rw [hv] at h
        simp only [Option.some.injEq, Prod.mk.injEq] at h
        obtain ⟨rfl, rfl⟩ := h
        have HV := Lib.hid (value_cx hC hv)
        have HO : Hid (Calls Tryz.prog 20 #[.string (bs s), .int .u8 58] w fun e w' => e = .returned (.int .i64 (-1)) ∧ w = w') := ho
        clear ho hv hk hC hX hl
        generalize bs (Lib.trimPrefix s [63]) = S1 at *
        generalize bs s = S at *
        unfold mkV at *
        go_enter Tryz.func26, Tryz.ntmps26
        go_wp2_with fail
        refine HCQ.out.mono ?_
        rintro _ w1 ⟨rfl, rfl⟩
        go_wp2_with fail
        refine HO.out.mono ?_
        rintro _ w1 ⟨rfl, rfl⟩
        go_wp2_with fail
        refine HV.out.mono ?_
        rintro _ w3 ⟨rfl, hl3⟩
        have HL3 := Lib.hid hl3
        clear hl3
        go_wp2_with fail
        go_ret
        exact ⟨rfl, HL3.out⟩
    | some k =>
      rw [hk] at h ho
      simp only at h
      have hkb := outR_le 58 s.length s 0 0 k (Nat.le_refl _) hk
      have HO : Hid (Calls Tryz.prog 20 #[.string (bs s), .int .u8 58] w fun e w' => e = .returned (.int .i64 (k : Int)) ∧ w = w') := ho
      have hz : (bs s).size = s.length := bs_size _
      have k0 : (0 : Int) ≤ (k : Int) := Int.natCast_nonneg _
      have k1 : (k : Int) + 1 ≤ ((bs s).size : Int) := by omega
      have k2 : (k : Int) ≤ ((bs s).size : Int) := by omega
      have k3 : ((bs s).size : Int) ≤ 8192 := by omega
      have q1 : k ≤ (bs s).size := by omega
      have q2 : k + 1 ≤ (bs s).size := by omega
      have e1 : (bs s).extract 0 k = bs (s.take k) := bs_take _ _
      have e2 : (bs s).extract (k + 1) (bs s).size = bs (s.drop (k + 1)) := bs_drop _ _
      have hd8 : (s.drop (k + 1)).length ≤ 8192 := by rw [List.length_drop]; omega
      clear ho hkb hk
      split at h
      · rename_i hh
        rw [hh] at e1
        have e1' : (bs s).extract 0 k = { data := #[109] } := e1
        have HCM := Lib.hid (fun V hV => compare_any hX h hd8 (w := V) (mb := mb) (v := v) (B := B) hV)
        clear e1 hh h hC hX hl hd8 hz
        generalize bs (Lib.trimPrefix s [63]) = S1 at *
        obtain ⟨R, hR⟩ : ∃ R, R = bs (s.drop (k + 1)) := ⟨_, rfl⟩
        rw [← hR] at e2
        have HR := Lib.hid hR
        clear hR
        unfold mkV at *
        generalize bs s = S at *
        go_enter Tryz.func26, Tryz.ntmps26
        go_wp2_with fail
        refine HCQ.out.mono ?_
        rintro _ w1 ⟨rfl, rfl⟩
        go_wp2_with fail
        refine HO.out.mono ?_
        rintro _ w1 ⟨rfl, rfl⟩
        go_wp2_with fail
        go_region
        go_wp2_with fail
        rw [HR.out]
        refine (HCM.out _ (HC.out.below ((Below.refl _ _).drew))).mono ?_
        rintro _ w3 ⟨rfl, hl3⟩
        have HL3 := Lib.hid ((HC.out.lf ((Below.refl _ _).drew)).trans hl3)
        clear hl3
        go_wp2_with fail
        go_ret
        exact ⟨rfl, HL3.out⟩
      · split at h
        · cases h
        · rename_i hnh
          split at h
          · rename_i hh
            rw [hh] at e1
            have e1' : (bs s).extract 0 k = { data := #[87] } := e1
            have HCM := Lib.hid (fun V hV => repeat_any hX h hd8 (w := V) (mb := mb) (v := v) (B := B) hV)
            clear e1 hh h hC hX hl hd8 hz hnh
            generalize bs (Lib.trimPrefix s [63]) = S1 at *
            obtain ⟨R, hR⟩ : ∃ R, R = bs (s.drop (k + 1)) := ⟨_, rfl⟩
            rw [← hR] at e2
            have HR := Lib.hid hR
            clear hR
            unfold mkV at *
            generalize bs s = S at *
            go_enter Tryz.func26, Tryz.ntmps26
            go_wp2_with fail
            refine HCQ.out.mono ?_
            rintro _ w1 ⟨rfl, rfl⟩
            go_wp2_with fail
            refine HO.out.mono ?_
            rintro _ w1 ⟨rfl, rfl⟩
            go_wp2_with fail
            go_region
            go_wp2_with fail
            rw [HR.out]
            refine (HCM.out _ (HC.out.below ((Below.refl _ _).drew))).mono ?_
            rintro _ w3 ⟨rfl, hl3⟩
            have HL3 := Lib.hid ((HC.out.lf ((Below.refl _ _).drew)).trans hl3)
            clear hl3
            go_wp2_with fail
            go_ret
            exact ⟨rfl, HL3.out⟩
          · rename_i hW
            split at h
            · rename_i hh
              rw [hh] at e1
              have e1' : (bs s).extract 0 k = { data := #[101, 124, 47, 124, 102] } := e1
              have HCM := Lib.hid (fun V hV => reckon_any hX h hd8 (w := V) (mb := mb) (v := v) (B := B) hV)
              have HE : Hid (∀ V : World, Calls Tryz.prog 30 #[.string { data := #[101, 124, 47, 124, 102] }, .string { data := #[101, 124] }] V fun e w' => e = .returned (.tuple #[.string { data := #[47, 124, 102] }, .bool true]) ∧ V = w') := fun V => cutQ [101, 124, 47, 124, 102] [101, 124] V
              clear e1 hh h hC hX hl hd8 hz hnh hW
              generalize bs (Lib.trimPrefix s [63]) = S1 at *
              obtain ⟨R, hR⟩ : ∃ R, R = bs (s.drop (k + 1)) := ⟨_, rfl⟩
              rw [← hR] at e2
              have HR := Lib.hid hR
              clear hR
              unfold mkV at *
              generalize bs s = S at *
              go_enter Tryz.func26, Tryz.ntmps26
              go_wp2_with fail
              refine HCQ.out.mono ?_
              rintro _ w1 ⟨rfl, rfl⟩
              go_wp2_with fail
              refine HO.out.mono ?_
              rintro _ w1 ⟨rfl, rfl⟩
              go_wp2_with fail
              go_region
              go_wp2_with fail
              refine (HE.out _).mono ?_
              rintro _ w5 ⟨rfl, rfl⟩
              go_wp2_with fail
              rw [HR.out]
              refine (HCM.out _ (HC.out.below ((Below.refl _ _).drew))).mono ?_
              rintro _ w3 ⟨rfl, hl3⟩
              have HL3 := Lib.hid ((HC.out.lf ((Below.refl _ _).drew)).trans hl3)
              clear hl3
              go_wp2_with fail
              go_ret
              exact ⟨rfl, HL3.out⟩
            · split at h
              · cases h
              · rename_i hR3
                simp only [not_or] at hR3
                obtain ⟨hS, hP, hE⟩ := hR3
                have hpe : Lib.hasPrefix (s.take k) [101, 124] = false := by cases e : Lib.hasPrefix (s.take k) [101, 124] with | true => exact absurd e hE | false => rfl
                have hce := fun V => cutQ (s.take k) [101, 124] V
                rw [hpe] at hce
                have HMY := Lib.hid (fun V hV => (modify_any hX).2 en s d st t st' h hl B V mb v hV)
                have t0 : ((bs (s.take k)).toList == [61, 61]) = false := by rw [bs_tl]; exact ne_of_heads hnh [61, 61] (by decide)
                have t1 : ((bs (s.take k)).toList == [33, 61]) = false := by rw [bs_tl]; exact ne_of_heads hnh [33, 61] (by decide)
                have t2 : ((bs (s.take k)).toList == [60]) = false := by rw [bs_tl]; exact ne_of_heads hnh [60] (by decide)
                have t3 : ((bs (s.take k)).toList == [62]) = false := by rw [bs_tl]; exact ne_of_heads hnh [62] (by decide)
                have t4 : ((bs (s.take k)).toList == [60, 61]) = false := by rw [bs_tl]; exact ne_of_heads hnh [60, 61] (by decide)
                have t5 : ((bs (s.take k)).toList == [62, 61]) = false := by rw [bs_tl]; exact ne_of_heads hnh [62, 61] (by decide)
                have t6 : ((bs (s.take k)).toList == [124, 124]) = false := by rw [bs_tl]; exact ne_of_heads hnh [124, 124] (by decide)
                have t7 : ((bs (s.take k)).toList == [38, 38]) = false := by rw [bs_tl]; exact ne_of_heads hnh [38, 38] (by decide)
                have t8 : ((bs (s.take k)).toList == [109]) = false := by rw [bs_tl]; exact ne_of_heads hnh [109] (by decide)
                have t9 : ((bs (s.take k)).toList == [83]) = false := by rw [bs_tl]; exact beq_eq_false_iff_ne.2 hS
                have t10 : ((bs (s.take k)).toList == [87]) = false := by rw [bs_tl]; exact beq_eq_false_iff_ne.2 hW
                have t11 : ((bs (s.take k)).toList == [80]) = false := by rw [bs_tl]; exact beq_eq_false_iff_ne.2 hP
                clear hnh hW hS hP hE hpe h hC hX hl hd8 hz
                generalize bs (Lib.trimPrefix (s.take k) [101, 124]) = S3 at *
                have HCE : Hid (∀ V : World, Calls Tryz.prog 30 #[.string (bs (s.take k)), .string { data := #[101, 124] }] V fun e w' => e = .returned (.tuple #[.string S3, .bool false]) ∧ V = w') := hce
                clear hce
                generalize bs (s.take k) = H at *
                generalize bs (Lib.trimPrefix s [63]) = S1 at *
                obtain ⟨R, hR⟩ : ∃ R, R = bs (s.drop (k + 1)) := ⟨_, rfl⟩
                rw [← hR] at e2
                have HR := Lib.hid hR
                clear hR
                unfold mkV at *
                generalize bs s = S at *
                go_enter Tryz.func26, Tryz.ntmps26
                go_wp2_with fail
                refine HCQ.out.mono ?_
                rintro _ w1 ⟨rfl, rfl⟩
                go_wp2_with fail
                refine HO.out.mono ?_
                rintro _ w1 ⟨rfl, rfl⟩
                go_wp2_with fail
                go_region
                go_wp2_with fail
                refine (HCE.out _).mono ?_
                rintro _ w5 ⟨rfl, rfl⟩
                go_wp2_with fail
                refine (HMY.out _ (HC.out.below ((Below.refl _ _).drew))).mono ?_
                rintro _ w3 ⟨rfl, hl3⟩
                have HL3 := Lib.hid ((HC.out.lf ((Below.refl _ _).drew)).trans hl3)
                clear hl3
                go_wp2_with fail
                go_ret
                exact ⟨rfl, HL3.out⟩
end Go.Proofs.YtbiinghmopgjnaaGreatDoor.Fmt
namespace Go.Proofs.YtbiinghmopgjnaaGreatDoor.Fmt
open Go.RowKit
set_option maxRecDepth 100000 in
set_option maxHeartbeats 4000000 in
theorem express_any : ∀ n, Okx 21 (exprF n)
  | 0 => ⟨exprF_le 0, fun en c d st t st' h => by simp [exprF] at h⟩
  | n + 1 => by
    refine ⟨exprF_le (n + 1), ?_⟩
    intro en s d st t st' h hl B w mb v hC
    unfold exprF at h
    split at h
    · rename_i hd
      have hK := (byKind_any (express_any n)).2 en s (d + 1) (st + 1) t st' h hl B
      have hstep := step_any hC.box hd.2
      have c1 : w.cell? ⟨mb, 1, none⟩ = some (.int .i64 (d : Int)) := hC.box.cell 1
      have f1 := hC.box.frozen 1
      have d1 : ¬ (d : Int) = 16 := by have := hd.1; omega
      have d2 : (d : Int) < 16 := by have := hd.1; omega
      have d0 : (0 : Int) ≤ (d : Int) := Int.natCast_nonneg _
      have HK := Lib.hid hK
      have HST := Lib.hid hstep
      have HC := Lib.hid hC
      clear hK hstep hC h hl hd
      unfold mkV at *
      go_enter Tryz.func21, Tryz.ntmps21
      go_wp2_with fail
      refine HST.out.mono ?_
      rintro _ w2 ⟨rfl, hl2⟩
      have c2 : w2.cell? ⟨mb, 1, none⟩ = some (.int .i64 (d : Int)) := hl2.box.cell 1
      have f2 := hl2.box.frozen 1
      have HL3 : Hid (Lf w mb (st + 1) (d + 1) (w2.setCell ⟨mb, 1, none⟩ (.int .i64 ((d : Int) + 1)))) := Lib.hid ⟨hl2.only.trans (one_set w2 mb 1 _), hl2.box.set_ 1 _⟩
      clear hl2 c1 f1
      go_wp2_with fail
      refine (HK.out _ mb v (HC.out.next HL3.out)).mono ?_
      rintro _ w4 ⟨rfl, hl4⟩
      have c4 : w4.cell? ⟨mb, 1, none⟩ = some (.int .i64 ((d : Int) + 1)) := hl4.box.cell 1
      have f4 := hl4.box.frozen 1
      have HL5 : Hid (Lf w mb st' d (w4.setCell ⟨mb, 1, none⟩ (.int .i64 (d : Int)))) := Lib.hid ⟨(HL3.out.only.trans hl4.only).trans (one_set w4 mb 1 _), hl4.box.set_ 1 _⟩
      have d5 : (d : Int) + 1 - 1 = (d : Int) := by omega
      clear hl4 c2 f2
      go_wp2_with fail
      go_ret
      exact ⟨rfl, HL5.out⟩
    · cases h
end Go.Proofs.YtbiinghmopgjnaaGreatDoor.Fmt
namespace Go.Proofs.YtbiinghmopgjnaaGreatDoor.Fmt
open Go.RowKit

set_option maxRecDepth 100000 in
theorem catch_idle (p : Addr) (w : World) :
    CallsD Tryz.prog 12 #[.pointer (some p)] .returning w fun e u' w' => e = .returned (.tuple #[]) ∧ u' = .returning ∧ w' = w := by
  refine callsD_of_wpS Tryz.func12 rfl fun c₀ cs hu => ?_
  apply wpS_seq
  apply wpS_region
  simp [wpOpsS, go_sem, recoverD, hu, Tryz.ntmps12, Exit.thenS]
  refine wpS_of_wp ?_
  go_wp2
  cases c₀
  simp_all [bodyPostS, results, Tryz.results12]
set_option maxRecDepth 100000 in
set_option maxHeartbeats 2000000 in
theorem catch_panicking (g : Nat) (x k : Int) (older : List PanicEntry) (w : World) (hc : w.cell? ⟨g, 0, none⟩ = some (.int .i64 x)) (hz : w.frozen? ⟨g, 0, none⟩ = false) :
    CallsD Tryz.prog 12 #[.pointer (some ⟨g, 0, none⟩)] (.panicking ({ v := .iface 28 (.int .i64 k), recovered := false } :: older)) w fun e u' w' =>
      e = .returned (.tuple #[]) ∧ u' = .panicking ({ v := .iface 28 (.int .i64 k), recovered := true } :: older) ∧ w' = w.setCell ⟨g, 0, none⟩ (.int .i64 k) := by
  have hta : ∀ (w : World), (Instr.typeAssert (.iface 28 (.int .i64 k)) 20 28 true).run Tryz.prog w = .ok (.tuple #[.int .i64 k, .bool true]) w := fun w => by kernel_rfl
  refine callsD_of_wpS Tryz.func12 rfl fun c₀ cs hu => ?_
  apply wpS_seq
  apply wpS_region
  simp [wpOpsS, go_sem, recoverD, hu, Tryz.ntmps12, Exit.thenS]
  refine wpS_of_wp ?_
  go_wp2_with fail
  simp [bodyPostS, results, Tryz.results12]
section
variable {P : Program} {ops : Array Oper} {Q : Exit → Act → World → Prop} {md : Region.Mode} {S : World → Prop}
/-- An operation that is taken first, its slot named. -/
theorem any_take {i : Nat} {d : Tmp} {oi : Oper} {v : Value} {fuel : Nat} {listed : Array Bool} {a : Act} {w : World} (hi : ops[i]? = some oi) (hd : oi.dst = some d)
    (hs : Region.noSelect ops = true) (hf : Region.free md ops listed i = true) (hr : (Region.ready md ops listed).contains i = true)
    (hQ : ∀ c a w, Q (.panic c) (a.put oi.dst v) w → Q (.panic c) a w) (hw : Region.wanted oi (yielded ops a.tmps) = true) (hy : ∀ w, S w → (execOp a.eval oi).run P w = .ok (.value v) w) (hS : S w)
    (h : wpAnyH P md ops Q S fuel (listed.setIfInBounds i true) (a.put (some d) v) w) : wpAnyH P md ops Q S (fuel + 1) listed a w :=
  wpAnyH_take hi hs hf hr hQ (.inl ⟨hw, hy⟩) hS (by rw [hd]; exact h)
/-- An operation that is not carried out. -/
theorem any_skip2 {i : Nat} {d : Tmp} {oi : Oper} {fuel : Nat} {listed : Array Bool} {a : Act} {w : World} (hi : ops[i]? = some oi) (hd : oi.dst = some d)
    (hs : Region.noSelect ops = true) (hf : Region.free md ops listed i = true) (hr : (Region.ready md ops listed).contains i = true)
    (hQ : ∀ c a w, Q (.panic c) (a.put oi.dst undef) w → Q (.panic c) a w) (hw : Region.wanted oi (yielded ops a.tmps) = false) (hS : S w)
    (h : wpAnyH P md ops Q S fuel (listed.setIfInBounds i true) (a.put (some d) undef) w) : wpAnyH P md ops Q S (fuel + 1) listed a w :=
  wpAnyH_take hi hs hf hr hQ (.inr ⟨hw, rfl⟩) hS (by rw [hd]; exact h)
end
theorem block_lt7 {w : World} {a : Addr} {v : Value} (h : w.cell? a = some v) : a.block < w.heap.size := World.block_lt_of_cell? w a (by exact h)
theorem cell_set_same {w : World} {g : Nat} {u v : Value} (h : w.cell? ⟨g, 0, none⟩ = some u) : (w.setCell ⟨g, 0, none⟩ v).cell? ⟨g, 0, none⟩ = some v := World.cell?_setCell_same _ _ _ h
theorem Leaves.same {P : Program} {fn : Func} {t1 t2 : Array Value} {R : Ending → World → Prop} (h : ∀ w, (results fn t1).run P w = (results fn t2).run P w) : ∀ (ds : List Deferred) (u : FrameMode) (w : World), Leaves P fn t1 R ds u w → Leaves P fn t2 R ds u w
  | [], .returning, w, ⟨v, h1, h2⟩ => ⟨v, (h w).symm.trans h1, h2⟩
  | [], .panicking _, _, hl => hl
  | [], .run, _, hl => hl.elim
  | d :: ds, u, w, ⟨h1, fv, cap, f, args, h2, h3, h4⟩ => ⟨h1, fv, cap, f, args, h2, h3, h4.mono fun e => by
      cases e with
      | returned v => exact fun u' w' hl => Leaves.same h ds _ w' hl
      | panicked chain => exact fun u' w' hl => Leaves.same h ds _ w' hl
      | outgrown => exact fun u' w' hl => hl⟩
theorem run_hQ (K : Act → World → Prop) (R : Ending → World → Prop) (d : Tmp) (v : Value) (h6 : d ≠ 6) (h7 : d ≠ 7) (c : List PanicEntry) (a : Act) (w : World) (h : Exit.then K (bodyPostD Tryz.prog Tryz.f11 R) (.panic c) (a.put (some d) v) w) : Exit.then K (bodyPostD Tryz.prog Tryz.f11 R) (.panic c) a w := by
  refine Leaves.same (fun w => ?_) _ _ _ h
  have e6 : (a.put (some d) v).tmps.getD 6 undef = a.tmps.getD 6 undef := by simp [Act.put, h6]
  have e7 : (a.put (some d) v).tmps.getD 7 undef = a.tmps.getD 7 undef := by simp [Act.put, h7]
  simp only [results, Tryz.results11]
  simp at e6 e7
  simp [e6, e7]
/-- What a run sees: nothing is known, or one level. -/
def Sees (w : World) (vv lo : Value) : Env → Prop
  | none => True
  | some ch => ∃ lv, ch = [lv] ∧ VarsAt w vv lv.vars ∧ LoopsAt w lo lv.loops
set_option maxRecDepth 100000 in
set_option maxHeartbeats 4000000 in
theorem run_any {X : Ex} (hX : Okx 21 X) {en : Env} {s t : Tx} {st' : Nat} (h : expandP X en s 0 0 = some (t, st')) (hl : s.length ≤ 8192) {B mb : Nat} {w : World} {vv lo : Value} (hT : TB B w) (hlow : B ≤ mb) (hbox : BL w mb 40 (mkL 0 0)) (hs : Sees w vv lo en) :
    Calls Tryz.prog 11 #[mkV mb, .string (bs s), .agg #[vv, lo]] w fun e w' => e = .returned (.tuple #[.string (bs t), .int .i64 0]) ∧ Lf w mb st' 0 w' := by
  have hmf : ∀ (fn : Fn) (first cap : Array Value) (w : World), (Instr.makeFunc fn first cap).run Tryz.prog w = .ok (.func fn first cap) w := fun _ _ _ _ => rfl
  have HSH := Lib.hid (fun V => short_any s hl V)
  have HEX := Lib.hid (fun V v hV => (expand_any hX).2 en s 0 0 t st' h hl B V mb v hV)
  clear h hX
  have hm := hbox.lt
  have hb3 : Below w.heap.size w (((w.alloc (.cells #[vv, lo] 25)).alloc (.cells #[.int .i64 0] 28)).alloc (.cells #[vv, lo, .pointer none] 49)) :=
    (((Below.refl _ _).alloc (Nat.le_refl _) _).alloc (by simp) _).alloc (by simp; omega) _
  have hs3 : Seen (((w.alloc (.cells #[vv, lo] 25)).alloc (.cells #[.int .i64 0] 28)).alloc (.cells #[vv, lo, .pointer none] 49)) (.pointer (some ⟨w.heap.size + 2, 0, none⟩)) en := by
    cases en with
    | none => trivial
    | some ch =>
      obtain ⟨lv, rfl, h1, h2⟩ := hs
      have hn := BL.new ((w.alloc (.cells #[vv, lo] 25)).alloc (.cells #[.int .i64 0] 28)) 49 [vv, lo, .pointer none]
      rw [size_alloc, size_alloc] at hn
      exact ⟨_, vv, lo, .pointer none, rfl, hn, h1.kp (Kp.below hb3), h2.kp (Kp.below hb3), rfl⟩
  have hcx : Cx B (((w.alloc (.cells #[vv, lo] 25)).alloc (.cells #[.int .i64 0] 28)).alloc (.cells #[vv, lo, .pointer none] 49)) mb 0 0 (.pointer (some ⟨w.heap.size + 2, 0, none⟩)) en :=
    ⟨hT.below (hb3.mono (by omega)), hlow, hbox.keep (hb3.block _ hm), hs3⟩
  have hb7 : BL (((w.alloc (.cells #[vv, lo] 25)).alloc (.cells #[.int .i64 0] 28)).alloc (.cells #[vv, lo, .pointer none] 49)) (w.heap.size + 1) 28 [.int .i64 0] := by
    have := (BL.new (w.alloc (.cells #[vv, lo] 25)) 28 [.int .i64 0]).alloc (.cells #[vv, lo, .pointer none] 49)
    rw [size_alloc] at this
    exact this
  have HCX := Lib.hid hcx
  have HB7 := Lib.hid hb7
  have HB3 := Lib.hid hb3
  have HM := Lib.hid hm
  have HBOX := Lib.hid hbox
  have HLOW := Lib.hid (And.intro hlow hT)
  clear hb3 hs3 hcx hb7 hm hbox hlow hT hs
  go_enter_defers Tryz.func11, Tryz.ntmps11
  go_wp2_with fail
  have SS : ∀ V : World, Below (w.heap.size + 1) ((w.alloc (.cells #[vv, lo] 25)).alloc (.cells #[.int .i64 0] 28)) V → V.cell? ⟨w.heap.size, 0, none⟩ = some vv ∧ V.cell? ⟨w.heap.size, 1, none⟩ = some lo := by
    intro V hV
    have h0 := ((BL.new w 25 [vv, lo]).alloc (.cells #[.int .i64 0] 28)).keep (hV.block _ (by omega))
    exact ⟨h0.cell 0, h0.cell 1⟩
  refine wp_region_held_drew (S := fun V => V.cell? ⟨w.heap.size, 0, none⟩ = some vv ∧ V.cell? ⟨w.heap.size, 1, none⟩ = some lo) (by kernel_rfl) (SS _ ((Below.refl _ _).drew)) (fun hHeld => ?_)
  refine any_take (i := 0) (d := 9) (v := mkV mb) rfl rfl (by kernel_rfl) (by kernel_rfl) (by kernel_rfl) (fun c a w h => run_hQ _ _ 9 _ (by decide) (by decide) c a w h) rfl ?_ (by assumption) ?_
  · intro V hV
    obtain ⟨_, _⟩ := hV
    go_simp
  simp only [Act.put, List.setIfInBounds_toArray, List.set_cons_zero, List.set_cons_succ]
  refine any_take (i := 1) (d := 10) (v := .string (bs s)) rfl rfl (by kernel_rfl) (by kernel_rfl) (by kernel_rfl) (fun c a w h => run_hQ _ _ 10 _ (by decide) (by decide) c a w h) rfl ?_ (by assumption) ?_
  · intro V hV
    obtain ⟨_, _⟩ := hV
    go_simp
  simp only [Act.put, List.setIfInBounds_toArray, List.set_cons_zero, List.set_cons_succ]
  refine any_take (i := 3) (d := 12) (v := .agg #[vv, lo]) rfl rfl (by kernel_rfl) (by kernel_rfl) (by kernel_rfl) (fun c a w h => run_hQ _ _ 12 _ (by decide) (by decide) c a w h) rfl ?_ (by assumption) ?_
  · intro V hV
    obtain ⟨_, _⟩ := hV
    go_simp
  simp only [Act.put, List.setIfInBounds_toArray, List.set_cons_zero, List.set_cons_succ]
  refine any_take (i := 4) (d := 13) (v := .agg #[vv, lo, .pointer none]) rfl rfl (by kernel_rfl) (by kernel_rfl) (by kernel_rfl) (fun c a w h => run_hQ _ _ 13 _ (by decide) (by decide) c a w h) rfl ?_ (by assumption) ?_
  · intro V hV
    obtain ⟨_, _⟩ := hV
    go_simp
  simp only [Act.put, List.setIfInBounds_toArray, List.set_cons_zero, List.set_cons_succ]
  refine wpAnyH_ready (rs := [2, 5]) (by kernel_rfl) (by simp) ?_
  refine AllReadyH.cons rfl (fun K hK => ?_) (AllReadyH.cons rfl (fun K hK => ?_) AllReadyH.nil)
  · go_simp
    refine (HSH.out _).mono ?_
    rintro _ w3 ⟨rfl, rfl⟩
    simp only []
    refine hK.out _ _ ((SS _ ((Below.refl _ _).drew))) (fun hHeld => ?_)
    clear hK K
    refine wpAnyH_ready (rs := [5]) (by kernel_rfl) (by simp) ?_
    refine AllReadyH.cons rfl (fun K hK => ?_) AllReadyH.nil
    go_simp
    refine hK.out _ _ ((SS _ ((((Below.refl _ _).alloc (by simp) _)).drew))) (fun hHeld => ?_)
    clear hK K
    refine wpAnyH_ready (rs := [6]) (by kernel_rfl) (by simp) ?_
    refine AllReadyH.cons rfl (fun K hK => ?_) AllReadyH.nil
    go_simp
    refine (HEX.out _ _ (by exact HCX.out.below ⟨rfl, rfl, rfl, Nat.le_refl _, fun _ _ => rfl⟩)).mono ?_
    rintro _ w4 ⟨rfl, hlf⟩
    have hlf2 : Lf (((w.alloc (.cells #[vv, lo] 25)).alloc (.cells #[.int .i64 0] 28)).alloc (.cells #[vv, lo, .pointer none] 49)) mb st' 0 w4 := ⟨⟨hlf.only.os, hlf.only.tape, hlf.only.output, hlf.only.size, hlf.only.block⟩, hlf.box⟩
    have hb74 := hlf2.bl HB7.out (by have := HM.out; omega)
    have c7 : w4.cell? ⟨w.heap.size + 1, 0, none⟩ = some (.int .i64 0) := hb74.cell 0
    have f7 := hb74.frozen 0
    have HLF := Lib.hid ((Lf.trans (w' := ((w.alloc (.cells #[vv, lo] 25)).alloc (.cells #[.int .i64 0] 28)).alloc (.cells #[vv, lo, .pointer none] 49)) (mb := mb) (st' := 0) (d' := 0) ⟨.of_below HB3.out, HBOX.out.keep (HB3.out.block _ HM.out)⟩ hlf2))
    have hS4 : w4.cell? ⟨w.heap.size, 0, none⟩ = some vv ∧ w4.cell? ⟨w.heap.size, 1, none⟩ = some lo := by
      obtain ⟨q0, q1⟩ := SS _ (((Below.refl _ _).alloc (by simp) (.cells #[vv, lo, .pointer none] 49)))
      have hn : w.heap.size ∉ [mb] := by have := HM.out; simp; omega
      exact ⟨(hlf2.only.cell (by simp; omega) hn 0).trans q0, (hlf2.only.cell (by simp; omega) hn 1).trans q1⟩
    clear hlf hlf2 hb74
    simp only []
    refine hK.out _ _ (hS4) (fun hHeld => ?_)
    clear hK K
    refine wpAnyH_ready (rs := [7]) (by kernel_rfl) (by simp) ?_
    refine AllReadyH.cons rfl (fun K hK => ?_) AllReadyH.nil
    go_simp
    refine hK.out _ _ (hS4) (fun hHeld => ?_)
    clear hK K
    refine wpAnyH_ready (rs := [8]) (by kernel_rfl) (by simp) ?_
    refine AllReadyH.cons rfl (fun K hK => ?_) AllReadyH.nil
    go_simp
    refine hK.out _ _ (?_) (fun hHeld => ?_)
    · have hsz : w.heap.size < w4.heap.size := by have := HLF.out.only.size; have h7 : w.heap.size + 1 < w4.heap.size := block_lt7 c7; omega
      exact ⟨((one_set w4 (w.heap.size + 1) 0 _).cell hsz (by simp) 0).trans hS4.1, ((one_set w4 (w.heap.size + 1) 0 _).cell hsz (by simp) 1).trans hS4.2⟩
    clear hK K
    refine wpAnyH_done (by kernel_rfl) ?_ _
    go_wp2_with fail
    have hend : Lf w mb st' 0 (w4.setCell ⟨w.heap.size + 1, 0, none⟩ (.int .i64 0)) := ⟨HLF.out.only.setCell (p := ⟨w.heap.size + 1, 0, none⟩) (.inr (by simp)) _, HLF.out.box.only (one_set w4 (w.heap.size + 1) 0 _) (by have := HM.out; simp; omega)⟩
    have HEND := Lib.hid hend
    have cend : (w4.setCell ⟨w.heap.size + 1, 0, none⟩ (.int .i64 0)).cell? ⟨w.heap.size + 1, 0, none⟩ = some (.int .i64 0) := cell_set_same c7
    clear hend
    generalize (w4.setCell ⟨w.heap.size + 1, 0, none⟩ (.int .i64 0)) = W9 at *
    refine leaves_cons (f := 12) (args := #[.pointer (some ⟨w.heap.size + 1, 0, none⟩)]) (by simp) (by simp [go_sem]) ?_
    refine (catch_idle ⟨w.heap.size + 1, 0, none⟩ _).mono ?_
    rintro e u' w'' ⟨rfl, rfl, rfl⟩
    simp [Leaves, settle, results, Tryz.results11, go_sem, cend]
    exact HEND.out
  · go_simp
    refine hK.out _ _ ((SS _ ((((Below.refl _ _).alloc (by simp) _)).drew))) (fun hHeld => ?_)
    clear hK K
    refine wpAnyH_ready (rs := [2]) (by kernel_rfl) (by simp) ?_
    refine AllReadyH.cons rfl (fun K hK => ?_) AllReadyH.nil
    go_simp
    refine (HSH.out _).mono ?_
    rintro _ w3 ⟨rfl, rfl⟩
    simp only []
    refine hK.out _ _ ((SS _ ((((Below.refl _ _).alloc (by simp) _)).drew))) (fun hHeld => ?_)
    clear hK K
    refine wpAnyH_ready (rs := [6]) (by kernel_rfl) (by simp) ?_
    refine AllReadyH.cons rfl (fun K hK => ?_) AllReadyH.nil
    go_simp
    refine (HEX.out _ _ (by exact HCX.out.below ⟨rfl, rfl, rfl, Nat.le_refl _, fun _ _ => rfl⟩)).mono ?_
    rintro _ w4 ⟨rfl, hlf⟩
    have hlf2 : Lf (((w.alloc (.cells #[vv, lo] 25)).alloc (.cells #[.int .i64 0] 28)).alloc (.cells #[vv, lo, .pointer none] 49)) mb st' 0 w4 := ⟨⟨hlf.only.os, hlf.only.tape, hlf.only.output, hlf.only.size, hlf.only.block⟩, hlf.box⟩
    have hb74 := hlf2.bl HB7.out (by have := HM.out; omega)
    have c7 : w4.cell? ⟨w.heap.size + 1, 0, none⟩ = some (.int .i64 0) := hb74.cell 0
    have f7 := hb74.frozen 0
    have HLF := Lib.hid ((Lf.trans (w' := ((w.alloc (.cells #[vv, lo] 25)).alloc (.cells #[.int .i64 0] 28)).alloc (.cells #[vv, lo, .pointer none] 49)) (mb := mb) (st' := 0) (d' := 0) ⟨.of_below HB3.out, HBOX.out.keep (HB3.out.block _ HM.out)⟩ hlf2))
    have hS4 : w4.cell? ⟨w.heap.size, 0, none⟩ = some vv ∧ w4.cell? ⟨w.heap.size, 1, none⟩ = some lo := by
      obtain ⟨q0, q1⟩ := SS _ (((Below.refl _ _).alloc (by simp) (.cells #[vv, lo, .pointer none] 49)))
      have hn : w.heap.size ∉ [mb] := by have := HM.out; simp; omega
      exact ⟨(hlf2.only.cell (by simp; omega) hn 0).trans q0, (hlf2.only.cell (by simp; omega) hn 1).trans q1⟩
    clear hlf hlf2 hb74
    simp only []
    refine hK.out _ _ (hS4) (fun hHeld => ?_)
    clear hK K
    refine wpAnyH_ready (rs := [7]) (by kernel_rfl) (by simp) ?_
    refine AllReadyH.cons rfl (fun K hK => ?_) AllReadyH.nil
    go_simp
    refine hK.out _ _ (hS4) (fun hHeld => ?_)
    clear hK K
    refine wpAnyH_ready (rs := [8]) (by kernel_rfl) (by simp) ?_
    refine AllReadyH.cons rfl (fun K hK => ?_) AllReadyH.nil
    go_simp
    refine hK.out _ _ (?_) (fun hHeld => ?_)
    · have hsz : w.heap.size < w4.heap.size := by have := HLF.out.only.size; have h7 : w.heap.size + 1 < w4.heap.size := block_lt7 c7; omega
      exact ⟨((one_set w4 (w.heap.size + 1) 0 _).cell hsz (by simp) 0).trans hS4.1, ((one_set w4 (w.heap.size + 1) 0 _).cell hsz (by simp) 1).trans hS4.2⟩
    clear hK K
    refine wpAnyH_done (by kernel_rfl) ?_ _
    go_wp2_with fail
    have hend : Lf w mb st' 0 (w4.setCell ⟨w.heap.size + 1, 0, none⟩ (.int .i64 0)) := ⟨HLF.out.only.setCell (p := ⟨w.heap.size + 1, 0, none⟩) (.inr (by simp)) _, HLF.out.box.only (one_set w4 (w.heap.size + 1) 0 _) (by have := HM.out; simp; omega)⟩
    have HEND := Lib.hid hend
    have cend : (w4.setCell ⟨w.heap.size + 1, 0, none⟩ (.int .i64 0)).cell? ⟨w.heap.size + 1, 0, none⟩ = some (.int .i64 0) := cell_set_same c7
    clear hend
    generalize (w4.setCell ⟨w.heap.size + 1, 0, none⟩ (.int .i64 0)) = W9 at *
    refine leaves_cons (f := 12) (args := #[.pointer (some ⟨w.heap.size + 1, 0, none⟩)]) (by simp) (by simp [go_sem]) ?_
    refine (catch_idle ⟨w.heap.size + 1, 0, none⟩ _).mono ?_
    rintro e u' w'' ⟨rfl, rfl, rfl⟩
    simp [Leaves, settle, results, Tryz.results11, go_sem, cend]
    exact HEND.out
end Go.Proofs.YtbiinghmopgjnaaGreatDoor.Fmt
namespace Go.Proofs.YtbiinghmopgjnaaGreatDoor.Fmt
open Go.RowKit
set_option maxRecDepth 100000 in
set_option maxHeartbeats 2000000 in
theorem Expand_any {en : Env} {s t : Tx} {st' : Nat} (h : expandP (exprF 17) en s 0 0 = some (t, st')) (hl : s.length ≤ 8192) {B : Nat} {w : World} {vv lo : Value} (hT : TB B w) (hB : B ≤ w.heap.size) (hs : Sees w vv lo en) :
    Calls Tryz.prog 5 #[.string (bs s), .agg #[vv, lo]] w fun e w' => e = .returned (.tuple #[.string (bs t), .int .i64 0]) ∧ Below w.heap.size w w' := by
  have hb2 : Below w.heap.size w ((w.alloc (.cells #[vv, lo] 25)).alloc (.cells #[.int .i64 0, .int .i64 0] 40)) := ((Below.refl _ _).alloc (Nat.le_refl _) _).alloc (by simp) _
  have hbox := BL.new (w.alloc (.cells #[vv, lo] 25)) 40 [.int .i64 0, .int .i64 0]
  have hs2 : Sees ((w.alloc (.cells #[vv, lo] 25)).alloc (.cells #[.int .i64 0, .int .i64 0] 40)) vv lo en := by
    cases en with
    | none => trivial
    | some ch =>
      obtain ⟨lv, h1, h2, h3⟩ := hs
      exact ⟨lv, h1, h2.kp (Kp.below hb2), h3.kp (Kp.below hb2)⟩
  rw [size_alloc] at hbox
  have HR := Lib.hid (run_any (express_any 17) h hl (mb := w.heap.size + 1) (hT.below (hb2.mono hB)) (by omega) hbox hs2)
  have HB := Lib.hid hb2
  clear hb2 hbox hs2 hs hT h
  unfold mkV at HR
  go_enter Tryz.func5, Tryz.ntmps5
  go_wp2_with fail
  refine HR.out.mono ?_
  rintro _ w3 ⟨rfl, hl3⟩
  have HB3 := Lib.hid (HB.out.trans (hl3.only.below HB.out.size (by simp)))
  clear hl3
  go_wp2_with fail
  go_ret2
  exact ⟨rfl, HB3.out⟩
set_option maxRecDepth 100000 in
set_option maxHeartbeats 2000000 in
theorem Steps_any {en : Env} {s t : Tx} {st' : Nat} (h : expandP (exprF 17) en s 0 0 = some (t, st')) (hl : s.length ≤ 8192) {B : Nat} {w : World} {vv lo : Value} (hT : TB B w) (hB : B ≤ w.heap.size) (hs : Sees w vv lo en) :
    Calls Tryz.prog 6 #[.string (bs s), .agg #[vv, lo]] w fun e w' => e = .returned (.tuple #[.int .i64 (st' : Int), .int .i64 0]) ∧ Below w.heap.size w w' := by
  have hb2 : Below w.heap.size w ((w.alloc (.cells #[vv, lo] 25)).alloc (.cells #[.int .i64 0, .int .i64 0] 40)) := ((Below.refl _ _).alloc (Nat.le_refl _) _).alloc (by simp) _
  have hbox := BL.new (w.alloc (.cells #[vv, lo] 25)) 40 [.int .i64 0, .int .i64 0]
  have hs2 : Sees ((w.alloc (.cells #[vv, lo] 25)).alloc (.cells #[.int .i64 0, .int .i64 0] 40)) vv lo en := by
    cases en with
    | none => trivial
    | some ch =>
      obtain ⟨lv, h1, h2, h3⟩ := hs
      exact ⟨lv, h1, h2.kp (Kp.below hb2), h3.kp (Kp.below hb2)⟩
  rw [size_alloc] at hbox
  have HR := Lib.hid (run_any (express_any 17) h hl (mb := w.heap.size + 1) (hT.below (hb2.mono hB)) (by omega) hbox hs2)
  have HB := Lib.hid hb2
  clear hb2 hbox hs2 hs hT h
  unfold mkV at HR
  go_enter Tryz.func6, Tryz.ntmps6
  go_wp2_with fail
  refine HR.out.mono ?_
  rintro _ w3 ⟨rfl, hl3⟩
  have HB3 := Lib.hid (HB.out.trans (hl3.only.below HB.out.size (by simp)))
  have c0 : w3.cell? ⟨w.heap.size + 1, 0, none⟩ = some (.int .i64 (st' : Int)) := hl3.box.cell 0
  clear hl3
  go_wp2_with fail
  go_ret2
  exact ⟨rfl, HB3.out⟩
end Go.Proofs.YtbiinghmopgjnaaGreatDoor.Fmt
namespace Go.Proofs.YtbiinghmopgjnaaGreatDoor.Fmt
open Go.RowKit
def zS : List Value := [.slice none 0 0, .slice none 0 0]
def p1 : List Value := pairsC [([119, 105, 110, 100, 111, 119, 95, 110, 97, 109, 101], [111, 110, 101])]
def p2 : List Value := pairsC [([119, 105, 110, 100, 111, 119, 95, 110, 97, 109, 101], [116, 119, 111]), ([97, 99, 116, 105, 118, 101], [49])]
def p4 : List Value := pairsC [([115, 101, 115, 115, 105, 111, 110, 95, 110, 97, 109, 101], [115, 49]), ([119, 105, 110, 100, 111, 119, 95, 105, 110, 100, 101, 120], [51]), ([120], [97, 47, 98, 46, 99]), ([121], [48])]
theorem size_scope : (Tryz.prog.info? 25).map (·.size) = some 2 := by kernel_rfl
theorem results_c1 {P : Program} {fn : Func} {p : Tmp} {ty : TypeId} (h : fn.results = #[.cell p ty]) (tmps : Array Value) (w : World) (g : Nat) (t : TypeId) (cs : List Value) (d : TypeDesc)
    (hp : tmps.getD p undef = .pointer (some ⟨g, 0, none⟩)) (hg : BL w g t cs) (hu : P.underlying ty = some d) (hd : d.isRow = true) (hi : (P.info? ty).map (·.size) = some cs.length) :
    (results fn tmps).run P w = .ok (.agg cs.toArray) w := by
  have hp' : tmps[p]?.getD undef = .pointer (some ⟨g, 0, none⟩) := by simpa using hp
  simp [results, h, hp', asAddr, run_loadVar_mid w g 0 ty cs d (hg.range (fun j v hj => by simpa using hj)) hu hd hi]
theorem sees_ex {w : World} {n k m : Nat} (h1 : BL w (n + 1) 42 p1) (h2 : BL w k 42 p2) (h4 : BL w m 42 p4)
    (hs : BL w (m + 1) 25 [.slice (some ⟨n + 1, 0, none⟩) 1 1, .slice none 0 0, .slice (some ⟨k, 0, none⟩) 2 2, .slice none 0 0])
    (hl : BL w (m + 2) 45 [.int .u8 87, .slice (some ⟨m + 1, 0, none⟩) 2 2]) : Sees w (.slice (some ⟨m, 0, none⟩) 4 4) (.slice (some ⟨m + 2, 0, none⟩) 1 1) exEnv := by
  refine ⟨_, rfl, .inr ⟨m, ⟨rfl, by decide⟩, h4⟩, .inr ⟨m + 2, [.slice (some ⟨m + 1, 0, none⟩) 2 2], ⟨rfl, by decide⟩, rfl, hl, fun i s x hs' hx => ?_⟩⟩
  match i, hs', hx with
  | 0, hs', hx =>
    simp only [List.getElem?_cons_zero, Option.some.injEq] at hs' hx
    subst hs'; subst hx
    refine ⟨m + 1, [.slice (some ⟨n + 1, 0, none⟩) 1 1, .slice (some ⟨k, 0, none⟩) 2 2], ⟨rfl, by decide⟩, rfl, hs, fun j u y hu hy => ?_⟩
    match j, hu, hy with
    | 0, hu, hy =>
      simp only [List.getElem?_cons_zero, Option.some.injEq] at hu hy
      subst hu; subst hy
      exact .inr ⟨n + 1, ⟨rfl, by decide⟩, h1⟩
    | 1, hu, hy =>
      simp only [List.getElem?_cons_succ, List.getElem?_cons_zero, Option.some.injEq] at hu hy
      subst hu; subst hy
      exact .inr ⟨k, ⟨rfl, by decide⟩, h2⟩
    | j + 2, hu, hy => simp at hu
  | i + 1, hs', hx => simp at hs'
set_option maxRecDepth 100000 in
set_option maxHeartbeats 4000000 in
theorem example_any (w : World) : Calls Tryz.prog 9 #[] w fun e w' => (∃ vv lo, e = .returned (.agg #[vv, lo]) ∧ Sees w' vv lo exEnv) ∧ Below w.heap.size w w' := by
  have hz0 := ((BL.new w 25 zS).alloc (.cells p1.toArray 42)).alloc (.cells zS.toArray 25)
  have hp1 := (BL.new (w.alloc (.cells zS.toArray 25)) 42 p1).alloc (.cells zS.toArray 25)
  have hz1 := BL.new ((w.alloc (.cells zS.toArray 25)).alloc (.cells p1.toArray 42)) 25 zS
  simp only [size_alloc] at hp1 hz1
  have hb1 : Below w.heap.size w (((w.alloc (.cells zS.toArray 25)).alloc (.cells p1.toArray 42)).alloc (.cells zS.toArray 25)) := (((Below.refl _ _).alloc (Nat.le_refl _) _).alloc (by simp) _).alloc (by simp; omega) _
  have HZ0 := Lib.hid hz0
  have HP1 := Lib.hid hp1
  have HZ1 := Lib.hid hz1
  have HB1 := Lib.hid hb1
  clear hz0 hp1 hz1 hb1
  go_enter Tryz.func9, Tryz.ntmps9
  go_wp2_with (first
    | (refine wpList_store_at rfl 25 _ _ rfl (w.heap.size + 2) 0 [.slice (some ⟨w.heap.size + 1, 0, none⟩) 1 1, .slice none 0 0] rfl rfl 25 _ HZ1.out (by show 0 + 2 ≤ 2; omega) size_scope (by simp [Value.oneCell']) ?_; intro w6 h6 ho6 hs6; have HS6 := Lib.hid (show w6.heap.size = w.heap.size + 3 by rw [hs6]; simp); have HA1 := Lib.hid (show BL w6 (w.heap.size + 2) 25 [.slice (some ⟨w.heap.size + 1, 0, none⟩) 1 1, .slice none 0 0] from h6); have HP6 := Lib.hid (HP1.out.only ho6 (by simp)); have HZ6 := Lib.hid (HZ0.out.only ho6 (by simp)); have HB6 := Lib.hid (HB1.out.trans (ho6.below HB1.out.size (by simp))); clear h6 ho6 hs6; have HZ7 : Hid (BL ((w6.alloc (.cells p2.toArray 42)).alloc (.cells zS.toArray 25)) (w6.heap.size + 1) 25 zS) := (by have hh := BL.new (w6.alloc (.cells p2.toArray 42)) 25 zS; rw [size_alloc] at hh; exact hh))
    | (refine wpList_store_at rfl 25 _ _ rfl (w6.heap.size + 1) 0 [.slice (some ⟨w6.heap.size, 0, none⟩) 2 2, .slice none 0 0] rfl rfl 25 _ HZ7.out (by show 0 + 2 ≤ 2; omega) size_scope (by simp [Value.oneCell']) ?_; intro w7 h7 ho7 hs7; have HS7 := Lib.hid (show w7.heap.size = w6.heap.size + 2 by rw [hs7]; simp); have HA2 := Lib.hid (show BL w7 (w6.heap.size + 1) 25 [.slice (some ⟨w6.heap.size, 0, none⟩) 2 2, .slice none 0 0] from h7); have HP7 : Hid (BL w7 w6.heap.size 42 p2) := Lib.hid (((BL.new w6 42 p2).alloc (.cells zS.toArray 25)).only ho7 (by simp)); have HA7 := Lib.hid (((HA1.out.alloc (.cells p2.toArray 42)).alloc (.cells zS.toArray 25)).only ho7 (by have := HS6.out; simp; omega)); have HP71 := Lib.hid (((HP6.out.alloc (.cells p2.toArray 42)).alloc (.cells zS.toArray 25)).only ho7 (by have := HS6.out; simp; omega)); have HZ70 := Lib.hid (((HZ6.out.alloc (.cells p2.toArray 42)).alloc (.cells zS.toArray 25)).only ho7 (by have := HS6.out; simp; omega)); have HB7 := Lib.hid (((HB6.out.alloc HB6.out.size (.cells p2.toArray 42)).alloc (HB6.out.alloc HB6.out.size (.cells p2.toArray 42)).size (.cells zS.toArray 25)).trans (ho7.below (by have := HS6.out; simp; omega) (by have := HS6.out; simp; omega))); have HZ8 := Lib.hid (((HZ70.out.alloc (.cells p4.toArray 42)).alloc (.cells ([.slice (some ⟨w.heap.size + 1, 0, none⟩) 1 1, .slice none 0 0, .slice (some ⟨w6.heap.size, 0, none⟩) 2 2, .slice none 0 0] : List Value).toArray 25)).alloc (.cells ([.int .u8 87, .slice (some ⟨w7.heap.size + 1, 0, none⟩) 2 2] : List Value).toArray 45)); clear h7 ho7 hs7)
    | (refine wpList_load_mid rfl 25 _ rfl (w.heap.size + 2) 0 rfl [.slice (some ⟨w.heap.size + 1, 0, none⟩) 1 1, .slice none 0 0] _ ((HA7.out.alloc (.cells p4.toArray 42)).range (o := 0) (vs := [.slice (some ⟨w.heap.size + 1, 0, none⟩) 1 1, .slice none 0 0]) (fun j v hj => by rw [Nat.zero_add]; exact hj)) Tryz.underlying25 rfl size_scope ?_)
    | (refine wpList_load_mid rfl 25 _ rfl (w6.heap.size + 1) 0 rfl [.slice (some ⟨w6.heap.size, 0, none⟩) 2 2, .slice none 0 0] _ ((HA2.out.alloc (.cells p4.toArray 42)).range (o := 0) (vs := [.slice (some ⟨w6.heap.size, 0, none⟩) 2 2, .slice none 0 0]) (fun j v hj => by rw [Nat.zero_add]; exact hj)) Tryz.underlying25 rfl size_scope ?_)
    | (refine wpList_store_at rfl 25 _ _ rfl w.heap.size 0 [.slice (some ⟨w7.heap.size, 0, none⟩) 4 4, .slice (some ⟨w7.heap.size + 2, 0, none⟩) 1 1] rfl rfl 25 _ HZ8.out (by show 0 + 2 ≤ 2; omega) size_scope (by simp [Value.oneCell']) ?_; intro w9 h9 ho9 hs9))
  have n6 := HS6.out
  have n7 := HS7.out
  have hsc := BL.new (w7.alloc (.cells p4.toArray 42)) 25 [.slice (some ⟨w.heap.size + 1, 0, none⟩) 1 1, .slice none 0 0, .slice (some ⟨w6.heap.size, 0, none⟩) 2 2, .slice none 0 0]
  have hlp := BL.new ((w7.alloc (.cells p4.toArray 42)).alloc (.cells ([.slice (some ⟨w.heap.size + 1, 0, none⟩) 1 1, .slice none 0 0, .slice (some ⟨w6.heap.size, 0, none⟩) 2 2, .slice none 0 0] : List Value).toArray 25)) 45 [.int .u8 87, .slice (some ⟨w7.heap.size + 1, 0, none⟩) 2 2]
  simp only [size_alloc] at hsc hlp
  have HSC : BL w9 (w7.heap.size + 1) 25 [.slice (some ⟨w.heap.size + 1, 0, none⟩) 1 1, .slice none 0 0, .slice (some ⟨w6.heap.size, 0, none⟩) 2 2, .slice none 0 0] := (hsc.alloc (.cells ([.int .u8 87, .slice (some ⟨w7.heap.size + 1, 0, none⟩) 2 2] : List Value).toArray 45)).only ho9 (by simp; omega)
  have HLP : BL w9 (w7.heap.size + 2) 45 [.int .u8 87, .slice (some ⟨w7.heap.size + 1, 0, none⟩) 2 2] := hlp.only ho9 (by simp; omega)
  have HP4 : BL w9 w7.heap.size 42 p4 := (((BL.new w7 42 p4).alloc (.cells ([.slice (some ⟨w.heap.size + 1, 0, none⟩) 1 1, .slice none 0 0, .slice (some ⟨w6.heap.size, 0, none⟩) 2 2, .slice none 0 0] : List Value).toArray 25)).alloc (.cells ([.int .u8 87, .slice (some ⟨w7.heap.size + 1, 0, none⟩) 2 2] : List Value).toArray 45)).only ho9 (by simp; omega)
  have HP2 : BL w9 w6.heap.size 42 p2 := (((HP7.out.alloc (.cells p4.toArray 42)).alloc (.cells ([.slice (some ⟨w.heap.size + 1, 0, none⟩) 1 1, .slice none 0 0, .slice (some ⟨w6.heap.size, 0, none⟩) 2 2, .slice none 0 0] : List Value).toArray 25)).alloc (.cells ([.int .u8 87, .slice (some ⟨w7.heap.size + 1, 0, none⟩) 2 2] : List Value).toArray 45)).only ho9 (by simp; omega)
  have HP11 : BL w9 (w.heap.size + 1) 42 p1 := (((HP71.out.alloc (.cells p4.toArray 42)).alloc (.cells ([.slice (some ⟨w.heap.size + 1, 0, none⟩) 1 1, .slice none 0 0, .slice (some ⟨w6.heap.size, 0, none⟩) 2 2, .slice none 0 0] : List Value).toArray 25)).alloc (.cells ([.int .u8 87, .slice (some ⟨w7.heap.size + 1, 0, none⟩) 2 2] : List Value).toArray 45)).only ho9 (by simp)
  have hbl : Below w.heap.size w w9 := (((HB7.out.alloc HB7.out.size (.cells p4.toArray 42)).alloc (by simp; omega) (.cells ([.slice (some ⟨w.heap.size + 1, 0, none⟩) 1 1, .slice none 0 0, .slice (some ⟨w6.heap.size, 0, none⟩) 2 2, .slice none 0 0] : List Value).toArray 25)).alloc (by simp; omega) (.cells ([.int .u8 87, .slice (some ⟨w7.heap.size + 1, 0, none⟩) 2 2] : List Value).toArray 45)).trans (ho9.below (by simp; omega) (by simp))
  have h9' : BL w9 w.heap.size 25 [.slice (some ⟨w7.heap.size, 0, none⟩) 4 4, .slice (some ⟨w7.heap.size + 2, 0, none⟩) 1 1] := h9
  refine bodyPost_ret (results_c1 rfl _ _ w.heap.size _ _ _ rfl h9' Tryz.underlying25 rfl size_scope) rfl ?_
  exact ⟨⟨_, _, rfl, sees_ex HP11 HP2 HP4 HSC HLP⟩, hbl⟩
end Go.Proofs.YtbiinghmopgjnaaGreatDoor.Fmt
namespace Go.Proofs.YtbiinghmopgjnaaGreatDoor.Fmt
open Go.RowKit
set_option maxRecDepth 100000 in
set_option maxHeartbeats 2000000 in
theorem is_any {s t : Tx} {st' : Nat} (h : expandP (exprF 17) exEnv s 0 0 = some (t, st')) (hl : s.length ≤ 8192) {B : Nat} (w : World) (hT : TB B w) (hB : B ≤ w.heap.size) :
    Calls Tryz.prog 8 #[.string (bs s), .string (bs t)] w fun e w' => e = .returned (.bool true) ∧ Below w.heap.size w w' := by
  have HE := Lib.hid (fun V vv lo (hb : Below w.heap.size w V) (hs : Sees V vv lo exEnv) => Expand_any h hl (w := V) (hT.below (hb.mono hB)) (Nat.le_trans hB hb.size) hs)
  have HX := Lib.hid (example_any w)
  clear h hl hT
  generalize bs s = S at *
  generalize bs t = T at *
  go_enter Tryz.func8, Tryz.ntmps8
  go_wp2_with fail
  refine HX.out.mono ?_
  rintro _ w1 ⟨⟨vv, lo, rfl, hs⟩, hb⟩
  have H2 := Lib.hid (HE.out _ _ _ hb hs)
  have HB := Lib.hid hb
  clear hs hb
  go_wp2_with fail
  refine H2.out.mono ?_
  rintro _ w2 ⟨rfl, hb2⟩
  have HB2 := Lib.hid (HB.out.trans (hb2.mono HB.out.size))
  clear hb2
  go_wp2_with fail
  go_ret
  exact ⟨rfl, HB2.out⟩
/-- What is wrong of form. -/
def wrongF : List PanicEntry := [{ v := .iface 28 (.int .i64 4), recovered := false }]
set_option maxRecDepth 100000 in
set_option maxHeartbeats 2000000 in
theorem front_wrong (w : World) (mb : Nat) (v : Value) :
    Calls Tryz.prog 15 #[mkV mb, .string { data := #[35, 123, 120] }, v] w fun e w' => e = .panicked wrongF ∧ Below w.heap.size w w' := by
  have H1 : Hid (Calls Tryz.prog 17 #[.string { data := #[35, 123, 120] }, .int .u8 35] w fun e w' => e = .returned (.int .i64 0) ∧ w = w') := by
    refine Lib.hid ((Tryz.strings_IndexByte { data := #[35, 123, 120] } 35 w).mono fun e w' he => ?_)
    obtain ⟨he, hw⟩ := he
    exact ⟨he.trans (by kernel_rfl), hw.symm⟩
  have H2 : Hid (Calls Tryz.prog 18 #[.int .u8 123] w fun e w' => e = .returned (.string { data := #[] }) ∧ w = w') := shorthand_any 123 w
  have H3 : Hid (Calls Tryz.prog 19 #[.int .u8 123] w fun e w' => e = .returned (.bool false) ∧ w = w') := marked_any 123 w
  have c1 : ((({ data := #[35, 123, 120] } : ByteArray)[1].toNat : Nat) : Int) = 123 := rfl
  have H4 : Hid (Calls Tryz.prog 20 #[.string { data := #[120] }, .int .u8 125] w fun e w' => e = .returned (.int .i64 (-1)) ∧ w = w') := outside_any [120] 125 (by decide) w
  unfold mkV
  go_enter Tryz.func15, Tryz.ntmps15
  go_wp2_with fail
  refine H1.out.mono ?_
  rintro _ w1 ⟨rfl, rfl⟩
  go_wp2_with fail
  refine H2.out.mono ?_
  rintro _ w1 ⟨rfl, rfl⟩
  go_wp2_with fail
  refine H3.out.mono ?_
  rintro _ w1 ⟨rfl, rfl⟩
  go_wp2_with fail
  refine H4.out.mono ?_
  rintro _ w1 ⟨rfl, rfl⟩
  go_wp2_with fail
  exact ⟨rfl, rfl, (Below.refl _ _)⟩
set_option maxRecDepth 100000 in
set_option maxHeartbeats 2000000 in
theorem expand_wrong (w : World) (mb : Nat) (v : Value) :
    Calls Tryz.prog 13 #[mkV mb, .string { data := #[35, 123, 120] }, v] w fun e w' => e = .panicked wrongF ∧ Below w.heap.size w w' := by
  have hb0 : Below w.heap.size w (w.alloc (.cells #[.slice none 0 0] 51)) := (Below.refl _ _).alloc (Nat.le_refl _) _
  have H1 := Lib.hid (front_wrong (w.alloc (.cells #[.slice none 0 0] 51)) mb v)
  have HB0 := Lib.hid hb0
  clear hb0
  unfold mkV at *
  go_enter Tryz.func13, Tryz.ntmps13
  go_wp2_with fail
  refine wp_loop_rounds 1 ?_
  rw [rounds_succ]
  go_wp2_with fail
  refine H1.out.mono ?_
  rintro _ w1 ⟨rfl, hb⟩
  have hend := HB0.out.trans (hb.mono HB0.out.size)
  first
    | exact ⟨rfl, rfl, hend⟩

end Go.Proofs.YtbiinghmopgjnaaGreatDoor.Fmt
namespace Go.Proofs.YtbiinghmopgjnaaGreatDoor.Fmt
open Go.RowKit
set_option maxRecDepth 100000 in
set_option maxHeartbeats 4000000 in
theorem run_wrong (w : World) (mb : Nat) (vv lo : Value) :
    Calls Tryz.prog 11 #[mkV mb, .string { data := #[35, 123, 120] }, .agg #[vv, lo]] w fun e w' => e = .returned (.tuple #[.string { data := #[] }, .int .i64 4]) ∧ Below w.heap.size w w' := by
  have hmf : ∀ (fn : Fn) (first cap : Array Value) (w : World), (Instr.makeFunc fn first cap).run Tryz.prog w = .ok (.func fn first cap) w := fun _ _ _ _ => rfl
  have HSH : Hid (∀ V : World, Calls Tryz.prog 14 #[.string { data := #[35, 123, 120] }] V fun e w' => e = .returned (.string { data := #[35, 123, 120] }) ∧ V = w') := fun V => short_any [35, 123, 120] (by decide) V
  have HEX := Lib.hid (fun V v => expand_wrong V mb v)
  have hb3 : Below w.heap.size w (((w.alloc (.cells #[vv, lo] 25)).alloc (.cells #[.int .i64 0] 28)).alloc (.cells #[vv, lo, .pointer none] 49)) :=
    (((Below.refl _ _).alloc (Nat.le_refl _) _).alloc (by simp) _).alloc (by simp; omega) _
  have hb7 : BL (((w.alloc (.cells #[vv, lo] 25)).alloc (.cells #[.int .i64 0] 28)).alloc (.cells #[vv, lo, .pointer none] 49)) (w.heap.size + 1) 28 [.int .i64 0] := by
    have := (BL.new (w.alloc (.cells #[vv, lo] 25)) 28 [.int .i64 0]).alloc (.cells #[vv, lo, .pointer none] 49)
    rw [size_alloc] at this
    exact this
  have HB7 := Lib.hid hb7
  have HB3 := Lib.hid hb3
  clear hb3 hb7
  go_enter_defers Tryz.func11, Tryz.ntmps11
  go_wp2_with fail
  have SS : ∀ V : World, Below (w.heap.size + 1) ((w.alloc (.cells #[vv, lo] 25)).alloc (.cells #[.int .i64 0] 28)) V → V.cell? ⟨w.heap.size, 0, none⟩ = some vv ∧ V.cell? ⟨w.heap.size, 1, none⟩ = some lo := by
    intro V hV
    have h0 := ((BL.new w 25 [vv, lo]).alloc (.cells #[.int .i64 0] 28)).keep (hV.block _ (by omega))
    exact ⟨h0.cell 0, h0.cell 1⟩
  refine wp_region_held_drew (S := fun V => V.cell? ⟨w.heap.size, 0, none⟩ = some vv ∧ V.cell? ⟨w.heap.size, 1, none⟩ = some lo) (by kernel_rfl) (SS _ ((Below.refl _ _).drew)) (fun hHeld => ?_)
  refine any_take (i := 0) (d := 9) (v := mkV mb) rfl rfl (by kernel_rfl) (by kernel_rfl) (by kernel_rfl) (fun c a w h => run_hQ _ _ 9 _ (by decide) (by decide) c a w h) rfl ?_ (by assumption) ?_
  · intro V hV
    obtain ⟨_, _⟩ := hV
    go_simp
  simp only [Act.put, List.setIfInBounds_toArray, List.set_cons_zero, List.set_cons_succ]
  refine any_take (i := 1) (d := 10) (v := .string { data := #[35, 123, 120] }) rfl rfl (by kernel_rfl) (by kernel_rfl) (by kernel_rfl) (fun c a w h => run_hQ _ _ 10 _ (by decide) (by decide) c a w h) rfl ?_ (by assumption) ?_
  · intro V hV
    obtain ⟨_, _⟩ := hV
    go_simp
  simp only [Act.put, List.setIfInBounds_toArray, List.set_cons_zero, List.set_cons_succ]
  refine any_take (i := 3) (d := 12) (v := .agg #[vv, lo]) rfl rfl (by kernel_rfl) (by kernel_rfl) (by kernel_rfl) (fun c a w h => run_hQ _ _ 12 _ (by decide) (by decide) c a w h) rfl ?_ (by assumption) ?_
  · intro V hV
    obtain ⟨_, _⟩ := hV
    go_simp
  simp only [Act.put, List.setIfInBounds_toArray, List.set_cons_zero, List.set_cons_succ]
  refine any_take (i := 4) (d := 13) (v := .agg #[vv, lo, .pointer none]) rfl rfl (by kernel_rfl) (by kernel_rfl) (by kernel_rfl) (fun c a w h => run_hQ _ _ 13 _ (by decide) (by decide) c a w h) rfl ?_ (by assumption) ?_
  · intro V hV
    obtain ⟨_, _⟩ := hV
    go_simp
  simp only [Act.put, List.setIfInBounds_toArray, List.set_cons_zero, List.set_cons_succ]
  refine wpAnyH_ready (rs := [2, 5]) (by kernel_rfl) (by simp) ?_
  refine AllReadyH.cons rfl (fun K hK => ?_) (AllReadyH.cons rfl (fun K hK => ?_) AllReadyH.nil)
  · go_simp
    refine (HSH.out _).mono ?_
    rintro _ w3 ⟨rfl, rfl⟩
    simp only []
    refine hK.out _ _ ((SS _ ((Below.refl _ _).drew))) (fun hHeld => ?_)
    clear hK K
    refine wpAnyH_ready (rs := [5]) (by kernel_rfl) (by simp) ?_
    refine AllReadyH.cons rfl (fun K hK => ?_) AllReadyH.nil
    go_simp
    refine hK.out _ _ ((SS _ ((((Below.refl _ _).alloc (by simp) _)).drew))) (fun hHeld => ?_)
    clear hK K
    refine wpAnyH_ready (rs := [6]) (by kernel_rfl) (by simp) ?_
    refine AllReadyH.cons rfl (fun K hK => ?_) AllReadyH.nil
    go_simp
    refine (HEX.out _ _).mono ?_
    rintro _ w4 ⟨rfl, hb4⟩
    have hb74 : BL w4 (w.heap.size + 1) 28 [.int .i64 0] := HB7.out.keep (hb4.block _ HB7.out.lt)
    have c7 : w4.cell? ⟨w.heap.size + 1, 0, none⟩ = some (.int .i64 0) := hb74.cell 0
    have f7 := hb74.frozen 0
    have hb5 : Below (((w.alloc (.cells #[vv, lo] 25)).alloc (.cells #[.int .i64 0] 28)).alloc (.cells #[vv, lo, .pointer none] 49)).heap.size (((w.alloc (.cells #[vv, lo] 25)).alloc (.cells #[.int .i64 0] 28)).alloc (.cells #[vv, lo, .pointer none] 49)) w4 := ⟨hb4.os, hb4.tape, hb4.output, hb4.size, hb4.block⟩
    have h04 : Below w.heap.size w w4 := HB3.out.trans (hb5.mono HB3.out.size)
    have HEND := Lib.hid (show Below w.heap.size w (w4.setCell ⟨w.heap.size + 1, 0, none⟩ (.int .i64 4)) from h04.setCell (by simp) _)
    have cend : (w4.setCell ⟨w.heap.size + 1, 0, none⟩ (.int .i64 4)).cell? ⟨w.heap.size + 1, 0, none⟩ = some (.int .i64 4) := cell_set_same c7
    clear hb4 hb74 h04 hb5
    simp only []
    refine leaves_cons (f := 12) (args := #[.pointer (some ⟨w.heap.size + 1, 0, none⟩)]) (by simp) (by simp [go_sem]) ?_
    refine (catch_panicking (w.heap.size + 1) 0 4 [] _ c7 f7).mono ?_
    rintro e u' w'' ⟨rfl, rfl, rfl⟩
    simp [Leaves, settle, results, Tryz.results11, go_sem, cend]
    exact HEND.out
  · go_simp
    refine hK.out _ _ ((SS _ ((((Below.refl _ _).alloc (by simp) _)).drew))) (fun hHeld => ?_)
    clear hK K
    refine wpAnyH_ready (rs := [2]) (by kernel_rfl) (by simp) ?_
    refine AllReadyH.cons rfl (fun K hK => ?_) AllReadyH.nil
    go_simp
    refine (HSH.out _).mono ?_
    rintro _ w3 ⟨rfl, rfl⟩
    simp only []
    refine hK.out _ _ ((SS _ ((((Below.refl _ _).alloc (by simp) _)).drew))) (fun hHeld => ?_)
    clear hK K
    refine wpAnyH_ready (rs := [6]) (by kernel_rfl) (by simp) ?_
    refine AllReadyH.cons rfl (fun K hK => ?_) AllReadyH.nil
    go_simp
    refine (HEX.out _ _).mono ?_
    rintro _ w4 ⟨rfl, hb4⟩
    have hb74 : BL w4 (w.heap.size + 1) 28 [.int .i64 0] := HB7.out.keep (hb4.block _ HB7.out.lt)
    have c7 : w4.cell? ⟨w.heap.size + 1, 0, none⟩ = some (.int .i64 0) := hb74.cell 0
    have f7 := hb74.frozen 0
    have hb5 : Below (((w.alloc (.cells #[vv, lo] 25)).alloc (.cells #[.int .i64 0] 28)).alloc (.cells #[vv, lo, .pointer none] 49)).heap.size (((w.alloc (.cells #[vv, lo] 25)).alloc (.cells #[.int .i64 0] 28)).alloc (.cells #[vv, lo, .pointer none] 49)) w4 := ⟨hb4.os, hb4.tape, hb4.output, hb4.size, hb4.block⟩
    have h04 : Below w.heap.size w w4 := HB3.out.trans (hb5.mono HB3.out.size)
    have HEND := Lib.hid (show Below w.heap.size w (w4.setCell ⟨w.heap.size + 1, 0, none⟩ (.int .i64 4)) from h04.setCell (by simp) _)
    have cend : (w4.setCell ⟨w.heap.size + 1, 0, none⟩ (.int .i64 4)).cell? ⟨w.heap.size + 1, 0, none⟩ = some (.int .i64 4) := cell_set_same c7
    clear hb4 hb74 h04 hb5
    simp only []
    refine leaves_cons (f := 12) (args := #[.pointer (some ⟨w.heap.size + 1, 0, none⟩)]) (by simp) (by simp [go_sem]) ?_
    refine (catch_panicking (w.heap.size + 1) 0 4 [] _ c7 f7).mono ?_
    rintro e u' w'' ⟨rfl, rfl, rfl⟩
    simp [Leaves, settle, results, Tryz.results11, go_sem, cend]
    exact HEND.out
end Go.Proofs.YtbiinghmopgjnaaGreatDoor.Fmt
namespace Go.Proofs.YtbiinghmopgjnaaGreatDoor.Fmt
open Go.RowKit
set_option maxRecDepth 100000 in
set_option maxHeartbeats 2000000 in
theorem Expand_wrong (w : World) (vv lo : Value) :
    Calls Tryz.prog 5 #[.string { data := #[35, 123, 120] }, .agg #[vv, lo]] w fun e w' => e = .returned (.tuple #[.string { data := #[] }, .int .i64 4]) ∧ Below w.heap.size w w' := by
  have hb2 : Below w.heap.size w ((w.alloc (.cells #[vv, lo] 25)).alloc (.cells #[.int .i64 0, .int .i64 0] 40)) := ((Below.refl _ _).alloc (Nat.le_refl _) _).alloc (by simp) _
  have HR := Lib.hid (run_wrong ((w.alloc (.cells #[vv, lo] 25)).alloc (.cells #[.int .i64 0, .int .i64 0] 40)) (w.heap.size + 1) vv lo)
  have HB := Lib.hid hb2
  clear hb2
  unfold mkV at HR
  go_enter Tryz.func5, Tryz.ntmps5
  go_wp2_with fail
  refine HR.out.mono ?_
  rintro _ w3 ⟨rfl, hl3⟩
  have HB3 := Lib.hid (HB.out.trans (hl3.mono HB.out.size))
  clear hl3
  go_wp2_with fail
  go_ret2
  exact ⟨rfl, HB3.out⟩
theorem ex_17 {s t : Tx} {st : Nat} (h : runP exEnv s = some (t, st)) : expandP (exprF 17) exEnv s 0 0 = some (t, st) ∧ s.length ≤ 8192 := by
  unfold runP at h
  split at h
  · exact ⟨h, by assumption⟩
  · cases h
set_option maxRecDepth 100000 in
set_option maxHeartbeats 4000000 in
/-- The head of every law of the stage. -/
theorem shown_any {B : Nat} (w : World) (hT : TB B w) (hB : B ≤ w.heap.size) : Calls Tryz.prog 4 #[] w fun e w' => e = .returned (.bool true) ∧ Below w.heap.size w w' := by
  have hi : ∀ {s t : Tx} {st : Nat}, runP exEnv s = some (t, st) → ∀ V, Below w.heap.size w V → Calls Tryz.prog 8 #[.string (bs s), .string (bs t)] V fun e w' => e = .returned (.bool true) ∧ Below V.heap.size V w' := fun h V hb => is_any (ex_17 h).1 (ex_17 h).2 V (hT.below (hb.mono hB)) (Nat.le_trans hB hb.size)
  have HA := Lib.hid (hi ex_a)
  have HBB := Lib.hid (hi ex_b)
  have HCC := Lib.hid (hi ex_c)
  have HD := Lib.hid (hi ex_d)
  have HF := Lib.hid (hi ex_f)
  have HN := Lib.hid (fun V vv lo (hb : Below w.heap.size w V) (hs : Sees V vv lo exEnv) => Steps_any (ex_17 ex_n).1 (ex_17 ex_n).2 (w := V) (hT.below (hb.mono hB)) (Nat.le_trans hB hb.size) hs)
  have HT1 : Hid (∀ V, Calls Tryz.prog 10 #[.string { data := #[49] }] V fun e w' => e = .returned (.bool true) ∧ V = w') := fun V => true_any [49] V
  have HT0 : Hid (∀ V, Calls Tryz.prog 10 #[.string { data := #[48] }] V fun e w' => e = .returned (.bool false) ∧ V = w') := fun V => true_any [48] V
  clear hi hT
  go_enter Tryz.func4, Tryz.ntmps4
  go_wp2_with fail
  refine (HA.out w (Below.refl _ _)).mono ?_
  rintro _ w1 ⟨rfl, hb1⟩
  have HB1 := Lib.hid hb1
  clear hb1
  go_wp2_with fail
  refine (HBB.out _ HB1.out).mono ?_
  rintro _ w2 ⟨rfl, hb2⟩
  have HB2 := Lib.hid (HB1.out.trans (hb2.mono HB1.out.size))
  clear hb2
  go_wp2_with fail
  refine (HCC.out _ HB2.out).mono ?_
  rintro _ w3 ⟨rfl, hb3⟩
  have HB3 := Lib.hid (HB2.out.trans (hb3.mono HB2.out.size))
  clear hb3
  go_wp2_with fail
  refine (HD.out _ HB3.out).mono ?_
  rintro _ w4 ⟨rfl, hb4⟩
  have HB4 := Lib.hid (HB3.out.trans (hb4.mono HB3.out.size))
  clear hb4
  go_wp2_with fail
  refine (HF.out _ HB4.out).mono ?_
  rintro _ w5 ⟨rfl, hb5⟩
  have HB5 := Lib.hid (HB4.out.trans (hb5.mono HB4.out.size))
  clear hb5
  go_wp2_with fail
  refine (example_any w5).mono ?_
  rintro _ w6 ⟨⟨vv, lo, rfl, _⟩, hb6⟩
  have HB6 := Lib.hid (HB5.out.trans (hb6.mono HB5.out.size))
  clear hb6
  go_wp2_with fail
  refine (Expand_wrong w6 vv lo).mono ?_
  rintro _ w7 ⟨rfl, hb7⟩
  have HB7 := Lib.hid (HB6.out.trans (hb7.mono HB6.out.size))
  clear hb7
  go_wp2_with fail
  refine (example_any w7).mono ?_
  rintro _ w8 ⟨⟨vv2, lo2, rfl, hs8⟩, hb8⟩
  have HB8 := Lib.hid (HB7.out.trans (hb8.mono HB7.out.size))
  have HS8 := Lib.hid hs8
  clear hb8 hs8
  go_wp2_with fail
  refine (HN.out w8 vv2 lo2 HB8.out HS8.out).mono ?_
  rintro _ w9 ⟨rfl, hb9⟩
  have HB9 := Lib.hid (HB8.out.trans (hb9.mono HB8.out.size))
  clear hb9
  go_wp2_with fail
  refine (HT1.out _).mono ?_
  rintro _ wa ⟨rfl, rfl⟩
  go_wp2_with fail
  refine (HT0.out _).mono ?_
  rintro _ wa ⟨rfl, rfl⟩
  go_wp2_with fail
  go_ret
  exact ⟨rfl, HB9.out⟩
end Go.Proofs.YtbiinghmopgjnaaGreatDoor.Fmt
namespace Go.Proofs.YtbiinghmopgjnaaGreatDoor.Fmt
open Go.RowKit
/-- What is too long. -/
def longF : List PanicEntry := [{ v := .iface 28 (.int .i64 2), recovered := false }]
theorem short_long (S : ByteArray) (hS : (8192 : Int) < (S.size : Int)) (w : World) : Calls Tryz.prog 14 #[.string S] w fun e w' => e = .panicked longF ∧ w = w' := by
  go_enter Tryz.func14, Tryz.ntmps14
  go_wp2_with fail
  exact ⟨rfl, rfl, rfl⟩
set_option maxRecDepth 100000 in
set_option maxHeartbeats 4000000 in
/-- A run of a text that is too long. -/
theorem run_long (S : ByteArray) (hS : (8192 : Int) < (S.size : Int)) (w : World) (mb : Nat) (vv lo : Value) :
    Calls Tryz.prog 11 #[mkV mb, .string S, .agg #[vv, lo]] w fun e w' => e = .returned (.tuple #[.string { data := #[] }, .int .i64 2]) ∧ Below w.heap.size w w' := by
  have hmf : ∀ (fn : Fn) (first cap : Array Value) (w : World), (Instr.makeFunc fn first cap).run Tryz.prog w = .ok (.func fn first cap) w := fun _ _ _ _ => rfl
  have HSH : Hid (∀ V : World, Calls Tryz.prog 14 #[.string S] V fun e w' => e = .panicked longF ∧ V = w') := fun V => short_long S hS V
  clear hS
  have hb7 : BL (((w.alloc (.cells #[vv, lo] 25)).alloc (.cells #[.int .i64 0] 28)).alloc (.cells #[vv, lo, .pointer none] 49)) (w.heap.size + 1) 28 [.int .i64 0] := by
    have := (BL.new (w.alloc (.cells #[vv, lo] 25)) 28 [.int .i64 0]).alloc (.cells #[vv, lo, .pointer none] 49)
    rw [size_alloc] at this
    exact this
  have hb8 : BL ((w.alloc (.cells #[vv, lo] 25)).alloc (.cells #[.int .i64 0] 28)) (w.heap.size + 1) 28 [.int .i64 0] := by
    have := BL.new (w.alloc (.cells #[vv, lo] 25)) 28 [.int .i64 0]
    rw [size_alloc] at this
    exact this
  have HB7 := Lib.hid hb7
  have HB8 := Lib.hid hb8
  clear hb7 hb8
  go_enter_defers Tryz.func11, Tryz.ntmps11
  go_wp2_with fail
  have SS : ∀ V : World, Below (w.heap.size + 1) ((w.alloc (.cells #[vv, lo] 25)).alloc (.cells #[.int .i64 0] 28)) V → V.cell? ⟨w.heap.size, 0, none⟩ = some vv ∧ V.cell? ⟨w.heap.size, 1, none⟩ = some lo := by
    intro V hV
    have h0 := ((BL.new w 25 [vv, lo]).alloc (.cells #[.int .i64 0] 28)).keep (hV.block _ (by omega))
    exact ⟨h0.cell 0, h0.cell 1⟩
  refine wp_region_held_drew (S := fun V => V.cell? ⟨w.heap.size, 0, none⟩ = some vv ∧ V.cell? ⟨w.heap.size, 1, none⟩ = some lo) (by kernel_rfl) (SS _ ((Below.refl _ _).drew)) (fun hHeld => ?_)
  refine any_take (i := 0) (d := 9) (v := mkV mb) rfl rfl (by kernel_rfl) (by kernel_rfl) (by kernel_rfl) (fun c a w h => run_hQ _ _ 9 _ (by decide) (by decide) c a w h) rfl ?_ (by assumption) ?_
  · intro V hV
    obtain ⟨_, _⟩ := hV
    go_simp
  simp only [Act.put, List.setIfInBounds_toArray, List.set_cons_zero, List.set_cons_succ]
  refine any_take (i := 1) (d := 10) (v := .string S) rfl rfl (by kernel_rfl) (by kernel_rfl) (by kernel_rfl) (fun c a w h => run_hQ _ _ 10 _ (by decide) (by decide) c a w h) rfl ?_ (by assumption) ?_
  · intro V hV
    obtain ⟨_, _⟩ := hV
    go_simp
  simp only [Act.put, List.setIfInBounds_toArray, List.set_cons_zero, List.set_cons_succ]
  refine any_take (i := 3) (d := 12) (v := .agg #[vv, lo]) rfl rfl (by kernel_rfl) (by kernel_rfl) (by kernel_rfl) (fun c a w h => run_hQ _ _ 12 _ (by decide) (by decide) c a w h) rfl ?_ (by assumption) ?_
  · intro V hV
    obtain ⟨_, _⟩ := hV
    go_simp
  simp only [Act.put, List.setIfInBounds_toArray, List.set_cons_zero, List.set_cons_succ]
  refine any_take (i := 4) (d := 13) (v := .agg #[vv, lo, .pointer none]) rfl rfl (by kernel_rfl) (by kernel_rfl) (by kernel_rfl) (fun c a w h => run_hQ _ _ 13 _ (by decide) (by decide) c a w h) rfl ?_ (by assumption) ?_
  · intro V hV
    obtain ⟨_, _⟩ := hV
    go_simp
  simp only [Act.put, List.setIfInBounds_toArray, List.set_cons_zero, List.set_cons_succ]
  refine wpAnyH_ready (rs := [2, 5]) (by kernel_rfl) (by simp) ?_
  refine AllReadyH.cons rfl (fun K hK => ?_) (AllReadyH.cons rfl (fun K hK => ?_) AllReadyH.nil)
  · go_simp
    refine (HSH.out _).mono ?_
    rintro _ w3 ⟨rfl, rfl⟩
    have hb74 : BL ((w.alloc (.cells #[vv, lo] 25)).alloc (.cells #[.int .i64 0] 28)).drew (w.heap.size + 1) 28 [.int .i64 0] := HB8.out.drew
    have c7 : (((w.alloc (.cells #[vv, lo] 25)).alloc (.cells #[.int .i64 0] 28)).drew).cell? ⟨w.heap.size + 1, 0, none⟩ = some (.int .i64 0) := hb74.cell 0
    have f7 : (((w.alloc (.cells #[vv, lo] 25)).alloc (.cells #[.int .i64 0] 28)).drew).frozen? ⟨w.heap.size + 1, 0, none⟩ = false := hb74.frozen 0
    clear hb74
    simp only []
    refine leaves_cons (f := 12) (args := #[.pointer (some ⟨w.heap.size + 1, 0, none⟩)]) (by simp) (by simp [go_sem]) ?_
    refine (catch_panicking (w.heap.size + 1) 0 2 [] _ c7 f7).mono ?_
    rintro e u' w'' ⟨rfl, rfl, rfl⟩
    simp [Leaves, settle, results, Tryz.results11, go_sem]
    exact (((Below.refl _ _).alloc (Nat.le_refl _) _).alloc (by simp) _).drew
  · go_simp
    refine hK.out _ _ ((SS _ ((((Below.refl _ _).alloc (by simp) _)).drew))) (fun hHeld => ?_)
    clear hK K
    refine wpAnyH_ready (rs := [2]) (by kernel_rfl) (by simp) ?_
    refine AllReadyH.cons rfl (fun K hK => ?_) AllReadyH.nil
    go_simp
    refine (HSH.out _).mono ?_
    rintro _ w3 ⟨rfl, rfl⟩
    have hb74 : BL (((w.alloc (.cells #[vv, lo] 25)).alloc (.cells #[.int .i64 0] 28)).alloc (.cells #[vv, lo, .pointer none] 49)).drew (w.heap.size + 1) 28 [.int .i64 0] := HB7.out.drew
    have c7 : ((((w.alloc (.cells #[vv, lo] 25)).alloc (.cells #[.int .i64 0] 28)).alloc (.cells #[vv, lo, .pointer none] 49)).drew).cell? ⟨w.heap.size + 1, 0, none⟩ = some (.int .i64 0) := hb74.cell 0
    have f7 : ((((w.alloc (.cells #[vv, lo] 25)).alloc (.cells #[.int .i64 0] 28)).alloc (.cells #[vv, lo, .pointer none] 49)).drew).frozen? ⟨w.heap.size + 1, 0, none⟩ = false := hb74.frozen 0
    clear hb74
    simp only []
    refine leaves_cons (f := 12) (args := #[.pointer (some ⟨w.heap.size + 1, 0, none⟩)]) (by simp) (by simp [go_sem]) ?_
    refine (catch_panicking (w.heap.size + 1) 0 2 [] _ c7 f7).mono ?_
    rintro e u' w'' ⟨rfl, rfl, rfl⟩
    simp [Leaves, settle, results, Tryz.results11, go_sem]
    exact ((((Below.refl _ _).alloc (Nat.le_refl _) _).alloc (by simp) _).alloc (by simp; omega) _).drew
set_option maxRecDepth 100000 in
set_option maxHeartbeats 2000000 in
theorem Expand_long (S : ByteArray) (hS : (8192 : Int) < (S.size : Int)) (w : World) (vv lo : Value) :
    Calls Tryz.prog 5 #[.string S, .agg #[vv, lo]] w fun e w' => e = .returned (.tuple #[.string { data := #[] }, .int .i64 2]) ∧ Below w.heap.size w w' := by
  have hb2 : Below w.heap.size w ((w.alloc (.cells #[vv, lo] 25)).alloc (.cells #[.int .i64 0, .int .i64 0] 40)) := ((Below.refl _ _).alloc (Nat.le_refl _) _).alloc (by simp) _
  have HR := Lib.hid (fun V => run_long S hS V (w.heap.size + 1) vv lo)
  have HB := Lib.hid hb2
  clear hb2 hS
  unfold mkV at HR
  go_enter Tryz.func5, Tryz.ntmps5
  go_wp2_with fail
  refine (HR.out _).mono ?_
  rintro _ w3 ⟨rfl, hl3⟩
  have HB3 := Lib.hid (HB.out.trans (hl3.mono HB.out.size))
  clear hl3
  go_wp2_with fail
  go_ret2
  exact ⟨rfl, HB3.out⟩
set_option maxRecDepth 100000 in
set_option maxHeartbeats 2000000 in
theorem Steps_long (S : ByteArray) (hS : (8192 : Int) < (S.size : Int)) (w : World) (vv lo : Value) :
    Calls Tryz.prog 6 #[.string S, .agg #[vv, lo]] w fun e w' => e = .returned (.tuple #[.int .i64 0, .int .i64 2]) ∧ Below w.heap.size w w' := by
  have hb2 : Below w.heap.size w ((w.alloc (.cells #[vv, lo] 25)).alloc (.cells #[.int .i64 0, .int .i64 0] 40)) := ((Below.refl _ _).alloc (Nat.le_refl _) _).alloc (by simp) _
  have HR := Lib.hid (fun V => run_long S hS V (w.heap.size + 1) vv lo)
  have HB := Lib.hid hb2
  clear hb2 hS
  unfold mkV at HR
  go_enter Tryz.func6, Tryz.ntmps6
  go_wp2_with fail
  refine (HR.out _).mono ?_
  rintro _ w3 ⟨rfl, hl3⟩
  have HB3 := Lib.hid (HB.out.trans (hl3.mono HB.out.size))
  clear hl3
  go_wp2_with fail
  go_ret2
  exact ⟨rfl, HB3.out⟩
end Go.Proofs.YtbiinghmopgjnaaGreatDoor.Fmt
namespace Go.Proofs.YtbiinghmopgjnaaGreatDoor.Fmt
open Go.RowKit
theorem ix_none : ∀ {a : Tx}, (35 : UInt8) ∉ a → Lib.indexByte a 35 = -1 := fun {a} h => by
  have hge := Lib.indexByte_ge a 35
  rcases Int.lt_or_le (Lib.indexByte a 35) 0 with hn | hn
  · omega
  · obtain ⟨o, ho⟩ : ∃ o : Nat, Lib.indexByte a 35 = (o : Int) := ⟨(Lib.indexByte a 35).toNat, by omega⟩
    exact absurd (List.mem_of_getElem? (Lib.indexByte_some ho).1) h
theorem ix_at (a r : Tx) (h : (35 : UInt8) ∉ a) : Lib.indexByte (a ++ 35 :: r) 35 = (a.length : Int) := by
  have hge := Lib.indexByte_ge (a ++ 35 :: r) 35
  rcases Int.lt_or_le (Lib.indexByte (a ++ 35 :: r) 35) 0 with hn | hn
  · have he : Lib.indexByte (a ++ 35 :: r) 35 = -1 := by omega
    exact absurd (show (a ++ 35 :: r)[a.length]? = some 35 by simp) (Lib.indexByte_none he a.length)
  · obtain ⟨o, ho⟩ : ∃ o : Nat, Lib.indexByte (a ++ 35 :: r) 35 = (o : Int) := ⟨(Lib.indexByte (a ++ 35 :: r) 35).toNat, by omega⟩
    obtain ⟨h1, h2⟩ := Lib.indexByte_some ho
    rw [ho]
    have h3 : ¬ o < a.length := fun hlt => by
      rw [List.getElem?_append_left hlt] at h1
      exact h (List.mem_of_getElem? h1)
    have h4 : ¬ a.length < o := fun hlt => h2 a.length hlt (by simp)
    omega
/-- A text with each of its signs doubled. -/
def dblC (c : UInt8) : Tx := if c = 35 then [35, 35] else [c]
def dblP (s : Tx) : Tx := s.flatMap dblC
theorem dblP_cons (c : UInt8) (s : Tx) : dblP (c :: s) = dblC c ++ dblP s := by unfold dblP; rw [List.flatMap_cons]
theorem dblP_free : ∀ {a : Tx} (s : Tx), (35 : UInt8) ∉ a → dblP (a ++ s) = a ++ dblP s
  | [], _, _ => rfl
  | c :: a, s, h => by
    rw [List.cons_append, dblP_cons, dblP_free s (fun e => h (by simp [e]))]
    unfold dblC
    rw [if_neg (fun e => h (by simp [e]))]
    rfl
theorem dblP_len (s : Tx) : s.length ≤ (dblP s).length := by
  induction s with
  | nil => exact Nat.le_refl _
  | cons c s ih =>
    rw [dblP_cons, List.length_append, List.length_cons]
    have : 1 ≤ (dblC c).length := by unfold dblC; split <;> simp
    omega
theorem cut_free : ∀ s : Tx, ∃ a r, s = a ++ r ∧ (35 : UInt8) ∉ a ∧ (r = [] ∨ ∃ t, r = 35 :: t)
  | [] => ⟨[], [], rfl, by simp, .inl rfl⟩
  | c :: s => by
    by_cases h : c = 35
    · exact ⟨[], c :: s, rfl, by simp, .inr ⟨s, by rw [h]⟩⟩
    · obtain ⟨a, r, rfl, h1, h2⟩ := cut_free s
      exact ⟨c :: a, r, rfl, by simp [h1, Ne.symm h], h2⟩
theorem expL_step {X : Ex} {en : Env} {d k st : Nat} {s acc t : Tx} {n st' : Nat} (hs : s ≠ []) (h : frontP X en s d st = some (t, n, st')) (hl : acc.length + t.length ≤ 8192) : expL X en d (k + 1) s st acc = expL X en d k (s.drop n) st' (acc ++ t) := by
  cases s with
  | nil => exact absurd rfl hs
  | cons c s =>
    show (match frontP X en (c :: s) d st with | none => none | some (t, n, st') => if 8192 < acc.length + t.length then none else expL X en d k ((c :: s).drop n) st' (acc ++ t)) = _
    rw [h]
    exact if_neg (by omega)
theorem expL_end {X : Ex} {en : Env} {d k st : Nat} {acc : Tx} : expL X en d k [] st acc = some (acc, st) := by cases k <;> rfl
theorem front_free {X : Ex} {en : Env} {d st : Nat} {a : Tx} (h : (35 : UInt8) ∉ a) : frontP X en a d st = some (a, a.length, st) := by
  unfold frontP
  rw [ix_none h, if_pos (by decide)]
theorem front_some {X : Ex} {en : Env} {d st : Nat} {a r : Tx} (h : (35 : UInt8) ∉ a) (ha : a ≠ []) : frontP X en (a ++ 35 :: r) d st = some (a, a.length, st) := by
  have hp : 0 < a.length := List.length_pos_iff.2 ha
  unfold frontP
  rw [ix_at a r h, if_neg (by omega), if_pos (by omega), Int.toNat_natCast, List.take_left]
theorem front_two {X : Ex} {en : Env} {d st : Nat} {r : Tx} : frontP X en (35 :: 35 :: r) d st = some ([35], 2, st) := by
  have h := ix_at [] (35 :: r) (by simp)
  rw [List.nil_append] at h
  unfold frontP
  rw [h, if_neg (by decide), if_neg (by decide)]
  rfl
/-- A text with its signs doubled comes back, with no step. -/
theorem plain_dbl (X : Ex) (en : Env) (d st : Nat) : ∀ (n : Nat) (s acc : Tx) (k : Nat), s.length ≤ n → (dblP s).length ≤ k → acc.length + s.length ≤ 8192 → expL X en d k (dblP s) st acc = some (acc ++ s, st)
  | n, s, acc, k, hn, hk, hl => by
    obtain ⟨a, r, rfl, ha, hr⟩ := cut_free s
    rw [dblP_free r ha] at hk ⊢
    rw [List.length_append] at hn hl hk
    by_cases h0 : a = []
    · subst h0
      rw [List.nil_append]
      rcases hr with rfl | ⟨t, rfl⟩
      · rw [show dblP ([] : Tx) = [] from rfl, expL_end]; simp
      · rw [dblP_cons] at hk ⊢
        have e : dblC 35 = [35, 35] := rfl
        rw [e] at hk ⊢
        simp only [List.length_nil, List.length_cons, List.length_append] at hk hn hl
        obtain ⟨k', rfl⟩ : ∃ k', k = k' + 1 := ⟨k - 1, by omega⟩
        obtain ⟨n', rfl⟩ : ∃ n', n = n' + 1 := ⟨n - 1, by omega⟩
        rw [show ([35, 35] ++ dblP t : Tx) = 35 :: 35 :: dblP t from rfl, expL_step (by simp) front_two (by simp; omega)]
        rw [show (35 :: 35 :: dblP t : Tx).drop 2 = dblP t from rfl, plain_dbl X en d st n' t (acc ++ [35]) k' (by omega) (by omega) (by simp; omega)]
        simp
    · have hp : 0 < a.length := List.length_pos_iff.2 h0
      obtain ⟨k', rfl⟩ : ∃ k', k = k' + 1 := ⟨k - 1, by omega⟩
      obtain ⟨n', rfl⟩ : ∃ n', n = n' + 1 := ⟨n - 1, by omega⟩
      rcases hr with rfl | ⟨t, rfl⟩
      · rw [show dblP ([] : Tx) = [] from rfl, List.append_nil, expL_step h0 (front_free ha) (by omega), List.drop_length, expL_end]
      · have hx : a ++ dblP (35 :: t) = a ++ 35 :: (35 :: dblP t) := by rw [dblP_cons]; rfl
        rw [hx, expL_step (by simp [h0]) (front_some ha h0) (by omega), List.drop_left, ← show dblP (35 :: t) = 35 :: (35 :: dblP t) by rw [dblP_cons]; rfl]
        rw [plain_dbl X en d st n' (35 :: t) (acc ++ a) k' (by omega) (by omega) (by rw [List.length_append]; omega)]
        simp
/-- A text with a sign ahead of each sign and each bracket that closes. -/
def quoC (c : UInt8) : Tx := if c = 35 ∨ c = 125 then [35, c] else [c]
def quoP (s : Tx) : Tx := s.flatMap quoC
theorem quoP_cons (c : UInt8) (s : Tx) : quoP (c :: s) = quoC c ++ quoP s := by unfold quoP; rw [List.flatMap_cons]
theorem out_quo (q : Tx) (i : Nat) : ∀ s : Tx, quoP s = q → outR 125 (q ++ [125]) 0 i = some (i + q.length) := by
  intro s
  induction s generalizing q i with
  | nil =>
    intro h
    subst h
    rfl
  | cons c s ih =>
    intro h
    subst h
    rw [quoP_cons]
    obtain ⟨e, r, her⟩ : ∃ e r, quoP s ++ [125] = e :: r := by
      cases hq : quoP s with
      | nil => exact ⟨125, [], rfl⟩
      | cons e r => exact ⟨e, r ++ [125], rfl⟩
    by_cases hc : c = 35 ∨ c = 125
    · have e1 : quoC c = [35, c] := by unfold quoC; rw [if_pos hc]
      rw [e1]
      show outR 125 (35 :: c :: (quoP s ++ [125])) 0 i = _
      have hm : marked c = true := by rcases hc with rfl | rfl <;> rfl
      have h123 : ¬ ((35 : UInt8) = 35 ∧ c = 123) := by rcases hc with rfl | rfl <;> decide
      unfold outR
      rw [if_neg (by decide), if_neg (by decide)]
      show (if (35 : UInt8) = 35 ∧ c = 123 then _ else if (35 : UInt8) = 35 ∧ marked c = true then _ else _) = _
      rw [if_neg h123, if_pos ⟨rfl, hm⟩, ih _ (i + 2) rfl]
      congr 1
      simp
      omega
    · have e1 : quoC c = [c] := by unfold quoC; rw [if_neg hc]
      rw [e1]
      show outR 125 (c :: (quoP s ++ [125])) 0 i = _
      have h1 : ¬ ((0 : Int) = 0 ∧ c = 125) := fun h => hc (.inr h.2)
      have h2 : ¬ (c = 125) := fun h => hc (.inr h)
      have h3 : ¬ (c = 35 ∧ e = 123) := fun h => hc (.inl h.1)
      have h4 : ¬ (c = 35 ∧ marked e = true) := fun h => hc (.inl h.1)
      have hi := ih _ (i + 1) rfl
      rw [her] at hi ⊢
      unfold outR
      rw [if_neg h1, if_neg h2]
      show (if c = 35 ∧ e = 123 then _ else if c = 35 ∧ marked e = true then _ else outR 125 (e :: r) 0 (i + 1)) = _
      rw [if_neg h3, if_neg h4, hi]
      congr 1
      simp
      omega
/-- A literal. -/
def litP (q : Tx) : Tx := 35 :: 123 :: 108 :: 58 :: (q ++ [125])
theorem out_lit (s : Tx) : outR 125 (108 :: 58 :: (quoP s ++ [125])) 0 0 = some (2 + (quoP s).length) := by
  obtain ⟨e, r, her⟩ : ∃ e r, quoP s ++ [125] = e :: r := by
    cases hq : quoP s with
    | nil => exact ⟨125, [], rfl⟩
    | cons e r => exact ⟨e, r ++ [125], rfl⟩
  have hi := out_quo (quoP s) 2 s rfl
  rw [her] at hi ⊢
  unfold outR
  rw [if_neg (by decide), if_neg (by decide)]
  show outR 125 (58 :: e :: r) 0 1 = _
  unfold outR
  rw [if_neg (by decide), if_neg (by decide)]
  show (if (58 : UInt8) = 35 ∧ e = 123 then _ else if (58 : UInt8) = 35 ∧ marked e = true then _ else outR 125 (e :: r) 0 2) = _
  rw [if_neg (fun h => absurd h.1 (by decide)), if_neg (fun h => absurd h.1 (by decide)), hi]
theorem byKind_lit (X : Ex) (en : Env) (q : Tx) (d st : Nat) (hl : q.length ≤ 8192) : byKindP X en (108 :: 58 :: q) d st = some (q, st) := by
  have h1 : outR 58 (108 :: 58 :: q) 0 0 = some 1 := by
    unfold outR
    rw [if_neg (by decide), if_neg (by decide)]
    show outR 58 (58 :: q) 0 1 = _
    unfold outR
    rw [if_pos ⟨rfl, rfl⟩]
  have h2 : modsP (108 :: 58 :: q).length (108 :: 58 :: q) = some ([⟨[108], 0, [], []⟩], q) := rfl
  unfold byKindP
  rw [show Lib.hasPrefix (108 :: 58 :: q) [63] = false from rfl, if_neg (by decide), h1]
  show (if (108 :: 58 :: q : Tx).take 1 = [109] then _ else if heads.contains ((108 :: 58 :: q : Tx).take 1) = true then _ else if (108 :: 58 :: q : Tx).take 1 = [87] then _ else if (108 :: 58 :: q : Tx).take 1 = [101, 124, 47, 124, 102] then _ else if (108 :: 58 :: q : Tx).take 1 = [83] ∨ (108 :: 58 :: q : Tx).take 1 = [80] ∨ Lib.hasPrefix ((108 :: 58 :: q : Tx).take 1) [101, 124] = true then _ else _) = _
  rw [show (108 :: 58 :: q : Tx).take 1 = [108] from rfl, if_neg (by decide), if_neg (by decide), if_neg (by decide), if_neg (by decide), if_neg (by decide)]
  unfold modifyP
  rw [h2]
  show (if hasP [⟨[108], 0, [], []⟩] 69 = true then none else match (if hasP [⟨[108], 0, [], []⟩] 108 = true then some (q, st) else namedP X en q d st) with | none => none | some (v, st') => match applyL [⟨[108], 0, [], []⟩] v with | none => none | some x => some (x, st')) = _
  rw [if_neg (by decide), if_pos (by decide)]
  show (match (if q.length ≤ 8192 then applyL [] q else none) with | none => none | some x => some (x, st)) = _
  rw [if_pos hl]
  rfl
theorem plain_lit (en : Env) (s : Tx) (hl : (quoP s).length + 5 ≤ 8192) : expandP (exprF 17) en (litP (quoP s)) 0 0 = some (quoP s, 1) := by
  have hX : exprF 17 en (108 :: 58 :: quoP s) 0 0 = some (quoP s, 1) := by
    show (if 0 < 16 ∧ 0 < 10000 then byKindP (exprF 16) en (108 :: 58 :: quoP s) (0 + 1) (0 + 1) else none) = _
    rw [if_pos (by decide), byKind_lit _ _ _ _ _ (by omega)]
  have hlen : (litP (quoP s)).length = (quoP s).length + 5 := by unfold litP; simp
  have hf : frontP (exprF 17) en (litP (quoP s)) 0 0 = some (quoP s, 2 + (quoP s).length + 3, 1) := by
    have h := ix_at [] (123 :: 108 :: 58 :: (quoP s ++ [125])) (by simp)
    rw [List.nil_append] at h
    unfold frontP litP
    rw [h, if_neg (by decide), if_neg (by decide)]
    show (if marked 123 = true then _ else if (123 : UInt8) = 123 then (match outR 125 (108 :: 58 :: (quoP s ++ [125])) 0 0 with | none => none | some k => match exprF 17 en ((108 :: 58 :: (quoP s ++ [125]) : Tx).take k) 0 0 with | none => none | some (t, st') => some (t, k + 3, st')) else _) = _
    rw [if_neg (by decide), if_pos rfl, out_lit]
    show (match exprF 17 en ((108 :: 58 :: (quoP s ++ [125]) : Tx).take (2 + (quoP s).length)) 0 0 with | none => none | some (t, st') => some (t, 2 + (quoP s).length + 3, st')) = _
    rw [show (108 :: 58 :: (quoP s ++ [125]) : Tx).take (2 + (quoP s).length) = 108 :: 58 :: quoP s by
      rw [Nat.add_comm, show (quoP s).length + 2 = (quoP s).length + 1 + 1 from rfl, List.take_succ_cons, List.take_succ_cons, List.take_left], hX]
  unfold expandP
  rw [hlen, expL_step (by unfold litP; simp) hf (by simp; omega), List.drop_of_length_le (by omega), expL_end]
  rfl
end Go.Proofs.YtbiinghmopgjnaaGreatDoor.Fmt
namespace Go.Proofs.YtbiinghmopgjnaaGreatDoor.Fmt
open Go.RowKit
theorem bytV_app (a b : Tx) : bytV (a ++ b) = bytV a ++ bytV b := by simp [bytV]
section
variable {ops : Array Oper} {rest : List Oper} {op : Oper} {a : Act} {w : World} {Q : Exit → Act → World → Prop}
/-- A byte appended to bytes of the call's own. -/
theorem wpList_app_b (hgd : op.guard = none) (s x : Operand) (ho : op.op = .call { callee := .builtin .append, args := #[s, x], argTypes := #[27, 27] })
    (B : Nat) (v : Value) (l : Tx) (y : UInt8) (hs : a.eval s = v) (hown : w.ownsRow B 5 1 v l.length (bytV l)) (g c : Nat) (hx : a.eval x = .slice (some ⟨g, 0, none⟩) 1 c) (hg : BL w g 5 [.int .u8 (y.toNat : Int)]) (hB : B ≤ w.heap.size) (hn : l.length ≤ 10000000)
    (h : ∀ v' w', w'.ownsRow B 5 1 v' (l ++ [y]).length (bytV (l ++ [y])) → w.grownBy w' v.ownBlock → wpList Tryz.prog ops Q rest (a.put op.dst v') w') :
    wpList Tryz.prog ops Q (op :: rest) a w := by
  obtain ⟨i0, hi0, hz0, hz1, hz2⟩ := info_parts info_u8
  refine wpList_append_own_at w hgd s x 27 ho B 5 i0 _ 1 1 Tryz.underlying27 hi0 hz0 hz1 hz2 rfl (by decide) v l.length (bytV l) hs hown ⟨g, 0, none⟩ 1 c [.int .u8 (y.toNat : Int)] hx rfl
    (fun j u hj => by rw [Addr.add_mid, Nat.zero_add, hg.cell j]; exact hj) (by simp [Value.oneCell']) (by unfold maxLen; omega) (by omega) hB ?_
  intro v' w' h2 h3 _ _
  refine h v' w' ?_ h3
  rw [bytV_app, List.length_append]
  exact h2
end
theorem dblP_snoc (s : Tx) {k : Nat} (h : k < s.length) : dblP (s.take (k + 1)) = dblP (s.take k) ++ dblC s[k] := by
  unfold dblP
  rw [List.take_succ_eq_append_getElem h, List.flatMap_append]
  simp
theorem quoP_snoc (s : Tx) {k : Nat} (h : k < s.length) : quoP (s.take (k + 1)) = quoP (s.take k) ++ quoC s[k] := by
  unfold quoP
  rw [List.take_succ_eq_append_getElem h, List.flatMap_append]
  simp
theorem dblP_most (s : Tx) : (dblP s).length ≤ 2 * s.length := by
  induction s with
  | nil => exact Nat.le_refl _
  | cons c s ih =>
    rw [dblP_cons, List.length_append, List.length_cons]
    have : (dblC c).length ≤ 2 := by unfold dblC; split <;> simp
    omega
theorem quoP_most (s : Tx) : (quoP s).length ≤ 2 * s.length := by
  induction s with
  | nil => exact Nat.le_refl _
  | cons c s ih =>
    rw [quoP_cons, List.length_append, List.length_cons]
    have : (quoC c).length ≤ 2 := by unfold quoC; split <;> simp
    omega
def sgnP (s : Tx) : Nat := s.countP (· == 35)
theorem sgnP_snoc (s : Tx) {k : Nat} (h : k < s.length) : sgnP (s.take (k + 1)) = sgnP (s.take k) + if s[k] = 35 then 1 else 0 := by
  unfold sgnP
  rw [List.take_succ_eq_append_getElem h, List.countP_append]
  by_cases hc : s[k] = 35
  · rw [if_pos hc, hc]; rfl
  · rw [if_neg hc, List.countP_cons_of_neg (by simpa using hc)]; rfl
theorem sgnP_len (s : Tx) : sgnP s ≤ s.length := List.countP_le_length
theorem sgnP_zero {s : Tx} (h : sgnP s = 0) : dblP s = s := by
  have hf : (35 : UInt8) ∉ s := fun hm => by
    have := List.countP_eq_zero.1 h 35 hm
    simp at this
  have := dblP_free [] hf
  rw [List.append_nil] at this
  rw [this]
  exact List.append_nil _
theorem u8_num {c : UInt8} {n : Nat} (h : c.toNat = n) : c = UInt8.ofNat n := by rw [← h]; simp
set_option maxRecDepth 100000 in
set_option maxHeartbeats 8000000 in
theorem quoted_any (s : Tx) (hl : s.length ≤ 2000000) (w : World) :
    Calls Tryz.prog 7 #[.string (bs s)] w fun e w' => e = .returned (.string (bs (quoP s))) ∧ Below w.heap.size w w' := by
  obtain ⟨S, hS⟩ : ∃ S, S = bs s := ⟨_, rfl⟩
  have hsz : S.size = s.length := by rw [hS]; exact bs_size s
  have HG : Hid (∀ (j : Nat) (h : j < S.size) (h' : j < s.length), S[j] = s[j]) := by subst hS; exact Lib.hid (fun j h h' => rfl)
  rw [← hS]
  have HSZ := Lib.hid hsz
  have z1 : (S.size : Int) ≤ 2000000 := by omega
  clear hS hsz hl
  go_enter Tryz.func7, Tryz.ntmps7
  go_wp2_with fail
  go_loopw [3, 4] (fun bv i wr => ∃ k : Nat, k ≤ S.size ∧ i = .int .i64 (k : Int) ∧ wr.ownsRow w.heap.size 5 1 bv (quoP (s.take k)).length (bytV (quoP (s.take k))) ∧ Below w.heap.size w wr) (fun _ i _ => S.size - (intOf i).toNat)
  case atStart => exact ⟨0, Nat.zero_le _, rfl, World.ownsRow_nil _ _ _ _, Below.refl _ _⟩
  case round =>
    obtain ⟨k, hk, rfl, hown, hb⟩ := hrel
    obtain ⟨A2, c2, rfl⟩ := own_slice hown
    have hks := HSZ.out
    have hml := quoP_most (s.take k)
    rw [List.length_take] at hml
    by_cases hlt : k < S.size
    · have hki : (k : Int) < (S.size : Int) := by omega
      have hkl : k < s.length := by omega
      obtain ⟨u, hu⟩ : ∃ u, u = S[k] := ⟨_, rfl⟩
      have hus : s[k] = u := by rw [← HG.out k hlt hkl, hu]
      have hxi : ((S[k].toNat : Nat) : Int) = (u.toNat : Int) := by rw [hu]
      have HES := Lib.hid (show quoP (s.take (k + 1)) = quoP (s.take k) ++ quoC u by rw [quoP_snoc s hkl, hus])
      obtain ⟨L, hL⟩ : ∃ L, L = quoP (s.take k) := ⟨_, rfl⟩
      rw [← hL] at hown HES hml ⊢
      have HK := Lib.hid (show L.length ≤ 9000000 by omega)
      obtain ⟨n0, hn0⟩ : ∃ n, n = L.length := ⟨_, rfl⟩
      have HO : Hid (∀ v, v = Value.slice A2 n0 c2 → wr.ownsRow w.heap.size 5 1 v L.length (bytV L)) := Lib.hid fun v hv => by rw [hv, hn0]; exact hown
      have HB := Lib.hid hb
      have HLT := Lib.hid hlt
      rw [← hn0]
      clear hown hb hu hus hL hn0 hks hml hkl
      by_cases hq : u.toNat = 35 ∨ u.toNat = 125
      · have HE := Lib.hid (show quoC u = [35] ++ [u] by
          unfold quoC
          rw [if_pos (show u = 35 ∨ u = 125 from hq.imp (fun h => u8_num h) (fun h => u8_num h))]; rfl)
        have HOX : Hid (∀ v, v = Value.slice A2 n0 c2 → (wr.alloc (.cells #[.int .u8 35] 5)).ownsRow w.heap.size 5 1 v L.length (bytV L)) := Lib.hid fun v hv => (HO.out v hv).alloc _
        have HBX := Lib.hid (HB.out.alloc HB.out.size (.cells #[.int .u8 35] 5))
        have HNX : Hid (BL (wr.alloc (.cells #[.int .u8 35] 5)) wr.heap.size 5 [.int .u8 ((35 : UInt8).toNat : Int)]) := BL.new wr 5 [.int .u8 35]
        have HKX := Lib.hid (show L.length ≤ 10000000 by have := HK.out; omega)
        have HKY := Lib.hid (show (L ++ [35]).length ≤ 10000000 by have := HK.out; rw [List.length_append]; simp; omega)
        obtain ⟨n1, hn1⟩ : ∃ n, (L ++ [35]).length = n := ⟨_, rfl⟩
        obtain ⟨n2, hn2⟩ : ∃ n, ∀ x : UInt8, (L ++ [35] ++ [x]).length = n := ⟨L.length + 2, fun x => by simp⟩
        have HN1 := Lib.hid hn1
        have HN2 := Lib.hid hn2
        clear hn1 hn2
        have hz : (u.toNat : Int) = 35 ∨ (u.toNat : Int) = 125 := by omega
        clear hq
        rcases hz with hz | hz
        · rw [hz] at hxi
          have HU := Lib.hid hz
          clear hz
          go_wp2_with (at_builtin; first | (refine wpList_app_b rfl _ _ rfl w.heap.size (.slice A2 n0 c2) L 35 rfl (HOX.out _ rfl) _ 1 rfl HNX.out HBX.out.size HKX.out ?_; intro v5 w5 ho5 hg5; rw [HN1.out] at ho5; obtain ⟨A5, c5, rfl⟩ := own_slice ho5; have HO5 := Lib.hid ho5; have HB5 := Lib.hid (HBX.out.grown hg5 HBX.out.size (fun i hi => ((HOX.out _ rfl).lt i hi).1)); clear ho5 hg5; have HOY : Hid (∀ v, v = Value.slice A5 n1 c5 → (w5.alloc (.cells #[.int .u8 35] 5)).ownsRow w.heap.size 5 1 v (L ++ [35]).length (bytV (L ++ [35]))) := (fun v hv => (by rw [hv, HN1.out]; exact HO5.out.alloc _)); have HBY := Lib.hid (HB5.out.alloc HB5.out.size (.cells #[.int .u8 35] 5)); have HNY : Hid (BL (w5.alloc (.cells #[.int .u8 35] 5)) w5.heap.size 5 [.int .u8 ((35 : UInt8).toNat : Int)]) := BL.new w5 5 [.int .u8 35]) | (refine wpList_app_b rfl _ _ rfl w.heap.size (.slice A5 n1 c5) (L ++ [35]) 35 rfl (HOY.out _ rfl) _ 1 rfl HNY.out HBY.out.size HKY.out ?_; intro v6 w6 ho6 hg6; rw [HN2.out] at ho6; obtain ⟨A6, c6, rfl⟩ := own_slice ho6; have HO6 := Lib.hid ho6; have HB6 := Lib.hid (HBY.out.grown hg6 HBY.out.size (fun i hi => ((HOY.out _ rfl).lt i hi).1)); clear ho6 hg6))
          go_roundw
          case rel => exact ⟨k + 1, HLT.out, by go_num, by rw [HES.out, HE.out, u8_num (show u.toNat = 35 by have := HU.out; omega), ← List.append_assoc, HN2.out]; exact HO6.out, HB6.out⟩
          case measure => simp [intOf]; omega
        · rw [hz] at hxi
          have HU := Lib.hid hz
          clear hz
          go_wp2_with (at_builtin; first | (refine wpList_app_b rfl _ _ rfl w.heap.size (.slice A2 n0 c2) L 35 rfl (HOX.out _ rfl) _ 1 rfl HNX.out HBX.out.size HKX.out ?_; intro v5 w5 ho5 hg5; rw [HN1.out] at ho5; obtain ⟨A5, c5, rfl⟩ := own_slice ho5; have HO5 := Lib.hid ho5; have HB5 := Lib.hid (HBX.out.grown hg5 HBX.out.size (fun i hi => ((HOX.out _ rfl).lt i hi).1)); clear ho5 hg5; have HOY : Hid (∀ v, v = Value.slice A5 n1 c5 → (w5.alloc (.cells #[.int .u8 125] 5)).ownsRow w.heap.size 5 1 v (L ++ [35]).length (bytV (L ++ [35]))) := (fun v hv => (by rw [hv, HN1.out]; exact HO5.out.alloc _)); have HBY := Lib.hid (HB5.out.alloc HB5.out.size (.cells #[.int .u8 125] 5)); have HNY : Hid (BL (w5.alloc (.cells #[.int .u8 125] 5)) w5.heap.size 5 [.int .u8 ((125 : UInt8).toNat : Int)]) := BL.new w5 5 [.int .u8 125]) | (refine wpList_app_b rfl _ _ rfl w.heap.size (.slice A5 n1 c5) (L ++ [35]) 125 rfl (HOY.out _ rfl) _ 1 rfl HNY.out HBY.out.size HKY.out ?_; intro v6 w6 ho6 hg6; rw [HN2.out] at ho6; obtain ⟨A6, c6, rfl⟩ := own_slice ho6; have HO6 := Lib.hid ho6; have HB6 := Lib.hid (HBY.out.grown hg6 HBY.out.size (fun i hi => ((HOY.out _ rfl).lt i hi).1)); clear ho6 hg6))
          go_roundw
          case rel => exact ⟨k + 1, HLT.out, by go_num, by rw [HES.out, HE.out, u8_num (show u.toNat = 125 by have := HU.out; omega), ← List.append_assoc, HN2.out]; exact HO6.out, HB6.out⟩
          case measure => simp [intOf]; omega
      · have HE := Lib.hid (show quoC u = [u] by
          unfold quoC
          rw [if_neg (fun h => hq (h.imp (fun e => by rw [e]; rfl) (fun e => by rw [e]; rfl)))])
        have HOX : Hid (∀ v, v = Value.slice A2 n0 c2 → (wr.alloc (.cells #[.int .u8 (u.toNat : Int)] 5)).ownsRow w.heap.size 5 1 v L.length (bytV L)) := Lib.hid fun v hv => (HO.out v hv).alloc _
        have HBX := Lib.hid (HB.out.alloc HB.out.size (.cells #[.int .u8 (u.toNat : Int)] 5))
        have HNX : Hid (BL (wr.alloc (.cells #[.int .u8 (u.toNat : Int)] 5)) wr.heap.size 5 [.int .u8 (u.toNat : Int)]) := BL.new wr 5 [.int .u8 (u.toNat : Int)]
        have HKX := Lib.hid (show L.length ≤ 10000000 by have := HK.out; omega)
        obtain ⟨n1, hn1⟩ : ∃ n, (L ++ [u]).length = n := ⟨_, rfl⟩
        have HN1 := Lib.hid hn1
        clear hn1
        have hz : (u.toNat : Int) < 35 ∨ (35 < (u.toNat : Int) ∧ (u.toNat : Int) < 125) ∨ 125 < (u.toNat : Int) := by omega
        clear hq
        rcases hz with hz | ⟨hz, hz2⟩ | hz <;>
        · go_wp2_with (at_builtin; first | (exfalso; rename_i hx; first | omega | (simp only [beq_iff_eq] at hx; omega)) | (refine wpList_app_b rfl _ _ rfl w.heap.size (.slice A2 n0 c2) L u rfl (HOX.out _ rfl) _ 1 rfl HNX.out HBX.out.size HKX.out ?_; intro v5 w5 ho5 hg5; rw [HN1.out] at ho5; obtain ⟨A5, c5, rfl⟩ := own_slice ho5; have HO5 := Lib.hid ho5; have HB5 := Lib.hid (HBX.out.grown hg5 HBX.out.size (fun i hi => ((HOX.out _ rfl).lt i hi).1)); clear ho5 hg5))
          go_roundw
          case rel => exact ⟨k + 1, HLT.out, by go_num, by rw [HES.out, HE.out, HN1.out]; exact HO5.out, HB5.out⟩
          case measure => simp [intOf]; omega
    · obtain rfl : k = S.size := by omega
      have hki : ¬ (S.size : Int) < (S.size : Int) := by omega
      have htk : s.take S.size = s := by rw [hks, List.take_length]
      rw [htk] at hown ⊢
      have hcv := own_text hown
      have HB := Lib.hid hb
      clear hown hb htk hml hks
      go_wp2_with fail
      go_ret
      exact ⟨rfl, HB.out⟩
end Go.Proofs.YtbiinghmopgjnaaGreatDoor.Fmt
