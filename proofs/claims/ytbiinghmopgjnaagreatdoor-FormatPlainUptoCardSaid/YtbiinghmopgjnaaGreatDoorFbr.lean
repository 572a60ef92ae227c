/- format: what a bracket means. -/
import Derived.Test.YtbiinghmopgjnaaGreatDoorFst
import Derived.Test.YtbiinghmopgjnaaGreatDoorFbp
import Derived.Deep.DeepCutAuto
namespace Go.Proofs.YtbiinghmopgjnaaGreatDoor.Fmt
open Go.RowKit

theorem setL_one (ws : Nat → Nat) : (setL ws).toArray.all (·.oneCell') = true := by simp [setL, Value.oneCell']
theorem upto_one (f : UInt8 → Bool) (c : UInt8) (x : UInt8) : upto f c.toNat (max c.toNat (c.toNat + 1)) x = (f x || x == c) := by
  unfold upto
  congr 1
  by_cases h : x = c
  · subst h; simp
  · have : x.toNat ≠ c.toNat := fun e => h (UInt8.toNat_inj.1 e)
    rw [beq_eq_false_iff_ne.2 h]
    by_cases h1 : c.toNat ≤ x.toNat
    · rw [decide_eq_false (show ¬ x.toNat < max c.toNat (c.toNat + 1) by omega), Bool.and_false]
    · rw [decide_eq_false h1, Bool.false_and]
theorem upto_range (f : UInt8 → Bool) (c e : UInt8) (x : UInt8) : upto f c.toNat (max c.toNat (e.toNat + 1)) x = (f x || (decide (c ≤ x) && decide (x ≤ e))) := by
  unfold upto
  congr 1
  by_cases h1 : c.toNat ≤ x.toNat
  · rw [decide_eq_true h1, decide_eq_true (show c ≤ x from UInt8.le_iff_toNat_le.2 h1), Bool.true_and, Bool.true_and]
    by_cases h2 : x.toNat ≤ e.toNat
    · rw [decide_eq_true (show x ≤ e from UInt8.le_iff_toNat_le.2 h2), decide_eq_true (by omega)]
    · rw [decide_eq_false (show ¬ x ≤ e from fun h => h2 (UInt8.le_iff_toNat_le.1 h)), decide_eq_false (by omega)]
  · rw [decide_eq_false h1, decide_eq_false (show ¬ c ≤ x from fun h => h1 (UInt8.le_iff_toNat_le.1 h))]
    simp
/-- What a bracket's call hands back. -/
def BrkOk (P : Tx) (at_ : Nat) (w : World) (e : Ending) (w' : World) : Prop := Below w.heap.size w w' ∧ ((bracketR (P.drop (at_ + 1)) = none ∧ ∃ ws, e = .returned (.tuple #[.agg (setL ws).toArray, .int .i64 (at_ : Int)]) ∧ SetIs ws (fun x => x == 91)) ∨
  ∃ f t ws en, bracketR (P.drop (at_ + 1)) = some (f, t) ∧ e = .returned (.tuple #[.agg (setL ws).toArray, .int .i64 ((en : Nat) : Int)]) ∧ SetIs ws f ∧ P.drop (en + 1) = t ∧ at_ < en ∧ en < P.length)
theorem notR_cons (c : UInt8) (r : Tx) : notR (c :: r) = if c = 33 ∨ c = 94 then (true, r) else (false, c :: r) := rfl
set_option maxRecDepth 100000 in
set_option maxHeartbeats 8000000 in
theorem bracket_any (P : Tx) (at_ : Nat) (k : Int) (hk : LastIs P k) (hat : at_ < P.length) (hl : P.length ≤ 8192) (w : World) :
    Calls Tryz.prog 102 #[.string (bs P), .int .i64 (at_ : Int), .int .i64 k] w (BrkOk P at_ w) := by
  obtain ⟨S, hS⟩ : ∃ S, S = bs P := ⟨_, rfl⟩
  rw [← hS]
  have hz : S.size = P.length := by rw [hS, bs_size]
  have hg : ∀ (j : Nat) (h : j < S.size), P[j]? = some S[j] := fun j h => by
    rw [List.getElem?_eq_getElem (by omega)]
    subst hS
    rfl
  obtain ⟨b1, hb1⟩ : ∃ b1 : Nat, b1 = at_ + 1 := ⟨_, rfl⟩
  obtain ⟨b2, hb2⟩ : ∃ b2 : Nat, b2 = b1 + 1 := ⟨_, rfl⟩
  obtain ⟨nb, hnb⟩ : ∃ nb, nb = (notR (P.drop b1)).1 := ⟨_, rfl⟩
  have hdrop : (notR (P.drop b1)).2 = P.drop (if nb = true then b2 else b1) := by
    cases hp : P.drop b1 with
    | nil =>
      rw [hp] at hnb
      rw [hnb]
      show [] = P.drop b1
      rw [hp]
    | cons c r =>
      rw [hp, notR_cons] at hnb
      rw [notR_cons]
      split at hnb
      · rename_i h
        subst hnb
        rw [if_pos h, if_pos rfl, hb2]
        show r = _
        have := congrArg (List.drop 1) hp
        rw [List.drop_drop] at this
        exact this.symm
      · rename_i h
        subst hnb
        rw [if_neg h, if_neg (by simp)]
        exact hp.symm
  have hbr : bracketR (P.drop b1) = match classR true (P.drop (if nb = true then b2 else b1)) (fun _ => false) with
      | none => none
      | some (f, t) => some ((fun x => f x != nb), t) := by
    unfold bracketR
    rw [hdrop, ← hnb]
    cases classR true (P.drop (if nb = true then b2 else b1)) (fun _ => false) <;> rfl
  have HG := Lib.hid hg
  have HZ := Lib.hid hz
  have HBR := Lib.hid hbr
  have HOK := Lib.hid (show ∀ e w', BrkOk P at_ w e w' ↔ (Below w.heap.size w w' ∧ ((bracketR (P.drop b1) = none ∧ ∃ ws, e = .returned (.tuple #[.agg (setL ws).toArray, .int .i64 (at_ : Int)]) ∧ SetIs ws (fun x => x == 91)) ∨
    ∃ f t ws en, bracketR (P.drop b1) = some (f, t) ∧ e = .returned (.tuple #[.agg (setL ws).toArray, .int .i64 ((en : Nat) : Int)]) ∧ SetIs ws f ∧ P.drop (en + 1) = t ∧ at_ < en ∧ en < P.length)) from fun e w' => by rw [hb1]; exact Iff.rfl)
  have hNB : (nb = true ∧ ∃ c, P[b1]? = some c ∧ ((c.toNat : Int) = 33 ∨ (¬ (c.toNat : Int) = 33 ∧ (c.toNat : Int) = 94))) ∨ (nb = false ∧ (b1 = S.size ∨ ∃ c, P[b1]? = some c ∧ ¬ (c.toNat : Int) = 33 ∧ ¬ (c.toNat : Int) = 94)) := by
    cases hp : P.drop b1 with
    | nil =>
      rw [hp] at hnb
      refine .inr ⟨hnb, .inl ?_⟩
      have := congrArg List.length hp
      rw [List.length_drop] at this
      simp at this
      omega
    | cons c r =>
      have hpc : P[b1]? = some c := by
        have := congrArg (·[0]?) hp
        simpa using this
      rw [hp, notR_cons] at hnb
      by_cases h : c = 33 ∨ c = 94
      · rw [if_pos h] at hnb
        refine .inl ⟨hnb, c, hpc, ?_⟩
        rcases h with rfl | rfl
        · exact .inl rfl
        · exact .inr ⟨by decide, rfl⟩
      · rw [if_neg h] at hnb
        exact .inr ⟨hnb, .inr ⟨c, hpc, fun e => h (.inl (u8_int e)), fun e => h (.inr (u8_int e))⟩⟩
  have e1 : (at_ : Int) + 1 = (b1 : Int) := by omega
  have e2 : (b1 : Int) + 1 = (b2 : Int) := by omega
  have hs8 : (S.size : Int) ≤ 8192 := by omega
  have hb1z : (b1 : Int) ≤ (S.size : Int) := by omega
  have HN := Lib.hid hNB
  have HB1 := Lib.hid hb1
  have HB2 := Lib.hid hb2
  have HK := Lib.hid hk
  clear hS hz hg hnb hdrop hbr hNB hb1 hb2 hk hl
  go_enter Tryz.func102, Tryz.ntmps102
  go_upto_region 2 with fail
  go_cut [9] (fun s9 wx => s9 = .bool nb ∧ wx = w.alloc (.cells (setL fun _ => 0).toArray 107))
  case first =>
    rcases HN.out with ⟨hn, c, hc, h33 | ⟨h33, h94⟩⟩ | ⟨hn, hend | ⟨c, hc, h33, h94⟩⟩
    · subst hn
      have hS : b1 < S.size := by have := (List.getElem?_eq_some_iff.1 hc).1; have := HZ.out; omega
      have hS1 : (b1 : Int) < (S.size : Int) := by omega
      have hci : ((S[b1].toNat : Nat) : Int) = (c.toNat : Int) := by have := HG.out b1 hS; rw [hc] at this; injection this with this; rw [this]
      clear hc
      go_wp2_with fail
      go_meet
      exact ⟨by first | rfl | simp [*], rfl⟩
    · subst hn
      have hS : b1 < S.size := by have := (List.getElem?_eq_some_iff.1 hc).1; have := HZ.out; omega
      have hS1 : (b1 : Int) < (S.size : Int) := by omega
      have hci : ((S[b1].toNat : Nat) : Int) = (c.toNat : Int) := by have := HG.out b1 hS; rw [hc] at this; injection this with this; rw [this]
      clear hc
      go_wp2_with fail
      go_meet
      exact ⟨by first | rfl | simp [*], rfl⟩
    · subst hn
      have hS1 : ¬ (b1 : Int) < (S.size : Int) := by omega
      clear hend
      go_wp2_with fail
      go_meet
      exact ⟨by first | rfl | simp [*], rfl⟩
    · subst hn
      have hS : b1 < S.size := by have := (List.getElem?_eq_some_iff.1 hc).1; have := HZ.out; omega
      have hS1 : (b1 : Int) < (S.size : Int) := by omega
      have hci : ((S[b1].toNat : Nat) : Int) = (c.toNat : Int) := by have := HG.out b1 hS; rw [hc] at this; injection this with this; rw [this]
      clear hc
      go_wp2_with fail
      go_meet
      exact ⟨by first | rfl | simp [*], rfl⟩
  case rest =>
    obtain ⟨rfl, rfl⟩ := hcut
    clear HN
    cases nb with
    | true =>
      have hbr := HBR.out
      rw [if_pos rfl] at hbr
      obtain ⟨R, hR⟩ : ∃ R, R = classR true (P.drop b2) (fun _ => false) := ⟨_, rfl⟩
      rw [← hR] at hbr
      have HRET : Hid (∀ (ws : Nat → Nat) (f : UInt8 → Bool) (t : Tx) (en : Nat) (e : Ending) (w' : World), R = some (f, t) → e = .returned (.tuple #[.agg (setL ws).toArray, .int .i64 (en : Int)]) → SetIs ws (fun c => !f c) → en < S.size → at_ < en → P.drop (en + 1) = t → Below w.heap.size w w' → BrkOk P at_ w e w') := by
        intro ws f t en e w' h1 h2 h3 h4 h5 h6 h7
        refine (HOK.out e w').2 ⟨h7, .inr ⟨_, t, ws, en, by rw [hbr, h1], h2, h3.same (fun c => by cases f c <;> rfl), h6, h5, by have := HZ.out; omega⟩⟩
      have hw1 : w.alloc (.cells (setL fun _ => 0).toArray 107) = w.alloc (.cells #[.int .u64 0, .int .u64 0, .int .u64 0, .int .u64 0] 107) := rfl
      have hbe : Below w.heap.size w ((w.alloc (.cells (setL fun _ => 0).toArray 107)).alloc (.cells (setL fun _ => 0).toArray 107)) := ((Below.refl _ _).alloc (Nat.le_refl _) _).alloc (by simp) _
      have hr0 := (BL.new w 107 (setL fun _ => 0)).alloc (.cells (setL fun _ => 0).toArray 107)
      have hb0 := BL.new (w.alloc (.cells (setL fun _ => 0).toArray 107)) 107 (setL fun _ => 0)
      rw [size_alloc] at hb0
      have HBE := Lib.hid hbe
      have HR0 := Lib.hid hr0
      have HB0 := Lib.hid hb0
      clear hbe hr0 hb0 hw1
      by_cases hkb : k ≤ (b2 : Int)
      · have hnone : R = none := by
          rw [hR]
          refine classR_none _ _ true _ (Nat.le_refl _) fun j hj hx => ?_
          have hj1 := hj rfl
          rw [List.getElem?_drop] at hx
          rcases HK.out with ⟨_, hn⟩ | ⟨i, rfl, _, hn⟩
          · exact hn _ hx
          · exact hn _ (by omega) hx
        rw [hnone] at hbr
        have HNONE := Lib.hid hbr
        have HPUT := Lib.hid (put_any (pre := []) HB0.out SetIs.empty 91 91)
        clear hbr hnone hR
        go_wp2_with fail
        refine HPUT.out.mono ?_
        rintro _ w6 ⟨rfl, ws6, hb6, hs6, ho6⟩
        have HB6 : Hid (BL w6 (w.heap.size + 1) 107 (setL ws6)) := hb6
        have HS6 := Lib.hid (hs6.same (g := fun x => x == 91) (fun x => (upto_one (fun _ => false) 91 x).trans (Bool.false_or _)))
        have HR6 := Lib.hid (HR0.out.only ho6 (by simp))
        have HBE6 := Lib.hid (HBE.out.trans (ho6.below (by simp; omega) (by simp)))
        clear hb6 hs6 ho6
        go_wp2_with (first
          | (refine wpList_load_mid rfl 107 _ rfl (w.heap.size + 1) 0 rfl (setL ws6) _ (HB6.out.range (o := 0) (vs := setL ws6) (fun j v hj => by rw [Nat.zero_add]; exact hj)) Tryz.underlying107 rfl (by kernel_rfl) ?_)
          | (refine wpList_store_at rfl 107 _ _ rfl w.heap.size 0 (setL ws6) rfl rfl 107 _ HR6.out (by show 0 + 4 ≤ 4; omega) (by kernel_rfl) (setL_one _) ?_; intro w4 h4 ho4 hs4; have H4 : Hid (BL w4 w.heap.size 107 (setL ws6)) := h4; have HO4 := Lib.hid ho4; clear h4 ho4))
        refine bodyPost_ret (results_ct (p := 6) (u := 7) (by kernel_rfl) _ _ w.heap.size 107 (setL ws6) _ rfl H4.out Tryz.underlying107 rfl (by kernel_rfl)) rfl ?_
        exact (HOK.out _ _).2 ⟨HBE6.out.trans (HO4.out.below (by have := HBE6.out.size; omega) (by simp)), .inl ⟨HNONE.out, ws6, rfl, HS6.out⟩⟩
      · obtain ⟨lst, rfl, hl93, hlst, HK2⟩ : ∃ lst : Nat, k = (lst : Int) ∧ P[lst]? = some 93 ∧ b2 < lst ∧ True := by
          rcases HK.out with ⟨e, _⟩ | ⟨i, e, hi, _⟩
          · omega
          · exact ⟨i, e, hi, by omega, trivial⟩
        have hlz : lst < S.size := by have := (List.getElem?_eq_some_iff.1 hl93).1; have := HZ.out; omega
        have HCLS := Lib.hid (show Cls P b2 true (fun _ => false) lst R from ⟨by omega, fun _ => hlst, hl93, hR⟩)
        clear hbr hR HK2
        have hbl3 : (lst : Int) < (S.size : Int) := by omega
        go_wp2_with fail
        go_loopw [11] (fun i wr => ∃ (en : Nat) (first : Bool) (f : UInt8 → Bool) (ws : Nat → Nat), i = .int .i64 (en : Int) ∧ b2 ≤ en ∧ (first = true ↔ en = b2) ∧ Cls P en first f lst R ∧ BL wr (w.heap.size + 1) 107 (setL ws) ∧ SetIs ws f ∧ BL wr w.heap.size 107 (setL fun _ => 0) ∧ Below w.heap.size w wr) (fun i _ => lst + 1 - (intOf i).toNat)
        case atStart => exact ⟨b2, true, _, _, rfl, Nat.le_refl _, by simp, HCLS.out, HB0.out, SetIs.empty, HR0.out, HBE.out⟩
        case round =>
          obtain ⟨en, first, f, ws, rfl, hen, hfi, hcls, hbl, hset, hr0, hbe⟩ := hrel
          have hle := hcls.le
          have hS : en < S.size := by omega
          have hS1 : (en : Int) < (S.size : Int) := by omega
          obtain ⟨c, hc⟩ : ∃ c, P[en]? = some c := ⟨_, HG.out en hS⟩
          have hci : ((S[en].toNat : Nat) : Int) = (c.toNat : Int) := by have := HG.out en hS; rw [hc] at this; injection this with this; rw [this]
          by_cases hx : c = 93 ∧ first = false
          · obtain ⟨rfl, rfl⟩ := hx
            have hne : ¬ (en : Int) = (b2 : Int) := fun h => by have := hfi.2 (by omega); cases this
            have hci2 : ((S[en].toNat : Nat) : Int) = 93 := hci
            have HRES := Lib.hid (hcls.shut hc)
            have HST := Lib.hid hset
            have HBL := Lib.hid hbl
            have HR1 := Lib.hid hr0
            have HBE1 := Lib.hid hbe
            have HEN := Lib.hid (And.intro hen hS)
            clear hcls hset hbl hr0 hbe hci hfi hc HCLS HB0 HR0
            have HOT := Lib.hid (fun V => others_any HST.out V)
            have HNOT := Lib.hid HST.out.not
            obtain ⟨wn, hwn⟩ : ∃ wn : Nat → Nat, wn = fun i => 18446744073709551615 ^^^ ws i := ⟨_, rfl⟩
            rw [← hwn] at HOT HNOT
            clear hwn
            go_wp2_with (refine wpList_load_mid rfl 107 _ rfl (w.heap.size + 1) 0 rfl (setL ws) _ (HBL.out.range (o := 0) (vs := setL ws) (fun j v hj => by rw [Nat.zero_add]; exact hj)) Tryz.underlying107 rfl (by kernel_rfl) ?_)
            refine (HOT.out _).mono ?_
            rintro _ w3 ⟨rfl, hb3⟩
            have HBL3 := Lib.hid (HBL.out.keep (hb3.block _ HBL.out.lt))
            have HR3 := Lib.hid (HR1.out.keep (hb3.block _ HR1.out.lt))
            have HBE3 := Lib.hid (HBE1.out.trans (hb3.mono HBE1.out.size))
            clear hb3
            go_wp2_with (first
              | (refine wpList_load_mid rfl 107 _ rfl (w.heap.size + 1) 0 rfl (setL wn) _ (H5.out.range (o := 0) (vs := setL wn) (fun j v hj => by rw [Nat.zero_add]; exact hj)) Tryz.underlying107 rfl (by kernel_rfl) ?_)
              | (refine wpList_store_at rfl 107 _ _ rfl (w.heap.size + 1) 0 (setL wn) rfl rfl 107 _ HBL3.out (by show 0 + 4 ≤ 4; omega) (by kernel_rfl) (setL_one _) ?_; intro w5 h5 ho5 hs5; have H5 : Hid (BL w5 (w.heap.size + 1) 107 (setL wn)) := h5; have HO5 := Lib.hid ho5; have HR5 := Lib.hid (HR3.out.only ho5 (by simp)); clear h5 ho5)
              | (refine wpList_store_at rfl 107 _ _ rfl w.heap.size 0 (setL wn) rfl rfl 107 _ HR5.out (by show 0 + 4 ≤ 4; omega) (by kernel_rfl) (setL_one _) ?_; intro w4 h4 ho4 hs4; have H4 : Hid (BL w4 w.heap.size 107 _) := h4; have HO4 := Lib.hid ho4; clear h4 ho4))
            refine bodyPost_ret (results_ct (p := 6) (u := 7) (by kernel_rfl) _ _ w.heap.size 107 (setL wn) _ rfl H4.out Tryz.underlying107 rfl (by kernel_rfl)) rfl ?_
            exact HRET.out wn f (P.drop (en + 1)) en _ _ HRES.out rfl HNOT.out HEN.out.2 (by have := HEN.out.1; omega) rfl (HBE3.out.trans ((HO5.out.below (by have := HBE3.out.size; omega) (by simp)).trans (HO4.out.below (by have := HBE3.out.size; have := HO5.out.size; omega) (by simp))))
          · have hlt := hcls.lt' hc hx
            have hS2 : en + 1 < S.size := by omega
            have hS3 : (en : Int) + 1 < (S.size : Int) := by omega
            obtain ⟨d, hd⟩ : ∃ d, P[en + 1]? = some d := ⟨_, HG.out (en + 1) hS2⟩
            have hdi : ((S[en + 1].toNat : Nat) : Int) = (d.toNat : Int) := by have := HG.out (en + 1) hS2; rw [hd] at this; injection this with this; rw [this]
            have hcase : en = b2 ∨ (((en : Int) == (b2 : Int)) = false ∧ ((c.toNat : Int) != 93) = true) := by
              by_cases h1 : en = b2
              · exact .inl h1
              · refine .inr ⟨beq_eq_false_iff_ne.2 (by omega), bne_iff_ne.2 fun h => hx ⟨u8_int h, ?_⟩⟩
                cases first with
                | false => rfl
                | true => exact absurd (hfi.1 rfl) h1
            have hbl0 : BL wr (w.heap.size + 1) 107 ([] ++ setL ws) := hbl
            have HBE1 := Lib.hid hbe
            have HR1 := Lib.hid hr0
            by_cases hrg : d = 45 ∧ P[en + 2]? ≠ some 93
            · obtain ⟨rfl, hne93⟩ := hrg
              have hne2 : en + 1 ≠ lst := fun x => by have := hcls.at_; rw [← x, hd] at this; injection this with this; cases this
              have hS4 : en + 2 < S.size := by omega
              have hS5 : (en : Int) + 2 < (S.size : Int) := by omega
              obtain ⟨e, he⟩ : ∃ e, P[en + 2]? = some e := ⟨_, HG.out (en + 2) hS4⟩
              have hei : ((S[en + 2].toNat : Nat) : Int) = (e.toNat : Int) := by have := HG.out (en + 2) hS4; rw [he] at this; injection this with this; rw [this]
              have h93 : e ≠ 93 := fun h => hne93 (by rw [he, h])
              have k93 : ¬ (e.toNat : Int) = 93 := fun h => h93 (u8_int h)
              have hdi2 : ((S[en + 1].toNat : Nat) : Int) = 45 := hdi
              have HN := Lib.hid (hcls.range hc hx hd he h93)
              have HLE := Lib.hid (show en + 3 ≤ lst from HN.out.le)
              have HPUT := Lib.hid (put_any hbl0 hset c e)
              clear hdi hcls hset hbl hbl0 hr0 hbe hd he h93 hne93 hc hx hfi hne2 HCLS HB0 HR0
              rcases hcase with rfl | ⟨h1, h2⟩
              · go_wp2_with fail
                refine HPUT.out.mono ?_
                rintro _ w6 ⟨rfl, ws6, hb6, hs6, ho6⟩
                have HB6 : Hid (BL w6 (w.heap.size + 1) 107 (setL ws6)) := hb6
                have HS6 := Lib.hid (hs6.same (fun x => upto_range f c e x))
                have HR6 := Lib.hid (HR1.out.only ho6 (by simp))
                have HBE6 := Lib.hid (HBE1.out.trans (ho6.below (by have := HBE1.out.size; omega) (by simp)))
                clear hb6 hs6 ho6
                go_wp2_with fail
                go_roundw
                case measure => simp [intOf]; have := HLE.out; omega
                case rel => exact ⟨en + 3, false, _, ws6, by go_num, by omega, ⟨(fun h => by cases h), (fun h => by omega)⟩, HN.out, HB6.out, HS6.out, HR6.out, HBE6.out⟩
              · go_wp2_with fail
                refine HPUT.out.mono ?_
                rintro _ w6 ⟨rfl, ws6, hb6, hs6, ho6⟩
                have HB6 : Hid (BL w6 (w.heap.size + 1) 107 (setL ws6)) := hb6
                have HS6 := Lib.hid (hs6.same (fun x => upto_range f c e x))
                have HR6 := Lib.hid (HR1.out.only ho6 (by simp))
                have HBE6 := Lib.hid (HBE1.out.trans (ho6.below (by have := HBE1.out.size; omega) (by simp)))
                clear hb6 hs6 ho6
                go_wp2_with fail
                go_roundw
                case measure => simp [intOf]; have := HLE.out; omega
                case rel => exact ⟨en + 3, false, _, ws6, by go_num, by omega, ⟨(fun h => by cases h), (fun h => by omega)⟩, HN.out, HB6.out, HS6.out, HR6.out, HBE6.out⟩
            · have HN := Lib.hid (hcls.one hc hx hd hrg)
              have HLE := Lib.hid (show en + 1 ≤ lst from HN.out.le)
              have HPUT := Lib.hid (put_any hbl0 hset c c)
              by_cases h45 : d = 45
              · have h93 : P[en + 2]? = some 93 := by
                  by_cases hq : P[en + 2]? = some 93
                  · exact hq
                  · exact absurd ⟨h45, hq⟩ hrg
                have hS4 : en + 2 < S.size := by have := (List.getElem?_eq_some_iff.1 h93).1; have := HZ.out; omega
                have hS5 : (en : Int) + 2 < (S.size : Int) := by omega
                have hei : ((S[en + 2].toNat : Nat) : Int) = 93 := by have := HG.out (en + 2) hS4; rw [h93] at this; injection this with this; rw [← this]; rfl
                subst h45
                have hdi2 : ((S[en + 1].toNat : Nat) : Int) = 45 := hdi
                clear hdi hcls hset hbl hbl0 hr0 hbe hd h93 hc hx hfi hrg HCLS HB0 HR0
                rcases hcase with rfl | ⟨h1, h2⟩
                · go_wp2_with fail
                  refine HPUT.out.mono ?_
                  rintro _ w6 ⟨rfl, ws6, hb6, hs6, ho6⟩
                  have HB6 : Hid (BL w6 (w.heap.size + 1) 107 (setL ws6)) := hb6
                  have HS6 := Lib.hid (hs6.same (fun x => upto_one f c  x))
                  have HR6 := Lib.hid (HR1.out.only ho6 (by simp))
                  have HBE6 := Lib.hid (HBE1.out.trans (ho6.below (by have := HBE1.out.size; omega) (by simp)))
                  clear hb6 hs6 ho6
                  go_wp2_with fail
                  go_roundw
                  case measure => simp [intOf]; have := HLE.out; omega
                  case rel => exact ⟨en + 1, false, _, ws6, by go_num, by omega, ⟨(fun h => by cases h), (fun h => by omega)⟩, HN.out, HB6.out, HS6.out, HR6.out, HBE6.out⟩
                · go_wp2_with fail
                  refine HPUT.out.mono ?_
                  rintro _ w6 ⟨rfl, ws6, hb6, hs6, ho6⟩
                  have HB6 : Hid (BL w6 (w.heap.size + 1) 107 (setL ws6)) := hb6
                  have HS6 := Lib.hid (hs6.same (fun x => upto_one f c  x))
                  have HR6 := Lib.hid (HR1.out.only ho6 (by simp))
                  have HBE6 := Lib.hid (HBE1.out.trans (ho6.below (by have := HBE1.out.size; omega) (by simp)))
                  clear hb6 hs6 ho6
                  go_wp2_with fail
                  go_roundw
                  case measure => simp [intOf]; have := HLE.out; omega
                  case rel => exact ⟨en + 1, false, _, ws6, by go_num, by omega, ⟨(fun h => by cases h), (fun h => by omega)⟩, HN.out, HB6.out, HS6.out, HR6.out, HBE6.out⟩
              · have k45 : ¬ (d.toNat : Int) = 45 := fun h => h45 (u8_int h)
                clear hcls hset hbl hbl0 hr0 hbe hd hc hx hfi hrg HCLS HB0 HR0
                rcases hcase with rfl | ⟨h1, h2⟩
                · go_wp2_with fail
                  refine HPUT.out.mono ?_
                  rintro _ w6 ⟨rfl, ws6, hb6, hs6, ho6⟩
                  have HB6 : Hid (BL w6 (w.heap.size + 1) 107 (setL ws6)) := hb6
                  have HS6 := Lib.hid (hs6.same (fun x => upto_one f c  x))
                  have HR6 := Lib.hid (HR1.out.only ho6 (by simp))
                  have HBE6 := Lib.hid (HBE1.out.trans (ho6.below (by have := HBE1.out.size; omega) (by simp)))
                  clear hb6 hs6 ho6
                  go_wp2_with fail
                  go_roundw
                  case measure => simp [intOf]; have := HLE.out; omega
                  case rel => exact ⟨en + 1, false, _, ws6, by go_num, by omega, ⟨(fun h => by cases h), (fun h => by omega)⟩, HN.out, HB6.out, HS6.out, HR6.out, HBE6.out⟩
                · go_wp2_with fail
                  refine HPUT.out.mono ?_
                  rintro _ w6 ⟨rfl, ws6, hb6, hs6, ho6⟩
                  have HB6 : Hid (BL w6 (w.heap.size + 1) 107 (setL ws6)) := hb6
                  have HS6 := Lib.hid (hs6.same (fun x => upto_one f c  x))
                  have HR6 := Lib.hid (HR1.out.only ho6 (by simp))
                  have HBE6 := Lib.hid (HBE1.out.trans (ho6.below (by have := HBE1.out.size; omega) (by simp)))
                  clear hb6 hs6 ho6
                  go_wp2_with fail
                  go_roundw
                  case measure => simp [intOf]; have := HLE.out; omega
                  case rel => exact ⟨en + 1, false, _, ws6, by go_num, by omega, ⟨(fun h => by cases h), (fun h => by omega)⟩, HN.out, HB6.out, HS6.out, HR6.out, HBE6.out⟩
    | false =>
      clear e2 HB2
      have hbr := HBR.out
      rw [if_neg (by simp)] at hbr
      obtain ⟨R, hR⟩ : ∃ R, R = classR true (P.drop b1) (fun _ => false) := ⟨_, rfl⟩
      rw [← hR] at hbr
      have HRET : Hid (∀ (ws : Nat → Nat) (f : UInt8 → Bool) (t : Tx) (en : Nat) (e : Ending) (w' : World), R = some (f, t) → e = .returned (.tuple #[.agg (setL ws).toArray, .int .i64 (en : Int)]) → SetIs ws (fun c => f c) → en < S.size → at_ < en → P.drop (en + 1) = t → Below w.heap.size w w' → BrkOk P at_ w e w') := by
        intro ws f t en e w' h1 h2 h3 h4 h5 h6 h7
        refine (HOK.out e w').2 ⟨h7, .inr ⟨_, t, ws, en, by rw [hbr, h1], h2, h3.same (fun c => by cases f c <;> rfl), h6, h5, by have := HZ.out; omega⟩⟩
      have hw1 : w.alloc (.cells (setL fun _ => 0).toArray 107) = w.alloc (.cells #[.int .u64 0, .int .u64 0, .int .u64 0, .int .u64 0] 107) := rfl
      have hbe : Below w.heap.size w ((w.alloc (.cells (setL fun _ => 0).toArray 107)).alloc (.cells (setL fun _ => 0).toArray 107)) := ((Below.refl _ _).alloc (Nat.le_refl _) _).alloc (by simp) _
      have hr0 := (BL.new w 107 (setL fun _ => 0)).alloc (.cells (setL fun _ => 0).toArray 107)
      have hb0 := BL.new (w.alloc (.cells (setL fun _ => 0).toArray 107)) 107 (setL fun _ => 0)
      rw [size_alloc] at hb0
      have HBE := Lib.hid hbe
      have HR0 := Lib.hid hr0
      have HB0 := Lib.hid hb0
      clear hbe hr0 hb0 hw1
      by_cases hkb : k ≤ (b1 : Int)
      · have hnone : R = none := by
          rw [hR]
          refine classR_none _ _ true _ (Nat.le_refl _) fun j hj hx => ?_
          have hj1 := hj rfl
          rw [List.getElem?_drop] at hx
          rcases HK.out with ⟨_, hn⟩ | ⟨i, rfl, _, hn⟩
          · exact hn _ hx
          · exact hn _ (by omega) hx
        rw [hnone] at hbr
        have HNONE := Lib.hid hbr
        have HPUT := Lib.hid (put_any (pre := []) HB0.out SetIs.empty 91 91)
        clear hbr hnone hR
        go_wp2_with fail
        refine HPUT.out.mono ?_
        rintro _ w6 ⟨rfl, ws6, hb6, hs6, ho6⟩
        have HB6 : Hid (BL w6 (w.heap.size + 1) 107 (setL ws6)) := hb6
        have HS6 := Lib.hid (hs6.same (g := fun x => x == 91) (fun x => (upto_one (fun _ => false) 91 x).trans (Bool.false_or _)))
        have HR6 := Lib.hid (HR0.out.only ho6 (by simp))
        have HBE6 := Lib.hid (HBE.out.trans (ho6.below (by simp; omega) (by simp)))
        clear hb6 hs6 ho6
        go_wp2_with (first
          | (refine wpList_load_mid rfl 107 _ rfl (w.heap.size + 1) 0 rfl (setL ws6) _ (HB6.out.range (o := 0) (vs := setL ws6) (fun j v hj => by rw [Nat.zero_add]; exact hj)) Tryz.underlying107 rfl (by kernel_rfl) ?_)
          | (refine wpList_store_at rfl 107 _ _ rfl w.heap.size 0 (setL ws6) rfl rfl 107 _ HR6.out (by show 0 + 4 ≤ 4; omega) (by kernel_rfl) (setL_one _) ?_; intro w4 h4 ho4 hs4; have H4 : Hid (BL w4 w.heap.size 107 (setL ws6)) := h4; have HO4 := Lib.hid ho4; clear h4 ho4))
        refine bodyPost_ret (results_ct (p := 6) (u := 7) (by kernel_rfl) _ _ w.heap.size 107 (setL ws6) _ rfl H4.out Tryz.underlying107 rfl (by kernel_rfl)) rfl ?_
        exact (HOK.out _ _).2 ⟨HBE6.out.trans (HO4.out.below (by have := HBE6.out.size; omega) (by simp)), .inl ⟨HNONE.out, ws6, rfl, HS6.out⟩⟩
      · obtain ⟨lst, rfl, hl93, hlst, HK2⟩ : ∃ lst : Nat, k = (lst : Int) ∧ P[lst]? = some 93 ∧ b1 < lst ∧ True := by
          rcases HK.out with ⟨e, _⟩ | ⟨i, e, hi, _⟩
          · omega
          · exact ⟨i, e, hi, by omega, trivial⟩
        have hlz : lst < S.size := by have := (List.getElem?_eq_some_iff.1 hl93).1; have := HZ.out; omega
        have HCLS := Lib.hid (show Cls P b1 true (fun _ => false) lst R from ⟨by omega, fun _ => hlst, hl93, hR⟩)
        clear hbr hR HK2
        have hbl3 : (lst : Int) < (S.size : Int) := by omega
        go_wp2_with fail
        go_loopw [11] (fun i wr => ∃ (en : Nat) (first : Bool) (f : UInt8 → Bool) (ws : Nat → Nat), i = .int .i64 (en : Int) ∧ b1 ≤ en ∧ (first = true ↔ en = b1) ∧ Cls P en first f lst R ∧ BL wr (w.heap.size + 1) 107 (setL ws) ∧ SetIs ws f ∧ BL wr w.heap.size 107 (setL fun _ => 0) ∧ Below w.heap.size w wr) (fun i _ => lst + 1 - (intOf i).toNat)
        case atStart => exact ⟨b1, true, _, _, rfl, Nat.le_refl _, by simp, HCLS.out, HB0.out, SetIs.empty, HR0.out, HBE.out⟩
        case round =>
          obtain ⟨en, first, f, ws, rfl, hen, hfi, hcls, hbl, hset, hr0, hbe⟩ := hrel
          have hle := hcls.le
          have hS : en < S.size := by omega
          have hS1 : (en : Int) < (S.size : Int) := by omega
          obtain ⟨c, hc⟩ : ∃ c, P[en]? = some c := ⟨_, HG.out en hS⟩
          have hci : ((S[en].toNat : Nat) : Int) = (c.toNat : Int) := by have := HG.out en hS; rw [hc] at this; injection this with this; rw [this]
          by_cases hx : c = 93 ∧ first = false
          · obtain ⟨rfl, rfl⟩ := hx
            have hne : ¬ (en : Int) = (b1 : Int) := fun h => by have := hfi.2 (by omega); cases this
            have hci2 : ((S[en].toNat : Nat) : Int) = 93 := hci
            have HRES := Lib.hid (hcls.shut hc)
            have HST := Lib.hid hset
            have HBL := Lib.hid hbl
            have HR1 := Lib.hid hr0
            have HBE1 := Lib.hid hbe
            have HEN := Lib.hid (And.intro hen hS)
            clear hcls hset hbl hr0 hbe hci hfi hc HCLS HB0 HR0
            go_wp2_with (first
              | (refine wpList_load_mid rfl 107 _ rfl (w.heap.size + 1) 0 rfl (setL ws) _ (HBL.out.range (o := 0) (vs := setL ws) (fun j v hj => by rw [Nat.zero_add]; exact hj)) Tryz.underlying107 rfl (by kernel_rfl) ?_)
              | (refine wpList_store_at rfl 107 _ _ rfl w.heap.size 0 (setL ws) rfl rfl 107 _ HR1.out (by show 0 + 4 ≤ 4; omega) (by kernel_rfl) (setL_one _) ?_; intro w4 h4 ho4 hs4; have H4 : Hid (BL w4 w.heap.size 107 _) := h4; have HO4 := Lib.hid ho4; clear h4 ho4))
            refine bodyPost_ret (results_ct (p := 6) (u := 7) (by kernel_rfl) _ _ w.heap.size 107 (setL ws) _ rfl H4.out Tryz.underlying107 rfl (by kernel_rfl)) rfl ?_
            exact HRET.out ws f (P.drop (en + 1)) en _ _ HRES.out rfl HST.out HEN.out.2 (by have := HEN.out.1; omega) rfl (HBE1.out.trans (HO4.out.below (by have := HBE1.out.size; omega) (by simp)))
          · have hlt := hcls.lt' hc hx
            have hS2 : en + 1 < S.size := by omega
            have hS3 : (en : Int) + 1 < (S.size : Int) := by omega
            obtain ⟨d, hd⟩ : ∃ d, P[en + 1]? = some d := ⟨_, HG.out (en + 1) hS2⟩
            have hdi : ((S[en + 1].toNat : Nat) : Int) = (d.toNat : Int) := by have := HG.out (en + 1) hS2; rw [hd] at this; injection this with this; rw [this]
            have hcase : en = b1 ∨ (((en : Int) == (b1 : Int)) = false ∧ ((c.toNat : Int) != 93) = true) := by
              by_cases h1 : en = b1
              · exact .inl h1
              · refine .inr ⟨beq_eq_false_iff_ne.2 (by omega), bne_iff_ne.2 fun h => hx ⟨u8_int h, ?_⟩⟩
                cases first with
                | false => rfl
                | true => exact absurd (hfi.1 rfl) h1
            have hbl0 : BL wr (w.heap.size + 1) 107 ([] ++ setL ws) := hbl
            have HBE1 := Lib.hid hbe
            have HR1 := Lib.hid hr0
            by_cases hrg : d = 45 ∧ P[en + 2]? ≠ some 93
            · obtain ⟨rfl, hne93⟩ := hrg
              have hne2 : en + 1 ≠ lst := fun x => by have := hcls.at_; rw [← x, hd] at this; injection this with this; cases this
              have hS4 : en + 2 < S.size := by omega
              have hS5 : (en : Int) + 2 < (S.size : Int) := by omega
              obtain ⟨e, he⟩ : ∃ e, P[en + 2]? = some e := ⟨_, HG.out (en + 2) hS4⟩
              have hei : ((S[en + 2].toNat : Nat) : Int) = (e.toNat : Int) := by have := HG.out (en + 2) hS4; rw [he] at this; injection this with this; rw [this]
              have h93 : e ≠ 93 := fun h => hne93 (by rw [he, h])
              have k93 : ¬ (e.toNat : Int) = 93 := fun h => h93 (u8_int h)
              have hdi2 : ((S[en + 1].toNat : Nat) : Int) = 45 := hdi
              have HN := Lib.hid (hcls.range hc hx hd he h93)
              have HLE := Lib.hid (show en + 3 ≤ lst from HN.out.le)
              have HPUT := Lib.hid (put_any hbl0 hset c e)
              clear hdi hcls hset hbl hbl0 hr0 hbe hd he h93 hne93 hc hx hfi hne2 HCLS HB0 HR0
              rcases hcase with rfl | ⟨h1, h2⟩
              · go_wp2_with fail
                refine HPUT.out.mono ?_
                rintro _ w6 ⟨rfl, ws6, hb6, hs6, ho6⟩
                have HB6 : Hid (BL w6 (w.heap.size + 1) 107 (setL ws6)) := hb6
                have HS6 := Lib.hid (hs6.same (fun x => upto_range f c e x))
                have HR6 := Lib.hid (HR1.out.only ho6 (by simp))
                have HBE6 := Lib.hid (HBE1.out.trans (ho6.below (by have := HBE1.out.size; omega) (by simp)))
                clear hb6 hs6 ho6
                go_wp2_with fail
                go_roundw
                case measure => simp [intOf]; have := HLE.out; omega
                case rel => exact ⟨en + 3, false, _, ws6, by go_num, by omega, ⟨(fun h => by cases h), (fun h => by omega)⟩, HN.out, HB6.out, HS6.out, HR6.out, HBE6.out⟩
              · go_wp2_with fail
                refine HPUT.out.mono ?_
                rintro _ w6 ⟨rfl, ws6, hb6, hs6, ho6⟩
                have HB6 : Hid (BL w6 (w.heap.size + 1) 107 (setL ws6)) := hb6
                have HS6 := Lib.hid (hs6.same (fun x => upto_range f c e x))
                have HR6 := Lib.hid (HR1.out.only ho6 (by simp))
                have HBE6 := Lib.hid (HBE1.out.trans (ho6.below (by have := HBE1.out.size; omega) (by simp)))
                clear hb6 hs6 ho6
                go_wp2_with fail
                go_roundw
                case measure => simp [intOf]; have := HLE.out; omega
                case rel => exact ⟨en + 3, false, _, ws6, by go_num, by omega, ⟨(fun h => by cases h), (fun h => by omega)⟩, HN.out, HB6.out, HS6.out, HR6.out, HBE6.out⟩
            · have HN := Lib.hid (hcls.one hc hx hd hrg)
              have HLE := Lib.hid (show en + 1 ≤ lst from HN.out.le)
              have HPUT := Lib.hid (put_any hbl0 hset c c)
              by_cases h45 : d = 45
              · have h93 : P[en + 2]? = some 93 := by
                  by_cases hq : P[en + 2]? = some 93
                  · exact hq
                  · exact absurd ⟨h45, hq⟩ hrg
                have hS4 : en + 2 < S.size := by have := (List.getElem?_eq_some_iff.1 h93).1; have := HZ.out; omega
                have hS5 : (en : Int) + 2 < (S.size : Int) := by omega
                have hei : ((S[en + 2].toNat : Nat) : Int) = 93 := by have := HG.out (en + 2) hS4; rw [h93] at this; injection this with this; rw [← this]; rfl
                subst h45
                have hdi2 : ((S[en + 1].toNat : Nat) : Int) = 45 := hdi
                clear hdi hcls hset hbl hbl0 hr0 hbe hd h93 hc hx hfi hrg HCLS HB0 HR0
                rcases hcase with rfl | ⟨h1, h2⟩
                · go_wp2_with fail
                  refine HPUT.out.mono ?_
                  rintro _ w6 ⟨rfl, ws6, hb6, hs6, ho6⟩
                  have HB6 : Hid (BL w6 (w.heap.size + 1) 107 (setL ws6)) := hb6
                  have HS6 := Lib.hid (hs6.same (fun x => upto_one f c  x))
                  have HR6 := Lib.hid (HR1.out.only ho6 (by simp))
                  have HBE6 := Lib.hid (HBE1.out.trans (ho6.below (by have := HBE1.out.size; omega) (by simp)))
                  clear hb6 hs6 ho6
                  go_wp2_with fail
                  go_roundw
                  case measure => simp [intOf]; have := HLE.out; omega
                  case rel => exact ⟨en + 1, false, _, ws6, by go_num, by omega, ⟨(fun h => by cases h), (fun h => by omega)⟩, HN.out, HB6.out, HS6.out, HR6.out, HBE6.out⟩
                · go_wp2_with fail
                  refine HPUT.out.mono ?_
                  rintro _ w6 ⟨rfl, ws6, hb6, hs6, ho6⟩
                  have HB6 : Hid (BL w6 (w.heap.size + 1) 107 (setL ws6)) := hb6
                  have HS6 := Lib.hid (hs6.same (fun x => upto_one f c  x))
                  have HR6 := Lib.hid (HR1.out.only ho6 (by simp))
                  have HBE6 := Lib.hid (HBE1.out.trans (ho6.below (by have := HBE1.out.size; omega) (by simp)))
                  clear hb6 hs6 ho6
                  go_wp2_with fail
                  go_roundw
                  case measure => simp [intOf]; have := HLE.out; omega
                  case rel => exact ⟨en + 1, false, _, ws6, by go_num, by omega, ⟨(fun h => by cases h), (fun h => by omega)⟩, HN.out, HB6.out, HS6.out, HR6.out, HBE6.out⟩
              · have k45 : ¬ (d.toNat : Int) = 45 := fun h => h45 (u8_int h)
                clear hcls hset hbl hbl0 hr0 hbe hd hc hx hfi hrg HCLS HB0 HR0
                rcases hcase with rfl | ⟨h1, h2⟩
                · go_wp2_with fail
                  refine HPUT.out.mono ?_
                  rintro _ w6 ⟨rfl, ws6, hb6, hs6, ho6⟩
                  have HB6 : Hid (BL w6 (w.heap.size + 1) 107 (setL ws6)) := hb6
                  have HS6 := Lib.hid (hs6.same (fun x => upto_one f c  x))
                  have HR6 := Lib.hid (HR1.out.only ho6 (by simp))
                  have HBE6 := Lib.hid (HBE1.out.trans (ho6.below (by have := HBE1.out.size; omega) (by simp)))
                  clear hb6 hs6 ho6
                  go_wp2_with fail
                  go_roundw
                  case measure => simp [intOf]; have := HLE.out; omega
                  case rel => exact ⟨en + 1, false, _, ws6, by go_num, by omega, ⟨(fun h => by cases h), (fun h => by omega)⟩, HN.out, HB6.out, HS6.out, HR6.out, HBE6.out⟩
                · go_wp2_with fail
                  refine HPUT.out.mono ?_
                  rintro _ w6 ⟨rfl, ws6, hb6, hs6, ho6⟩
                  have HB6 : Hid (BL w6 (w.heap.size + 1) 107 (setL ws6)) := hb6
                  have HS6 := Lib.hid (hs6.same (fun x => upto_one f c  x))
                  have HR6 := Lib.hid (HR1.out.only ho6 (by simp))
                  have HBE6 := Lib.hid (HBE1.out.trans (ho6.below (by have := HBE1.out.size; omega) (by simp)))
                  clear hb6 hs6 ho6
                  go_wp2_with fail
                  go_roundw
                  case measure => simp [intOf]; have := HLE.out; omega
                  case rel => exact ⟨en + 1, false, _, ws6, by go_num, by omega, ⟨(fun h => by cases h), (fun h => by omega)⟩, HN.out, HB6.out, HS6.out, HR6.out, HBE6.out⟩
end Go.Proofs.YtbiinghmopgjnaaGreatDoor.Fmt
