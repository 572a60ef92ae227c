/- The walk of the law that what a terminal is told can be written down as bytes that tell it again. -/
import Derived.Test.YtmhmbeofcedjjaaDoorLrc
namespace Go.Proofs.YtmhmbeofcedjjaaDoor.Vt
open Go.RowKit
open Cel (Blk Kept Tabs low Owns At good enc)

theorem can_ok {a : Ac} (h : Can a) (h0 : 0 ≤ a.b) : Fitly a ∧ 0 ≤ a.b ∧ a.b ≤ 255 := by
  have hc := h.c
  have hps := can_ps h
  have fin : ∀ {k x : Int}, isFin k x = true → x ≤ 255 := fun {k x} h => by unfold isFin at h; simp at h; omega
  have hd : headOf a = true → a.it.length ≤ 3 ∧ a.b ≤ 255 := fun hh => by
    unfold headOf at hh
    simp only [Bool.and_eq_true] at hh
    have := (bet_bd hh.2.1).2
    have := (bare_le a.it).2
    exact ⟨by omega, fin hh.1⟩
  have htx : textOf a = true → a.tx.length ≤ 1024 := fun ht => (text_bd ht).2
  rcases cbt_k a hc with hk | hk | hk | hk | hk | hk
  · have e1 := h.it (.inl hk)
    have e2 := h.tx (by omega) (by omega)
    have e3 := h.b (.inl hk)
    exact ⟨⟨by rw [e1]; simp, by rw [e2]; simp, by omega⟩, h0, by omega⟩
  · have e1 := h.it (.inr (.inl hk))
    have e2 := h.tx (by omega) (by omega)
    unfold cbt at hc
    rw [if_neg (by omega), if_pos hk] at hc
    simp only [Bool.and_eq_true, decide_eq_true_eq] at hc
    exact ⟨⟨by rw [e1]; simp, by rw [e2]; simp, by omega⟩, h0, by omega⟩
  · have e2 := h.tx (by omega) (by omega)
    unfold cbt at hc
    rw [if_neg (by omega), if_neg (by omega), if_pos hk] at hc
    simp only [Bool.and_eq_true] at hc
    have := (bet_bd hc.2.1).2
    exact ⟨⟨by omega, by rw [e2]; simp, by omega⟩, h0, fin hc.1⟩
  · have e2 := h.tx (by omega) (by omega)
    rw [cbt_4 hk] at hc
    have := hd hc
    exact ⟨⟨by omega, by rw [e2]; simp, by omega⟩, h0, this.2⟩
  · have e1 := h.it (.inr (.inr hk))
    have e3 := h.b (.inr hk)
    rw [cbt_5 hk] at hc
    have := htx hc
    exact ⟨⟨by rw [e1]; simp, by omega, by omega⟩, h0, by omega⟩
  · rw [cbt_6 hk, Bool.and_eq_true] at hc
    have h1 := hd hc.1
    have h2 := htx hc.2
    exact ⟨⟨by omega, by omega, by omega⟩, h0, h1.2⟩
theorem told_ok (s : Tx) : ∀ a ∈ (run ps0 s).2, Fitly a ∧ 0 ≤ a.b ∧ a.b ≤ 255 := fun a ha => by
  have := (run_good s ps0 ic0).2 a ha
  exact can_ok this.1 this.2
theorem inb_byts {w : World} {B m c : Nat} {A : Option Addr} {l : Tx} (h : Byts w B (.slice A m c) l) : InB w A l := fun i hi => by
  rcases h.2 with ⟨_, h0⟩ | ⟨g, cap, cur, e, hg, hh, hn, hm, hs, ht⟩
  · omega
  · injection e with e1 e2 e3
    refine ⟨g, 0, cur, (0, 0), e1, hh, ?_⟩
    have : (cur.toList.take (l.length * 1))[i]? = (byts l)[i]? := by rw [ht]
    rw [List.getElem?_take, if_pos (by omega), Array.getElem?_toList] at this
    rw [Nat.zero_add, this]
    simp [byts, List.getElem?_eq_getElem hi, List.getD_eq_getElem?_getD]
theorem byts_new {w : World} {B m c : Nat} {A : Option Addr} {l : Tx} (h : Byts w B (.slice A m c) l) : ∀ g o, A = some ⟨g, o, none⟩ → B ≤ g := fun g o e => by
  subst e
  exact (h.lt g rfl).1
theorem told_len (s : Tx) : (run ps0 s).2.length ≤ s.length := by
  have := run_len ps0 s
  have e : Cel.pend ps0.d = 0 := rfl
  omega
set_option maxRecDepth 100000 in
set_option maxHeartbeats 4000000 in
theorem lawBack_walk (ls : Tx) (w : World) (ht : Tabs w) (hlow : low ≤ w.heap.size) (hls : ls.length ≤ 140737488355328) :
    Calls Tryd.prog 5 #[.string (bs ls)] w fun e w' => e = .returned (.bool true) ∧ Below w.heap.size w w' := by
  have HY : Hid ((bs ls).size = ls.length) := bs_size ls
  have HTS := Lib.hid (fun (w : World) => to_bytes w ls)
  generalize bs ls = Y at *
  have hsh := shown_any w ht hlow
  go_enter Tryd.func5, Tryd.ntmps5
  go_wp2_with fail
  refine hsh.mono ?_
  rintro e w1 ⟨rfl, hb1⟩
  have ht1 := ht.below hb1 hlow
  have hn1 := new_any w1 w.heap.size hb1.size
  go_wp2_with fail
  refine hn1.mono ?_
  rintro e w2 ⟨rfl, P2, hb2', hz2⟩
  have hs1 := hb1.size
  have hb2 : Below w.heap.size w w2 := hb1.trans (hb2'.mono hs1)
  have ht2 := ht.below hb2 hlow
  have hs2 := hb2.size
  have HP2 := P2.lt
  have hn2 := new_any w2 w2.heap.size (Nat.le_refl _)
  generalize w1.heap.size + 1 = pb at *
  generalize w1.heap.size = db at *
  have HZ2 := Lib.hid hz2
  clear hz2 hb2' hb1 ht1 hs1 hn1
  go_wp2_with fail
  refine hn2.mono ?_
  rintro e w3 ⟨rfl, Q3, hb3', hz3⟩
  have P3 := P2.later hb3'
  have dis : Dis pb db nilV nilV (w2.heap.size + 1) w2.heap.size nilV nilV := fun k h1 h2 => by
    have := (HP2 k h1).2
    have := (Q3.lt k h2).1
    omega
  have hb3 : Below w.heap.size w w3 := hb2.trans (hb3'.mono hs2)
  have ht3 := ht.below hb3 hlow
  have hs3 := hb3.size
  have hlq : low ≤ w2.heap.size := Nat.le_trans hlow hs2
  have Q3 := Q3.lower (B' := w.heap.size) hs2
  generalize w2.heap.size + 1 = qb at *
  generalize w2.heap.size = eb at *
  clear P2 hb2 ht2 hb3' hn2 hz3 hlq HP2
  by_cases hc : 20000 < ls.length
  · have i1 : (20000 : Int) < (Y.size : Int) := by have := HY.out; omega
    have i2 : (Y.size : Int) ≤ 140737488355328 := by have := HY.out; omega
    clear hc
    go_wp2
    go_ret
    exact ⟨rfl, hb3⟩
  · have i2 : (Y.size : Int) ≤ 20000 := by have := HY.out; omega
    obtain ⟨A, c, w4, hcv, hk4, hin4, hnew4⟩ := HTS.out w3
    have HF := Lib.hid (feed_in P3 ht3 hlow hk4 A c ls hin4 hnew4 (by omega))
    have htl := told_len ls
    have HTL : Hid ((run ps0 ls).2.length ≤ 20000) := by show _ ≤ _; omega
    clear hin4 hnew4 hc htl
    go_wp2_with fail
    refine HF.out.mono ?_
    rintro e w5 ⟨ov1, out1, pv1, tv1, rfl, P5, L5, ho5, ap5, k1, m1⟩
    have Q5 := Q3.other dis k1
    have dis5 := dis.feed Q3 m1
    have hb5 := hb3.trans (kept_below P3 k1)
    have ht5 := ht.below hb5 hlow
    have hs5 := hb5.size
    obtain ⟨A1, c1, rfl⟩ := own_slice L5.1
    have hol : out1.length ≤ 20000 := by have h1 := congrArg List.length ho5; rw [outs_len] at h1; have := HTL.out; omega
    have hpr := fun (w : World) (hL : Lst w w3.heap.size (.slice A1 out1.length c1) out1) (ht : Tabs w) (hlo : low ≤ w.heap.size) => Print_any A1 c1 out1 w ht hlo hL.rd (ok_of ho5 (told_ok ls)) (by omega)
    rw [ho5] at hpr
    have HPR := Lib.hid hpr
    have HO5 := Lib.hid ho5
    have hpl : (prnAll (run ps0 ls).2).length ≤ 1073741824 := by have := prnAll_len (run ps0 ls).2; have := HTL.out; omega
    have HBK := Lib.hid (run_back ls)
    have HB32 := Lib.hid (told_bd ls)
    generalize (run ps0 ls).2 = R at *
    have HQ3 := Q3.lt
    have HLR : Hid (∀ i, mine qb eb nilV nilV i → ¬ ((Value.slice A1 out1.length c1).ownBlock = some i ∨ ∃ t ∈ out1, t.2.ownBlock = some i)) := fun i hi h => by
      have h1 := (HQ3 i hi).2
      rcases h with h | ⟨t, ht, h⟩
      · have := (L5.1.lt i h).1; omega
      · have := ((L5.2 t ht).lt i h).1; omega
    have HLU : Hid (∀ i, w5.heap.size ≤ i → ¬ ((Value.slice A1 out1.length c1).ownBlock = some i ∨ ∃ t ∈ out1, t.2.ownBlock = some i)) := fun i hi h => by
      rcases h with h | ⟨t, ht, h⟩
      · have := (L5.1.lt i h).2; omega
      · have := ((L5.2 t ht).lt i h).2; omega
    clear hpr ho5 hcv hk4 P3 k1 m1 dis hb3 ht3 Q3 HQ3 P5 ap5 dis5
    go_wp2_with fail
    refine (HPR.out w5 L5 ht5 (Nat.le_trans hlow hs5)).mono ?_
    rintro e w6 ⟨v6, rfl, ho6, hb6⟩
    obtain ⟨A6, c6, rfl⟩ := own_slice ho6
    have HF6 := Lib.hid (feed_in Q5 ht5 hlow (k := Cel.below_kept hb6.1 _) A6 c6 (prnAll R) (inb_byts ho6) (byts_new ho6) hpl)
    clear ho6 hb6
    go_wp2_with fail
    refine HF6.out.mono ?_
    rintro e w7 ⟨ov2, out2, qv2, uv2, rfl, Q7, L7, ho7, _, k2, m2⟩
    have h2 := HBK.out
    rw [h2] at Q7 ho7
    clear h2
    have hb7 := hb5.trans (kept_below Q5 k2)
    have ht7 := ht.below hb7 hlow
    have hs57 := k2.size
    have L57 : Lst w7 w3.heap.size (.slice A1 out1.length c1) out1 := L5.keep k2 (fun i hi hm => HLR.out i hm (.inl hi)) fun t ht i hi hm => HLR.out i hm (.inr ⟨t, ht, hi⟩)
    have hps : ∀ t ∈ out1, t.1.ps.length ≤ 4294967296 := fun t ht => Nat.le_trans (ps_of HO5.out HB32.out t ht) (by decide)
    have hal := all_true _ ov2 out1 out2 w7 L57.1 L7.1 L57.2 L7.2 (by rw [HO5.out, ho7]) (by omega) hps
    have HAL := Lib.hid hal
    have HPS := Lib.hid hps
    have HM2 := Lib.hid m2
    clear L5 k2 L7 hb5 ht5 hal ho7 hps m2 Q5
    go_wp2_with fail
    refine HAL.out.mono ?_
    rintro e w8 ⟨rfl, hb8'⟩
    have Q8 := Q7.later hb8'
    have L8 := L57.below hb8'
    have hb8 := hb7.trans (hb8'.mono hb7.size)
    have ht8 := ht.below hb8 hlow
    have hs8 := hb8.size
    have hst := state_any Q8
    rw [nm_ground] at hst
    clear L57 Q7 hb8' hb7 ht7
    go_wp2_with (go_at_call 14; refine hst.mono ?_; rintro e w' ⟨rfl, rfl⟩)
    refine (HPR.out w8 L8 ht8 (Nat.le_trans hlow hs8)).mono ?_
    rintro e w9 ⟨v9, rfl, ho9, hb9⟩
    obtain ⟨A9, c9, rfl⟩ := own_slice ho9
    have HF9 := Lib.hid (feed_in Q8 ht8 hlow (k := Cel.below_kept hb9.1 _) A9 c9 (prnAll R) (inb_byts ho9) (byts_new ho9) hpl)
    clear ho9 hb9 hst
    go_wp2_with fail
    refine HF9.out.mono ?_
    rintro e w10 ⟨ov3, out3, qv3, uv3, rfl, Q10, L10, ho10, _, k3, m3⟩
    have h2 := HBK.out
    rw [h2] at Q10 ho10
    clear h2
    have hb10 := hb8.trans (kept_below Q8 k3)
    have hr : ∀ i, mine qb eb qv2 uv2 i → ¬ ((Value.slice A1 out1.length c1).ownBlock = some i ∨ ∃ t ∈ out1, t.2.ownBlock = some i) := fun i hi => by
      rcases HM2.out i hi with q | q
      · exact HLR.out i q
      · exact HLU.out i q
    have L80 : Lst w10 w3.heap.size (.slice A1 out1.length c1) out1 := L8.keep k3 (fun i hi hm => hr i hm (.inl hi)) fun t ht i hi hm => hr i hm (.inr ⟨t, ht, hi⟩)
    have HA2 := Lib.hid (all_true _ ov3 out1 out3 w10 L80.1 L10.1 L80.2 L10.2 (by rw [HO5.out, ho10]) (by omega) HPS.out)
    clear L8 k3 L10 L80 ho10 hr Q8 ht8 hb8 m3
    go_wp2_with fail
    refine HA2.out.mono ?_
    rintro e w11 ⟨rfl, hb11⟩
    go_wp2
    go_ret
    exact ⟨rfl, hb10.trans (hb11.mono hb10.size)⟩
end Go.Proofs.YtmhmbeofcedjjaaDoor.Vt
