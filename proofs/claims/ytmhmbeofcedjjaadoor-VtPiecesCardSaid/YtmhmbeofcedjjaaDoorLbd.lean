/- The walk of the law that what is told keeps its limits. -/
import Derived.Test.YtmhmbeofcedjjaaDoorLbk
namespace Go.Proofs.YtmhmbeofcedjjaaDoor.Vt
open Go.RowKit
open Cel (Blk Kept Tabs low Owns At good enc)

theorem inP_nil : inP [] = true := rfl
theorem can_bounds {a : Ac} (h : Can a) : 1 ≤ a.k ∧ a.k ≤ 6 ∧ a.ps.length ≤ 32 ∧ a.tx.length ≤ 1024 ∧ a.it.length ≤ 3 ∧ inP a.ps = true ∧ 0 < (prnO a).length := by
  have hc := h.c
  have hps := can_ps h
  have hpo : prnO a = prn a := by unfold prnO; rw [if_pos hc]
  rw [hpo]
  rcases cbt_k a hc with hk | hk | hk | hk | hk | hk
  · have e1 := h.it (.inl hk)
    have e2 := h.tx (by omega) (by omega)
    have e3 := h.ps (.inl hk)
    have hr : good a.r := by
      unfold cbt at hc
      rw [if_pos hk] at hc
      simp only [Bool.and_eq_true] at hc
      exact valid_good hc.2.2
    have := (Cel.enc_length hr).1
    refine ⟨by omega, by omega, hps, by rw [e2]; simp, by rw [e1]; simp, by rw [e3]; rfl, ?_⟩
    unfold prn; rw [if_pos hk]; omega
  · have e1 := h.it (.inr (.inl hk))
    have e2 := h.tx (by omega) (by omega)
    have e3 := h.ps (.inr (.inl hk))
    refine ⟨by omega, by omega, hps, by rw [e2]; simp, by rw [e1]; simp, by rw [e3]; rfl, ?_⟩
    unfold prn; rw [if_neg (by omega), if_pos hk]; simp
  · have e2 := h.tx (by omega) (by omega)
    have e3 := h.ps (.inr (.inr (.inl hk)))
    unfold cbt at hc
    rw [if_neg (by omega), if_neg (by omega), if_pos hk] at hc
    simp only [Bool.and_eq_true] at hc
    have := (bet_bd hc.2.1).2
    refine ⟨by omega, by omega, hps, by rw [e2]; simp, by omega, by rw [e3]; rfl, ?_⟩
    unfold prn; rw [if_neg (by omega), if_neg (by omega), if_pos hk]; simp
  · have e2 := h.tx (by omega) (by omega)
    rw [cbt_4 hk] at hc
    obtain ⟨q1, q2, q3, _⟩ := (can_head hc).resolve_right (by omega)
    refine ⟨by omega, by omega, hps, by rw [e2]; simp, q1, q3, ?_⟩
    rw [prn_4 hk]; simp
  · have e1 := h.it (.inr (.inr hk))
    have e3 := h.ps (.inr (.inr (.inr hk)))
    rw [cbt_5 hk] at hc
    have := can_text hc
    refine ⟨by omega, by omega, hps, by omega, by rw [e1]; simp, by rw [e3]; rfl, ?_⟩
    rw [prn_5 hk]; simp
  · rw [cbt_6 hk, Bool.and_eq_true] at hc
    obtain ⟨q1, q2, q3, _⟩ := (can_head hc.1).resolve_right (by omega)
    have := can_text hc.2
    refine ⟨by omega, by omega, hps, by omega, q1, q3, ?_⟩
    rw [prn_6 hk]; simp
theorem told_can (s : Tx) : ∀ a ∈ (run ps0 s).2, Can a ∧ 0 ≤ a.b := (run_good s ps0 ic0).2
/-- One of a list, to be read by itself. -/
theorem Lst.rd1 {w : World} {B g m c : Nat} {l : List To} (h : Lst w B (.slice (some ⟨g, 0, none⟩) m c) l) (k : Nat) (hk : k < l.length) : RdA w.heap.size w (some ⟨g, k * 6, none⟩) [l[k]] := fun j hj => by
  obtain rfl : j = 0 := by simp at hj; omega
  obtain ⟨⟨g', o, e, hg, hc⟩, hr⟩ := h.rd k hk
  injection e with e
  injection e with e1 e2
  subst e1; subst e2
  exact ⟨⟨g, k * 6, rfl, hg, fun i hi => by have := hc i hi; simpa using this⟩, hr⟩
theorem Lst.cap {w : World} {B m c : Nat} {A : Option Addr} {l : List To} (h : Lst w B (.slice A m c) l) : l.length ≤ c ∧ c ≤ maxLen := by
  rcases h.1.2 with ⟨e, h0⟩ | ⟨g, cap, cur, e, _, _, h1, h2, _⟩
  · injection e with _ _ e3; subst e3; exact ⟨by omega, by omega⟩
  · injection e with _ _ e3; subst e3; exact ⟨h1, h2⟩
theorem rda_below {w w' : World} {A : Option Addr} {l : List To} (h : RdA w.heap.size w A l) (hb : Below w.heap.size w w') : RdA w'.heap.size w' A l := fun k hk => by
  obtain ⟨⟨g, o, e, hg, hc⟩, A2, c2, e2, hr⟩ := h k hk
  refine ⟨⟨g, o, e, Nat.lt_of_lt_of_le hg hb.size, fun i hi => (hb.cell (p := ⟨g, o + k * 6 + i, none⟩) hg).trans (hc i hi)⟩, A2, c2, e2, fun j hj => ?_⟩
  obtain ⟨g2, o2, e3, hg2, hc2⟩ := hr j hj
  exact ⟨g2, o2, e3, Nat.lt_of_lt_of_le hg2 hb.size, (hb.cell (p := ⟨g2, o2 + j, none⟩) hg2).trans hc2⟩
set_option maxRecDepth 100000 in
set_option maxHeartbeats 4000000 in
theorem lawBounds_walk (ls : Tx) (w : World) (ht : Tabs w) (hlow : low ≤ w.heap.size) (hls : ls.length ≤ 140737488355328) :
    Calls Tryd.prog 7 #[.string (bs ls)] w fun e w' => e = .returned (.bool true) ∧ Below w.heap.size w w' := by
  have HY : Hid ((bs ls).size = ls.length) := bs_size ls
  have HTS := Lib.hid (fun (w : World) => to_bytes w ls)
  generalize bs ls = Y at *
  have hsh := shown_any w ht hlow
  go_enter Tryd.func7, Tryd.ntmps7
  go_wp2_with fail
  refine hsh.mono ?_
  rintro e w1 ⟨rfl, hb1⟩
  have ht1 := ht.below hb1 hlow
  have hn1 := new_any w1 w.heap.size hb1.size
  go_wp2_with fail
  refine hn1.mono ?_
  rintro e w3 ⟨rfl, P3, hb2', hz2⟩
  have hs1 := hb1.size
  have hb3 : Below w.heap.size w w3 := hb1.trans (hb2'.mono hs1)
  have ht3 := ht.below hb3 hlow
  have hs3 := hb3.size
  generalize w1.heap.size + 1 = pb at *
  generalize w1.heap.size = db at *
  clear hz2 hb2' hb1 ht1 hs1 hn1
  by_cases hc : 50000 < ls.length
  · have i1 : (50000 : Int) < (Y.size : Int) := by have := HY.out; omega
    have i2 : (Y.size : Int) ≤ 140737488355328 := by have := HY.out; omega
    clear hc
    go_wp2
    go_ret
    exact ⟨rfl, hb3⟩
  · have i2 : (Y.size : Int) ≤ 50000 := by have := HY.out; omega
    obtain ⟨A, c, w4, hcv, hk4, hin4, hnew4⟩ := HTS.out w3
    have HF := Lib.hid (feed_in P3 ht3 hlow hk4 A c ls hin4 hnew4 (by omega))
    have htl := told_len ls
    clear hin4 hnew4 hc
    go_wp2_with fail
    refine HF.out.mono ?_
    rintro e w5 ⟨ov1, out1, pv1, tv1, rfl, P5, L5, ho5, ap5, k1, m1⟩
    have hb5 := hb3.trans (kept_below P3 k1)
    have hs5 := hb5.size
    obtain ⟨A1, c1, rfl⟩ := own_slice L5.1
    have hol : out1.length ≤ ls.length := by have h1 := congrArg List.length ho5; rw [outs_len] at h1; omega
    have hol2 : (out1.length : Int) ≤ (Y.size : Int) := by have := HY.out; omega
    have hol3 : out1.length ≤ 50000 := by omega
    have HC := Lib.hid (told_can ls)
    have HO5 := Lib.hid ho5
    generalize (run ps0 ls).2 = R at *
    have hcap := L5.cap
    unfold maxLen at hcap
    have hd0 : decide (Y.size < out1.length) = false := by simp; omega
    clear ho5 hcv hk4 P3 k1 m1 hb3 ht3 P5 ap5 htl hol hol2
    go_wp2_with fail
    go_loopw [6] (fun i wr => ∃ k : Nat, k ≤ out1.length ∧ i = .int .i64 k ∧ Lst wr w3.heap.size (.slice A1 out1.length c1) out1 ∧ Below w.heap.size w wr) (fun i _ => out1.length - (intOf i).toNat)
    case atStart => exact ⟨0, Nat.zero_le _, rfl, L5, hb5⟩
    case round =>
      obtain ⟨k, hk, rfl, L, hb⟩ := hrel
      by_cases hlt : k < out1.length
      · obtain ⟨g, rfl⟩ := own_addr L.1 (by omega)
        have hcan := HC.out out1[k].1 (by rw [← HO5.out]; exact List.mem_map.2 ⟨out1[k], List.getElem_mem hlt, rfl⟩)
        obtain ⟨b1, b2, b3, b4, b5, b6, b7⟩ := can_bounds hcan.1
        have hoka := can_ok hcan.1 hcan.2
        have e0 := acts_cell L.1 k hlt
        have hr1 := L.rd1 k hlt
        have hin := L.2 out1[k] (List.getElem_mem _)
        have hbs := hb.size
        have HL := Lib.hid L
        clear L hcan
        generalize out1[k] = t at *
        obtain ⟨a, u⟩ := t
        simp only at b1 b2 b3 b4 b5 b6 b7 hoka hin
        obtain ⟨A2, c2, rfl⟩ := own_slice hin
        have x0 : wr.cell? ⟨g, k * 6, none⟩ = some (.int .i64 a.k) := e0 0 (by omega)
        have x1 : wr.cell? ⟨g, k * 6 + 1, none⟩ = some (.int .i32 a.r) := e0 1 (by omega)
        have x2 : wr.cell? ⟨g, k * 6 + 2, none⟩ = some (.int .u8 a.b) := e0 2 (by omega)
        have x3 : wr.cell? ⟨g, k * 6 + 3, none⟩ = some (.slice A2 a.ps.length c2) := e0 3 (by omega)
        have x4 : wr.cell? ⟨g, k * 6 + 4, none⟩ = some (.string (bs a.it)) := e0 4 (by omega)
        have x5 : wr.cell? ⟨g, k * 6 + 5, none⟩ = some (.string (bs a.tx)) := e0 5 (by omega)
        have d1 : decide (a.k < 1) = false := by simp; omega
        have d2 : decide (6 < a.k) = false := by simp; omega
        have d3 : decide ((32 : Int) < (a.ps.length : Int)) = false := by simp; omega
        have d6 : decide ((1024 : Int) < ((bs a.tx).size : Int)) = false := by rw [bs_size]; simp; omega
        have d7 : decide ((3 : Int) < ((bs a.it).size : Int)) = false := by rw [bs_size]; simp; omega
        have i1 : (0 : Int) ≤ (k : Int) := by omega
        have i2' : (k : Int) < (out1.length : Int) := by omega
        have kA : Below w.heap.size w (acW wr a.k a.r a.b (.slice A2 a.ps.length c2) (bs a.it) (bs a.tx)) := hb.alloc hbs _
        have qA : Blk (acW wr a.k a.r a.b (.slice A2 a.ps.length c2) (bs a.it) (bs a.tx)) wr.heap.size 38 _ := Blk.new wr _ _
        have LA : Lst (acW wr a.k a.r a.b (.slice A2 a.ps.length c2) (bs a.it) (bs a.tx)) w3.heap.size (.slice (some ⟨g, 0, none⟩) out1.length c1) out1 := HL.out.below ((Below.refl _ _).alloc (Nat.le_refl _) _)
        have inA : Ints (acW wr a.k a.r a.b (.slice A2 a.ps.length c2) (bs a.it) (bs a.tx)) w3.heap.size (.slice A2 a.ps.length c2) a.ps := hin.alloc _
        have hW1 : (acW wr a.k a.r a.b (.slice A2 a.ps.length c2) (bs a.it) (bs a.tx)).heap.size = wr.heap.size + 1 := by simp
        have HLA := Lib.hid LA
        have HRD : Hid (∀ W1, acW wr a.k a.r a.b (.slice A2 a.ps.length c2) (bs a.it) (bs a.tx) = W1 → RdA W1.heap.size W1 (some ⟨g, k * 6, none⟩) [(a, .slice A2 a.ps.length c2)]) := fun W1 e => e ▸ rda_below hr1 ((Below.refl _ _).alloc (Nat.le_refl _) _)
        clear e0 hin LA b4 b5
        generalize hX1 : bs a.it = X1 at *
        generalize hX2 : bs a.tx = X2 at *
        generalize hW : acW wr a.k a.r a.b (.slice A2 a.ps.length c2) X1 X2 = W1 at *
        have HW : Hid (wr.alloc (.cells #[.int .i64 a.k, .int .i32 a.r, .int .u8 a.b, .slice A2 a.ps.length c2, .string X1, .string X2] 38) = W1) := hW
        have HX1 := Lib.hid hX1
        have HX2 := Lib.hid hX2
        have HW1 := Lib.hid hW1
        clear hW hX1 hX2 hW1
        go_wp2_with fail
        rw [HW.out]
        have hz1 := HW1.out
        have L1 := HLA.out
        have hB1 : wr.heap.size ≤ W1.heap.size := by omega
        have hbl : Below wr.heap.size wr W1 := HW.out ▸ (Below.refl _ _).alloc (Nat.le_refl _) _
        clear hz1 hr1
        have c3 : W1.cell? ⟨wr.heap.size, 3, none⟩ = some (.slice A2 a.ps.length c2) := qA.cell 3
        go_loop [8] (fun i => ∃ j : Nat, j ≤ a.ps.length ∧ i = .int .i64 j) (fun i => a.ps.length - (intOf i).toNat)
        case atStart => exact ⟨0, Nat.zero_le _, rfl⟩
        case round =>
          obtain ⟨j, hj, rfl⟩ := hrel
          by_cases hjl : j < a.ps.length
          · obtain ⟨g2, rfl⟩ := own_addr inA (by omega)
            have hz := inP_mem b6 hjl
            have hcell := intsN_cell inA j hjl
            have y1 : decide (a.ps[j] < -1) = false := by simp; omega
            have y2 : decide (9999 < a.ps[j]) = false := by simp; omega
            generalize a.ps[j] = z at *
            have j1 : (0 : Int) ≤ (j : Int) := by omega
            have j2 : (j : Int) < (a.ps.length : Int) := by omega
            go_wp2_with fail
            go_round
            case rel => exact ⟨j + 1, by omega, by go_num⟩
            case measure => simp [intOf]; omega
          · have hs1 : IntKind.i64.wrap ((k : Int) + 1) = (k : Int) + 1 := IntWalk.i64_in _ (by omega)
            have hrd : RdA W1.heap.size W1 (some ⟨g, k * 6, none⟩) [(a, .slice A2 a.ps.length c2)] := HRD.out W1 rfl
            have hpr := Print_any (some ⟨g, k * 6, none⟩) (c1 - k) [(a, .slice A2 a.ps.length c2)] W1 (ht.below kA hlow) (Nat.le_trans hlow kA.size) hrd (by intro t h; simp at h; subst h; exact hoka) (by simp)
            rw [show prnAll (outs [(a, .slice A2 a.ps.length c2)]) = prnO a from prnAll_one a] at hpr
            have HPR := Lib.hid hpr
            have HPL := Lib.hid b7
            generalize prnO a = RR at *
            clear hpr hrd b7
            go_wp2_with fail
            refine HPR.out.mono ?_
            rintro e w6 ⟨v6, rfl, ho6, hb6⟩
            obtain ⟨A6, c6, rfl⟩ := own_slice ho6
            have hne : ((RR.length : Int) == 0) = false := beq_false_of_ne (by have := HPL.out; omega)
            have L6 := L1.below hb6.1
            have hb6w := kA.trans (hb6.1.mono kA.size)
            go_wp2
            go_roundw
            case rel => exact ⟨k + 1, by omega, by go_num, L6, hb6w⟩
            case measure => simp [intOf]; omega
      · go_wp2
        go_ret
        exact ⟨rfl, hb⟩
end Go.Proofs.YtmhmbeofcedjjaaDoor.Vt
