/- The walk of the law that nothing which came ahead keeps a terminal from being spoken to. -/
import Derived.Test.YtmhmbeofcedjjaaDoorVla
namespace Go.Proofs.YtmhmbeofcedjjaaDoor.Vt
open Go.RowKit
open Cel (Blk Kept Tabs low Owns At good enc)

theorem run_can (S : Ps) (l : Tx) : (run S (l ++ [24])).1 = ps0 := by
  rw [run_app]
  show (run (run S l).1 [24]).1 = ps0
  rw [run_one]
  exact congrArg (·.1) (show step (run S l).1 24 = (ps0, []) from step_can (u := 24) (.inl rfl))
theorem told_bd (s : Tx) : ∀ a ∈ (run ps0 s).2, a.ps.length ≤ 32 := fun a ha => can_ps ((run_good s ps0 ic0).2 a ha).1
set_option maxRecDepth 100000 in
set_option maxHeartbeats 4000000 in
theorem lawRecovers_walk (la ls : Tx) (w : World) (ht : Tabs w) (hlow : low ≤ w.heap.size) (hla : la.length ≤ 140737488355328) (hls : ls.length ≤ 140737488355328) :
    Calls Tryd.prog 6 #[.string (bs la), .string (bs ls)] w fun e w' => e = .returned (.bool true) ∧ Below w.heap.size w w' := by
  have HX : Hid ((bs la).size = la.length) := bs_size la
  have HY : Hid ((bs ls).size = ls.length) := bs_size ls
  have HXA : Hid (bs la ++ { data := #[24] } = bs (la ++ [24])) := bs_app la [24]
  have HTS := Lib.hid (fun (w : World) => to_bytes w ls)
  have HTA := Lib.hid (fun (w : World) => to_bytes w (la ++ [24]))
  generalize bs (la ++ [24]) = Z at *
  generalize bs la = X at *
  generalize bs ls = Y at *
  have hsh := shown_any w ht hlow
  go_enter Tryd.func6, Tryd.ntmps6
  go_wp2_with fail
  refine hsh.mono ?_
  rintro e w1 ⟨rfl, hb1⟩
  have ht1 := ht.below hb1 hlow
  have hn1 := new_any w1 w.heap.size hb1.size
  go_wp2_with fail
  refine hn1.mono ?_
  rintro e w2 ⟨rfl, P2, hb2', hz2⟩
  have hs1 := hb1.size
  have hb2 : Below w.heap.size w w2 := hb1.trans (hb2'.mono hs1)
  have ht2 := ht.below hb2 hlow
  have hs2 := hb2.size
  have HP2 := P2.lt
  have hn2 := new_any w2 w2.heap.size (Nat.le_refl _)
  generalize w1.heap.size + 1 = pb at *
  generalize w1.heap.size = db at *
  have HZ2 := Lib.hid hz2
  clear hz2 hb2' hb1 ht1 hs1 hn1
  go_wp2_with fail
  refine hn2.mono ?_
  rintro e w3 ⟨rfl, Q3, hb3', hz3⟩
  have P3 := P2.later hb3'
  have dis : Dis pb db nilV nilV (w2.heap.size + 1) w2.heap.size nilV nilV := fun k h1 h2 => by
    have := (HP2 k h1).2
    have := (Q3.lt k h2).1
    omega
  have hb3 : Below w.heap.size w w3 := hb2.trans (hb3'.mono hs2)
  have ht3 := ht.below hb3 hlow
  have hs3 := hb3.size
  have hlq : low ≤ w2.heap.size := Nat.le_trans hlow hs2
  have Q3 := Q3.lower (B' := w.heap.size) hs2
  generalize w2.heap.size + 1 = qb at *
  generalize w2.heap.size = eb at *
  clear P2 hb2 ht2 hb3' hn2 hz3 hlq HP2
  by_cases hc : 20000 < ls.length + la.length
  · have i1 : (20000 : Int) < (Y.size : Int) + (X.size : Int) := by have := HX.out; have := HY.out; omega
    have i2 : (Y.size : Int) ≤ 140737488355328 := by have := HY.out; omega
    have i3 : (X.size : Int) ≤ 140737488355328 := by have := HX.out; omega
    clear hc
    go_wp2
    go_ret
    exact ⟨rfl, hb3⟩
  · have i1 : (Y.size : Int) + (X.size : Int) ≤ 20000 := by have := HX.out; have := HY.out; omega
    have i2 : (Y.size : Int) ≤ 20000 := by have := HY.out; omega
    have i3 : (X.size : Int) ≤ 20000 := by have := HX.out; omega
    have hxa := HXA.out
    obtain ⟨A, c, w4, hcv, hk4, hin4, hnew4⟩ := HTA.out w3
    have hf := feed_in P3 ht3 hlow hk4 A c (la ++ [24]) hin4 hnew4 (by rw [List.length_append]; simp; omega)
    have hl24 : (la ++ [24]).length = la.length + 1 := by simp
    rw [hl24] at hf hcv
    clear hl24
    have HF := Lib.hid hf
    have HRC : Hid ((run ps0 (la ++ [24])).1 = ps0) := run_can ps0 la
    clear hf hin4 hnew4 hc
    go_wp2_with fail
    refine HF.out.mono ?_
    rintro e w5 ⟨ov1, out1, pv1, tv1, rfl, P5, _, _, _, k1, m1⟩
    rw [HRC.out] at P5
    have Q5 := Q3.other dis k1
    have dis5 := dis.feed Q3 m1
    have hB5 := kept_below P3 k1
    have hb5 := hb3.trans hB5
    have ht5 := ht.below hb5 hlow
    have hst := state_any P5
    rw [nm_ground] at hst
    obtain ⟨A6, c6, w6, hcv6, hk6, hin6, hnew6⟩ := HTS.out w5
    have HF6 := Lib.hid (feed_in P5 ht5 hlow hk6 A6 c6 ls hin6 hnew6 (by have := HY.out; omega))
    clear hcv hk4 P3 Q3 k1 m1 dis hB5 hb3 ht3 hin6 hnew6
    go_wp2_with (go_at_call 14; refine hst.mono ?_; rintro e w' ⟨rfl, rfl⟩)
    refine HF6.out.mono ?_
    rintro e w7 ⟨ov2, out2, pv2, tv2, rfl, P7, L7, ho7, ap7, k2, m2⟩
    have Q7 := Q5.other dis5 k2
    have dis7 := dis5.feed Q5 m2
    have hb7 := hb5.trans (kept_below P5 k2)
    have ht7 := ht.below hb7 hlow
    obtain ⟨A8, c8, w8, hcv8, hk8, hin8, hnew8⟩ := HTS.out w7
    have HF8 := Lib.hid (feed_in Q7 ht7 hlow hk8 A8 c8 ls hin8 hnew8 (by have := HY.out; omega))
    have HO7 := Lib.hid ho7
    clear hcv6 hk6 P5 k2 m2 dis5 hb5 ht5 hin8 hnew8 hst ho7 ap7
    go_wp2_with fail
    refine HF8.out.mono ?_
    rintro e w9 ⟨ov3, out3, qv3, uv3, rfl, Q9, L9, ho9, ap9, k3, m3⟩
    have P9 := P7.other dis7.symm k3
    have hb9 := hb7.trans (kept_below Q7 k3)
    have hz9 : w7.heap.size ≤ w9.heap.size := k3.size
    have L79 := L7.side Q5 (Nat.le_refl _) k3
    have hal := all_true ov2 ov3 out2 out3 w9 L79.1 L9.1 L79.2 L9.2 (by rw [HO7.out, ho9]) (by have := run_len ps0 ls; have := congrArg List.length HO7.out; rw [outs_len] at this; have e : Cel.pend ps0.d = 0 := rfl; have := HY.out; omega) (fun t ht => Nat.le_trans (ps_of HO7.out (told_bd ls) t ht) (by decide))
    have HAL := Lib.hid hal
    clear hcv8 hk8 Q7 k3 m3 dis7 hb7 ht7 L7 L79 L9 hal ho9 ap9 Q5
    go_wp2_with fail
    refine HAL.out.mono ?_
    rintro e w10 ⟨rfl, hb10⟩
    have P10 := P9.later hb10
    have hb10w := hb9.trans (hb10.mono hb9.size)
    go_wp2_with fail
    refine (reset_any P10).mono ?_
    rintro e w11 ⟨db', rfl, P11, k11⟩
    have hst := state_any P11
    rw [nm_ground] at hst
    have hpb := P10.pB
    have hb11 : Below w.heap.size w w11 := hb10w.trans (k11.below (Nat.le_of_lt (Nat.lt_of_le_of_lt hpb P10.par.lt)) fun i hi h => by omega)
    go_wp2_with (go_at_call 14; refine hst.mono ?_; rintro e w' ⟨rfl, rfl⟩)
    go_ret
    exact ⟨rfl, hb11⟩
end Go.Proofs.YtmhmbeofcedjjaaDoor.Vt
