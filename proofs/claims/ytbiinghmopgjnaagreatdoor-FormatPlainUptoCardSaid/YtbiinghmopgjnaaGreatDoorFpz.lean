/- format: texts that belong together, merged (Fpx). -/
import Derived.Test.YtbiinghmopgjnaaGreatDoorFzz
namespace Go.Proofs.YtbiinghmopgjnaaGreatDoor.Fmt
open Go.RowKit
set_option maxRecDepth 100000 in
set_option maxHeartbeats 16000000 in
theorem plain_walk (s : Tx) (vv lo : Value) (w : World) (ht : TB w.heap.size w) (hl : s.length ≤ 1048576) :
    Calls Tryz.prog 3 #[.string (bs s), .agg #[vv, lo]] w fun e w' => e = .returned (.bool true) ∧ Below w.heap.size w w' := by
  have HSHOWN := Lib.hid (fun V (hV : Below w.heap.size w V) => shown_any V (ht.below hV) hV.size)
  have HQ : Hid (∀ V, Calls Tryz.prog 7 #[.string (bs s)] V fun e w' => e = .returned (.string (bs (quoP s))) ∧ Below V.heap.size V w') := Lib.hid fun V => quoted_any s (by omega) V
  have HTB : Hid (∀ V, Below w.heap.size w V → TB w.heap.size V) := Lib.hid fun V hV => ht.below hV
  have HQM := Lib.hid (quoP_most s)
  have HDM := Lib.hid (dblP_most s)
  have HDL := Lib.hid (dblP_len s)
  obtain ⟨S, hS⟩ : ∃ S, S = bs s := ⟨_, rfl⟩
  have hsz : S.size = s.length := by rw [hS]; exact bs_size s
  have HG : Hid (∀ (j : Nat) (h : j < S.size) (h' : j < s.length), S[j] = s[j]) := by subst hS; exact Lib.hid (fun j h h' => rfl)
  have HSB := Lib.hid hS
  rw [← hS] at HQ ⊢
  have HSZ := Lib.hid hsz
  have z1 : (S.size : Int) ≤ 1048576 := by omega
  clear hS hsz hl ht
  go_enter Tryz.func3, Tryz.ntmps3
  go_wp2_with fail
  have HW0 : Hid (Below w.heap.size w (w.alloc (.cells #[vv, lo] 25))) := Lib.hid ((Below.refl _ _).alloc (Nat.le_refl _) _)
  have hbl0 := BL.new w 25 [vv, lo]
  have hbl0 : BL (w.alloc (.cells #[vv, lo] 25)) w.heap.size 25 [vv, lo] := hbl0
  obtain ⟨w0, hw0⟩ : ∃ w0, w0 = w.alloc (.cells #[vv, lo] 25) := ⟨_, rfl⟩
  rw [← hw0] at hbl0 HW0 ⊢
  obtain ⟨sb, hsb⟩ : ∃ sb, sb = w.heap.size := ⟨_, rfl⟩
  rw [← hsb] at hbl0 ⊢
  have HSC : Hid (∀ V, Below w0.heap.size w0 V → V.cell? ⟨sb, 0, none⟩ = some vv ∧ V.cell? ⟨sb, 1, none⟩ = some lo) := Lib.hid fun V hV => by
    have h := hbl0.keep (hV.block sb hbl0.lt)
    exact ⟨h.cell 0, h.cell 1⟩
  have HSH := Lib.hid (HSHOWN.out w0 HW0.out)
  have HT0 : Hid (∀ V, Below w0.heap.size w0 V → TB w.heap.size V ∧ w.heap.size ≤ V.heap.size) := Lib.hid fun V hV => ⟨HTB.out V (HW0.out.trans (hV.mono HW0.out.size)), Nat.le_trans HW0.out.size hV.size⟩
  clear hbl0 hw0 hsb
  refine HSH.out.mono ?_
  rintro _ w1 ⟨rfl, hb1⟩
  have HB1 := Lib.hid hb1
  clear hb1
  go_wp2_with fail
  go_loopw [6, 7, 8] (fun bv sg i wr => ∃ k : Nat, k ≤ S.size ∧ i = .int .i64 (k : Int) ∧ sg = .int .i64 ((sgnP (s.take k) : Nat) : Int) ∧ wr.ownsRow w0.heap.size 5 1 bv (dblP (s.take k)).length (bytV (dblP (s.take k))) ∧ Below w0.heap.size w0 wr) (fun _ _ i _ => S.size - (intOf i).toNat)
  case atStart => exact ⟨0, Nat.zero_le _, rfl, rfl, World.ownsRow_nil _ _ _ _, HB1.out⟩
  case round =>
    obtain ⟨k, hk, rfl, rfl, hown, hb⟩ := hrel
    obtain ⟨A2, c2, rfl⟩ := own_slice hown
    have hks := HSZ.out
    have hml := dblP_most (s.take k)
    have hsg := sgnP_len (s.take k)
    rw [List.length_take] at hml hsg
    by_cases hlt : k < S.size
    · have hki : (k : Int) < (S.size : Int) := by omega
      have hkl : k < s.length := by omega
      obtain ⟨u, hu⟩ : ∃ u, u = S[k] := ⟨_, rfl⟩
      have hus : s[k] = u := by rw [← HG.out k hlt hkl, hu]
      have hxi : ((S[k].toNat : Nat) : Int) = (u.toNat : Int) := by rw [hu]
      have HES := Lib.hid (show dblP (s.take (k + 1)) = dblP (s.take k) ++ dblC u by rw [dblP_snoc s hkl, hus])
      have HSG := Lib.hid (show sgnP (s.take (k + 1)) = sgnP (s.take k) + if u = 35 then 1 else 0 by rw [sgnP_snoc s hkl, hus])
      obtain ⟨L, hL⟩ : ∃ L, L = dblP (s.take k) := ⟨_, rfl⟩
      rw [← hL] at hown HES hml ⊢
      obtain ⟨g0, hg0⟩ : ∃ g, g = sgnP (s.take k) := ⟨_, rfl⟩
      rw [← hg0] at HSG hsg ⊢
      have hgi : (g0 : Int) ≤ 1048576 := by omega
      have HK := Lib.hid (show L.length ≤ 9000000 by omega)
      obtain ⟨n0, hn0⟩ : ∃ n, n = L.length := ⟨_, rfl⟩
      have HO : Hid (∀ v, v = Value.slice A2 n0 c2 → wr.ownsRow w0.heap.size 5 1 v L.length (bytV L)) := Lib.hid fun v hv => by rw [hv, hn0]; exact hown
      have HB := Lib.hid hb
      have HLT := Lib.hid hlt
      rw [← hn0]
      clear hown hb hu hus hL hn0 hks hml hkl hsg hg0
      have HOX : Hid (∀ v, v = Value.slice A2 n0 c2 → (wr.alloc (.cells #[.int .u8 (u.toNat : Int)] 5)).ownsRow w0.heap.size 5 1 v L.length (bytV L)) := Lib.hid fun v hv => (HO.out v hv).alloc _
      have HBX := Lib.hid (HB.out.alloc HB.out.size (.cells #[.int .u8 (u.toNat : Int)] 5))
      have HNX : Hid (BL (wr.alloc (.cells #[.int .u8 (u.toNat : Int)] 5)) wr.heap.size 5 [.int .u8 (u.toNat : Int)]) := BL.new wr 5 [.int .u8 (u.toNat : Int)]
      have HKX := Lib.hid (show L.length ≤ 10000000 by have := HK.out; omega)
      by_cases hq : u.toNat = 35
      · have hu35 : u = 35 := u8_num hq
        subst hu35
        have HE := Lib.hid (show dblC 35 = [35] ++ [35] from rfl)
        have hxi : ((S[k].toNat : Nat) : Int) = 35 := hxi
        have HOX : Hid (∀ v, v = Value.slice A2 n0 c2 → (wr.alloc (.cells #[.int .u8 35] 5)).ownsRow w0.heap.size 5 1 v L.length (bytV L)) := HOX
        have HBX : Hid (Below w0.heap.size w0 (wr.alloc (.cells #[.int .u8 35] 5))) := HBX
        have HNX : Hid (BL (wr.alloc (.cells #[.int .u8 35] 5)) wr.heap.size 5 [.int .u8 ((35 : UInt8).toNat : Int)]) := HNX
        have HKY := Lib.hid (show (L ++ [35]).length ≤ 10000000 by have := HK.out; rw [List.length_append]; simp; omega)
        obtain ⟨n1, hn1⟩ : ∃ n, (L ++ [35]).length = n := ⟨_, rfl⟩
        obtain ⟨n2, hn2⟩ : ∃ n, ∀ x : UInt8, (L ++ [35] ++ [x]).length = n := ⟨L.length + 2, fun x => by simp⟩
        have HN1 := Lib.hid hn1
        have HN2 := Lib.hid hn2
        clear hn1 hn2 hq
        go_wp2_with (at_builtin; first | (refine wpList_app_b rfl _ _ rfl w0.heap.size (.slice A2 n0 c2) L 35 rfl (HOX.out _ rfl) _ 1 rfl HNX.out HBX.out.size HKX.out ?_; intro v5 w5 ho5 hg5; rw [HN1.out] at ho5; obtain ⟨A5, c5, rfl⟩ := own_slice ho5; have HO5 := Lib.hid ho5; have HB5 := Lib.hid (HBX.out.grown hg5 HBX.out.size (fun i hi => ((HOX.out _ rfl).lt i hi).1)); clear ho5 hg5; have HOY : Hid (∀ v, v = Value.slice A5 n1 c5 → (w5.alloc (.cells #[.int .u8 35] 5)).ownsRow w0.heap.size 5 1 v (L ++ [35]).length (bytV (L ++ [35]))) := (fun v hv => (by rw [hv, HN1.out]; exact HO5.out.alloc _)); have HBY := Lib.hid (HB5.out.alloc HB5.out.size (.cells #[.int .u8 35] 5)); have HNY : Hid (BL (w5.alloc (.cells #[.int .u8 35] 5)) w5.heap.size 5 [.int .u8 ((35 : UInt8).toNat : Int)]) := BL.new w5 5 [.int .u8 35]) | (refine wpList_app_b rfl _ _ rfl w0.heap.size (.slice A5 n1 c5) (L ++ [35]) 35 rfl (HOY.out _ rfl) _ 1 rfl HNY.out HBY.out.size HKY.out ?_; intro v6 w6 ho6 hg6; rw [HN2.out] at ho6; obtain ⟨A6, c6, rfl⟩ := own_slice ho6; have HO6 := Lib.hid ho6; have HB6 := Lib.hid (HBY.out.grown hg6 HBY.out.size (fun i hi => ((HOY.out _ rfl).lt i hi).1)); clear ho6 hg6))
        go_roundw
        case rel => exact ⟨k + 1, HLT.out, by go_num, by rw [HSG.out, if_pos rfl]; go_num, by rw [HES.out, HE.out, ← List.append_assoc, HN2.out]; exact HO6.out, HB6.out⟩
        case measure => simp [intOf]; omega
      · have HE := Lib.hid (show dblC u = [u] by
          unfold dblC
          rw [if_neg (fun e => hq (by rw [e]; rfl))])
        have HSE := Lib.hid (show sgnP (s.take (k + 1)) = g0 by rw [HSG.out, if_neg (fun e => hq (by rw [e]; rfl))]; rfl)
        obtain ⟨n1, hn1⟩ : ∃ n, (L ++ [u]).length = n := ⟨_, rfl⟩
        have HN1 := Lib.hid hn1
        clear hn1
        have hz : (u.toNat : Int) < 35 ∨ 35 < (u.toNat : Int) := by omega
        clear hq
        rcases hz with hz | hz <;>
        · go_wp2_with (at_builtin; first | (refine wpList_app_b rfl _ _ rfl w0.heap.size (.slice A2 n0 c2) L u rfl (HOX.out _ rfl) _ 1 rfl HNX.out HBX.out.size HKX.out ?_; intro v5 w5 ho5 hg5; rw [HN1.out] at ho5; obtain ⟨A5, c5, rfl⟩ := own_slice ho5; have HO5 := Lib.hid ho5; have HB5 := Lib.hid (HBX.out.grown hg5 HBX.out.size (fun i hi => ((HOX.out _ rfl).lt i hi).1)); clear ho5 hg5))
          go_roundw
          case rel => exact ⟨k + 1, HLT.out, by go_num, by rw [HSE.out], by rw [HES.out, HE.out, HN1.out]; exact HO5.out, HB5.out⟩
          case measure => simp [intOf]; omega
    · obtain rfl : k = S.size := by omega
      have hki : ¬ (S.size : Int) < (S.size : Int) := by omega
      have htk : s.take S.size = s := by rw [hks, List.take_length]
      rw [htk] at hown hml hsg ⊢
      have hcv := own_text hown
      have HB := Lib.hid hb
      obtain ⟨n0, hn0⟩ : ∃ n, n = (dblP s).length := ⟨_, rfl⟩
      have HN0 := Lib.hid hn0
      rw [← hn0] at hcv ⊢
      have hDM := HDM.out
      have hn0i : (n0 : Int) ≤ 3000000 := by omega
      obtain ⟨T, hT⟩ : ∃ T, T = bs (dblP s) := ⟨_, rfl⟩
      have hTz : (T.size : Int) = (n0 : Int) := by rw [hT, bs_size, hn0]
      rw [← hT] at hcv
      obtain ⟨g0, hg0⟩ : ∃ g, g = sgnP s := ⟨_, rfl⟩
      rw [← hg0]
      have HG0 := Lib.hid hg0
      have HT := Lib.hid hT
      have HCV : Hid (∀ V, Below wr.heap.size wr V → (convert 27 9 (.slice A2 n0 c2)).run Tryz.prog V = .ok (.string T) V) := Lib.hid fun V hV => by
        have h := own_text (own_only hown (Only.of_below (F := []) hV) (by simp))
        rw [← hn0, ← hT] at h
        exact h
      clear hown hb htk hml hsg hn0 hDM hT hg0
      obtain ⟨sc0, sc1⟩ := HSC.out wr HB.out
      by_cases hlong : 8192 < n0
      · have hli : (8192 : Int) < (n0 : Int) := by omega
        have hTi : (8192 : Int) < (T.size : Int) := by omega
        have HX1 := Lib.hid (fun V => Expand_long T hTi V vv lo)
        have HX2 := Lib.hid (fun V => Steps_long T hTi V vv lo)
        clear hlong hTz hTi hks
        go_wp2_with fail
        refine (HX1.out _).mono ?_
        rintro _ w2 ⟨rfl, h2⟩
        have HB2 := Lib.hid (HB.out.trans (h2.mono HB.out.size))
        have hcv2 := HCV.out w2 h2
        obtain ⟨sd0, sd1⟩ := HSC.out w2 HB2.out
        clear h2 hcv sc0 sc1
        go_wp2_with fail
        refine (HX2.out _).mono ?_
        rintro _ w3 ⟨rfl, h3⟩
        have HB3 := Lib.hid (HB2.out.trans (h3.mono HB2.out.size))
        clear h3
        go_wp2_with fail
        go_ret
        exact ⟨rfl, HW0.out.trans (HB3.out.mono HW0.out.size)⟩
      · have hli : ¬ (8192 : Int) < (n0 : Int) := by omega
        have hDL := HDL.out
        have hs8 : s.length ≤ 8192 := by have := HN0.out; omega
        have hpl : expandP (exprF 17) none (dblP s) 0 0 = some (s, 0) := by
          unfold expandP
          rw [plain_dbl (exprF 17) none 0 0 s.length s [] (dblP s).length (Nat.le_refl _) (Nat.le_refl _) (by simp; omega), List.nil_append]
        have hd8 : (dblP s).length ≤ 8192 := by have := HN0.out; omega
        have HX1 : Hid (∀ V, Below w0.heap.size w0 V → Calls Tryz.prog 5 #[.string T, .agg #[vv, lo]] V fun e w' => e = .returned (.tuple #[.string S, .int .i64 0]) ∧ Below V.heap.size V w') := Lib.hid fun V hV => by
          rw [HT.out, HSB.out]; exact Expand_any hpl hd8 (HT0.out V hV).1 (HT0.out V hV).2 trivial
        have HX2 : Hid (∀ V, Below w0.heap.size w0 V → Calls Tryz.prog 6 #[.string T, .agg #[vv, lo]] V fun e w' => e = .returned (.tuple #[.int .i64 0, .int .i64 0]) ∧ Below V.heap.size V w') := Lib.hid fun V hV => by
          rw [HT.out]; exact Steps_any hpl hd8 (HT0.out V hV).1 (HT0.out V hV).2 trivial
        obtain ⟨Q, hQ⟩ : ∃ Q, Q = bs (quoP s) := ⟨_, rfl⟩
        rw [← hQ] at HQ
        have hQz : (Q.size : Int) = ((quoP s).length : Int) := by rw [hQ, bs_size]
        have hQm := HQM.out
        obtain ⟨q0, hq0⟩ : ∃ q, q = (quoP s).length := ⟨_, rfl⟩
        rw [← hq0] at hQz hQm
        have hQi : (Q.size : Int) ≤ 16384 := by omega
        obtain ⟨U, hU⟩ : ∃ U, U = bs (litP (quoP s)) := ⟨_, rfl⟩
        have hcat : ({ data := #[35, 123, 108, 58] } : ByteArray) ++ Q ++ { data := #[125] } = U := by
          rw [hU, hQ]
          show bs [35, 123, 108, 58] ++ bs (quoP s) ++ bs [125] = _
          rw [bs_app, bs_app]; rfl
        have hUz : (U.size : Int) = (q0 : Int) + 5 := by rw [hU, bs_size, hq0]; unfold litP; simp; omega
        have heq : (S.toList == S.toList) = true := by simp
        have hqq : (Q.toList == Q.toList) = true := by simp
        have HTS : Hid (g0 = 0 → (T.toList == S.toList) = true) := Lib.hid fun h => by
          rw [HG0.out] at h
          rw [HT.out, HSB.out, sgnP_zero h]; simp
        have hgn : (0 : Int) ≤ (g0 : Int) := Int.natCast_nonneg _
        have hx3 : ∃ (X3 : ByteArray) (e3 : Int), Hid (∀ V, Below w0.heap.size w0 V → Calls Tryz.prog 5 #[.string U, .agg #[vv, lo]] V fun e w' => e = .returned (.tuple #[.string X3, .int .i64 e3]) ∧ Below V.heap.size V w') ∧ (((Q.size : Int) + 5 ≤ 8192 ∧ X3 = Q ∧ e3 = 0) ∨ ¬ (Q.size : Int) + 5 ≤ 8192) := by
          by_cases hsh : q0 + 5 ≤ 8192
          · exact ⟨Q, 0, Lib.hid fun V hV => by
              rw [hU, hQ]; exact Expand_any (plain_lit none s (by omega)) (by unfold litP; simp; omega) (HT0.out V hV).1 (HT0.out V hV).2 trivial, .inl ⟨by omega, rfl, rfl⟩⟩
          · exact ⟨{ data := #[] }, 2, Lib.hid fun V _ => Expand_long U (by omega) V vv lo, .inr (by omega)⟩
        obtain ⟨X3, e3, HX3, hcs⟩ := hx3
        have HCS := Lib.hid hcs
        clear hpl hd8 hs8 hDL hQ hU hQz hQm hUz hTz hlong hks hq0 hcs
        go_wp2_with fail
        refine (HX1.out _ HB.out).mono ?_
        rintro _ w2 ⟨rfl, h2⟩
        have HR2 := Lib.hid h2
        have hcv2 := HCV.out w2 h2
        obtain ⟨sd0, sd1⟩ := HSC.out w2 (HB.out.trans (HR2.out.mono HB.out.size))
        clear h2 hcv sc0 sc1
        go_wp2_with fail
        refine (HX2.out _ (HB.out.trans (HR2.out.mono HB.out.size))).mono ?_
        rintro _ w3 ⟨rfl, h3⟩
        have HR3 := Lib.hid (HR2.out.trans (h3.mono HR2.out.size))
        clear h3 hcv2
        obtain ⟨sf0, sf1⟩ := HSC.out w3 (HB.out.trans (HR3.out.mono HB.out.size))
        have HQ3 := Lib.hid ((HQ.out w3.drew).mono fun e w' (h : e = .returned (.string Q) ∧ Below w3.drew.heap.size w3.drew w') => (⟨h.1, HR3.out.trans ((((Below.refl w3.heap.size w3).drew).trans h.2).mono HR3.out.size)⟩ : e = .returned (.string Q) ∧ Below wr.heap.size wr w'))
        have HSC4 : Hid (∀ V, Below wr.heap.size wr V → V.cell? ⟨sb, 0, none⟩ = some vv ∧ V.cell? ⟨sb, 1, none⟩ = some lo) := Lib.hid fun V hV => HSC.out V (HB.out.trans (hV.mono HB.out.size))
        have HX34 := Lib.hid (fun V (hV : Below wr.heap.size wr V) => (HX3.out V (HB.out.trans (hV.mono HB.out.size))).mono fun e w' h => (⟨h.1, hV.trans (h.2.mono hV.size)⟩ : e = _ ∧ Below wr.heap.size wr w'))
        clear sd0 sd1
        go_upto_region 15 with fail
        go_cut [13, 14] (fun s13 s14 wx => s13 = .string X3 ∧ s14 = .int .i64 e3 ∧ Below wr.heap.size wr wx)
        case first =>
          go_region_with (first
            | (go_at_call 7; refine HQ3.out.mono ?_; rintro _ w4 ⟨rfl, h4⟩; obtain ⟨se0, se1⟩ := HSC4.out w4 h4; have HR4 := Lib.hid h4; clear h4)
            | (go_at_call 5; refine (HX34.out _ HR4.out).mono ?_; rintro _ w5 ⟨rfl, h5⟩; have HR5 := Lib.hid h5; clear h5))
          all_goals
            go_wp2_with fail
            go_meet
            exact ⟨rfl, rfl, HR5.out⟩
        case rest =>
        obtain ⟨rfl, rfl, h5⟩ := hcut
        have HR5 := Lib.hid h5
        clear h5 sf0 sf1
        go_wp2_with fail
        refine (HQ.out _).mono ?_
        rintro _ w6 ⟨rfl, h6⟩
        have HR6 := Lib.hid (HR5.out.trans (h6.mono HR5.out.size))
        clear h6
        rcases HCS.out with ⟨hsi, rfl, rfl⟩ | hsi
        · rcases Nat.eq_zero_or_pos g0 with hg0 | hg0
          · have hts := HTS.out hg0
            subst hg0
            go_wp2_with fail
            refine (HQ.out _).mono ?_
            rintro _ w7 ⟨rfl, h7⟩
            have HR7 := Lib.hid (HR6.out.trans (h7.mono HR6.out.size))
            clear h7
            have hcv7 := HCV.out w7 HR7.out
            go_wp2_with fail
            go_ret
            exact ⟨by first | rfl | simp [hts], HW0.out.trans ((HB.out.trans (HR7.out.mono HB.out.size)).mono HW0.out.size)⟩
          · have hgp : (0 : Int) < (g0 : Int) := by omega
            go_wp2_with fail
            refine (HQ.out _).mono ?_
            rintro _ w7 ⟨rfl, h7⟩
            have HR7 := Lib.hid (HR6.out.trans (h7.mono HR6.out.size))
            clear h7
            go_wp2_with fail
            go_ret
            exact ⟨by first | rfl | simp, HW0.out.trans ((HB.out.trans (HR7.out.mono HB.out.size)).mono HW0.out.size)⟩
        · rcases Nat.eq_zero_or_pos g0 with hg0 | hg0
          · have hts := HTS.out hg0
            subst hg0
            have hcv7 := HCV.out w6 HR6.out
            go_wp2_with fail
            go_ret
            exact ⟨by first | rfl | simp [hts], HW0.out.trans ((HB.out.trans (HR6.out.mono HB.out.size)).mono HW0.out.size)⟩
          · have hgp : (0 : Int) < (g0 : Int) := by omega
            go_wp2_with fail
            go_ret
            exact ⟨by first | rfl | simp, HW0.out.trans ((HB.out.trans (HR6.out.mono HB.out.size)).mono HW0.out.size)⟩
end Go.Proofs.YtbiinghmopgjnaaGreatDoor.Fmt
