/- lex: the law on two texts, its text. -/
import Derived.Test.YtigpingkfinmiaaDoorQtz
namespace Go.Proofs.YtigpingkfinmiaaDoor.Lex
open Go.RowKit Go.Maps
theorem bs_get (a : Tx) (k : Nat) (_h : k < (bs a).size) (h2 : k < a.length) : (bs a)[k] = a[k] := by
  show (bs a).data[k] = a[k]
  simp [bs]
theorem lastG_le {M : Nat} {L : List Ln} (h : ∀ l ∈ L, l.group ≤ M) : lastG L ≤ M := by
  unfold lastG
  cases hl : L.getLast? with
  | none => exact Nat.zero_le _
  | some l => exact h l (List.mem_of_getLast? hl)
set_option maxRecDepth 100000 in
set_option maxHeartbeats 16000000 in
theorem two_walk (a b : Tx) (env : Env) (A : Option Addr) (c : Nat) (w : World) (hp : PrAt w.heap.size w A env) (he : EnvOk env) (hl1 : a.length ≤ 140737488355328) (hl2 : b.length ≤ 140737488355328) :
    Calls Tryd.prog 5 #[.string (bs a), .string (bs b), .slice A env.length c] w fun e w' => e = .returned (.bool true) ∧ Below w.heap.size w w' := by
  have HSH := Lib.hid (shown_any w)
  have hz1 : (bs a).size = a.length := bs_size a
  have hz2 : (bs b).size = b.length := bs_size b
  by_cases hlong : a.length + b.length > 60000
  · have z1 : (60000 : Int) < ((bs a).size : Int) + ((bs b).size : Int) := by omega
    have z2 : ((bs a).size : Int) ≤ 140737488355328 := by omega
    have z3 : ((bs b).size : Int) ≤ 140737488355328 := by omega
    clear hp he hlong hz1 hz2
    generalize bs a = S at *
    generalize bs b = T at *
    go_enter Tryd.func5, Tryd.ntmps5
    go_wp2_with fail
    refine HSH.out.mono ?_
    rintro _ w1 ⟨rfl, hb1⟩
    have HB1 := Lib.hid hb1
    clear hb1
    go_wp2_with fail
    go_ret
    exact ⟨rfl, HB1.out⟩
  · have z1 : ((bs a).size : Int) + ((bs b).size : Int) ≤ 60000 := by omega
    have HP := Lib.hid hp
    have HE := Lib.hid he
    have HL := Lib.hid (show a.length + b.length ≤ 60000 by omega)
    clear hp he hlong
    go_enter Tryd.func5, Tryd.ntmps5
    go_wp2_with fail
    refine HSH.out.mono ?_
    rintro _ w1 ⟨rfl, hb1⟩
    have HB1 := Lib.hid hb1
    have hp1 : PrAt w1.heap.size w1 A env := (HP.out.below HB1.out).mono HB1.out.size
    have HS1 := Lib.hid (Split_any env a A c w1 hp1 HE.out hl1)
    clear hb1 hp1
    go_wp2_with fail
    refine HS1.out.mono ?_
    intro e w2 hx
    obtain ⟨A1, n1, c1, f1, l1, rfl, hb2, hF1⟩ := hx.fact
    have HB2 := Lib.hid (HB1.out.trans (hb2.mono HB1.out.size))
    have hp2 : PrAt w2.heap.size w2 A env := (HP.out.below HB2.out).mono HB2.out.size
    have HS2 := Lib.hid (Split_any env b A c w2 hp2 HE.out hl2)
    have hbd1 := hF1.bounds HE.out
    have HF1 := Lib.hid hF1
    clear hb2 hp2 hx hF1
    go_wp2_with fail
    refine HS2.out.mono ?_
    intro e w3 hx
    obtain ⟨A2, n2, c2, f2, l2, rfl, hb3, hF2⟩ := hx.fact
    have HB3 := Lib.hid (HB2.out.trans (hb3.mono HB2.out.size))
    have HBW := Lib.hid hb3
    have hp3 : PrAt w3.heap.size w3 A env := (HP.out.below HB3.out).mono HB3.out.size
    have hbd2 := hF2.bounds HE.out
    have HF2 := Lib.hid hF2
    have HP3 := Lib.hid hp3
    clear hb3 hx hF2 hp3
    have hn1 : (n1 : Int) ≤ 65536 := by omega
    have hn2 : (n2 : Int) ≤ 65536 := by omega
    have hl2i : (l2 : Int) ≤ 65537 := by omega
    by_cases hf1 : f1 = 0
    case neg =>
      have hf1i : ¬ ((f1 : Int) = 0) := by omega
      clear hf1
      go_wp2_with fail
      go_ret
      exact ⟨rfl, HB3.out⟩
    case pos =>
    subst hf1
    by_cases hmany : n1 + n2 > 1000
    · have hmi : (1000 : Int) < (n1 : Int) + (n2 : Int) := by omega
      go_wp2_with fail
      go_ret
      exact ⟨rfl, HB3.out⟩
    have hmi : (n1 : Int) + (n2 : Int) ≤ 1000 := by omega
    go_wp2_with fail
    go_loopw [14] (fun v wr => ∃ k : Nat, k ≤ a.length ∧ v = .int .i64 (k : Int) ∧ wr = w3 ∧ Hid (∀ j (h : j < a.length), j < k → a[j] ≠ 92)) (fun v _ => a.length - (intOf v).toNat)
    case atStart => exact ⟨0, by omega, rfl, rfl, fun j h h2 => by omega⟩
    case round =>
      obtain ⟨k, hk, rfl, rfl, hno⟩ := hrel
      by_cases hlt : k < a.length
      · have hks : k < (bs a).size := by omega
        have hki : (k : Int) < ((bs a).size : Int) := by omega
        have egk : (bs a)[k] = a[k] := bs_get a k hks hlt
        obtain ⟨x, hx⟩ : ∃ x, x = a[k] := ⟨_, rfl⟩
        rw [← hx] at egk
        by_cases h10 : x = 92
        · have hxi : ((x.toNat : Nat) : Int) = 92 := by rw [h10]; rfl
          clear hx h10
          go_wp2_with fail
          go_ret
          exact ⟨rfl, HB3.out⟩
        · have hxi : ¬ ((x.toNat : Nat) : Int) = 92 := fun e => h10 (by
            have : x.toNat = 92 := by omega
            exact UInt8.toNat_inj.1 this)
          have HNO : Hid (∀ j (h : j < a.length), j < k + 1 → a[j] ≠ 92) := fun j h h2 => by
            by_cases hj : j < k
            · exact hno.out j h hj
            · obtain rfl : j = k := by omega
              exact fun e => h10 (hx.trans e)
          clear hx h10 hno
          go_wp2_with fail
          go_roundw
          case measure => simp [intOf]; omega
          case rel => exact ⟨k + 1, by omega, by go_num, by trivial, HNO⟩
      · have hki : ¬ (k : Int) < ((bs a).size : Int) := by omega
        have HNB : Hid (Nb a) := fun y hy => by
          obtain ⟨j, hj, rfl⟩ := List.mem_iff_getElem.1 hy
          exact hno.out j hj (by omega)
        clear hno hlt hk
        go_wp2_with fail
        go_loopw [15, 16] (fun ln v wl => ∃ k : Nat, k ≤ a.length ∧ v = .int .i64 (k : Int) ∧ ln = .int .i64 ((fd (a.take k) + 1 : Nat) : Int) ∧ wl = wr) (fun _ v _ => a.length - (intOf v).toNat)
        case atStart => exact ⟨0, by omega, rfl, rfl, rfl⟩
        case round =>
          obtain ⟨k, hk, rfl, rfl, rfl⟩ := hrel
          by_cases hlt : k < a.length
          · have hks : k < (bs a).size := by omega
            have hki : (k : Int) < ((bs a).size : Int) := by omega
            have egk : (bs a)[k] = a[k] := bs_get a k hks hlt
            have hft : fd (a.take (k + 1)) = fd (a.take k) + (if a[k] = 10 then 1 else 0) := fd_take a k hlt
            have hfl := fd_le (a.take k)
            rw [List.length_take] at hfl
            obtain ⟨x, hx⟩ : ∃ x, x = a[k] := ⟨_, rfl⟩
            rw [← hx] at egk hft
            generalize fd (a.take k) = y at *
            have HFT : Hid (fd (a.take (k + 1)) = y + (if x = 10 then 1 else 0)) := hft
            have hyi : (y : Int) ≤ 60000 := by omega
            by_cases h10 : x = 10
            · have hxi : ((x.toNat : Nat) : Int) = 10 := by rw [h10]; rfl
              have HE10 := Lib.hid h10
              clear hx h10 hft
              go_wp2_with fail
              go_roundw
              case measure => simp [intOf]; omega
              case rel => exact ⟨k + 1, by omega, by go_num, by rw [HFT.out, if_pos HE10.out]; go_num, by trivial⟩
            · have hxi : ¬ ((x.toNat : Nat) : Int) = 10 := fun e => h10 (by
                have : x.toNat = 10 := by omega
                exact UInt8.toNat_inj.1 this)
              have HE10 := Lib.hid h10
              clear hx h10 hft
              go_wp2_with fail
              go_roundw
              case measure => simp [intOf]; omega
              case rel => exact ⟨k + 1, by omega, by go_num, by rw [HFT.out, if_neg HE10.out], by trivial⟩
          · have hki : ¬ (k : Int) < ((bs a).size : Int) := by omega
            have hka : a.take k = a := List.take_of_length_le (by omega)
            rw [hka]
            have hadd : bs a ++ ({ data := #[10] } : ByteArray) ++ bs b = bs (a ++ 10 :: b) := by
              show bs a ++ bs [10] ++ bs b = _
              rw [bs_app, bs_app, List.append_assoc]; rfl
            have HADD := Lib.hid hadd
            have hfa := fd_le a
            have hfi : (fd a : Int) ≤ 60000 := by omega
            have HS3 := Lib.hid (Split_any env (a ++ 10 :: b) A c _ HP3.out HE.out (by have := HL.out; simp; omega))
            rw [← HADD.out] at HS3
            clear hadd hka hfa hlt hk
            have HTP : Hid (∀ la, splitP env a = .done la → (∀ m, splitP env b = .done m → la.length + m.length ≤ 1000) → (∀ e l, splitP env b = .bad e l → la.length + b.length ≤ 1000) → splitP env (a ++ 10 :: b) = preRR la (lastG la) (shRR (fd a + 1) (splitP env b))) := fun la e1 h1 h2 => two_plain HE.out a b HL.out e1 HNB.out h1 h2
            generalize fd a = lf at *
            go_wp2_with fail
            refine HS3.out.mono ?_
            intro e w4 hx
            obtain ⟨A3, n3, c3, f3, l3, rfl, hb4, hF3⟩ := hx.fact
            have HB4 := Lib.hid (HB3.out.trans (hb4.mono HB3.out.size))
            obtain ⟨L1, ls1, hR1, -, hm1, hn1', hls1⟩ := HF1.out.done HE.out rfl
            by_cases hf2 : f2 = 0
            case neg =>
              have hf2i : ¬ ((f2 : Int) = 0) := by omega
              have hf2b : ((f2 : Int) != 0) = true := bne_iff_ne.2 hf2i
              by_cases hbig : n1 + b.length > 1000
              · have hbi : (1000 : Int) < (n1 : Int) + ((bs b).size : Int) := by omega
                clear hF3 hx hb4 hf2 hbig hn1' hm1 hls1 hR1
                go_wp2_with fail
                go_ret
                exact ⟨rfl, HB4.out⟩
              · have hbi : (n1 : Int) + ((bs b).size : Int) ≤ 1000 := by omega
                obtain ⟨hR2, hn2'⟩ := HF2.out.wrong hf2
                have hR3 := HTP.out L1 hR1 (fun m hm => by rw [hR2] at hm; cases hm) (fun _ _ _ => by rw [← hm1, List.length_map, ← hn1']; omega)
                rw [hR2] at hR3
                have hR3' : splitP env (a ++ 10 :: b) = .bad f2 (l2 + (lf + 1)) := hR3
                rw [hR3'] at hF3
                obtain ⟨rfl, rfl, rfl, rfl, rfl⟩ := hF3
                have hli : ((l2 + (lf + 1) : Nat) : Int) = (l2 : Int) + ((lf : Int) + 1) := by omega
                rw [hli]
                clear hR3 hR3' hx hb4 hf2 hbig hn1' hm1 hls1 hR1 hR2 hn2'
                go_wp2_with fail
                go_ret
                exact ⟨rfl, HB4.out⟩
            case pos =>
              subst hf2
              obtain ⟨L2, ls2, hR2, -, hm2, hn2', hls2⟩ := HF2.out.done HE.out rfl
              have hR3 := HTP.out L1 hR1 (fun m hm => by rw [hR2] at hm; cases hm; rw [← hm1, ← hm2, List.length_map, List.length_map, ← hn1', ← hn2']; omega) (fun e l hm => by rw [hR2] at hm; cases hm)
              rw [hR2] at hR3
              have hR3' : splitP env (a ++ 10 :: b) = .done (L1 ++ gsh (lastG L1) (shL (lf + 1) L2)) := hR3
              rw [hR3'] at hF3
              obtain ⟨rfl, rfl, ls3, hm3, hn3', hls3⟩ := hF3
              have hg1 := splitP_group HE.out hR1
              have hg2 := splitP_group HE.out hR2
              have hk1 := splitP_good HE.out hR1
              have hk2 := splitP_good HE.out hR2
              subst hm1
              subst hm2
              obtain ⟨hlen, hat1, hat2⟩ := cat_at hm3
              subst hn1'
              subst hn2'
              subst hn3'
              have HM1 := Lib.hid (hls1.below (HBW.out.trans (hb4.mono HBW.out.size)))
              have HM2 := Lib.hid (hls2.below hb4)
              have HM3 := Lib.hid hls3
              have HA1 := Lib.hid hat1
              have HA2 := Lib.hid hat2
              have HG1 := Lib.hid hg1
              have HG2 := Lib.hid hg2
              have HK1 := Lib.hid hk1
              have HK2 := Lib.hid hk2
              have HLEN := Lib.hid hlen
              rw [hlen] at HM3 ⊢
              have hcast : ((ls1.length + ls2.length : Nat) : Int) = (ls1.length : Int) + (ls2.length : Int) := by omega
              clear hR3 hR3' hR1 hR2 hm3 hat1 hat2 hg2 hk1 hk2 hls1 hls2 hls3 hlen hb4 hx
              have hbig1 : (ls1.length : Int) ≤ 65536 := by omega
              have hbig2 : (ls2.length : Int) ≤ 65536 := by omega
              have hgrl := lastG_le hg1
              generalize hgr : lastG (ls1.map (·.2)) = gr at *
              have hgri : (gr : Int) ≤ 65537 := by omega
              have HGR := Lib.hid hgr
              clear hgr
              go_wp2_with fail
              go_loopw [20, 21] (fun gv v wz => ∃ i m : Nat, i ≤ ls1.length ∧ v = .int .i64 (i : Int) ∧ gv = .int .i64 ((lastG ((ls1.take i).map (·.2)) : Nat) : Int) ∧ wz = w4.drewN m) (fun _ v _ => ls1.length - (intOf v).toNat)
              case atStart => exact ⟨0, 0, by omega, rfl, rfl, rfl⟩
              case round =>
                obtain ⟨i, m, hi, rfl, rfl, rfl⟩ := hrel
                by_cases hil : i < ls1.length
                · have hii : (i : Int) < (ls1.length : Int) := by omega
                  have hin : (i : Int) < ((ls1.length + ls2.length : Nat) : Int) := by omega
                  have him : i < ls3.length := by have := HLEN.out; omega
                  have hsame : (ls3[i]).2 = (ls1[i]).2 := HA1.out i hil him
                  obtain ⟨g1, c1, hv1, hc1⟩ := HM1.out.row (by omega)
                  obtain ⟨g3, c3, hv3, hc3⟩ := HM3.out.row (by have := HLEN.out; omega)
                  simp only [Value.slice.injEq] at hv1 hv3
                  obtain ⟨rfl, -, rfl⟩ := hv1
                  obtain ⟨rfl, -, rfl⟩ := hv3
                  obtain ⟨a0, a1⟩ := hc1 i ls1[i] (List.getElem?_eq_getElem hil)
                  obtain ⟨d0, d1⟩ := hc3 i ls3[i] (List.getElem?_eq_getElem him)
                  obtain ⟨hgl, hgx⟩ := HK1.out (ls1[i]).2 (List.mem_map.2 ⟨ls1[i], List.getElem_mem hil, rfl⟩)
                  have hwa : WsAt w4 ls1[i].1 ls1[i].2.words := HM1.out.ws (List.getElem_mem hil)
                  have hwb : WsAt w4 ls3[i].1 ls3[i].2.words := HM3.out.ws (List.getElem_mem him)
                  rw [hsame, ← shW_zero (ls1[i]).2.words] at hwb
                  rw [hsame] at d1
                  have HT := Lib.hid (lastG_take hil)
                  have HSAME : Hid (∀ n, Calls Tryd.prog 13 #[ls3[i].1, ls1[i].1, .int .i64 0] ((w4.drewN m).drewN n) fun e w' => e = .returned (.bool true) ∧ ∃ q, w' = (w4.drewN m).drewN q) := fun n => by
                    refine (same_any ((w4.drewN m).drewN n) ls3[i].1 ls1[i].1 ls1[i].2.words 0 ((hwb.below (below_drewN1 m)).below (below_drewN1 n)) ((hwa.below (below_drewN1 m)).below (below_drewN1 n)) (fun x hx => by have := hgx x hx; omega) (by decide) (by omega)).mono fun e w' he => ?_
                    obtain ⟨h1, q, h2⟩ := he
                    exact ⟨h1, n + q, h2.trans (drewN_add _ n q)⟩
                  have v0 : (w4.drewN m).cell? ⟨g1, i * 2, none⟩ = some ls1[i].1 := a0
                  have x0 : (w4.drewN m).cell? ⟨g3, i * 2, none⟩ = some ls3[i].1 := d0
                  have CE1 := Lib.hid (show ∀ q, (w4.drewN q).cell? ⟨g1, i * 2 + 1, none⟩ = some (.int .i64 (ls1[i].2.group : Int)) from fun q => a1)
                  have CE3 := Lib.hid (show ∀ q, (w4.drewN q).cell? ⟨g3, i * 2 + 1, none⟩ = some (.int .i64 (ls1[i].2.group : Int)) from fun q => d1)
                  clear hgl hgx hwa hwb hsame hc1 hc3 a0 d0 a1 d1
                  obtain ⟨X1, hX1⟩ : ∃ X1, X1 = ls1[i].1 := ⟨_, rfl⟩
                  obtain ⟨X3, hX3⟩ : ∃ X3, X3 = ls3[i].1 := ⟨_, rfl⟩
                  rw [← hX1] at HSAME v0
                  rw [← hX3] at HSAME x0
                  clear hX1 hX3
                  generalize ls1[i].2.group = gq at *
                  generalize hV : w4.drewN m = V at *
                  have HV := Lib.hid (show ∃ q, V = w4.drewN q from ⟨m, hV.symm⟩)
                  clear hV
                  go_wp2_with fail
                  go_quiet ((go_at_call 13; exact HSAME.out _))
                  have HV2 : Hid (∃ q, World.drewN V nq = w4.drewN q) := by
                    obtain ⟨q, hq⟩ := HV.out
                    rw [hq]
                    exact ⟨_, drewN_add _ _ _⟩
                  have e1 : (World.drewN V nq).cell? ⟨g1, i * 2 + 1, none⟩ = some (.int .i64 (gq : Int)) := by
                    obtain ⟨q, hq⟩ := HV2.out
                    rw [hq]
                    exact CE1.out q
                  have e3 : (World.drewN V nq).cell? ⟨g3, i * 2 + 1, none⟩ = some (.int .i64 (gq : Int)) := by
                    obtain ⟨q, hq⟩ := HV2.out
                    rw [hq]
                    exact CE3.out q
                  generalize World.drewN V nq = V2 at *
                  go_wp2_with fail
                  go_quiet (fail)
                  have HV3 : Hid (∃ q, World.drewN V2 nq = w4.drewN q) := by
                    obtain ⟨q, hq⟩ := HV2.out
                    rw [hq]
                    exact ⟨_, drewN_add _ _ _⟩
                  have e4 : (World.drewN V2 nq).cell? ⟨g1, i * 2 + 1, none⟩ = some (.int .i64 (gq : Int)) := by
                    obtain ⟨q, hq⟩ := HV3.out
                    rw [hq]
                    exact CE1.out q
                  generalize World.drewN V2 nq = V3 at *
                  go_wp2_with fail
                  go_roundw
                  case measure => simp [intOf]; omega
                  case rel =>
                    obtain ⟨q, hq⟩ := HV3.out
                    exact ⟨i + 1, q, by omega, by go_num, by rw [HT.out], hq⟩
                · have hii : ¬ (i : Int) < (ls1.length : Int) := by omega
                  have hti : ls1.take i = ls1 := List.take_of_length_le (by omega)
                  rw [hti, HGR.out]
                  clear hti hii hi
                  go_wp2_with fail
                  go_loopw [23] (fun v wz => ∃ j m : Nat, j ≤ ls2.length ∧ v = .int .i64 (j : Int) ∧ wz = w4.drewN m) (fun v _ => ls2.length - (intOf v).toNat)
                  case atStart => exact ⟨0, m, by omega, rfl, rfl⟩
                  case round =>
                    obtain ⟨j, m, hj, rfl, rfl⟩ := hrel
                    by_cases hjl : j < ls2.length
                    · have hjj : (j : Int) < (ls2.length : Int) := by omega
                      have him : ls1.length + j < ls3.length := by have := HLEN.out; omega
                      have hidx : ((ls1.length : Int) + (j : Int)).toNat = ls1.length + j := by omega
                      have hidl : (ls1.length : Int) + (j : Int) < (ls1.length : Int) + (ls2.length : Int) := by omega
                      obtain ⟨hsw, hsg⟩ := HA2.out j hjl him
                      obtain ⟨g2, c2, hv2, hc2⟩ := HM2.out.row (by omega)
                      obtain ⟨g3, c3, hv3, hc3⟩ := HM3.out.row (by have := HLEN.out; omega)
                      simp only [Value.slice.injEq] at hv2 hv3
                      obtain ⟨rfl, -, rfl⟩ := hv2
                      obtain ⟨rfl, -, rfl⟩ := hv3
                      obtain ⟨a0, a1⟩ := hc2 j ls2[j] (List.getElem?_eq_getElem hjl)
                      obtain ⟨d0, d1⟩ := hc3 (ls1.length + j) ls3[ls1.length + j] (List.getElem?_eq_getElem him)
                      obtain ⟨hgl, hgx⟩ := HK2.out (ls2[j]).2 (List.mem_map.2 ⟨ls2[j], List.getElem_mem hjl, rfl⟩)
                      have hgq := HG2.out (ls2[j]).2 (List.mem_map.2 ⟨ls2[j], List.getElem_mem hjl, rfl⟩)
                      have hwa : WsAt w4 ls2[j].1 ls2[j].2.words := HM2.out.ws (List.getElem_mem hjl)
                      have hwb : WsAt w4 ls3[ls1.length + j].1 ls3[ls1.length + j].2.words := HM3.out.ws (List.getElem_mem him)
                      rw [hsw] at hwb
                      rw [hsg] at d1
                      have HSAME : Hid (∀ n, Calls Tryd.prog 13 #[ls3[ls1.length + j].1, ls2[j].1, .int .i64 ((lf : Int) + 1)] ((w4.drewN m).drewN n) fun e w' => e = .returned (.bool true) ∧ ∃ q, w' = (w4.drewN m).drewN q) := fun n => by
                        have hs := same_any ((w4.drewN m).drewN n) ls3[ls1.length + j].1 ls2[j].1 ls2[j].2.words (lf + 1) ((hwb.below (below_drewN1 m)).below (below_drewN1 n)) ((hwa.below (below_drewN1 m)).below (below_drewN1 n)) (fun x hx => by have := hgx x hx; omega) (by omega) (by omega)
                        rw [show ((lf + 1 : Nat) : Int) = (lf : Int) + 1 by omega] at hs
                        refine hs.mono fun e w' he => ?_
                        obtain ⟨h1, q, h2⟩ := he
                        exact ⟨h1, n + q, h2.trans (drewN_add _ n q)⟩
                      have v0 : (w4.drewN m).cell? ⟨g2, j * 2, none⟩ = some ls2[j].1 := a0
                      have x0 : (w4.drewN m).cell? ⟨g3, (ls1.length + j) * 2, none⟩ = some ls3[ls1.length + j].1 := d0
                      have CE1 := Lib.hid (show ∀ q, (w4.drewN q).cell? ⟨g2, j * 2 + 1, none⟩ = some (.int .i64 (ls2[j].2.group : Int)) from fun q => a1)
                      have CE3 := Lib.hid (show ∀ q, (w4.drewN q).cell? ⟨g3, (ls1.length + j) * 2 + 1, none⟩ = some (.int .i64 ((ls2[j].2.group + gr : Nat) : Int)) from fun q => d1)
                      clear hgl hgx hwa hwb hsw hsg hc2 hc3 a0 d0 a1 d1
                      obtain ⟨X1, hX1⟩ : ∃ X1, X1 = ls2[j].1 := ⟨_, rfl⟩
                      obtain ⟨X3, hX3⟩ : ∃ X3, X3 = ls3[ls1.length + j].1 := ⟨_, rfl⟩
                      rw [← hX1] at HSAME v0
                      rw [← hX3] at HSAME x0
                      clear hX1 hX3
                      generalize ls2[j].2.group = gq at *
                      have hgqi : (gq : Int) ≤ 65537 := by omega
                      have hsum : ((gq + gr : Nat) : Int) = (gq : Int) + (gr : Int) := by omega
                      generalize hV : w4.drewN m = V at *
                      have HV := Lib.hid (show ∃ q, V = w4.drewN q from ⟨m, hV.symm⟩)
                      clear hV
                      go_wp2_with fail
                      go_quiet ((go_at_call 13; exact HSAME.out _))
                      have HV2 : Hid (∃ q, World.drewN V nq = w4.drewN q) := by
                        obtain ⟨q, hq⟩ := HV.out
                        rw [hq]
                        exact ⟨_, drewN_add _ _ _⟩
                      have e1 : (World.drewN V nq).cell? ⟨g2, j * 2 + 1, none⟩ = some (.int .i64 (gq : Int)) := by
                        obtain ⟨q, hq⟩ := HV2.out
                        rw [hq]
                        exact CE1.out q
                      have e3 : (World.drewN V nq).cell? ⟨g3, (ls1.length + j) * 2 + 1, none⟩ = some (.int .i64 ((gq : Int) + (gr : Int))) := by
                        obtain ⟨q, hq⟩ := HV2.out
                        rw [hq, ← hsum]
                        exact CE3.out q
                      generalize World.drewN V nq = V2 at *
                      go_wp2_with fail
                      go_quiet (fail)
                      have HV3 : Hid (∃ q, World.drewN V2 nq = w4.drewN q) := by
                        obtain ⟨q, hq⟩ := HV2.out
                        rw [hq]
                        exact ⟨_, drewN_add _ _ _⟩
                      generalize World.drewN V2 nq = V3 at *
                      go_wp2_with fail
                      go_roundw
                      case measure => simp [intOf]; omega
                      case rel =>
                        obtain ⟨q, hq⟩ := HV3.out
                        exact ⟨j + 1, q, by omega, by go_num, hq⟩
                    · have hjj : ¬ (j : Int) < (ls2.length : Int) := by omega
                      go_wp2_with fail
                      go_ret
                      exact ⟨rfl, below_drewN HB4.out m⟩
end Go.Proofs.YtigpingkfinmiaaDoor.Lex
