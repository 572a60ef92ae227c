/- lex: the law on remarks, its text. -/
import Derived.Test.YtigpingkfinmiaaDoorQsh
namespace Go.Proofs.YtigpingkfinmiaaDoor.Lex
open Go.RowKit Go.Maps
theorem readF_line {env : Env} (he : EnvOk env) (M : Nat) : ∀ (f : Nat) (L : List Ln) (ws : List Wd) (g : Nat) (s : Tx) (n e l : Nat), n + s.length ≤ M → readF env f L ws g s n = .bad e l → l ≤ M
  | 0, _, _, _, _, _, _, _, _, h => by cases h; exact Nat.zero_le _
  | f + 1, L, ws, g, s, n, e, l, hn, h => by
    unfold readF at h
    cases hst : stepR env L ws g s n with
    | bad e => rw [hst] at h; cases h; omega
    | fin => rw [hst] at h; cases h
    | go L2 ws2 g2 s2 n2 =>
      rw [hst] at h
      have := (step_len he hst).2
      exact readF_line he M f _ _ _ _ _ _ _ (by omega) h
theorem splitP_line {env : Env} (he : EnvOk env) {s : Tx} {e l : Nat} (h : splitP env s = .bad e l) : l ≤ 65537 := by
  unfold splitP at h
  split at h
  · cases h; omega
  · exact readF_line he 65537 _ _ _ _ _ _ _ _ (by omega) h
theorem LsAt.short {G : Nat} {w : World} {v : Value} {ls : List LV} (h : LsAt G w v ls) : ls.length ≤ maxLen := by
  by_cases hn : 0 < ls.length
  · obtain ⟨g, c, tail, _, _, _, _, h1, h2⟩ := own_some h.1 hn
    exact Nat.le_trans h1 h2
  · omega
theorem shL_at {k : Nat} {ls ms : List LV} (h : ms.map (·.2) = shL k (ls.map (·.2))) : ms.length = ls.length ∧ ∀ i (h1 : i < ls.length) (h2 : i < ms.length), (ms[i]).2.words = shW k (ls[i]).2.words ∧ (ms[i]).2.group = (ls[i]).2.group := by
  have hl : ms.length = ls.length := by
    have := congrArg List.length h
    unfold shL at this
    simpa using this
  refine ⟨hl, fun i h1 h2 => ?_⟩
  have e1 : (ms.map (·.2))[i]? = some (ms[i]).2 := by rw [List.getElem?_map, List.getElem?_eq_getElem h2]; rfl
  have e2 : (shL k (ls.map (·.2)))[i]? = some { (ls[i]).2 with words := shW k (ls[i]).2.words } := by
    unfold shL
    rw [List.getElem?_map, List.getElem?_map, List.getElem?_eq_getElem h1]; rfl
  rw [h, e2] at e1
  have e1 := Option.some.inj e1
  rw [← e1]
  exact ⟨rfl, rfl⟩
set_option maxRecDepth 100000 in
set_option maxHeartbeats 8000000 in
theorem remarks_walk (s rm : Tx) (env : Env) (A : Option Addr) (c : Nat) (w : World) (hp : PrAt w.heap.size w A env) (he : EnvOk env) (hl1 : s.length ≤ 140737488355328) (hl2 : rm.length ≤ 140737488355328) :
    Calls Tryd.prog 6 #[.string (bs s), .string (bs rm), .slice A env.length c] w fun e w' => e = .returned (.bool true) ∧ Below w.heap.size w w' := by
  have HSH := Lib.hid (shown_any w)
  have hz1 : (bs s).size = s.length := bs_size s
  have hz2 : (bs rm).size = rm.length := bs_size rm
  by_cases hlong : s.length + rm.length > 60000
  · have z1 : (60000 : Int) < ((bs s).size : Int) + ((bs rm).size : Int) := by omega
    have z2 : ((bs s).size : Int) ≤ 140737488355328 := by omega
    have z3 : ((bs rm).size : Int) ≤ 140737488355328 := by omega
    clear hp he hlong hz1 hz2
    generalize bs s = S at *
    generalize bs rm = T at *
    go_enter Tryd.func6, Tryd.ntmps6
    go_wp2_with fail
    refine HSH.out.mono ?_
    rintro _ w1 ⟨rfl, hb1⟩
    have HB1 := Lib.hid hb1
    clear hb1
    go_wp2_with fail
    go_ret
    exact ⟨rfl, HB1.out⟩
  · have z1 : ((bs s).size : Int) + ((bs rm).size : Int) ≤ 60000 := by omega
    have HP := Lib.hid hp
    have HE := Lib.hid he
    have HL := Lib.hid (show s.length + rm.length ≤ 60000 by omega)
    clear hp he hlong
    go_enter Tryd.func6, Tryd.ntmps6
    go_wp2_with fail
    refine HSH.out.mono ?_
    rintro _ w1 ⟨rfl, hb1⟩
    have HB1 := Lib.hid hb1
    clear hb1
    go_wp2_with fail
    go_loopw [8] (fun v wr => ∃ k : Nat, k ≤ rm.length ∧ v = .int .i64 (k : Int) ∧ wr = w1 ∧ Hid (∀ j (h : j < rm.length), j < k → rm[j] ≠ 10)) (fun v _ => rm.length - (intOf v).toNat)
    case atStart => exact ⟨0, by omega, rfl, rfl, fun j h h2 => by omega⟩
    case round =>
      obtain ⟨k, hk, rfl, rfl, hno⟩ := hrel
      by_cases hlt : k < rm.length
      · have hks : k < (bs rm).size := by omega
        have hki : (k : Int) < ((bs rm).size : Int) := by omega
        have egk : (bs rm)[k] = rm[k] := by
          show (bs rm).data[k] = rm[k]
          simp [bs]
          rfl
        obtain ⟨x, hx⟩ : ∃ x, x = rm[k] := ⟨_, rfl⟩
        rw [← hx] at egk
        by_cases h10 : x = 10
        · have hxi : ((x.toNat : Nat) : Int) = 10 := by rw [h10]; rfl
          clear hx h10
          go_wp2_with fail
          go_ret
          exact ⟨rfl, HB1.out⟩
        · have hxi : ¬ ((x.toNat : Nat) : Int) = 10 := fun e => h10 (by
            have : x.toNat = 10 := by omega
            exact UInt8.toNat_inj.1 this)
          have HNO : Hid (∀ j (h : j < rm.length), j < k + 1 → rm[j] ≠ 10) := fun j h h2 => by
            by_cases hj : j < k
            · exact hno.out j h hj
            · obtain rfl : j = k := by omega
              exact fun e => h10 (hx.trans e)
          clear hx h10 hno
          go_wp2_with fail
          go_roundw
          case measure => simp [intOf]; omega
          case rel => exact ⟨k + 1, by omega, by go_num, by trivial, HNO⟩
      · have hki : ¬ (k : Int) < ((bs rm).size : Int) := by omega
        have hkn : (bs rm).size ≤ k := by omega
        have hr10 : ∀ y ∈ rm, y ≠ 10 := fun y hy => by
          obtain ⟨j, hj, rfl⟩ := List.mem_iff_getElem.1 hy
          exact hno.out j hj (by omega)
        have hp1 : PrAt wr.heap.size wr A env := (HP.out.below HB1.out).mono HB1.out.size
        have HS1 := Lib.hid (Split_any env s A c wr hp1 HE.out hl1)
        have hadd : ({ data := #[10, 32, 9, 35] } : ByteArray) ++ bs rm ++ { data := #[10, 10] } ++ bs s = bs (remarked rm s) := by
          show bs [10, 32, 9, 35] ++ bs rm ++ bs [10, 10] ++ bs s = _
          rw [bs_app, bs_app, bs_app]; rfl
        have HADD := Lib.hid hadd
        have HPL := Lib.hid (remarks_plain HE.out rm s HL.out hr10)
        obtain ⟨R, hR⟩ : ∃ R, R = splitP env s := ⟨_, rfl⟩
        rw [← hR] at HS1 HPL
        have HR := Lib.hid hR
        clear hno hr10 hp1 hadd hR
        go_wp2_with fail
        refine HS1.out.mono ?_
        intro e w2 hx
        unfold XP at hx
        cases R with
        | bad kk l =>
          obtain ⟨rfl, hb2⟩ := hx
          have hll := splitP_line HE.out HR.out.symm
          have HB2 := Lib.hid (HB1.out.trans (hb2.mono HB1.out.size))
          have hp2 : PrAt w2.heap.size w2 A env := (HP.out.below HB2.out).mono HB2.out.size
          have hs2 := Split_any env (remarked rm s) A c w2 hp2 HE.out (by have := HL.out; unfold remarked; simp; omega)
          rw [HPL.out] at hs2
          have HS2 : Hid (Calls Tryd.prog 12 #[.string (bs (remarked rm s)), .slice A env.length c] w2 fun e w' => e = .returned (.tuple #[.slice none 0 0, .int .i64 (kk : Int), .int .i64 ((l + 3 : Nat) : Int)]) ∧ Below w2.heap.size w2 w') := hs2
          rw [← HADD.out] at HS2
          have hl3 : ((l + 3 : Nat) : Int) = (l : Int) + 3 := by omega
          rw [hl3] at HS2
          have hli : (l : Int) ≤ 65537 := by omega
          clear hb2 hp2 hs2 hl3 hll
          generalize bs (remarked rm s) = BIG at *
          by_cases hk0 : kk = 0
          · subst hk0
            go_wp2_with fail
            refine HS2.out.mono ?_
            rintro _ w3 ⟨rfl, hb3⟩
            have HB3 := Lib.hid (HB2.out.trans (hb3.mono HB2.out.size))
            clear hb3
            go_wp2_with fail
            refine wp_loop_rounds 1 ?_
            rw [rounds_succ]
            go_wp2_with fail
            go_ret
            exact ⟨rfl, HB3.out⟩
          · have hki0 : ¬ ((kk : Int) = 0) := by omega
            clear hk0
            go_wp2_with fail
            refine HS2.out.mono ?_
            rintro _ w3 ⟨rfl, hb3⟩
            have HB3 := Lib.hid (HB2.out.trans (hb3.mono HB2.out.size))
            clear hb3
            go_wp2_with fail
            refine wp_loop_rounds 1 ?_
            rw [rounds_succ]
            go_wp2_with fail
            go_ret
            exact ⟨rfl, HB3.out⟩
        | done L =>
          obtain ⟨v1, ls, hm1, rfl, hls1, hb2⟩ := hx
          have hgood := splitP_good HE.out HR.out.symm
          have HB2 := Lib.hid (HB1.out.trans (hb2.mono HB1.out.size))
          have hp2 : PrAt w2.heap.size w2 A env := (HP.out.below HB2.out).mono HB2.out.size
          have hs2 := Split_any env (remarked rm s) A c w2 hp2 HE.out (by have := HL.out; unfold remarked; simp; omega)
          rw [HPL.out] at hs2
          have HS2 : Hid (Calls Tryd.prog 12 #[.string (bs (remarked rm s)), .slice A env.length c] w2 (XP w2 (.done (shL 3 L)))) := hs2
          rw [← HADD.out] at HS2
          have HLS1 := Lib.hid hls1
          have HM1 := Lib.hid hm1
          have HG := Lib.hid hgood
          obtain ⟨A1, k1, hv1⟩ := hls1.slice
          subst hv1
          clear hb2 hp2 hs2 hls1 hm1 hgood
          generalize bs (remarked rm s) = BIG at *
          go_wp2_with fail
          refine HS2.out.mono ?_
          rintro _ w3 ⟨v2, ms, hm2, rfl, hls2, hb3⟩
          rw [← HM1.out] at hm2
          obtain ⟨hlen, hat⟩ := shL_at hm2
          have HB3 := Lib.hid (HB2.out.trans (hb3.mono HB2.out.size))
          have HLS13 := Lib.hid (HLS1.out.below hb3)
          have HLS2 := Lib.hid hls2
          have HAT := Lib.hid hat
          obtain ⟨A2, k2, hv2⟩ := hls2.slice
          subst hv2
          rw [hlen] at HLS2 ⊢
          have hbig : (ls.length : Int) ≤ 9223372036854775807 := by
            have := HLS13.out.short
            unfold maxLen at this
            omega
          clear hb3 hm2 hat hls2
          go_wp2_with fail
          go_loopw [15] (fun v wr => ∃ i m : Nat, i ≤ ls.length ∧ v = .int .i64 (i : Int) ∧ wr = w3.drewN m) (fun v _ => ls.length - (intOf v).toNat)
          case atStart => exact ⟨0, 0, by omega, rfl, rfl⟩
          case round =>
            obtain ⟨i, m, hi, rfl, rfl⟩ := hrel
            by_cases hil : i < ls.length
            · have hii : (i : Int) < (ls.length : Int) := by omega
              have him : i < ms.length := by omega
              obtain ⟨hw1, hg1⟩ := HAT.out i hil him
              obtain ⟨g1, c1, hv1, hc1⟩ := HLS13.out.row (by omega)
              obtain ⟨g2, c2, hv2, hc2⟩ := HLS2.out.row (by omega)
              simp only [Value.slice.injEq] at hv1 hv2
              obtain ⟨rfl, -, rfl⟩ := hv1
              obtain ⟨rfl, -, rfl⟩ := hv2
              obtain ⟨a0, a1⟩ := hc1 i ls[i] (List.getElem?_eq_getElem hil)
              obtain ⟨d0, d1⟩ := hc2 i ms[i] (List.getElem?_eq_getElem him)
              obtain ⟨hgl, hgx⟩ := HG.out (ls[i]).2 (by rw [← HM1.out]; exact List.mem_map.2 ⟨ls[i], List.getElem_mem hil, rfl⟩)
              have hwa : WsAt w3 ls[i].1 ls[i].2.words := HLS13.out.ws (List.getElem_mem hil)
              have hwb : WsAt w3 ms[i].1 ms[i].2.words := HLS2.out.ws (List.getElem_mem him)
              rw [hw1] at hwb
              rw [hg1] at d1
              have HSAME : Hid (∀ n, Calls Tryd.prog 13 #[ms[i].1, ls[i].1, .int .i64 3] ((w3.drewN m).drewN n) fun e w' => e = .returned (.bool true) ∧ ∃ q, w' = (w3.drewN m).drewN q) := fun n => by
                refine (same_any ((w3.drewN m).drewN n) ms[i].1 ls[i].1 ls[i].2.words 3 ((hwb.below (below_drewN1 m)).below (below_drewN1 n)) ((hwa.below (below_drewN1 m)).below (below_drewN1 n)) (fun x hx => by have := hgx x hx; omega) (by decide) (by omega)).mono fun e w' he => ?_
                obtain ⟨h1, q, h2⟩ := he
                exact ⟨h1, n + q, h2.trans (drewN_add _ n q)⟩
              have v0 : (w3.drewN m).cell? ⟨g1, i * 2, none⟩ = some ls[i].1 := a0
              have x0 : (w3.drewN m).cell? ⟨g2, i * 2, none⟩ = some ms[i].1 := d0
              have HA1 := Lib.hid (show ∀ q, ((w3.drewN m).drewN q).cell? ⟨g1, i * 2 + 1, none⟩ = some (.int .i64 (ls[i].2.group : Int)) from fun q => a1)
              have HD1 := Lib.hid (show ∀ q, ((w3.drewN m).drewN q).cell? ⟨g2, i * 2 + 1, none⟩ = some (.int .i64 (ls[i].2.group : Int)) from fun q => d1)
              have HDR := Lib.hid (show ∀ q, (w3.drewN m).drewN q = w3.drewN (m + q) from fun q => drewN_add w3 m q)
              clear hgl hgx hwa hwb hw1 hg1 hc1 hc2 a0 d0 a1 d1
              obtain ⟨X1, hX1⟩ : ∃ X1, X1 = ls[i].1 := ⟨_, rfl⟩
              obtain ⟨X2, hX2⟩ : ∃ X2, X2 = ms[i].1 := ⟨_, rfl⟩
              rw [← hX1] at HSAME v0
              rw [← hX2] at HSAME x0
              clear hX1 hX2
              generalize ls[i].2.group = gr at *
              generalize hV : w3.drewN m = V at *
              clear hV
              go_wp2_with fail
              go_quiet ((go_at_call 13; exact HSAME.out _))
              have e1 := HA1.out nq
              have e2 := HD1.out nq
              have HDR2 := Lib.hid (HDR.out nq)
              generalize V.drewN nq = V2 at *
              go_wp2_with fail
              go_quiet (fail)
              have HDR3 : Hid (∃ q, World.drewN V2 nq = w3.drewN q) := by rw [HDR2.out]; exact ⟨_, drewN_add _ _ _⟩
              generalize World.drewN V2 nq = V3 at *
              go_wp2_with fail
              go_roundw
              case measure => simp [intOf]; omega
              case rel => 
                obtain ⟨q, hq⟩ := HDR3.out
                exact ⟨i + 1, q, by omega, by go_num, hq⟩
            · have hii : ¬ (i : Int) < (ls.length : Int) := by omega
              go_wp2_with fail
              go_ret
              exact ⟨rfl, below_drewN HB3.out m⟩
end Go.Proofs.YtigpingkfinmiaaDoor.Lex
