/- lex: the law on words that are written and read again, its text. -/
import Derived.Test.YtplikjbajejciaaDoorQjo
import Derived.Test.YtplikjbajejciaaDoorQsh
namespace Go.Proofs.YtplikjbajejciaaDoor.Lex
open Go.RowKit Go.Maps
theorem tot_take {l : List Tx} {k : Nat} (h : k < l.length) : total (l.take (k + 1)) = total (l.take k) + l[k].length := by
  unfold total
  rw [List.take_succ_eq_append_getElem h, List.map_append, List.sum_append]
  simp
theorem tot_all (l : List Tx) (k : Nat) : total (l.take k) ≤ total l := by
  have : total l = total (l.take k) + total (l.drop k) := by
    unfold total
    conv => lhs; rw [← List.take_append_drop k l]
    rw [List.map_append, List.sum_append]
  omega
theorem StAt.mono {B B' : Nat} {w : World} {A : Option Addr} {l : List Tx} (h : StAt B w A l) (hB : B ≤ B') : StAt B' w A l := fun k hk => by
  obtain ⟨g, o, e, hg, h1⟩ := h k hk
  exact ⟨g, o, e, Nat.lt_of_lt_of_le hg hB, h1⟩
set_option maxRecDepth 100000 in
set_option maxHeartbeats 8000000 in
theorem back_walk (l : List Tx) (env : Env) (A A' : Option Addr) (c c' : Nat) (w : World) (hs : StAt w.heap.size w A l) (hp : PrAt w.heap.size w A' env) (he : EnvOk env) (hb : total l + l.length ≤ 1048576) :
    Calls Tryd.prog 4 #[.slice A l.length c, .slice A' env.length c'] w fun e w' => e = .returned (.bool true) ∧ Below w.heap.size w w' := by
  have HSH := Lib.hid (shown_any w)
  have HS := Lib.hid hs
  have HP := Lib.hid hp
  have HE := Lib.hid he
  have HBU := Lib.hid hb
  have hn : l.length ≤ 1048576 := by omega
  clear hs hp he hb
  go_enter Tryd.func4, Tryd.ntmps4
  go_wp2_with fail
  refine HSH.out.mono ?_
  rintro _ w1 ⟨rfl, hb1⟩
  have HB1 := Lib.hid hb1
  clear hb1
  go_wp2_with fail
  go_loopw [6, 7] (fun nv i wr => ∃ k : Nat, k ≤ l.length ∧ i = .int .i64 (k : Int) ∧ nv = .int .i64 ((total (l.take k) : Nat) : Int) ∧ wr = w1 ∧ Hid (∀ j (h : j < l.length), j < k → l[j].length ≤ 8192)) (fun _ i _ => l.length - (intOf i).toNat)
  case atStart => exact ⟨0, Nat.zero_le _, rfl, rfl, rfl, fun j h h2 => by omega⟩
  case round =>
    obtain ⟨k, hk, rfl, rfl, rfl, hall⟩ := hrel
    have hta := tot_all l k
    have hbu := HBU.out
    by_cases hlt : k < l.length
    · have hki : (k : Int) < (l.length : Int) := by omega
      obtain ⟨g, o, rfl, hg, hcell⟩ := HS.out k hlt
      have hc := (HB1.out.cell (p := ⟨g, o + k, none⟩) hg).trans hcell
      have htk := tot_take hlt
      have hta1 := tot_all l (k + 1)
      have hsz : (bs l[k]).size = l[k].length := bs_size _
      by_cases hlong : l[k].length > 8192
      · have z1 : (8192 : Int) < ((bs l[k]).size : Int) := by omega
        clear hcell htk hsz hlong
        generalize bs l[k] = S at *
        go_wp2_with fail
        go_ret
        exact ⟨rfl, HB1.out⟩
      · have z1 : ((bs l[k]).size : Int) ≤ 8192 := by omega
        have HALL : Hid (∀ j (h : j < l.length), j < k + 1 → l[j].length ≤ 8192) := fun j h h2 => by
          by_cases hj : j < k
          · exact hall.out j h hj
          · obtain rfl : j = k := by omega
            omega
        have HT := Lib.hid (show ((total (l.take k) : Nat) : Int) + ((bs l[k]).size : Int) = ((total (l.take (k + 1)) : Nat) : Int) by rw [htk, hsz]; omega)
        have zw : IntKind.i64.wrap (((total (l.take k) : Nat) : Int) + ((bs l[k]).size : Int)) = ((total (l.take (k + 1)) : Nat) : Int) := by rw [IntWalk.i64_in _ (by omega)]; exact HT.out
        clear hcell hsz hlong htk HT
        generalize bs l[k] = S at *
        obtain ⟨t1, ht1⟩ : ∃ t, t = total (l.take (k + 1)) := ⟨_, rfl⟩
        rw [← ht1] at zw hta1
        have HT1 := Lib.hid ht1
        clear ht1
        generalize total (l.take k) = t0 at *
        go_wp2_with fail
        go_roundw
        case rel => exact ⟨k + 1, hlt, by go_num, by rw [HT1.out], by trivial, HALL⟩
        case measure => simp [intOf]; omega
    · obtain rfl : k = l.length := by omega
      have hki : ¬ (l.length : Int) < (l.length : Int) := by omega
      rw [List.take_length] at hta ⊢
      by_cases hbig : 256 < l.length ∨ 20000 < total l
      · by_cases h256 : 256 < l.length
        · have z1 : (256 : Int) < (l.length : Int) := by omega
          clear hbig
          generalize total l = t0 at *
          go_wp2_with fail
          go_ret
          exact ⟨rfl, HB1.out⟩
        · have z1 : ¬ (256 : Int) < (l.length : Int) := by omega
          have z2 : (20000 : Int) < ((total l : Nat) : Int) := by omega
          clear hbig
          generalize total l = t0 at *
          go_wp2_with fail
          go_ret
          exact ⟨rfl, HB1.out⟩
      · have z1 : ¬ (256 : Int) < (l.length : Int) := by omega
        have z2 : ¬ (20000 : Int) < ((total l : Nat) : Int) := by omega
        have h2 : ∀ t ∈ l, t.length ≤ 8192 := fun t ht => by
          obtain ⟨j, hj, rfl⟩ := List.mem_iff_getElem.1 ht
          exact hall.out j hj hj
        have hjl := joinP_len l
        obtain ⟨ws, hsp, hws1, hws2⟩ := back_plain env l (by omega) h2 (by omega)
        have hst : StAt wr.heap.size wr A l := (HS.out.below HB1.out).mono HB1.out.size
        have HJ := Lib.hid (Join_any l A c wr hst (by omega) (fun t ht => by have := h2 t ht; omega) (by omega))
        have hpr : ∀ V, Below w.heap.size w V → PrAt V.heap.size V A' env := fun V hV => (HP.out.below hV).mono hV.size
        have HSPL : Hid (∀ V, Below w.heap.size w V → Calls Tryd.prog 10 #[.string (bs (joinP l)), .slice A' env.length c'] V (XP V (.done (if l = [] then [] else [⟨ws, 1⟩])))) := fun V hV => by
          rw [← hsp]
          exact Split_any env (joinP l) A' c' V (hpr V hV) HE.out (by omega)
        have HW1 := Lib.hid hws1
        have HW2 := Lib.hid hws2
        clear hbig h2 hjl hsp hws1 hws2 hst hpr hall
        generalize total l = t0 at *
        go_wp2_with fail
        refine HJ.out.mono ?_
        rintro _ w2 ⟨rfl, h2⟩
        have HB2 := Lib.hid (HB1.out.trans (h2.mono HB1.out.size))
        have HC := Lib.hid (HSPL.out w2 HB2.out)
        clear h2
        generalize bs (joinP l) = S at *
        go_wp2_with fail
        refine HC.out.mono ?_
        rintro _ w3 ⟨v, ls, hm, rfl, hls, hb3⟩
        have HB3 := Lib.hid (HB2.out.trans (hb3.mono HB2.out.size))
        clear hb3
        rcases l with _ | ⟨t, r⟩
        · rw [if_pos rfl] at hm
          obtain rfl : ls = [] := List.map_eq_nil_iff.1 hm
          obtain ⟨A5, k5, rfl⟩ := hls.slice
          clear hls hm
          go_wp2_with fail
          go_ret
          exact ⟨rfl, HB3.out⟩
        · rw [if_neg (by simp)] at hm
          obtain ⟨p, rfl, hp⟩ := map_one hm
          have hwl : ws.length = (t :: r).length := by have := congrArg List.length HW1.out; rwa [List.length_map] at this
          obtain ⟨g1, k1, rfl, hcel⟩ := hls.row (by simp)
          obtain ⟨a0, a1⟩ := hcel 0 p rfl
          have hwa : WsAt w3 p.1 p.2.words := hls.ws (by simp)
          rw [hp] at a1 hwa
          have hne : ws ≠ [] := fun e => by rw [e] at hwl; simp at hwl
          rcases hwa with ⟨h0, _⟩ | ⟨g2, k2, tail, hv2, hbl⟩
          · exact absurd h0 hne
          rw [hv2, hwl] at a0
          obtain ⟨N, hN⟩ : ∃ N, N = (t :: r).length := ⟨_, rfl⟩
          rw [← hN] at a0 hn z1 hwl ⊢
          have HN := Lib.hid hN
          have hN1 : 1 ≤ N := by rw [hN]; simp
          have z5 : ¬ ((N : Int) = 0) := by omega
          have z6 : (N : Int) ≤ 1048576 := by omega
          have HWT : Hid (∀ i (h : i < N) (h2 : i < ws.length) (h3 : i < (t :: r).length), ws[i].text = (t :: r)[i] ∧ ws[i].block = false) := fun i h h2 h3 => by
            refine ⟨?_, HW2.out _ (List.getElem_mem h2)⟩
            have e1 : (ws.map (fun x => x.text))[i]? = some (t :: r)[i] := by rw [HW1.out]; exact List.getElem?_eq_getElem h3
            rw [List.getElem?_map, List.getElem?_eq_getElem h2] at e1
            exact Option.some.inj e1
          have HBL := Lib.hid hbl
          have HWL := Lib.hid hwl
          have HA0 := Lib.hid a0
          have HA1 := Lib.hid a1
          clear hv2 hN hwl hbl hls hcel hp hm hne
          go_wp2_with fail
          have hNl : (t :: r).length = N := HN.out.symm
          go_loopw [11] (fun i wr => ∃ k m : Nat, k ≤ N ∧ i = .int .i64 (k : Int) ∧ wr = w3.drewN m) (fun i _ => N - (intOf i).toNat)
          case atStart => exact ⟨0, 0, Nat.zero_le _, rfl, rfl⟩
          case round =>
            obtain ⟨i, m, hi, rfl, hm⟩ := hrel
            have hO : Only [] w3 wr := by rw [hm]; exact only_drewN (Only.refl _ _) m
            have HM := Lib.hid hm
            clear hm
            by_cases hil : i < N
            · have hii : (i : Int) < (N : Int) := by omega
              have hil2 : i < ws.length := by rw [HWL.out]; exact hil
              have hil3 : i < (t :: r).length := by rw [hNl]; exact hil
              obtain ⟨hw1, hw2⟩ := HWT.out i hil hil2 hil3
              obtain ⟨x0, x1, x2⟩ := wds_cell hil2 tail
              rw [hw1] at x0
              rw [hw2] at x2
              obtain ⟨g, o, rfl, hg, hcell⟩ := HS.out i hil3
              have b0 : wr.cell? ⟨g1, 0, none⟩ = some (.slice (some ⟨g2, 0, none⟩) N k2) := (hO.cell (own_lt HA0.out) (by simp) 0).trans HA0.out
              have b1 : wr.cell? ⟨g2, i * 3, none⟩ = some (.string (bs (t :: r)[i])) := ((BL.only HBL.out hO (by simp)).cell _).trans x0
              have b2 : wr.cell? ⟨g2, i * 3 + 2, none⟩ = some (.bool false) := ((BL.only HBL.out hO (by simp)).cell _).trans x2
              have b3 : wr.cell? ⟨g, o + i, none⟩ = some (.string (bs (t :: r)[i])) := (hO.cell (Nat.lt_of_lt_of_le hg HB3.out.size) (by simp) _).trans ((HB3.out.cell (p := ⟨g, o + i, none⟩) hg).trans hcell)
              obtain ⟨X, hX⟩ : ∃ X, X = bs (t :: r)[i] := ⟨_, rfl⟩
              rw [← hX] at b1 b3
              clear x0 x1 x2 hw1 hw2 hcell hO hX
              clear hil2 hil3
              have hXX : (X.toList == X.toList) = true := by simp
              go_wp2_with fail
              go_quiet (fail)
              have HM2 : Hid (∃ q, World.drewN wr nq = w3.drewN q) := by rw [HM.out]; exact ⟨m + nq, drewN_add w3 m nq⟩
              generalize World.drewN wr nq = V at *
              go_wp2_with fail
              go_roundw
              case measure => simp [intOf]; omega
              case rel =>
                obtain ⟨q, hq⟩ := HM2.out
                exact ⟨i + 1, q, by omega, by go_num, hq⟩
            · have hii : ¬ (i : Int) < (N : Int) := by omega
              clear hO
              go_wp2_with fail
              go_ret
              exact ⟨rfl, by rw [HM.out]; exact below_drewN HB3.out m⟩
end Go.Proofs.YtplikjbajejciaaDoor.Lex
