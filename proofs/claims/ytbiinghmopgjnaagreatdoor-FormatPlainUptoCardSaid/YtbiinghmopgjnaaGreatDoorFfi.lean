/- format: a name's value in scopes within one another. -/
import Derived.Test.YtbiinghmopgjnaaGreatDoorFou
import Derived.Deep.LoopGhost
import Derived.Deep.MidRow
namespace Go.Proofs.YtbiinghmopgjnaaGreatDoor.Fmt
open Go.RowKit

theorem pairsC_len (l : Vs) : (pairsC l).length = l.length * 2 := by
  unfold pairsC
  induction l with
  | nil => rfl
  | cons p l ih => simp only [List.flatMap_cons, List.length_append, List.length_cons, List.length_nil, ih]; omega
theorem pairsC_at : ∀ (l : Vs) (i : Nat) (h : i < l.length), (pairsC l)[i * 2]? = some (.string (bs l[i].1)) ∧ (pairsC l)[i * 2 + 1]? = some (.string (bs l[i].2))
  | p :: l, 0, _ => ⟨rfl, rfl⟩
  | p :: l, i + 1, h => by
    have := pairsC_at l i (by simpa using h)
    have e : pairsC (p :: l) = [.string (bs p.1), .string (bs p.2)] ++ pairsC l := rfl
    rw [e, List.getElem?_append_right (by simp; omega), List.getElem?_append_right (by simp; omega)]
    simp only [List.length_cons, List.length_nil, List.getElem_cons_succ]
    rw [show (i + 1) * 2 - (0 + 1 + 1) = i * 2 by omega, show (i + 1) * 2 + 1 - (0 + 1 + 1) = i * 2 + 1 by omega]
    exact this
theorem lookV_at : ∀ (l : Vs) (s : Tx) (k : Nat) (h : k < l.length), (∀ j (hj : j < k), l[j].1 ≠ s) → l[k].1 = s → lookV l s = some l[k].2
  | (n, v) :: l, s, 0, _, _, he => by unfold lookV; rw [if_pos (show n = s from he)]; rfl
  | (n, v) :: l, s, k + 1, h, hn, he => by
    unfold lookV
    rw [if_neg (show ¬ n = s from hn 0 (by omega))]
    exact lookV_at l s k (by simpa using h) (fun j hj => hn (j + 1) (by omega)) he
theorem lookV_no : ∀ (l : Vs) (s : Tx), (∀ j (hj : j < l.length), l[j].1 ≠ s) → lookV l s = none
  | [], _, _ => rfl
  | (n, v) :: l, s, hn => by
    unfold lookV
    rw [if_neg (show ¬ n = s from hn 0 (by simp))]
    exact lookV_no l s (fun j hj => hn (j + 1) (by simpa using hj))
theorem bs_ne {a b : Tx} (h : a ≠ b) : ¬ bs a = bs b := fun e => h (bs_inj e)

theorem value_no {lv : Lv} {rest : List Lv} {s : Tx} {v : Option Tx} (h : valueF (some (lv :: rest)) s = some v) (hl : lookV lv.vars s = none) : valueF (some rest) s = some v := by
  simp only [valueF, findP, hl] at h ⊢
  exact h
theorem value_yes {lv : Lv} {rest : List Lv} {s x : Tx} {v : Option Tx} (h : valueF (some (lv :: rest)) s = some v) (hl : lookV lv.vars s = some x) : v = some x ∧ x.length ≤ 8192 := by
  simp only [valueF, findP, hl] at h
  split at h
  · injection h with h; exact ⟨h.symm, by assumption⟩
  · cases h
set_option maxRecDepth 100000 in
set_option maxHeartbeats 4000000 in
theorem find_any (w : World) (p : Value) (ch : List Lv) (s : Tx) (h : ChAt w p ch) (v : Option Tx) (hv : valueF (some ch) s = some v) :
    Calls Tryz.prog 27 #[p, .string (bs s)] w fun e w' => e = .returned (.tuple #[.string (bs (v.getD [])), .bool v.isSome]) ∧ Below w.heap.size w w' := by
  obtain ⟨S, hS⟩ : ∃ S, S = bs s := ⟨_, rfl⟩
  rw [← hS]
  have HS := Lib.hid hS
  have HV := Lib.hid hv
  have H := Lib.hid h
  clear hv h hS
  go_enter Tryz.func27, Tryz.ntmps27
  go_wp2_with fail
  go_loopg [0] ch.length (fun k q wr => ∃ rest, rest.length = k ∧ ChAt wr q rest ∧ valueF (some rest) s = some v ∧ Below w.heap.size w wr)
  case atStart => exact ⟨ch, rfl, H.out, HV.out, Below.refl _ _⟩
  case round =>
    obtain ⟨rest, hk, hch, hvv, hb⟩ := hrel
    clear HV H
    cases rest with
    | nil =>
      obtain rfl : _ = Value.pointer none := hch
      have e : v = none := by
        have : some none = some v := hvv
        injection this with this; exact this.symm
      subst e
      have HB := Lib.hid hb
      clear hvv hb hk
      go_wp2_with fail
      go_ret2
      exact ⟨rfl, HB.out⟩
    | cons lv rest =>
      obtain ⟨W1, hW1⟩ : ∃ W1, W1 = wr := ⟨_, rfl⟩
      subst hW1
      obtain ⟨b, vv, lo, q2, rfl, hbl, hva, hlo, hrest⟩ := hch
      have c0 : W1.cell? ⟨b, 0, none⟩ = some vv := hbl.cell 0
      have c2 : W1.cell? ⟨b, 2, none⟩ = some q2 := hbl.cell 2
      have HBL := Lib.hid hbl
      have HB := Lib.hid hb
      have HREST := Lib.hid hrest
      have HVV := Lib.hid hvv
      have HK := Lib.hid hk
      obtain ⟨A, n, ⟨hvs, hn0⟩, hcells⟩ : ∃ (A : Option Addr) (n : Nat), (vv = .slice A n n ∧ n ≤ 1000000) ∧ (n = lv.vars.length ∧ ∀ j (hj : j < lv.vars.length), ∃ bb, A = some ⟨bb, 0, none⟩ ∧ BL W1 bb 42 (pairsC lv.vars)) := by
        rcases hva with ⟨h1, h2⟩ | ⟨bb, h1, h2⟩
        · exact ⟨none, 0, ⟨h2, by omega⟩, by rw [h1]; rfl, fun j hj => by rw [h1] at hj; cases hj⟩
        · exact ⟨_, _, h1, rfl, fun j _ => ⟨bb, rfl, h2⟩⟩
      obtain ⟨hn, hcells⟩ := hcells
      subst hvs
      have HC := Lib.hid hcells
      have HN := Lib.hid hn
      clear hbl hb hrest hvv hva hlo hcells hk hn
      have HQ2 := Lib.hid (show Hid (∀ V, Below W1.heap.size W1 V → V.cell? ⟨b, 2, none⟩ = some q2) from fun V hV => (hV.cell (p := ⟨b, 2, none⟩) HBL.out.lt).trans c2)
      clear c2
      go_wp2_with fail
      go_loopw [20] (fun i wr => ∃ k : Nat, k ≤ n ∧ i = .int .i64 (k : Int) ∧ Hid (∀ j (hj : j < k) (h2 : j < lv.vars.length), lv.vars[j].1 ≠ s) ∧ Below W1.heap.size W1 wr) (fun i _ => n - (intOf i).toNat)
      case atStart => exact ⟨0, Nat.zero_le _, rfl, (show Hid _ from fun j hj => by omega), Below.refl _ _⟩
      case round =>
        obtain ⟨k, hk, rfl, HJ, hb2⟩ := hrel
        have HB2 := Lib.hid hb2
        by_cases hlt : k < n
        · have j1 : (k : Int) < (n : Int) := by omega
          have hlv : k < lv.vars.length := by have := HN.out; omega
          obtain ⟨bb, rfl, hbb⟩ := HC.out k hlv
          have hbb2 : BL wr bb 42 (pairsC lv.vars) := hbb.keep (hb2.block _ hbb.lt)
          obtain ⟨p0, p1⟩ := pairsC_at lv.vars k hlv
          obtain ⟨N, hN⟩ : ∃ N, N = bs lv.vars[k].1 := ⟨_, rfl⟩
          obtain ⟨M, hM⟩ : ∃ M, M = bs lv.vars[k].2 := ⟨_, rfl⟩
          rw [← hN] at p0
          rw [← hM] at p1
          have d0 : wr.cell? ⟨bb, k * 2, none⟩ = some (.string N) := (hbb2.cell _).trans p0
          have d1 : wr.cell? ⟨bb, k * 2 + 1, none⟩ = some (.string M) := (hbb2.cell _).trans p1
          have HR := Lib.hid (hbb2.range (o := k * 2) (vs := [.string N, .string M]) (fun j v hj => by
            match j, hj with
            | 0, hj => rw [Nat.add_zero, p0]; exact hj
            | 1, hj => rw [p1]; exact hj))
          clear hbb hbb2 p0 p1 hb2
          by_cases he : lv.vars[k].1 = s
          · have ht : (N.toList == S.toList) = true := by rw [hN, he, HS.out]; exact beq_self_eq_true _
            have hlk := lookV_at lv.vars s k hlv (fun j hj => HJ.out j hj (by omega)) he
            obtain ⟨hv1, hv2⟩ := value_yes HVV.out hlk
            have HSH := Lib.hid (fun V => short_any lv.vars[k].2 hv2 V)
            rw [← hM] at HSH
            have HRES := Lib.hid (show Value.tuple #[.string M, .bool true] = .tuple #[.string (bs (v.getD [])), .bool v.isSome] by rw [hv1, hM]; rfl)
            clear hv1 hv2 hlk hN hM he
            go_wp2_with fail
            refine (HSH.out _).mono ?_
            rintro _ w9 ⟨rfl, rfl⟩
            go_wp2_with fail
            go_ret2
            exact ⟨congrArg Ending.returned HRES.out, HB.out.trans ((HB2.out.alloc HB2.out.size _).mono HB.out.size)⟩
          · have ht : (N.toList == S.toList) = false := by rw [hN, HS.out, bs_tl, bs_tl]; exact beq_eq_false_iff_ne.2 he
            clear hM hN
            go_wp2_with fail
            go_roundw
            case measure => simp [intOf]; omega
            case rel => exact ⟨k + 1, by omega, by go_num, (show Hid _ from fun j hj h2 => by
              rcases Nat.lt_or_ge j k with hx | hx
              · exact HJ.out j hx h2
              · obtain rfl : j = k := by omega
                exact he), HB2.out.alloc HB2.out.size _⟩
        · obtain rfl : k = n := by omega
          have hv2 : valueF (some rest) s = some v := by
            exact value_no HVV.out (lookV_no lv.vars s (fun j hj => HJ.out j (by have := HN.out; omega) hj))
          have c2 := HQ2.out wr hb2
          have HV2 := Lib.hid hv2
          have HCH := Lib.hid (ChAt.kp (Kp.below hb2) HREST.out)
          clear hb2 hv2
          go_wp2_with fail
          go_roundg rest.length
          case measure => have := HK.out; simp only [List.length_cons] at this; omega
          case rel => exact ⟨rest, rfl, HCH.out, HV2.out, HB.out.trans (HB2.out.mono HB.out.size)⟩
end Go.Proofs.YtbiinghmopgjnaaGreatDoor.Fmt
