/- format: what there is of a kind to go over. -/
import Derived.Test.YtbiinghmopgjnaaGreatDoorFfi
namespace Go.Proofs.YtbiinghmopgjnaaGreatDoor.Fmt
open Go.RowKit

theorem two_at {α : Type} (f g : α → Value) : ∀ (l : List α) (i : Nat) (h : i < l.length), (l.flatMap fun x => [f x, g x])[i * 2]? = some (f l[i]) ∧ (l.flatMap fun x => [f x, g x])[i * 2 + 1]? = some (g l[i])
  | p :: l, 0, _ => ⟨rfl, rfl⟩
  | p :: l, i + 1, h => by
    have := two_at f g l i (by simpa using h)
    have e : ((p :: l).flatMap fun x => [f x, g x]) = [f p, g p] ++ l.flatMap fun x => [f x, g x] := rfl
    rw [e, List.getElem?_append_right (by simp; omega), List.getElem?_append_right (by simp; omega)]
    simp only [List.length_cons, List.length_nil, List.getElem_cons_succ]
    rw [show (i + 1) * 2 - (0 + 1 + 1) = i * 2 by omega, show (i + 1) * 2 + 1 - (0 + 1 + 1) = i * 2 + 1 by omega]
    exact this
theorem lookL_at : ∀ (l : List (UInt8 × List Vs)) (s : UInt8) (k : Nat) (h : k < l.length), (∀ j (hj : j < k), l[j].1 ≠ s) → l[k].1 = s → lookL l s = some l[k].2
  | (n, v) :: l, s, 0, _, _, he => by unfold lookL; rw [if_pos (show n = s from he)]; rfl
  | (n, v) :: l, s, k + 1, h, hn, he => by
    unfold lookL
    rw [if_neg (show ¬ n = s from hn 0 (by omega))]
    exact lookL_at l s k (by simpa using h) (fun j hj => hn (j + 1) (by omega)) he
theorem lookL_no : ∀ (l : List (UInt8 × List Vs)) (s : UInt8), (∀ j (hj : j < l.length), l[j].1 ≠ s) → lookL l s = none
  | [], _, _ => rfl
  | (n, v) :: l, s, hn => by
    unfold lookL
    rw [if_neg (show ¬ n = s from hn 0 (by simp))]
    exact lookL_no l s (fun j hj => hn (j + 1) (by simpa using hj))
theorem loopP_no {lv : Lv} {rest : List Lv} {s : UInt8} (hl : lookL lv.loops s = none) : loopP (lv :: rest) s = loopP rest s := by simp only [loopP, hl]
theorem loopP_yes {lv : Lv} {rest : List Lv} {s : UInt8} {x : List Vs} (hl : lookL lv.loops s = some x) : loopP (lv :: rest) s = x := by simp only [loopP, hl]
def ScsN (w : World) (v : Value) (l : List Vs) : Prop := (l = [] ∧ v = .slice none 0 0) ∨ ScsAt w v l

set_option maxRecDepth 100000 in
set_option maxHeartbeats 4000000 in
theorem loop_any (w : World) (p : Value) (ch : List Lv) (s : UInt8) (h : ChAt w p ch) :
    Calls Tryz.prog 41 #[p, .int .u8 (s.toNat : Int)] w fun e w' => ∃ v, e = .returned v ∧ ScsN w' v (loopP ch s) ∧ Below w.heap.size w w' := by
  obtain ⟨L, hL⟩ : ∃ L, L = loopP ch s := ⟨_, rfl⟩
  rw [← hL]
  have HL := Lib.hid hL
  have H := Lib.hid h
  clear h hL
  go_enter Tryz.func41, Tryz.ntmps41
  go_wp2_with fail
  go_loopg [0] ch.length (fun k q wr => ∃ rest, rest.length = k ∧ ChAt wr q rest ∧ L = loopP rest s ∧ Below w.heap.size w wr)
  case atStart => exact ⟨ch, rfl, H.out, HL.out, Below.refl _ _⟩
  case round =>
    obtain ⟨rest, hk, hch, hvv, hb⟩ := hrel
    clear HL H
    cases rest with
    | nil =>
      obtain rfl : _ = Value.pointer none := hch
      have HE := Lib.hid (show L = [] from hvv)
      have HB := Lib.hid hb
      clear hvv hb hk
      go_wp2_with fail
      go_ret
      exact ⟨_, rfl, .inl ⟨HE.out, rfl⟩, HB.out⟩
    | cons lv rest =>
      obtain ⟨W1, hW1⟩ : ∃ W1, W1 = wr := ⟨_, rfl⟩
      subst hW1
      obtain ⟨b, vv, lo, q2, rfl, hbl, hva, hlo, hrest⟩ := hch
      have c1 : W1.cell? ⟨b, 1, none⟩ = some lo := hbl.cell 1
      have c2 : W1.cell? ⟨b, 2, none⟩ = some q2 := hbl.cell 2
      have HBL := Lib.hid hbl
      have HB := Lib.hid hb
      have HREST := Lib.hid hrest
      have HVV := Lib.hid hvv
      have HK := Lib.hid hk
      obtain ⟨A, n, ss, ⟨hvs, hn0⟩, hn, hcells⟩ : ∃ (A : Option Addr) (n : Nat) (ss : List Value), (lo = .slice A n n ∧ n ≤ 1000000) ∧ n = lv.loops.length ∧ ∀ j (hj : j < lv.loops.length), ∃ bb, A = some ⟨bb, 0, none⟩ ∧ BL W1 bb 45 ((lv.loops.zip ss).flatMap fun p => [.int .u8 (p.1.1.toNat : Int), p.2]) ∧ ss.length = lv.loops.length ∧ ∀ (i : Nat) u x, ss[i]? = some u → lv.loops[i]? = some x → ScsAt W1 u x.2 := by
        rcases hlo with ⟨h1, h2⟩ | ⟨bb, ss, h1, h2, h3, h4⟩
        · exact ⟨none, 0, [], ⟨h2, by omega⟩, by rw [h1]; rfl, fun j hj => by rw [h1] at hj; cases hj⟩
        · exact ⟨_, _, ss, h1, rfl, fun j _ => ⟨bb, rfl, h3, h2, h4⟩⟩
      subst hvs
      have HC := Lib.hid hcells
      have HN := Lib.hid hn
      clear hbl hb hrest hvv hva hlo hcells hk hn
      have HQ2 := Lib.hid (show Hid (∀ V, Below W1.heap.size W1 V → V.cell? ⟨b, 2, none⟩ = some q2) from fun V hV => (hV.cell (p := ⟨b, 2, none⟩) HBL.out.lt).trans c2)
      clear c2
      go_wp2_with fail
      go_loopw [19] (fun i wz => ∃ k : Nat, k ≤ n ∧ i = .int .i64 (k : Int) ∧ Hid (∀ j (hj : j < k) (h2 : j < lv.loops.length), lv.loops[j].1 ≠ s) ∧ Below W1.heap.size W1 wz) (fun i _ => n - (intOf i).toNat)
      case atStart => exact ⟨0, Nat.zero_le _, rfl, (show Hid _ from fun j hj => by omega), Below.refl _ _⟩
      case round =>
        obtain ⟨k, hk, rfl, HJ, hb2⟩ := hrel
        have HB2 := Lib.hid hb2
        by_cases hlt : k < n
        · have j1 : (k : Int) < (n : Int) := by omega
          have hlv : k < lv.loops.length := by have := HN.out; omega
          obtain ⟨bb, rfl, hbb, hss, hsc⟩ := HC.out k hlv
          have hbb2 := hbb.keep (hb2.block _ hbb.lt)
          have hzk : k < (lv.loops.zip ss).length := by rw [List.length_zip, hss]; omega
          obtain ⟨p0, p1⟩ := two_at (fun p : (UInt8 × List Vs) × Value => .int .u8 (p.1.1.toNat : Int)) (fun p => p.2) (lv.loops.zip ss) k hzk
          have hks : k < ss.length := by omega
          have ez : (lv.loops.zip ss)[k] = (lv.loops[k], ss[k]) := List.getElem_zip
          rw [ez] at p0 p1
          obtain ⟨c, hc⟩ : ∃ c, c = lv.loops[k].1 := ⟨_, rfl⟩
          obtain ⟨M, hM⟩ : ∃ M, M = ss[k] := ⟨_, rfl⟩
          simp only at p0 p1
          rw [← hc] at p0
          rw [← hM] at p1
          have hsk := (hsc k M lv.loops[k] (by rw [hM]; exact List.getElem?_eq_getElem hks) (List.getElem?_eq_getElem hlv))
          obtain ⟨gb, us, ⟨eM, _⟩, _⟩ := id hsk
          have HSK := Lib.hid (hsk.kp (Kp.below (HB2.out.alloc HB2.out.size (.cells #[.int .u8 (c.toNat : Int), M] 45))))
          have d0 : wr.cell? ⟨bb, k * 2, none⟩ = some (.int .u8 (c.toNat : Int)) := (hbb2.cell _).trans p0
          have d1 : wr.cell? ⟨bb, k * 2 + 1, none⟩ = some M := (hbb2.cell _).trans p1
          clear hbb hbb2 p0 p1 hb2 hsc hss ez hsk hM
          by_cases he : lv.loops[k].1 = s
          · have ht : (c.toNat : Int) = (s.toNat : Int) := by rw [hc, he]
            have hlk := lookL_at lv.loops s k hlv (fun j hj => HJ.out j hj (by omega)) he
            have HRES := Lib.hid (show L = lv.loops[k].2 by rw [HVV.out, loopP_yes hlk])
            have hsk2 := HSK.out
            rw [ht] at hsk2
            have HSK2 := Lib.hid hsk2
            clear hlk he hc hsk2 HSK
            subst eM
            go_wp2_with fail
            go_ret
            exact ⟨_, rfl, .inr (by rw [HRES.out]; exact HSK2.out), HB.out.trans ((HB2.out.alloc HB2.out.size _).mono HB.out.size)⟩
          · have ht : ¬ (c.toNat : Int) = (s.toNat : Int) := by rw [hc]; exact fun h => he (u8_int h)
            clear hc
            subst eM
            go_wp2_with fail
            go_roundw
            case measure => simp [intOf]; omega
            case rel => exact ⟨k + 1, by omega, by go_num, (show Hid _ from fun j hj h2 => by
              rcases Nat.lt_or_ge j k with hx | hx
              · exact HJ.out j hx h2
              · obtain rfl : j = k := by omega
                exact he), HB2.out.alloc HB2.out.size _⟩
        · obtain rfl : k = n := by omega
          have HV2 := Lib.hid (show L = loopP rest s by rw [HVV.out]; exact loopP_no (lookL_no lv.loops s (fun j hj => HJ.out j (by have := HN.out; omega) hj)))
          have c2 := HQ2.out wr hb2
          have HCH := Lib.hid (ChAt.kp (Kp.below hb2) HREST.out)
          clear hb2
          go_wp2_with fail
          go_roundg rest.length
          case measure => have := HK.out; simp only [List.length_cons] at this; omega
          case rel => exact ⟨rest, rfl, HCH.out, HV2.out, HB.out.trans (HB2.out.mono HB.out.size)⟩
end Go.Proofs.YtbiinghmopgjnaaGreatDoor.Fmt
