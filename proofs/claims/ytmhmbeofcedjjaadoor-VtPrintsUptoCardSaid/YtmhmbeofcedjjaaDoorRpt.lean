/- The walk of the document's own Print, and of the law that actions are written as the chapter says. -/
import Derived.Test.YtmhmbeofcedjjaaDoorRo4
namespace Go.Proofs.YtmhmbeofcedjjaaDoor.Vt
open Go.RowKit
open Cel (Blk Kept Tabs low Owns At good enc)

theorem rda_on {w w' : World} {A : Option Addr} {l : List To} (h : RdA w.heap.size w A l) (hb : Below w.heap.size w w') : RdA w'.heap.size w' A l := fun k hk => by
  obtain ⟨⟨g, o, e, hg, hc⟩, A2, c2, e2, hr⟩ := h k hk
  refine ⟨⟨g, o, e, Nat.lt_of_lt_of_le hg hb.size, fun i hi => (hb.cell (p := ⟨g, o + k * 6 + i, none⟩) hg).trans (hc i hi)⟩, A2, c2, e2, fun j hj => ?_⟩
  obtain ⟨g2, o2, e3, hg2, hc2⟩ := hr j hj
  exact ⟨g2, o2, e3, Nat.lt_of_lt_of_le hg2 hb.size, (hb.cell (p := ⟨g2, o2 + j, none⟩) hg2).trans hc2⟩
set_option maxRecDepth 100000 in
set_option maxHeartbeats 4000000 in
theorem RefPrint_any (A : Option Addr) (c : Nat) (l : List To) (w : World) (h : RdA w.heap.size w A l) (hok : Ok l) (hl : l.length ≤ 70000000000) :
    Calls Tryd.prog 10 #[.slice A l.length c] w fun e w' => e = .returned (.string (bs (prnAll (outs l)))) ∧ Below w.heap.size w w' := by
  have H := Lib.hid h
  have HO := Lib.hid hok
  clear h hok
  go_enter Tryd.func10, Tryd.ntmps10
  go_wp2
  go_loopw [3, 4] (fun v i wr => ∃ k : Nat, k ≤ l.length ∧ i = .int .i64 k ∧ Byts wr w.heap.size v (prnAll (outs (l.take k))) ∧ Below w.heap.size w wr) (fun _ i _ => l.length - (intOf i).toNat)
  case atStart => exact ⟨0, Nat.zero_le _, rfl, byts_nil _ _, Below.refl _ _⟩
  case round =>
    obtain ⟨k, hk, rfl, ho, hb⟩ := hrel
    by_cases hlt : k < l.length
    · obtain ⟨⟨g, o, rfl, hg, hcell⟩, A2, c2, hv, hr⟩ := H.out k hlt
      obtain ⟨hf, hb0, hb1⟩ := HO.out l[k] (List.getElem_mem _)
      have HN := Lib.hid (prn_take hlt)
      have hlen : (prnAll (outs (l.take k))).length ≤ 140737488340000 := by
        have := prnAll_len (outs (l.take k))
        rw [outs_len, List.length_take] at this
        omega
      have hs := hb.size
      have hrd : ∀ i, i < 6 → wr.cell? ⟨g, o + k * 6 + i, none⟩ = (acL l[k])[i]? := fun i hi => (hb.cell (p := ⟨g, o + k * 6 + i, none⟩) hg).trans (hcell i hi)
      generalize l[k] = t at *
      obtain ⟨a, u⟩ := t
      simp only at hv hr hf hb0 hb1
      subst hv
      have x0 : wr.cell? ⟨g, o + k * 6, none⟩ = some (.int .i64 a.k) := hrd 0 (by omega)
      have x1 : wr.cell? ⟨g, o + k * 6 + 1, none⟩ = some (.int .i32 a.r) := hrd 1 (by omega)
      have x2 : wr.cell? ⟨g, o + k * 6 + 2, none⟩ = some (.int .u8 a.b) := hrd 2 (by omega)
      have x3 : wr.cell? ⟨g, o + k * 6 + 3, none⟩ = some (.slice A2 a.ps.length c2) := hrd 3 (by omega)
      have x4 : wr.cell? ⟨g, o + k * 6 + 4, none⟩ = some (.string (bs a.it)) := hrd 4 (by omega)
      have x5 : wr.cell? ⟨g, o + k * 6 + 5, none⟩ = some (.string (bs a.tx)) := hrd 5 (by omega)
      clear hrd hcell
      have hone := One_any a A2 c2 wr ((hr.below hb).rd hs) hf hb0 hb1
      have hpl := prnO_len a
      unfold OneR at hone
      have HONE := Lib.hid hone
      have i1 : (0 : Int) ≤ (k : Int) := by omega
      have i2 : (k : Int) < (l.length : Int) := by omega
      clear hr hone
      go_wp2_with fail
      refine HONE.out.mono ?_
      rintro e w2 ⟨rfl, hb2⟩
      have ho2 := (Cel.below_kept hb2 fun _ => False).owns ho fun _ _ h => h
      have hb2w := hb.trans (hb2.mono hs)
      have hs2 := hb2w.size
      have hln : (prnAll (outs (l.take k))).length + (prnO a).length ≤ 140737488355328 := by omega
      go_wp2_with (at_builtin; refine wpList_append_btext rfl (.tmp 17) (.tmp 18) rfl w.heap.size u3 (prnAll (outs (l.take k))) (prnO a) rfl ho2 (bs (prnO a)) rfl rfl hs2 hln ?_; intro v3 w3 ho3 hb3)
      go_roundw
      case rel => exact ⟨k + 1, by omega, by go_num, by rw [HN.out]; exact ho3, hb2w.trans hb3.1⟩
      case measure => simp [intOf]; omega
    · obtain rfl : k = l.length := by omega
      rw [List.take_of_length_le (Nat.le_refl _)] at ho
      have hcv := convert_byts ho
      go_wp2
      go_ret
      exact ⟨rfl, hb⟩
set_option maxRecDepth 100000 in
set_option maxHeartbeats 4000000 in
theorem lawPrints_walk (A : Option Addr) (c : Nat) (l : List To) (w : World) (ht : Tabs w) (hlow : low ≤ w.heap.size) (h : RdA w.heap.size w A l) (hok : Ok l) (hl : l.length ≤ 70000000000) :
    Calls Tryd.prog 3 #[.slice A l.length c] w fun e w' => e = .returned (.bool true) ∧ Below w.heap.size w w' := by
  have hsh := shown_any w ht hlow
  go_enter Tryd.func3, Tryd.ntmps3
  go_wp2_with fail
  refine hsh.mono ?_
  rintro e w1 ⟨rfl, hb1⟩
  have hb0 : Below w.heap.size w w1.drew := ⟨hb1.os, hb1.tape, hb1.output, hb1.size, hb1.block⟩
  have HP : Hid (∀ W, Below w.heap.size w W → Calls Tryd.prog 9 #[.slice A l.length c] W fun e w' => ∃ v, e = .returned v ∧ Byts w' W.heap.size v (prnAll (outs l)) ∧ Below w.heap.size w w') := fun W hW =>
    (Print_any A c l W (ht.below hW hlow) (Nat.le_trans hlow hW.size) (rda_on h hW) hok hl).mono fun e w' ⟨v, he, ho, hb⟩ => ⟨v, he, ho, hW.trans (hb.1.mono hW.size)⟩
  have HR : Hid (∀ W, Below w.heap.size w W → Calls Tryd.prog 10 #[.slice A l.length c] W fun e w' => e = .returned (.string (bs (prnAll (outs l)))) ∧ Below w.heap.size w w' ∧ Hid (∀ B v k, Byts W B v k → Byts w' B v k)) := fun W hW =>
    (RefPrint_any A c l W (rda_on h hW) hok hl).mono fun e w' ⟨he, hb⟩ => ⟨he, hW.trans (hb.mono hW.size), fun B v k ho => (Cel.below_kept hb fun _ => False).owns ho fun _ _ q => q⟩
  clear h hok hb1
  generalize prnAll (outs l) = E at *
  go_wp2_with fail
  go_region_with (first
    | (go_at_call 9; refine (HP.out _ (by assumption)).mono ?_; rintro e w2 ⟨v2, rfl, ho2, hb2⟩; have hcv2 := convert_byts ho2)
    | (go_at_call 10; refine (HR.out _ (by assumption)).mono ?_; rintro e w3 ⟨rfl, hb3, hk3⟩; try (have hcv3 := convert_byts (hk3.out _ _ _ ho2))))
  all_goals
    go_wp2
    go_ret
    exact ⟨rfl, by assumption⟩
end Go.Proofs.YtmhmbeofcedjjaaDoor.Vt
