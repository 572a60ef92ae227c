/- An item's name, and what stands ahead of its bracket. -/
import Derived.Test.YtgnlfikkmomghaaGreatDoorOcu
import Derived.Lib.ItoaLen
namespace Go.Proofs.YtgnlfikkmomghaaGreatDoor.Opt
open Go.RowKit

def itemP (a : Tx) (n : Int) : Tx := a ++ ([91] ++ (Lib.itoa n ++ [93]))
set_option maxRecDepth 100000 in
set_option maxHeartbeats 2000000 in
theorem itemName_any {B : Nat} (a : Tx) (n : Int) (h0 : -9223372036854775808 ≤ n) (h1 : n ≤ 9223372036854775807) (hl : a.length ≤ 281474976710656) (hl2 : (Lib.itoa n).length ≤ 100) (w : World) (ht : Tabs B w) :
    Calls Tryz.prog 45 #[.string (bs a), .int .i64 n] w fun e w' => e = .returned (.string (bs (itemP a n))) ∧ Below w.heap.size w w' := by
  have H1 := Lib.hid (itoa_any n h0 h1 w ht)
  have hsz : (bs a).size = a.length := bs_size a
  have hsz2 : (bs (Lib.itoa n)).size = (Lib.itoa n).length := bs_size _
  have e1 : ((bs a ++ ⟨#[91]⟩) ++ bs (Lib.itoa n)) ++ ⟨#[93]⟩ = bs (itemP a n) := by
    show ((bs a ++ bs [91]) ++ bs (Lib.itoa n)) ++ bs [93] = _
    rw [bs_app, bs_app, bs_app]; simp [itemP, List.append_assoc]
  have E1 := Lib.hid e1
  clear e1 ht
  go_enter Tryz.func45, Tryz.ntmps45
  go_wp2_with fail
  refine H1.out.mono ?_
  rintro e w' ⟨rfl, hb⟩
  have HB := Lib.hid hb
  clear hb H1
  go_wp2_with fail
  go_ret
  exact ⟨by rw [E1.out]; rfl, HB.out⟩

def cutItemP (l : Tx) : Tx × Int :=
  if (atoiP (Lib.trimSuffix (cutP l).2.1 [93])).2 = true ∨ (atoiP (Lib.trimSuffix (cutP l).2.1 [93])).1 < 0 ∨ 1000 ≤ (atoiP (Lib.trimSuffix (cutP l).2.1 [93])).1 ∨ l ≠ itemP (cutP l).1 (atoiP (Lib.trimSuffix (cutP l).2.1 [93])).1 then (l, -1)
  else ((cutP l).1, (atoiP (Lib.trimSuffix (cutP l).2.1 [93])).1)
theorem cutP_le (l : Tx) : (cutP l).1.length ≤ l.length ∧ (cutP l).2.1.length ≤ l.length := by
  unfold cutP
  split <;> simp <;> omega
theorem trimSuffix_le (l p : Tx) : (Lib.trimSuffix l p).length ≤ l.length := by unfold Lib.trimSuffix; split <;> simp
set_option maxRecDepth 100000 in
set_option maxHeartbeats 2000000 in
theorem cutItem_any {B : Nat} (l : Tx) (hl : l.length ≤ 140737488355328) (w : World) (ht : Tabs B w) (hB : B ≤ w.heap.size) :
    Calls Tryz.prog 48 #[.string (bs l)] w fun e w' => e = .returned (.tuple #[.string (bs (cutItemP l).1), .int .i64 (cutItemP l).2]) ∧ Below w.heap.size w w' := by
  have H1 := Lib.hid (cut_at l (by omega) w)
  have hle := cutP_le l
  have hle2 := trimSuffix_le (cutP l).2.1 [93]
  have h2 : ∀ w', Calls Tryz.prog 90 #[.string (bs (cutP l).2.1), .string ⟨#[93]⟩] w' fun e w'' => e = .returned (.string (bs (Lib.trimSuffix (cutP l).2.1 [93]))) ∧ w'' = w' := fun w' => by
    have := Tryz.strings_TrimSuffix (bs (cutP l).2.1) ⟨#[93]⟩ w' (by rw [bs_size]; omega)
    rw [bs_list] at this
    exact this
  have H2 := Lib.hid h2
  have HT := Lib.hid ht
  have H3 := Lib.hid (fun w' (ht' : Tabs B w') => atoi_any (Lib.trimSuffix (cutP l).2.1 [93]) (by omega) w' ht')
  have H4 := Lib.hid (fun n w' (h0 : 0 ≤ n) (h1 : n < 1000) (ht' : Tabs B w') => itemName_any (cutP l).1 n (by omega) (by omega) (by omega) (by have := Lib.itoa_length_le n (by omega) (by omega); omega) w' ht')
  have he : cutItemP l = if (atoiP (Lib.trimSuffix (cutP l).2.1 [93])).2 = true ∨ (atoiP (Lib.trimSuffix (cutP l).2.1 [93])).1 < 0 ∨ 1000 ≤ (atoiP (Lib.trimSuffix (cutP l).2.1 [93])).1 ∨ l ≠ itemP (cutP l).1 (atoiP (Lib.trimSuffix (cutP l).2.1 [93])).1 then (l, -1)
    else ((cutP l).1, (atoiP (Lib.trimSuffix (cutP l).2.1 [93])).1) := rfl
  rw [he]
  clear he ht h2 hle hle2
  generalize Lib.trimSuffix (cutP l).2.1 [93] = d at H2 H3 ⊢
  generalize (cutP l).2.2 = k at H1
  generalize (cutP l).2.1 = b at H1 H2
  generalize (cutP l).1 = a at H1 H4 ⊢
  generalize atoiP d = r at H3 ⊢
  obtain ⟨v, x⟩ := r
  dsimp only at H3 ⊢
  obtain ⟨R, hR⟩ : ∃ R : Tx × Int, R = if x = true ∨ v < 0 ∨ 1000 ≤ v ∨ l ≠ itemP a v then (l, -1) else (a, v) := ⟨_, rfl⟩
  rw [← hR]
  have HR := Lib.hid hR
  clear hR
  go_enter Tryz.func48, Tryz.ntmps48
  go_wp2_with fail
  refine H1.out.mono ?_
  rintro e w1 ⟨rfl, hb1⟩
  have HB1 := Lib.hid hb1
  have HT1 := Lib.hid (HT.out.below (hb1.mono hB))
  clear hb1 H1
  go_wp2_with fail
  refine (H2.out w1).mono ?_
  rintro e w2 ⟨rfl, rfl⟩
  clear H2
  go_wp2_with fail
  refine (H3.out w2 HT1.out).mono ?_
  rintro e w3 ⟨⟨ev, rfl, hev⟩, hb3⟩
  have HB3 := Lib.hid (HB1.out.trans (hb3.mono HB1.out.size))
  have HT3 := Lib.hid (HT1.out.below (hb3.mono (Nat.le_trans hB HB1.out.size)))
  clear hb3 H3
  cases x with
  | true =>
    rw [if_pos rfl] at hev
    obtain ⟨te, pe, rfl⟩ := hev
    have HV := Lib.hid (show R = (l, -1) by rw [HR.out, if_pos (.inl rfl)])
    go_wp2_with fail
    go_ret2
    exact ⟨by rw [HV.out]; rfl, HB3.out⟩
  | false =>
    obtain rfl : ev = .nilIface := by simpa using hev
    clear hev
    by_cases hv0 : v < 0
    have HV := Lib.hid (show R = (l, -1) by rw [HR.out, if_pos (.inr (.inl hv0))])
    · go_wp2_with fail
      go_ret2
      exact ⟨by rw [HV.out]; rfl, HB3.out⟩
    · by_cases hv1 : 1000 ≤ v
      · have hv1' : v ≥ 1000 := hv1
        have HV := Lib.hid (show R = (l, -1) by rw [HR.out, if_pos (.inr (.inr (.inl hv1)))])
        go_wp2_with fail
        go_ret2
        exact ⟨by rw [HV.out]; rfl, HB3.out⟩
      · have d0 : decide (v < 0) = false := decide_eq_false hv0
        have d1 : decide (1000 ≤ v) = false := decide_eq_false hv1
        have H5 := Lib.hid (H4.out v w3 (by omega) (by omega) HT3.out)
        clear H4
        by_cases hq : l = itemP a v
        · have hx : bs l = bs (itemP a v) := by rw [← hq]
          have HX := Lib.hid hx
          clear hx
          have hv1' : ¬ v ≥ 1000 := hv1
          have HV := Lib.hid (show R = (a, v) by rw [HR.out, if_neg (by simp only [Bool.false_eq_true, false_or, not_or]; exact ⟨hv0, hv1, fun h => h hq⟩)])
          go_wp2_with fail
          refine H5.out.mono ?_
          rintro e w4 ⟨rfl, hb4⟩
          have HB4 := Lib.hid (HB3.out.trans (hb4.mono HB3.out.size))
          clear hb4 H5
          rw [← HX.out]
          go_wp2_with fail
          go_ret2
          exact ⟨by rw [HV.out]; rfl, HB4.out⟩
        · have hx : ((bs l).toList == (bs (itemP a v)).toList) = false := by rw [bs_tl, bs_tl]; exact beq_eq_false_iff_ne.2 hq
          have hv1' : ¬ v ≥ 1000 := hv1
          have HQ := Lib.hid hq
          clear hq
          have HV := Lib.hid (show R = (l, -1) by rw [HR.out, if_pos (.inr (.inr (.inr HQ.out)))])
          go_wp2_with fail
          refine H5.out.mono ?_
          rintro e w4 ⟨rfl, hb4⟩
          have HB4 := Lib.hid (HB3.out.trans (hb4.mono HB3.out.size))
          clear hb4 H5
          go_wp2_with fail
          go_ret2
          exact ⟨by rw [HV.out]; rfl, HB4.out⟩
end Go.Proofs.YtgnlfikkmomghaaGreatDoor.Opt
