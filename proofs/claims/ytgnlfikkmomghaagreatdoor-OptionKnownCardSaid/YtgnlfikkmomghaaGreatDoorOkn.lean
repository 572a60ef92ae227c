/- Known, for every text. -/
import Derived.Test.YtgnlfikkmomghaaGreatDoorObg
namespace Go.Proofs.YtgnlfikkmomghaaGreatDoor.Opt
open Go.RowKit

def knownP (l : Tx) : Tx × Tx × Int :=
  match namedP l with
  | some (o, _) => (l, o.kind, 0)
  | none =>
    if l = [] ∨ foundL (cutItemP l).1 = [] then ([], [], 6)
    else if 1 < (foundL (cutItemP l).1).length then ([], [], 3)
    else if (cutItemP l).2 ≠ -1 ∧ ((foundL (cutItemP l).1).headD noOpt).kind ≠ arrK then ([], [], 6)
    else (((foundL (cutItemP l).1).headD noOpt).name ++ l.drop (cutItemP l).1.length, ((foundL (cutItemP l).1).headD noOpt).kind, 0)
theorem cutItemP_le (l : Tx) : (cutItemP l).1.length ≤ l.length := by
  unfold cutItemP
  split
  · exact Nat.le_refl _
  · exact (cutP_le l).1

theorem found_le {a : Tx} (o : Op8) (ho : o ∈ foundL a) : o.name.length ≤ 100 := by
  have h : tabL.all (fun o => decide (o.name.length ≤ 100)) = true := by decide
  exact of_decide_eq_true (List.all_eq_true.1 h o (List.mem_filter.1 ho).1)
theorem row_form {w : World} {B : Nat} {v : Value} {fs : List Op8} (h : w.ownsRow B 93 7 v fs.length (cellsO fs)) : ∃ A C, v = .slice A fs.length C ∧ (∀ o r, fs = o :: r → ∃ g, A = some ⟨g, 0, none⟩ ∧ fs.length ≤ C ∧ w.cell? ⟨g, 0, none⟩ = some (.string (bs o.name)) ∧ w.cell? ⟨g, 2, none⟩ = some (.string (bs o.kind))) := by
  rcases h.2 with ⟨rfl, hz⟩ | ⟨g, cap, cur, rfl, hb, hg, h1, h2, h3, h4⟩
  · exact ⟨none, 0, by rw [hz], fun o r e => by rw [e] at hz; cases hz⟩
  · refine ⟨_, _, rfl, fun o r e => ⟨g, rfl, h1, ?_, ?_⟩⟩
    · have := h.cells (g := g) rfl 0 (.string (bs o.name)) (by rw [e]; rfl)
      rwa [Addr.add_mid] at this
    · have := h.cells (g := g) rfl 2 (.string (bs o.kind)) (by rw [e]; rfl)
      rwa [Addr.add_mid] at this

set_option maxRecDepth 100000 in
set_option maxHeartbeats 4000000 in
theorem known_any {B : Nat} (l : Tx) (hl : l.length ≤ 140737488355328) (w : World) (ht : Tabs B w) (hB : B ≤ w.heap.size) :
    Calls Tryz.prog 14 #[.string (bs l)] w fun e w' => e = .returned (.tuple #[.string (bs (knownP l).1), .string (bs (knownP l).2.1), .int .i64 (knownP l).2.2]) ∧ Below w.heap.size w w' := by
  have H1 := Lib.hid (named_any l hl w ht hB)
  have H2 := Lib.hid (fun w' (ht' : Tabs B w') (hB' : B ≤ w'.heap.size) => cutItem_any l hl w' ht' hB')
  have HT := Lib.hid ht
  obtain ⟨R, hR⟩ : ∃ R, R = knownP l := ⟨_, rfl⟩
  rw [← hR]
  have HR := Lib.hid hR
  have hsl : (bs l).size = l.length := bs_size l
  clear hR ht
  cases hn : namedP l with
  | some oi =>
    obtain ⟨⟨nm, sc, kd, fi, le, mo, ch⟩, i⟩ := oi
    have HV := Lib.hid (show R = (l, kd, 0) by rw [HR.out, knownP, hn])
    have h1 := H1.out
    rw [hn] at h1
    have H1b := Lib.hid h1
    clear h1 H1 H2 hn
    go_enter Tryz.func14, Tryz.ntmps14
    go_wp2_with fail
    refine H1b.out.mono ?_
    rintro e w1 ⟨rfl, hb1⟩
    have HB := Lib.hid hb1
    clear hb1 H1b
    dsimp only [namedV, placeV, placeL]
    go_wp2_with fail
    go_region
    go_wp2_with fail
    go_ret3
    exact ⟨by rw [HV.out]; rfl, (HB.out.alloc HB.out.size _).drew⟩
  | none =>
    have h1 := H1.out
    rw [hn] at h1
    have H1b := Lib.hid h1
    have HV0 := Lib.hid (show R = if l = [] ∨ foundL (cutItemP l).1 = [] then ([], [], 6) else if 1 < (foundL (cutItemP l).1).length then ([], [], 3) else if (cutItemP l).2 ≠ -1 ∧ ((foundL (cutItemP l).1).headD noOpt).kind ≠ arrK then ([], [], 6)
      else (((foundL (cutItemP l).1).headD noOpt).name ++ l.drop (cutItemP l).1.length, ((foundL (cutItemP l).1).headD noOpt).kind, 0) by rw [HR.out, knownP, hn])
    have hle := cutItemP_le l
    clear h1 H1 hn HR
    generalize (cutItemP l).2 = i at H2 HV0
    generalize (cutItemP l).1 = a at H2 HV0 hle
    go_enter Tryz.func14, Tryz.ntmps14
    go_wp2_with fail
    refine H1b.out.mono ?_
    rintro e w1 ⟨rfl, hb1⟩
    have HB := Lib.hid hb1
    clear hb1 H1b
    dsimp only [namedV, placeV, placeL, noOpt]
    go_wp2_with fail
    have hbA := HB.out.alloc HB.out.size (.cells #[.string (bs []), .int .i64 0, .string (bs []), .string (bs []), .int .i64 0, .int .i64 0, .string (bs []), .int .i64 0] 95)
    refine (H2.out _ (HT.out.below (hbA.mono hB)) (Nat.le_trans hB hbA.size)).mono ?_
    clear H2 HB
    rintro e w2 ⟨rfl, hb2⟩
    have HB2 := Lib.hid (hbA.trans (hb2.mono hbA.size))
    clear hbA hb2
    go_wp2_with fail
    refine (beginning_any a w2).mono ?_
    rintro e w3 ⟨v, rfl, hrow, hb3⟩
    have HB3 := Lib.hid (HB2.out.trans (hb3.mono HB2.out.size))
    obtain ⟨A, C, rfl, hform⟩ := row_form hrow
    clear hrow hb3 HB2
    have hem : (bs l).toList.isEmpty = l.isEmpty := by rw [bs_tl]
    have hmem : ∀ o ∈ foundL a, o.name.length ≤ 100 := fun o ho => found_le o ho
    generalize foundL a = fs at HV0 hform hmem ⊢
    by_cases hl0 : l = []
    · have HV := Lib.hid (show R = ([], [], 6) by rw [HV0.out, if_pos (.inl hl0)])
      have hem2 : (bs l).toList.isEmpty = true := by rw [hem, hl0]; rfl
      clear hem hform HV0 hl0 hmem
      go_wp2_with fail
      go_ret3
      exact ⟨by rw [HV.out]; rfl, HB3.out⟩
    · have hem2 : (bs l).toList.isEmpty = false := by rw [hem]; cases l with | nil => exact absurd rfl hl0 | cons _ _ => rfl
      clear hem
      rcases fs with _ | ⟨⟨nm, sc, kd, fi, le, mo, ch⟩, _ | ⟨o2, r⟩⟩
      · have HV := Lib.hid (show R = ([], [], 6) by rw [HV0.out, if_pos (.inr rfl)])
        clear hform HV0 hmem
        go_wp2_with fail
        go_ret3
        exact ⟨by rw [HV.out]; rfl, HB3.out⟩
      · obtain ⟨g, rfl, hC, c0, c2⟩ := hform _ _ rfl
        have e1 : R = if i ≠ -1 ∧ kd ≠ arrK then ([], [], 6) else (nm ++ l.drop a.length, kd, 0) := by
          rw [HV0.out, if_neg (by simp [hl0]), if_neg (by simp)]; rfl
        have E1 := Lib.hid e1
        have hnl : nm.length ≤ 100 := hmem ⟨nm, sc, kd, fi, le, mo, ch⟩ (by simp)
        have hnm : (bs nm).size = nm.length := bs_size nm
        have hex : ((bs l).extract a.length l.length).size = l.length - a.length := by rw [ByteArray.size_extract, hsl]; omega
        clear hform HV0 e1 hl0 hmem
        dsimp only at c0 c2
        have hlen : (bs a).size = a.length := bs_size a
        have hcut : bs nm ++ (bs l).extract a.length l.length = bs (nm ++ l.drop a.length) := by
          rw [cut_ext, List.take_of_length_le (Nat.le_refl _), bs_app]
        have HC := Lib.hid hcut
        clear hcut
        have hle2 : (a.length : Int) ≤ ((bs l).size : Int) := by omega
        by_cases hi : i = -1
        · have HV := Lib.hid (show R = (nm ++ l.drop a.length, kd, 0) by rw [E1.out, if_neg (by simp [hi])])
          have hj2 : decide (i = -1) = true := decide_eq_true hi
          have hj3 : (i != -1) = false := by simp [hi]
          clear E1
          go_wp2_with fail
          go_region
          go_wp2_with fail
          go_ret3
          exact ⟨by rw [HV.out, ← HC.out]; rfl, HB3.out.drew⟩
        · have hj2 : decide (i = -1) = false := decide_eq_false hi
          have hj3 : (i != -1) = true := by simp [hi]
          by_cases hkd : kd = arrK
          · have HV := Lib.hid (show R = (nm ++ l.drop a.length, kd, 0) by rw [E1.out, if_neg (by simp [hkd])])
            have ek : ((bs kd).toList == [97, 114, 114, 97, 121]) = true := by rw [bs_tl, hkd]; rfl
            clear E1 hi hkd
            go_wp2_with fail
            go_region
            go_wp2_with fail
            go_ret3
            exact ⟨by rw [HV.out, ← HC.out]; rfl, HB3.out.drew⟩
          · have HV := Lib.hid (show R = ([], [], 6) by rw [E1.out, if_pos ⟨hi, hkd⟩])
            have ek : ((bs kd).toList == [97, 114, 114, 97, 121]) = false := by rw [bs_tl]; exact beq_eq_false_iff_ne.2 hkd
            clear E1 hi hkd
            go_wp2_with fail
            go_ret3
            exact ⟨by rw [HV.out]; rfl, HB3.out⟩
      · have HV := Lib.hid (show R = ([], [], 3) by rw [HV0.out, if_neg (by simp [hl0]), if_pos (by simp)])
        clear hform HV0 hmem
        simp only [List.length_cons]
        go_wp2_with fail
        go_ret3
        exact ⟨by rw [HV.out]; rfl, HB3.out⟩
end Go.Proofs.YtgnlfikkmomghaaGreatDoor.Opt
