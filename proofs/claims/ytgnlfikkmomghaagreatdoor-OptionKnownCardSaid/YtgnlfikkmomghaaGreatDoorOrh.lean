/- The chapter's Known walked. -/
import Derived.Test.YtgnlfikkmomghaaGreatDoorOrf
namespace Go.Proofs.YtgnlfikkmomghaaGreatDoor.Opt
open Go.RowKit

def begD (a : Tx) (o : RowD) : Bool := decide (a.length ≤ o.name.length) && o.name.take a.length == a
def lastD (os : List RowD) : RowD := os.getLastD zeroD
def knownR (l : Tx) (r : Tx × Int) : Tx × Tx × Int :=
  if l = [] then ([], [], 6)
  else if (findR l r).2.2 = true then (l, (findR l r).1.kind, 0)
  else if 1 < (refL.filter (begD r.1)).length then ([], [], 3)
  else if refL.filter (begD r.1) = [] ∨ (0 ≤ r.2 ∧ (lastD (refL.filter (begD r.1))).kind ≠ arrK) then ([], [], 6)
  else ((lastD (refL.filter (begD r.1))).name ++ l.drop r.1.length, (lastD (refL.filter (begD r.1))).kind, 0)
theorem findR_no {l : Tx} {r : Tx × Int} (h : (findR l r).2.2 = false) : (findR l r).1 = zeroD := by
  unfold findR at h ⊢
  split
  · rename_i h2; rw [if_pos h2] at h; cases h
  · rename_i h2
    rw [if_neg h2] at h
    cases h3 : refL.find? (fun o => o.name == l) with
    | some o => rw [h3] at h; cases h
    | none =>
      rw [h3] at h
      dsimp only at h ⊢
      split
      · rename_i h4
        rw [if_pos h4] at h
        cases h5 : refL.find? (isR r.1) with
        | some o => rw [h5] at h; cases h
        | none => rfl
      · rfl
def founds (a : Tx) (k : Nat) : List RowD := (refL.take k).filter (begD a)
theorem founds_yes {a : Tx} {k : Nat} {o : RowD} (h : refL[k]? = some o) (hb : begD a o = true) : founds a (k + 1) = founds a k ++ [o] := by
  obtain ⟨hk, rfl⟩ := List.getElem?_eq_some_iff.1 h
  unfold founds
  rw [List.take_succ_eq_append_getElem hk, List.filter_append]
  simp [hb]
theorem founds_no {a : Tx} {k : Nat} {o : RowD} (h : refL[k]? = some o) (hb : begD a o = false) : founds a (k + 1) = founds a k := by
  obtain ⟨hk, rfl⟩ := List.getElem?_eq_some_iff.1 h
  unfold founds
  rw [List.take_succ_eq_append_getElem hk, List.filter_append]
  simp [hb]
theorem founds_len (a : Tx) (k : Nat) : (founds a k).length ≤ 63 := by
  unfold founds
  have h1 := List.length_filter_le (begD a) (refL.take k)
  have h2 : (refL.take k).length ≤ 63 := by rw [List.length_take, refL_len]; omega
  omega
theorem founds_all {a : Tx} {k : Nat} (h : 63 ≤ k) : founds a k = refL.filter (begD a) := by
  unfold founds
  rw [List.take_of_length_le (by rw [refL_len]; exact h)]
theorem lastD_app (os : List RowD) (o : RowD) : lastD (os ++ [o]) = o := by unfold lastD; simp
theorem refL_short : ∀ o ∈ refL, o.name.length ≤ 100 := by
  have h : refL.all (fun o => decide (o.name.length ≤ 100)) = true := by decide
  exact fun o ho => of_decide_eq_true (List.all_eq_true.1 h o ho)
theorem item_le {l : Tx} {r : Tx × Int} (h : ItemOk l r) : r.1.length ≤ l.length := by
  rcases h with ⟨-, -, h⟩ | ⟨h, -⟩
  · rw [h]; simp [itemP]
  · rw [h]; exact Nat.le_refl _
set_option maxRecDepth 100000 in
set_option maxHeartbeats 4000000 in
theorem knownRef_at {l : Tx} {r : Tx × Int} (hr : ItemOk l r) (hs : l.length ≤ 140737488355328) (w : World) :
    Calls Tryz.prog 15 #[.string (bs l)] w fun e w' => e = .returned (.tuple #[.string (bs (knownR l r).1), .string (bs (knownR l r).2.1), .int .i64 (knownR l r).2.2]) ∧ Below w.heap.size w w' := by
  obtain ⟨R, hR⟩ : ∃ R, R = knownR l r := ⟨_, rfl⟩
  rw [← hR]
  have H1 := Lib.hid (fun w' => findRef_at hr hs w')
  have H2 := Lib.hid (fun w' => itemRef_at hr hs w')
  have hle := item_le hr
  have hsl : (bs l).size = l.length := bs_size l
  have hir : 0 ≤ r.2 ∨ r.2 = -1 := by
    rcases hr with ⟨h, -⟩ | ⟨h, -⟩
    · exact .inl h
    · right; rw [h]
  by_cases hl0 : l = []
  · have HV := Lib.hid (show R = ([], [], 6) by rw [hR, knownR, if_pos hl0])
    have hem : (bs l).toList.isEmpty = true := by rw [bs_tl, hl0]; rfl
    clear hR H1 H2 hir hle hl0 hr
    go_enter Tryz.func15, Tryz.ntmps15
    go_wp2_with fail
    go_ret3
    exact ⟨by rw [HV.out]; rfl, Below.refl _ _⟩
  · have hem : (bs l).toList.isEmpty = false := by rw [bs_tl]; cases l with | nil => exact absurd rfl hl0 | cons _ _ => rfl
    cases hf : (findR l r).2.2 with
    | true =>
      have HV := Lib.hid (show R = (l, (findR l r).1.kind, 0) by rw [hR, knownR, if_neg hl0, if_pos hf])
      unfold rfV at H1
      rw [hf] at H1
      generalize (findR l r).1 = o at H1 HV
      generalize (findR l r).2.1 = i at H1
      obtain ⟨nm, sc, kd, fi, mo⟩ := o
      dsimp only [rowL] at H1 HV
      clear hR hf H2 hir hle hl0
      go_enter Tryz.func15, Tryz.ntmps15
      go_wp2_with fail
      refine (H1.out _).mono ?_
      rintro e w1 ⟨rfl, hb1⟩
      have HB := Lib.hid hb1
      clear hb1 H1
      go_wp2_with fail
      go_region
      go_wp2_with fail
      go_ret3
      exact ⟨by rw [HV.out]; rfl, (HB.out.alloc HB.out.size _).drew⟩
    | false =>
      have HV0 := Lib.hid (show R = if 1 < (refL.filter (begD r.1)).length then ([], [], 3)
          else if refL.filter (begD r.1) = [] ∨ (0 ≤ r.2 ∧ (lastD (refL.filter (begD r.1))).kind ≠ arrK) then ([], [], 6)
          else ((lastD (refL.filter (begD r.1))).name ++ l.drop r.1.length, (lastD (refL.filter (begD r.1))).kind, 0) by rw [hR, knownR, if_neg hl0, if_neg (by rw [hf]; simp)])
      unfold rfV at H1
      rw [findR_no hf, hf] at H1
      generalize (findR l r).2.1 = i0 at H1
      generalize r.2 = i at H2 HV0 hir
      generalize r.1 = a at H2 HV0 hle
      dsimp only [rowL, zeroD] at H1
      have hla : (bs a).size = a.length := bs_size a
      clear hR hf hl0 hr
      go_enter Tryz.func15, Tryz.ntmps15
      go_wp2_with fail
      refine (H1.out _).mono ?_
      rintro e w1 ⟨rfl, hb1⟩
      have HB := Lib.hid hb1
      clear hb1 H1
      go_wp2_with fail
      refine (H2.out _).mono ?_
      rintro e w2 ⟨rfl, rfl⟩
      clear H2
      go_wp2_with fail
      refine (tableD_any _).mono ?_
      rintro e w2 ⟨rfl, hT, hb2⟩
      rw [size_alloc] at hT
      have hs2 := hb2.size
      rw [size_alloc] at hs2
      have C1 := Lib.hid ((BL.new w1 103 (rowL zeroD)).keep (hb2.block _ (BL.new w1 103 (rowL zeroD)).lt))
      have HB1 := Lib.hid ((HB.out.alloc HB.out.size _).trans (hb2.mono (by have := HB.out.size; rw [size_alloc]; omega)))
      have HT := Lib.hid hT
      have hsw : w.heap.size ≤ w1.heap.size := HB.out.size
      clear hT hb2 HB
      go_wp2_with fail
      go_loopw [10, 12] (fun f v wr => ∃ k : Nat, k ≤ 63 ∧ v = .int .i64 (k : Int) ∧ f = .int .i64 ((founds a k).length : Int) ∧ BL wr w1.heap.size 103 (rowL (lastD (founds a k))) ∧ BL wr (w1.heap.size + 1) 103 (rowsD refL) ∧ Below w.heap.size w wr)
        (fun _ v _ => 63 - (intOf v).toNat)
      case atStart => exact ⟨0, by omega, rfl, rfl, C1.out, HT.out, HB1.out⟩
      case round =>
        obtain ⟨k, hk, rfl, rfl, hL, hTb, hBw⟩ := hrel
        by_cases hlt : k < 63
        · obtain ⟨⟨nm, sc, kd, fi, mo⟩, ho⟩ : ∃ o, refL[k]? = some o := ⟨_, List.getElem?_eq_getElem (by rw [refL_len]; exact hlt)⟩
          have hra := hTb.range (o := k * 5) (vs := rowL ⟨nm, sc, kd, fi, mo⟩) (rowsD_at ho)
          have c0 : wr.cell? ⟨w1.heap.size + 1, k * 5, none⟩ = some (.string (bs nm)) := by
            have := hra 0 _ rfl
            simpa using this
          have hnl : nm.length ≤ 100 := refL_short _ (List.mem_of_getElem? ho)
          have hln : (bs nm).size = nm.length := bs_size nm
          have hfl := founds_len a k
          have HRA := Lib.hid hra
          have HL := Lib.hid hL
          have HTb := Lib.hid hTb
          have HBw := Lib.hid hBw
          have hex : bs (nm.take a.length) = (bs nm).extract 0 a.length := by rw [cut_ext, List.drop_zero]
          have e0 : (((bs nm).extract 0 a.length).toList == (bs a).toList) = (nm.take a.length == a) := by rw [← hex, bs_tl, bs_tl]
          clear hex
          have hne : w1.heap.size ≠ w1.heap.size + 1 := by omega
          cases hq : begD a ⟨nm, sc, kd, fi, mo⟩ with
          | false =>
            have hF := founds_no ho hq
            rw [← hF] at HL hfl ⊢
            have hq2 : a.length ≤ nm.length → (nm.take a.length == a) = false := by
              intro h
              unfold begD at hq
              dsimp only at hq
              rw [decide_eq_true h] at hq
              simpa using hq
            clear hF hra hL hTb hBw hq ho
            by_cases hal : a.length ≤ nm.length
            · have hali : (a.length : Int) ≤ (nm.length : Int) := by omega
              rw [hq2 hal] at e0
              clear hq2
              go_wp2_with fail
              go_roundw
              case rel => exact ⟨k + 1, by omega, by go_num, rfl, HL.out, HTb.out, HBw.out⟩
              case measure => simp [intOf]; omega
            · have hali : ¬ (a.length : Int) ≤ (nm.length : Int) := by omega
              clear hq2 e0
              go_wp2_with fail
              go_roundw
              case rel => exact ⟨k + 1, by omega, by go_num, rfl, HL.out, HTb.out, HBw.out⟩
              case measure => simp [intOf]; omega
          | true =>
            have hF := founds_yes ho hq
            have hFl : (founds a (k + 1)).length = (founds a k).length + 1 := by rw [hF]; simp
            have HFL := Lib.hid (show lastD (founds a (k + 1)) = ⟨nm, sc, kd, fi, mo⟩ by rw [hF, lastD_app])
            have hq2 : a.length ≤ nm.length ∧ (nm.take a.length == a) = true := by
              unfold begD at hq
              simpa only [Bool.and_eq_true, decide_eq_true_eq] using hq
            obtain ⟨hal, hq3⟩ := hq2
            rw [hq3] at e0
            have hali : (a.length : Int) ≤ (nm.length : Int) := by omega
            have hll : (rowL (lastD (founds a k))).length = 5 := rowL_len _
            clear hF hra hL hTb hBw hq ho hq3
            dsimp only [rowL] at HRA
            generalize rowL (lastD (founds a k)) = cur at HL hll
            go_wp2_with (first
              | (refine wpList_load_mid rfl 103 _ rfl (w1.heap.size + 1) (k * 5) rfl _ _ HRA.out Tryz.underlying103 rfl (by kernel_rfl) ?_)
              | (refine wpList_store_all rfl 103 _ _ rfl w1.heap.size (rowL ⟨nm, sc, kd, fi, mo⟩) rfl rfl 103 _ HL.out hll (by kernel_rfl) (rowL_one _) ?_; intro w4 h0 ho4 hs4; have H0 := Lib.hid h0; have HT4 := Lib.hid (HTb.out.only ho4 (by simp)); have HB4 := Lib.hid (HBw.out.trans (ho4.below (by have := HBw.out.size; omega) (by simp; omega))); clear h0 ho4))
            go_roundw
            case rel => exact ⟨k + 1, by omega, by go_num, by rw [hFl]; go_num, by rw [HFL.out]; exact H0.out, HT4.out, HB4.out⟩
            case measure => simp [intOf]; omega
        · have hF := founds_all (a := a) (show 63 ≤ k by omega)
          rw [hF] at hL ⊢
          have hfl := founds_len a k
          rw [hF] at hfl
          have hki : (63 : Int) ≤ (k : Int) := by omega
          clear hF hTb
          have HSH := Lib.hid (show ∀ o, (refL.filter (begD a)).head? = some o → o.name.length ≤ 100 from fun o ho => refL_short o (List.mem_filter.1 (List.mem_of_head? ho)).1)
          generalize refL.filter (begD a) = fs at HV0 hL hfl HSH ⊢
          have HBw := Lib.hid hBw
          clear hBw
          rcases fs with _ | ⟨⟨nm, sc, kd, fi, mo⟩, _ | ⟨o2, q⟩⟩
          · have HV := Lib.hid (show R = ([], [], 6) by rw [HV0.out, if_neg (by simp), if_pos (.inl rfl)])
            clear hL HV0
            go_wp2_with fail
            go_ret3
            exact ⟨by rw [HV.out]; rfl, HBw.out⟩
          · have c0 : wr.cell? ⟨w1.heap.size, 0, none⟩ = some (.string (bs nm)) := hL.cell 0
            have c2 : wr.cell? ⟨w1.heap.size, 2, none⟩ = some (.string (bs kd)) := hL.cell 2
            have e1 : R = if 0 ≤ i ∧ kd ≠ arrK then ([], [], 6) else (nm ++ l.drop a.length, kd, 0) := by
              rw [HV0.out, if_neg (by simp)]
              have : lastD [⟨nm, sc, kd, fi, mo⟩] = ⟨nm, sc, kd, fi, mo⟩ := rfl
              rw [this]
              simp
            have E1 := Lib.hid e1
            have hnl : nm.length ≤ 100 := HSH.out _ rfl
            have hnm : (bs nm).size = nm.length := bs_size nm
            have hex : ((bs l).extract a.length l.length).size = l.length - a.length := by rw [ByteArray.size_extract, hsl]; omega
            have hcut : bs nm ++ (bs l).extract a.length l.length = bs (nm ++ l.drop a.length) := by
              rw [cut_ext, List.take_of_length_le (Nat.le_refl _), bs_app]
            have HC := Lib.hid hcut
            have hle2 : (a.length : Int) ≤ ((bs l).size : Int) := by omega
            clear hcut e1 hL HV0 HSH
            rcases hir with hi0 | rfl
            · by_cases hkd : kd = arrK
              · have HV := Lib.hid (show R = (nm ++ l.drop a.length, kd, 0) by rw [E1.out, if_neg (by simp [hkd])])
                have ek : ((bs kd).toList == [97, 114, 114, 97, 121]) = true := by rw [bs_tl, hkd]; rfl
                clear E1 hkd
                go_wp2_with fail
                go_region
                go_wp2_with fail
                go_ret3
                exact ⟨by rw [HV.out, ← HC.out]; rfl, HBw.out.drew⟩
              · have HV := Lib.hid (show R = ([], [], 6) by rw [E1.out, if_pos ⟨hi0, hkd⟩])
                have ek : ((bs kd).toList == [97, 114, 114, 97, 121]) = false := by rw [bs_tl]; exact beq_eq_false_iff_ne.2 hkd
                clear E1 hkd
                go_wp2_with fail
                go_ret3
                exact ⟨by rw [HV.out]; rfl, HBw.out⟩
            · have HV := Lib.hid (show R = (nm ++ l.drop a.length, kd, 0) by rw [E1.out, if_neg (by omega)])
              clear E1
              go_wp2_with fail
              go_region
              go_wp2_with fail
              go_ret3
              exact ⟨by rw [HV.out, ← HC.out]; rfl, HBw.out.drew⟩
          · have HV := Lib.hid (show R = ([], [], 3) by rw [HV0.out, if_pos (by simp)])
            clear hL HV0
            simp only [List.length_cons] at hfl ⊢
            go_wp2_with fail
            go_ret3
            exact ⟨by rw [HV.out]; rfl, HBw.out⟩
end Go.Proofs.YtgnlfikkmomghaaGreatDoor.Opt
