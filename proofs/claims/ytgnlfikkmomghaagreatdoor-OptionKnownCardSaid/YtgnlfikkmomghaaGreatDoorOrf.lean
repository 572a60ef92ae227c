/- The chapter's Find walked. -/
import Derived.Test.YtgnlfikkmomghaaGreatDoorOrk
import Derived.Test.YtgnlfikkmomghaaGreatDoorOrq
namespace Go.Proofs.YtgnlfikkmomghaaGreatDoor.Opt
open Go.RowKit

theorem itemRef_at {l : Tx} {r : Tx × Int} (hr : ItemOk l r) (hs : l.length ≤ 140737488355328) (w : World) :
    Calls Tryz.prog 51 #[.string (bs l)] w fun e w' => e = .returned (.tuple #[.string (bs r.1), .int .i64 r.2]) ∧ w' = w := by
  refine (itemRef_any l hs w).mono ?_
  rintro e w' ⟨a, i, rfl, h, rfl⟩
  obtain rfl := hr.uniq h
  exact ⟨rfl, rfl⟩
def zeroD : RowD := ⟨[], 0, [], [], []⟩
def isR (a : Tx) (o : RowD) : Bool := o.name == a && o.kind == arrK
def findR (l : Tx) (r : Tx × Int) : RowD × Int × Bool :=
  if userR l = true then (⟨l, 9, strK, [], []⟩, -1, true)
  else match refL.find? (fun o => o.name == l) with
    | some o => (o, -1, true)
    | none => if 0 ≤ r.2 then match refL.find? (isR r.1) with
        | some o => (o, r.2, true)
        | none => (zeroD, 0, false)
      else (zeroD, 0, false)
def rfV (f : RowD × Int × Bool) : Value := .tuple #[.agg (rowL f.1).toArray, .int .i64 f.2.1, .bool f.2.2]
theorem rowL_one (o : RowD) : (rowL o).toArray.all (·.oneCell') = true := by simp [rowL, Value.oneCell']
theorem rowsD_at : ∀ {os : List RowD} {k : Nat} {o : RowD}, os[k]? = some o → ∀ j v, (rowL o)[j]? = some v → (rowsD os)[k * 5 + j]? = some v
  | [], k, o, h => by simp at h
  | a :: r, 0, o, h => by
    intro j v hj
    simp only [List.getElem?_cons_zero, Option.some.injEq] at h
    subst h
    have hlt : j < (rowL a).length := (List.getElem?_eq_some_iff.1 hj).1
    show (rowL a ++ rowsD r)[0 * 5 + j]? = _
    rw [Nat.zero_mul, Nat.zero_add, List.getElem?_append_left hlt]
    exact hj
  | a :: r, k + 1, o, h => by
    intro j v hj
    rw [List.getElem?_cons_succ] at h
    show (rowL a ++ rowsD r)[(k + 1) * 5 + j]? = _
    rw [List.getElem?_append_right (by rw [rowL_len]; omega), rowL_len]
    have e : (k + 1) * 5 + j - 5 = k * 5 + j := by omega
    rw [e]
    exact rowsD_at h j v hj
theorem find_take {α : Type} {p : α → Bool} {l : List α} {k : Nat} {o : α} (h : l[k]? = some o) (h1 : ∀ x ∈ l.take k, p x = false) (h2 : p o = true) : l.find? p = some o := by
  obtain ⟨hk, rfl⟩ := List.getElem?_eq_some_iff.1 h
  conv => lhs; rw [← List.take_append_drop k l, List.drop_eq_getElem_cons hk]
  rw [List.find?_append, List.find?_eq_none.2 (fun x hx => by rw [h1 x hx]; simp), Option.none_or, List.find?_cons_of_pos h2]
theorem take_more {α : Type} {p : α → Bool} {l : List α} {k : Nat} {o : α} (h : l[k]? = some o) (h1 : ∀ x ∈ l.take k, p x = false) (h2 : p o = false) : ∀ x ∈ l.take (k + 1), p x = false := by
  obtain ⟨hk, rfl⟩ := List.getElem?_eq_some_iff.1 h
  intro x hx
  rw [List.take_succ_eq_append_getElem hk, List.mem_append] at hx
  rcases hx with hx | hx
  · exact h1 x hx
  · rw [List.mem_singleton] at hx
    rw [hx]; exact h2
set_option maxRecDepth 100000 in
set_option maxHeartbeats 4000000 in
theorem findRef_at {l : Tx} {r : Tx × Int} (hr : ItemOk l r) (hs : l.length ≤ 140737488355328) (w : World) :
    Calls Tryz.prog 50 #[.string (bs l)] w fun e w' => e = .returned (rfV (findR l r)) ∧ Below w.heap.size w w' := by
  obtain ⟨R, hR⟩ : ∃ R, R = rfV (findR l r) := ⟨_, rfl⟩
  rw [← hR]
  have H1 := Lib.hid (fun w' => userRef_any l hs w')
  have H2 := Lib.hid (fun w' => itemRef_at hr hs w')
  have C0 := Lib.hid (BL.new w 103 (rowL zeroD))
  have HB := Lib.hid ((Below.refl w.heap.size w).alloc (Nat.le_refl _) (.cells (rowL zeroD).toArray 103))
  have hsz1 : (w.alloc (.cells (rowL zeroD).toArray 103)).heap.size = w.heap.size + 1 := by simp
  have hir : 0 ≤ r.2 ∨ r.2 = -1 := by
    rcases hr with ⟨h, -⟩ | ⟨h, -⟩
    · exact .inl h
    · right; rw [h]
  cases hu : userR l with
  | true =>
    have HV := Lib.hid (show R = rfV (⟨l, 9, strK, [], []⟩, -1, true) by rw [hR, findR, if_pos hu])
    rw [hu] at H1
    clear hR hu H2
    go_enter Tryz.func50, Tryz.ntmps50
    go_wp2_with fail
    refine (H1.out _).mono ?_
    rintro e w1 ⟨rfl, rfl⟩
    go_wp2_with (refine wpList_store_all rfl 103 _ _ rfl w.heap.size (rowL ⟨l, 9, strK, [], []⟩) rfl rfl 103 _ C0.out rfl (by kernel_rfl) (rowL_one _) ?_; intro w4 h0 ho hs4; have H0 := Lib.hid h0; have HO := Lib.hid ho; clear h0 ho)
    refine bodyPost_ret (results_ctt (p := 2) (u := 3) (u2 := 4) (by kernel_rfl) _ _ w.heap.size _ _ _ rfl H0.out Tryz.underlying103 rfl (by kernel_rfl)) rfl ⟨by rw [HV.out]; rfl, ?_⟩
    exact HB.out.trans (HO.out.below (by simp) (by simp))
  | false =>
    have HV1 := Lib.hid (show ∀ (k : Nat) o, refL[k]? = some o → (∀ x ∈ refL.take k, (x.name == l) = false) → (o.name == l) = true → R = rfV (o, -1, true) by
      intro k o h1 h2 h3
      rw [hR, findR, if_neg (by rw [hu]; simp), find_take (p := fun o => o.name == l) h1 h2 h3])
    have HV2 := Lib.hid (show (∀ x ∈ refL, (x.name == l) = false) → 0 ≤ r.2 → ∀ (k : Nat) o, refL[k]? = some o → (∀ x ∈ refL.take k, isR r.1 x = false) → isR r.1 o = true → R = rfV (o, r.2, true) by
      intro h0 h4 k o h1 h2 h3
      rw [hR, findR, if_neg (by rw [hu]; simp), List.find?_eq_none.2 (fun x hx => by rw [h0 x hx]; simp)]
      simp only
      rw [if_pos h4, find_take h1 h2 h3])
    have HV3 := Lib.hid (show (∀ x ∈ refL, (x.name == l) = false) → (∀ x ∈ refL, isR r.1 x = false) ∨ ¬ 0 ≤ r.2 → R = rfV (zeroD, 0, false) by
      intro h0 h4
      rw [hR, findR, if_neg (by rw [hu]; simp), List.find?_eq_none.2 (fun x hx => by rw [h0 x hx]; simp)]
      simp only
      rcases h4 with h4 | h4
      · rw [List.find?_eq_none.2 (fun x hx => by rw [h4 x hx]; simp)]
        simp
      · rw [if_neg h4])
    rw [hu] at H1
    clear hR hu
    generalize r.2 = i at H2 HV2 HV3 hir
    generalize r.1 = a at H2 HV2 HV3
    go_enter Tryz.func50, Tryz.ntmps50
    go_wp2_with fail
    refine (H1.out _).mono ?_
    rintro e w1 ⟨rfl, rfl⟩
    clear H1
    go_wp2_with fail
    refine (tableD_any _).mono ?_
    rintro e w2 ⟨rfl, hT, hb2⟩
    rw [size_alloc] at hT
    have hs2 := hb2.size
    rw [size_alloc] at hs2
    have C1 := Lib.hid (C0.out.keep (hb2.block _ C0.out.lt))
    have HB1 := Lib.hid (HB.out.trans (hb2.mono HB.out.size))
    have HT := Lib.hid hT
    clear hT hb2 C0 HB
    have hNe : w2.heap.size > w.heap.size := by omega
    go_wp2_with fail
    go_loop [7] (fun v => ∃ k : Nat, k ≤ 63 ∧ v = .int .i64 (k : Int) ∧ Hid (∀ x ∈ refL.take k, (x.name == l) = false)) (fun v => 63 - (intOf v).toNat)
    case atStart => exact ⟨0, by omega, rfl, fun x hx => by simp at hx⟩
    case round =>
      obtain ⟨k, hk, rfl, hno⟩ := hrel
      by_cases hlt : k < 63
      · obtain ⟨⟨nm, sc, kd, fi, mo⟩, ho⟩ : ∃ o, refL[k]? = some o := ⟨_, List.getElem?_eq_getElem (by rw [refL_len]; exact hlt)⟩
        have hra := HT.out.range (o := k * 5) (vs := rowL ⟨nm, sc, kd, fi, mo⟩) (rowsD_at ho)
        have c0 : w2.cell? ⟨w.heap.size + 1, k * 5, none⟩ = some (.string (bs nm)) := by
          have := hra 0 _ rfl
          simpa using this
        have HRA := Lib.hid hra
        have e0 : ((bs nm).toList == (bs l).toList) = (nm == l) := by rw [bs_tl, bs_tl]
        cases hq : (nm == l) with
        | false =>
          rw [hq] at e0
          have HN := Lib.hid (take_more (p := fun x => x.name == l) ho hno.out hq)
          clear hq hra ho
          go_wp2_with fail
          go_round
          case rel => exact ⟨k + 1, by omega, by go_num, HN.out⟩
          case measure => simp [intOf]; omega
        | true =>
          rw [hq] at e0
          have HV := Lib.hid (HV1.out k _ ho hno.out hq)
          clear HV1 HV2 HV3 H2 hq hra ho hno
          dsimp only [rowL] at HRA
          go_wp2_with (first
            | (refine wpList_load_mid rfl 103 _ rfl (w.heap.size + 1) (k * 5) rfl _ _ HRA.out Tryz.underlying103 rfl (by kernel_rfl) ?_)
            | (refine wpList_store_all rfl 103 _ _ rfl w.heap.size (rowL ⟨nm, sc, kd, fi, mo⟩) rfl rfl 103 _ C1.out rfl (by kernel_rfl) (rowL_one _) ?_; intro w4 h0 ho4 hs4; have H0 := Lib.hid h0; have HO := Lib.hid ho4; clear h0 ho4))
          refine bodyPost_ret (results_ctt (p := 2) (u := 3) (u2 := 4) (by kernel_rfl) _ _ w.heap.size _ _ _ rfl H0.out Tryz.underlying103 rfl (by kernel_rfl)) rfl ⟨by rw [HV.out]; rfl, ?_⟩
          exact HB1.out.trans (HO.out.below (by omega) (by simp))
      · have hno2 : ∀ x ∈ refL, (x.name == l) = false := by
          have h63 : refL.take k = refL := List.take_of_length_le (by rw [refL_len]; omega)
          rw [← h63]; exact hno.out
        have HV2b := Lib.hid (HV2.out hno2)
        have HV3b := Lib.hid (HV3.out hno2)
        have hki : (63 : Int) ≤ (k : Int) := by omega
        clear HV1 HV2 HV3 hno hno2
        go_wp2_with fail
        refine (H2.out _).mono ?_
        clear H2
        rintro e w3 ⟨rfl, rfl⟩
        clear hki
        go_wp2_with fail
        go_loop [10] (fun v => ∃ k : Nat, k ≤ 63 ∧ v = .int .i64 (k : Int) ∧ Hid (∀ x ∈ refL.take k, isR a x = false)) (fun v => 63 - (intOf v).toNat)
        case atStart => exact ⟨0, by omega, rfl, fun x hx => by simp at hx⟩
        case round =>
          obtain ⟨k, hk, rfl, hno⟩ := hrel
          rcases hir with hi0 | rfl
          · by_cases hlt : k < 63
            · obtain ⟨⟨nm, sc, kd, fi, mo⟩, ho⟩ : ∃ o, refL[k]? = some o := ⟨_, List.getElem?_eq_getElem (by rw [refL_len]; exact hlt)⟩
              have hra := HT.out.range (o := k * 5) (vs := rowL ⟨nm, sc, kd, fi, mo⟩) (rowsD_at ho)
              have c0 : w3.cell? ⟨w.heap.size + 1, k * 5, none⟩ = some (.string (bs nm)) := by
                have := hra 0 _ rfl
                simpa using this
              have c2 : w3.cell? ⟨w.heap.size + 1, k * 5 + 2, none⟩ = some (.string (bs kd)) := by
                have := hra 2 _ rfl
                simpa using this
              have HRA := Lib.hid hra
              have e0 : ((bs nm).toList == (bs a).toList) = (nm == a) := by rw [bs_tl, bs_tl]
              have e2 : ((bs kd).toList == [97, 114, 114, 97, 121]) = (kd == arrK) := by rw [bs_tl]; rfl
              cases hq : isR a ⟨nm, sc, kd, fi, mo⟩ with
              | false =>
                have HN := Lib.hid (take_more ho hno.out hq)
                clear hra ho HV2b HV3b hno
                cases hq0 : (nm == a) with
                | false =>
                  rw [hq0] at e0
                  clear hq hq0 e2 c2
                  go_wp2_with fail
                  go_round
                  case rel => exact ⟨k + 1, by omega, by go_num, HN.out⟩
                  case measure => simp [intOf]; omega
                | true =>
                  have hq2 : (kd == arrK) = false := by
                    unfold isR at hq
                    dsimp only at hq
                    rw [hq0] at hq
                    simpa using hq
                  rw [hq0] at e0
                  rw [hq2] at e2
                  clear hq hq0 hq2
                  go_wp2_with fail
                  go_round
                  case rel => exact ⟨k + 1, by omega, by go_num, HN.out⟩
                  case measure => simp [intOf]; omega
              | true =>
                have HV := Lib.hid (HV2b.out hi0 k _ ho hno.out hq)
                have hq0 : (nm == a) = true := by
                  unfold isR at hq
                  simp only [Bool.and_eq_true] at hq
                  exact hq.1
                have hq2 : (kd == arrK) = true := by
                  unfold isR at hq
                  simp only [Bool.and_eq_true] at hq
                  exact hq.2
                rw [hq0] at e0
                rw [hq2] at e2
                clear hq hq0 hq2 hra ho HV2b HV3b hno
                dsimp only [rowL] at HRA
                go_wp2_with (first
                  | (refine wpList_load_mid rfl 103 _ rfl (w.heap.size + 1) (k * 5) rfl _ _ HRA.out Tryz.underlying103 rfl (by kernel_rfl) ?_)
                  | (refine wpList_store_all rfl 103 _ _ rfl w.heap.size (rowL ⟨nm, sc, kd, fi, mo⟩) rfl rfl 103 _ C1.out rfl (by kernel_rfl) (rowL_one _) ?_; intro w4 h0 ho4 hs4; have H0 := Lib.hid h0; have HO := Lib.hid ho4; clear h0 ho4))
                refine bodyPost_ret (results_ctt (p := 2) (u := 3) (u2 := 4) (by kernel_rfl) _ _ w.heap.size _ _ _ rfl H0.out Tryz.underlying103 rfl (by kernel_rfl)) rfl ⟨by rw [HV.out]; rfl, ?_⟩
                exact HB1.out.trans (HO.out.below (by omega) (by simp))
            · have hno2 : ∀ x ∈ refL, isR a x = false := by
                have h63 : refL.take k = refL := List.take_of_length_le (by rw [refL_len]; omega)
                rw [← h63]; exact hno.out
              have HV := Lib.hid (HV3b.out (.inl hno2))
              have hki : (63 : Int) ≤ (k : Int) := by omega
              clear HV2b HV3b hno hno2
              go_wp2_with (refine wpList_store_all rfl 103 _ _ rfl w.heap.size (rowL zeroD) rfl rfl 103 _ C1.out rfl (by kernel_rfl) (rowL_one _) ?_; intro w4 h0 ho4 hs4; have H0 := Lib.hid h0; have HO := Lib.hid ho4; clear h0 ho4)
              refine bodyPost_ret (results_ctt (p := 2) (u := 3) (u2 := 4) (by kernel_rfl) _ _ w.heap.size _ _ _ rfl H0.out Tryz.underlying103 rfl (by kernel_rfl)) rfl ⟨by rw [HV.out]; rfl, ?_⟩
              exact HB1.out.trans (HO.out.below (by omega) (by simp))
          · have HV := Lib.hid (HV3b.out (.inr (by omega)))
            clear HV2b HV3b hno
            by_cases hlt : k < 63
            · go_wp2_with (refine wpList_store_all rfl 103 _ _ rfl w.heap.size (rowL zeroD) rfl rfl 103 _ C1.out rfl (by kernel_rfl) (rowL_one _) ?_; intro w4 h0 ho4 hs4; have H0 := Lib.hid h0; have HO := Lib.hid ho4; clear h0 ho4)
              refine bodyPost_ret (results_ctt (p := 2) (u := 3) (u2 := 4) (by kernel_rfl) _ _ w.heap.size _ _ _ rfl H0.out Tryz.underlying103 rfl (by kernel_rfl)) rfl ⟨by rw [HV.out]; rfl, ?_⟩
              exact HB1.out.trans (HO.out.below (by omega) (by simp))
            · have hki : (63 : Int) ≤ (k : Int) := by omega
              go_wp2_with (refine wpList_store_all rfl 103 _ _ rfl w.heap.size (rowL zeroD) rfl rfl 103 _ C1.out rfl (by kernel_rfl) (rowL_one _) ?_; intro w4 h0 ho4 hs4; have H0 := Lib.hid h0; have HO := Lib.hid ho4; clear h0 ho4)
              refine bodyPost_ret (results_ctt (p := 2) (u := 3) (u2 := 4) (by kernel_rfl) _ _ w.heap.size _ _ _ rfl H0.out Tryz.underlying103 rfl (by kernel_rfl)) rfl ⟨by rw [HV.out]; rfl, ?_⟩
              exact HB1.out.trans (HO.out.below (by omega) (by simp))
end Go.Proofs.YtgnlfikkmomghaaGreatDoor.Opt
