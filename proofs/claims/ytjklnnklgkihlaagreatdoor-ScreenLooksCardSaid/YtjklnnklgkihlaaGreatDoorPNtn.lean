/- A pen turned to what one number says: the walk. -/
import Derived.Test.YtjklnnklgkihlaaGreatDoorPNtp
namespace Go.Proofs.YtjklnnklgkihlaaGreatDoor.Scr
open Go.RowKit Cel Sty Grd

def penV (s : St) : Value := .agg #[.int .i64 s.1, .int .i64 s.2.1, .int .i64 s.2.2]
set_option maxRecDepth 100000 in
set_option maxHeartbeats 8000000 in
theorem turned_at (s : St) (code : Int) (h0 : 0 ≤ code) (h1 : code ≤ 9999) (w : World) {B : Nat} (ht : TabA B w) (hB : B ≤ w.heap.size) :
    Calls Tryz.prog 222 #[penV s, .int .i64 code] w fun e w' => e = .returned (penV (turnedP s code)) ∧ Below w.heap.size w w' := by
  have j1 : IntKind.i64.wrap (code - 30) = code - 30 := IntWalk.i64_in _ ⟨by omega, by omega⟩
  have j2 : IntKind.i64.wrap (code - 40) = code - 40 := IntWalk.i64_in _ ⟨by omega, by omega⟩
  have j3 : IntKind.i64.wrap (code - 20) = code - 20 := IntWalk.i64_in _ ⟨by omega, by omega⟩
  obtain ⟨a, b, c⟩ := s
  obtain ⟨T, hTT⟩ : ∃ T, turnedP (a, b, c) code = T := ⟨_, rfl⟩
  rw [hTT]
  unfold turnedP hueP at hTT
  unfold penV
  obtain ⟨n1, hn1⟩ : ∃ n1, code - 30 = n1 := ⟨_, rfl⟩
  obtain ⟨n2, hn2⟩ : ∃ n2, code - 40 = n2 := ⟨_, rfl⟩
  rw [hn1] at j1 hTT
  rw [hn2] at j2 hTT
  have jn1 : IntKind.i64.wrap (code - 30) = n1 := by rw [hn1]; exact j1
  have jn2 : IntKind.i64.wrap (code - 40) = n2 := by rw [hn2]; exact j2
  have b1 : -10000 ≤ n1 ∧ n1 ≤ 10000 := by omega
  have b2 : -10000 ≤ n2 ∧ n2 ≤ 10000 := by omega
  clear hn1 hn2 j1 j2
  cases ho1 : (colP n1).2 <;> cases ho2 : (colP n2).2 <;> simp only [ho1, ho2, if_true, if_false, Bool.false_eq_true] at hTT <;> have HT := Lib.hid hTT <;> clear hTT
  · go_enter Tryz.func222, Tryz.ntmps222
    go_upto_region 7 with (go_at_call 234; refine (colour_at _ (by first | exact b1.1 | exact b2.1) (by first | exact b1.2 | exact b2.2) _).mono ?_; rintro _ w1 ⟨rfl, rfl⟩; first | rw [ho1] | rw [ho2])
    clear jn1 jn2 b1 b2
    obtain ⟨f2, rfl⟩ : ∃ f2, f2 = a := ⟨a, rfl⟩
    obtain ⟨b2, rfl⟩ : ∃ b2, b2 = b := ⟨b, rfl⟩
    have hP : BL ((w.alloc (.cells #[.int .i64 f2, .int .i64 b2, .int .i64 c] 23)).alloc (.cells #[.int .i64 0, .int .i64 0, .int .i64 0] 23)) w.heap.size 23 [.int .i64 f2, .int .i64 b2, .int .i64 c] := (BL.new w 23 [.int .i64 f2, .int .i64 b2, .int .i64 c]).alloc _
    have hR : BL ((w.alloc (.cells #[.int .i64 f2, .int .i64 b2, .int .i64 c] 23)).alloc (.cells #[.int .i64 0, .int .i64 0, .int .i64 0] 23)) (w.heap.size + 1) 23 [.int .i64 0, .int .i64 0, .int .i64 0] := by
      have := BL.new (w.alloc (.cells #[.int .i64 f2, .int .i64 b2, .int .i64 c] 23)) 23 [.int .i64 0, .int .i64 0, .int .i64 0]
      rw [size_alloc] at this
      exact this
    have hbw : Below w.heap.size w ((w.alloc (.cells #[.int .i64 f2, .int .i64 b2, .int .i64 c] 23)).alloc (.cells #[.int .i64 0, .int .i64 0, .int .i64 0] 23)) := ((Below.refl _ _).alloc (Nat.le_refl _) _).alloc (by simp) _
    generalize (w.alloc (.cells #[.int .i64 f2, .int .i64 b2, .int .i64 c] 23)).alloc (.cells #[.int .i64 0, .int .i64 0, .int .i64 0] 23) = W at *
    have hWT := ht.below hbw hB
    by_cases e0 : code = 0
    · have HT2 : Hid (T = (-1, -1, 0)) := Lib.hid (by rw [← HT.out, if_pos e0])
      go_wp2_with (first
        | (go_at_call 10; refine (plainS_any _).mono ?_; rintro _ w1 ⟨rfl, hb1⟩; have hR1 := hR.only (F := []) (Only.of_below hb1) (by simp); have hbw1 := hbw.trans (hb1.mono hbw.size))
        | (refine wpList_store_bl rfl 23 (.tmp 4) (.tmp 30) rfl (w.heap.size + 1) 0 [.int .i64 (-1), .int .i64 (-1), .int .i64 0] rfl rfl _ _ hR1 (by kernel_rfl) (by simp) (by kernel_rfl) ?_; intro w2 hB2 hw2))
      have hB3 : BL w2 (w.heap.size + 1) 23 [.int .i64 (-1), .int .i64 (-1), .int .i64 0] := hB2
      exact bodyPost_ret (v := .agg #[.int .i64 (-1), .int .i64 (-1), .int .i64 0]) (results_cell (p := 4) (by kernel_rfl) _ _ (w.heap.size + 1) _ _ _ _ rfl hB3 Tryz.underlying23 rfl (by kernel_rfl)) rfl ⟨by rw [HT2.out], hbw1.trans (hw2.only.below (by have := hbw1.size; omega) (by simp))⟩
    · have x0 : W.cell? ⟨w.heap.size, 0, none⟩ = some (.int .i64 f2) := hP.cell 0
      have x1 : W.cell? ⟨w.heap.size, 1, none⟩ = some (.int .i64 b2) := hP.cell 1
      have x2 : W.cell? ⟨w.heap.size, 2, none⟩ = some (.int .i64 c) := hP.cell 2
      have x2f := hP.frozen 2
      have od : Only [] W W.drew := (Only.refl _ _).drew
      have hPd := hP.only od (by simp)
      have xd : W.drew.cell? ⟨w.heap.size, 2, none⟩ = some (.int .i64 c) := hPd.cell 2
      have xf : W.drew.frozen? ⟨w.heap.size, 2, none⟩ = false := hPd.frozen 2
      by_cases e1 : code < 10
      · have HT2 : Hid (T = (f2, b2, bits .or .i64 c (attrs.getD code.toNat 0))) := Lib.hid (by rw [← HT.out, if_neg e0, if_pos e1])
        obtain ⟨k, rfl⟩ : ∃ k : Nat, code = (k : Int) := ⟨code.toNat, by omega⟩
        have xt := (hWT.only od (Nat.le_trans hB hbw.size) (by simp)).at_ k (by omega)
        rw [Int.toNat_natCast] at HT2
        generalize attrs.getD k 0 = at1 at *
        obtain ⟨v, hv⟩ : ∃ v, bits .or .i64 c at1 = v := ⟨_, rfl⟩
        rw [hv] at HT2
        have hS := hP.set_ 2 (.int .i64 v)
        have hS2 := hR.only (one_set W w.heap.size 2 (.int .i64 v)) (by simp)
        have hbS := hbw.trans ((one_set W w.heap.size 2 (.int .i64 v)).below hbw.size (by simp))
        clear hPd
        go_wp2_with fail
        go_region_law (fail)
        all_goals
          clear x0 x1 x2 x2f xd xf xt od hP hR hWT hv
          generalize W.setCell ⟨w.heap.size, 2, none⟩ (.int .i64 v) = V0 at *
          have hP1 := hS.only (Only.refl [] V0).drew (by simp)
          have hR1 := hS2.only (Only.refl [] V0).drew (by simp)
          have hb1 := hbS.drew
          clear hS hS2 hbS
          generalize V0.drew = V1 at *
          have y0 : V1.cell? ⟨w.heap.size, 0, none⟩ = some (.int .i64 f2) := hP1.cell 0
          have y1 : V1.cell? ⟨w.heap.size, 1, none⟩ = some (.int .i64 b2) := hP1.cell 1
          have y2 : V1.cell? ⟨w.heap.size, 2, none⟩ = some (.int .i64 v) := hP1.cell 2
          go_wp2_with (refine wpList_store_bl rfl 23 (.tmp 4) (.tmp 63) rfl (w.heap.size + 1) 0 [.int .i64 f2, .int .i64 b2, .int .i64 v] rfl rfl _ _ hR1 (by kernel_rfl) (by simp) (by kernel_rfl) ?_; intro w2 hB2 hw2)
          have hB3 : BL w2 (w.heap.size + 1) 23 [.int .i64 f2, .int .i64 b2, .int .i64 v] := hB2
          exact bodyPost_ret (v := .agg #[.int .i64 f2, .int .i64 b2, .int .i64 v]) (results_cell (p := 4) (by kernel_rfl) _ _ (w.heap.size + 1) _ _ _ _ rfl hB3 Tryz.underlying23 rfl (by kernel_rfl)) rfl ⟨by rw [HT2.out], hb1.trans (hw2.only.below (by have := hb1.size; omega) (by simp))⟩
      · by_cases e2 : code = 22
        · have HT2 : Hid (T = (f2, b2, bits .andNot .i64 c 3)) := Lib.hid (by rw [← HT.out, if_neg e0, if_neg e1, if_pos e2])
          obtain ⟨at1, hat⟩ : ∃ at1 : Int, at1 = 3 := ⟨_, rfl⟩
          rw [← hat] at HT2
          obtain ⟨v, hv⟩ : ∃ v, bits .andNot .i64 c at1 = v := ⟨_, rfl⟩
          rw [hv] at HT2
          have hS := hP.set_ 2 (.int .i64 v)
          have hS2 := hR.only (one_set W w.heap.size 2 (.int .i64 v)) (by simp)
          have hbS := hbw.trans ((one_set W w.heap.size 2 (.int .i64 v)).below hbw.size (by simp))
          subst e2
          clear hPd
          subst hat
          go_upto_region 15 with fail
          clear x0 x1 x2 x2f xd xf od hP hR hWT hv
          generalize W.setCell ⟨w.heap.size, 2, none⟩ (.int .i64 v) = V1 at *
          have hP1 := hS
          have hR1 := hS2
          have hb1 := hbS
          have y0 : V1.cell? ⟨w.heap.size, 0, none⟩ = some (.int .i64 f2) := hP1.cell 0
          have y1 : V1.cell? ⟨w.heap.size, 1, none⟩ = some (.int .i64 b2) := hP1.cell 1
          have y2 : V1.cell? ⟨w.heap.size, 2, none⟩ = some (.int .i64 v) := hP1.cell 2
          go_wp2_with (refine wpList_store_bl rfl 23 (.tmp 4) (.tmp 63) rfl (w.heap.size + 1) 0 [.int .i64 f2, .int .i64 b2, .int .i64 v] rfl rfl _ _ hR1 (by kernel_rfl) (by simp) (by kernel_rfl) ?_; intro w2 hB2 hw2)
          have hB3 : BL w2 (w.heap.size + 1) 23 [.int .i64 f2, .int .i64 b2, .int .i64 v] := hB2
          exact bodyPost_ret (v := .agg #[.int .i64 f2, .int .i64 b2, .int .i64 v]) (results_cell (p := 4) (by kernel_rfl) _ _ (w.heap.size + 1) _ _ _ _ rfl hB3 Tryz.underlying23 rfl (by kernel_rfl)) rfl ⟨by rw [HT2.out], hb1.trans (hw2.only.below (by have := hb1.size; omega) (by simp))⟩
        · by_cases e3 : 22 < code
          · by_cases e4 : code < 30
            · have HT2 : Hid (T = (f2, b2, bits .andNot .i64 c (attrs.getD (code - 20).toNat 0))) := Lib.hid (by rw [← HT.out, if_neg e0, if_neg e1, if_neg e2, if_pos ⟨e3, e4⟩])
              obtain ⟨k, hk⟩ : ∃ k : Nat, code - 20 = (k : Int) := ⟨(code - 20).toNat, by omega⟩
              rw [hk] at j3 HT2
              have jk : IntKind.i64.wrap (code - 20) = (k : Int) := by rw [hk]; exact j3
              have xt := (hWT.only od (Nat.le_trans hB hbw.size) (by simp)).at_ k (by omega)
              have k9 : (k : Int) < 10 := by omega
              have k0 : (0 : Int) ≤ (k : Int) := by omega
              rw [Int.toNat_natCast] at HT2
              generalize attrs.getD k 0 = at1 at *
              clear hk j3
              obtain ⟨v, hv⟩ : ∃ v, bits .andNot .i64 c at1 = v := ⟨_, rfl⟩
              rw [hv] at HT2
              have hS := hP.set_ 2 (.int .i64 v)
              have hS2 := hR.only (one_set W w.heap.size 2 (.int .i64 v)) (by simp)
              have hbS := hbw.trans ((one_set W w.heap.size 2 (.int .i64 v)).below hbw.size (by simp))
              clear hPd
              go_wp2_with fail
              go_region_law (fail)
              all_goals
                clear x0 x1 x2 x2f xd xf xt od hP hR hWT hv
                generalize W.setCell ⟨w.heap.size, 2, none⟩ (.int .i64 v) = V0 at *
                have hP1 := hS.only (Only.refl [] V0).drew (by simp)
                have hR1 := hS2.only (Only.refl [] V0).drew (by simp)
                have hb1 := hbS.drew
                clear hS hS2 hbS
                generalize V0.drew = V1 at *
                have y0 : V1.cell? ⟨w.heap.size, 0, none⟩ = some (.int .i64 f2) := hP1.cell 0
                have y1 : V1.cell? ⟨w.heap.size, 1, none⟩ = some (.int .i64 b2) := hP1.cell 1
                have y2 : V1.cell? ⟨w.heap.size, 2, none⟩ = some (.int .i64 v) := hP1.cell 2
                go_wp2_with (refine wpList_store_bl rfl 23 (.tmp 4) (.tmp 63) rfl (w.heap.size + 1) 0 [.int .i64 f2, .int .i64 b2, .int .i64 v] rfl rfl _ _ hR1 (by kernel_rfl) (by simp) (by kernel_rfl) ?_; intro w2 hB2 hw2)
                have hB3 : BL w2 (w.heap.size + 1) 23 [.int .i64 f2, .int .i64 b2, .int .i64 v] := hB2
                exact bodyPost_ret (v := .agg #[.int .i64 f2, .int .i64 b2, .int .i64 v]) (results_cell (p := 4) (by kernel_rfl) _ _ (w.heap.size + 1) _ _ _ _ rfl hB3 Tryz.underlying23 rfl (by kernel_rfl)) rfl ⟨by rw [HT2.out], hb1.trans (hw2.only.below (by have := hb1.size; omega) (by simp))⟩
            · have HT2 : Hid (T = (f2, b2, c)) := Lib.hid (by rw [← HT.out, if_neg e0, if_neg e1, if_neg e2, if_neg (fun h => e4 h.2)])
              clear xd xf hPd x0 x1 x2 x2f od hWT
              have hP1 := hP
              have hR1 := hR
              have hb1 := hbw
              generalize hVV : W = V1 at *
              clear hVV
              obtain ⟨v, rfl⟩ : ∃ v, v = c := ⟨c, rfl⟩
              have y0 : V1.cell? ⟨w.heap.size, 0, none⟩ = some (.int .i64 f2) := hP1.cell 0
              have y1 : V1.cell? ⟨w.heap.size, 1, none⟩ = some (.int .i64 b2) := hP1.cell 1
              have y2 : V1.cell? ⟨w.heap.size, 2, none⟩ = some (.int .i64 v) := hP1.cell 2
              go_wp2_with (refine wpList_store_bl rfl 23 (.tmp 4) (.tmp 63) rfl (w.heap.size + 1) 0 [.int .i64 f2, .int .i64 b2, .int .i64 v] rfl rfl _ _ hR1 (by kernel_rfl) (by simp) (by kernel_rfl) ?_; intro w2 hB2 hw2)
              have hB3 : BL w2 (w.heap.size + 1) 23 [.int .i64 f2, .int .i64 b2, .int .i64 v] := hB2
              exact bodyPost_ret (v := .agg #[.int .i64 f2, .int .i64 b2, .int .i64 v]) (results_cell (p := 4) (by kernel_rfl) _ _ (w.heap.size + 1) _ _ _ _ rfl hB3 Tryz.underlying23 rfl (by kernel_rfl)) rfl ⟨by rw [HT2.out], hb1.trans (hw2.only.below (by have := hb1.size; omega) (by simp))⟩
          · have HT2 : Hid (T = (f2, b2, c)) := Lib.hid (by rw [← HT.out, if_neg e0, if_neg e1, if_neg e2, if_neg (fun h => e3 h.1)])
            clear xd xf hPd x0 x1 x2 x2f od hWT
            have hP1 := hP
            have hR1 := hR
            have hb1 := hbw
            generalize hVV : W = V1 at *
            clear hVV
            obtain ⟨v, rfl⟩ : ∃ v, v = c := ⟨c, rfl⟩
            have y0 : V1.cell? ⟨w.heap.size, 0, none⟩ = some (.int .i64 f2) := hP1.cell 0
            have y1 : V1.cell? ⟨w.heap.size, 1, none⟩ = some (.int .i64 b2) := hP1.cell 1
            have y2 : V1.cell? ⟨w.heap.size, 2, none⟩ = some (.int .i64 v) := hP1.cell 2
            go_wp2_with (refine wpList_store_bl rfl 23 (.tmp 4) (.tmp 63) rfl (w.heap.size + 1) 0 [.int .i64 f2, .int .i64 b2, .int .i64 v] rfl rfl _ _ hR1 (by kernel_rfl) (by simp) (by kernel_rfl) ?_; intro w2 hB2 hw2)
            have hB3 : BL w2 (w.heap.size + 1) 23 [.int .i64 f2, .int .i64 b2, .int .i64 v] := hB2
            exact bodyPost_ret (v := .agg #[.int .i64 f2, .int .i64 b2, .int .i64 v]) (results_cell (p := 4) (by kernel_rfl) _ _ (w.heap.size + 1) _ _ _ _ rfl hB3 Tryz.underlying23 rfl (by kernel_rfl)) rfl ⟨by rw [HT2.out], hb1.trans (hw2.only.below (by have := hb1.size; omega) (by simp))⟩
  · go_enter Tryz.func222, Tryz.ntmps222
    go_upto_region 7 with (go_at_call 234; refine (colour_at _ (by first | exact b1.1 | exact b2.1) (by first | exact b1.2 | exact b2.2) _).mono ?_; rintro _ w1 ⟨rfl, rfl⟩; first | rw [ho1] | rw [ho2])
    clear jn1 jn2 b1 b2
    obtain ⟨f2, rfl⟩ : ∃ f2, f2 = a := ⟨a, rfl⟩
    generalize (colP n2).1 = b2 at *
    have hP : BL ((w.alloc (.cells #[.int .i64 f2, .int .i64 b2, .int .i64 c] 23)).alloc (.cells #[.int .i64 0, .int .i64 0, .int .i64 0] 23)) w.heap.size 23 [.int .i64 f2, .int .i64 b2, .int .i64 c] := (BL.new w 23 [.int .i64 f2, .int .i64 b2, .int .i64 c]).alloc _
    have hR : BL ((w.alloc (.cells #[.int .i64 f2, .int .i64 b2, .int .i64 c] 23)).alloc (.cells #[.int .i64 0, .int .i64 0, .int .i64 0] 23)) (w.heap.size + 1) 23 [.int .i64 0, .int .i64 0, .int .i64 0] := by
      have := BL.new (w.alloc (.cells #[.int .i64 f2, .int .i64 b2, .int .i64 c] 23)) 23 [.int .i64 0, .int .i64 0, .int .i64 0]
      rw [size_alloc] at this
      exact this
    have hbw : Below w.heap.size w ((w.alloc (.cells #[.int .i64 f2, .int .i64 b2, .int .i64 c] 23)).alloc (.cells #[.int .i64 0, .int .i64 0, .int .i64 0] 23)) := ((Below.refl _ _).alloc (Nat.le_refl _) _).alloc (by simp) _
    generalize (w.alloc (.cells #[.int .i64 f2, .int .i64 b2, .int .i64 c] 23)).alloc (.cells #[.int .i64 0, .int .i64 0, .int .i64 0] 23) = W at *
    have hWT := ht.below hbw hB
    by_cases e0 : code = 0
    · have HT2 : Hid (T = (-1, -1, 0)) := Lib.hid (by rw [← HT.out, if_pos e0])
      go_wp2_with (first
        | (go_at_call 10; refine (plainS_any _).mono ?_; rintro _ w1 ⟨rfl, hb1⟩; have hR1 := hR.only (F := []) (Only.of_below hb1) (by simp); have hbw1 := hbw.trans (hb1.mono hbw.size))
        | (refine wpList_store_bl rfl 23 (.tmp 4) (.tmp 30) rfl (w.heap.size + 1) 0 [.int .i64 (-1), .int .i64 (-1), .int .i64 0] rfl rfl _ _ hR1 (by kernel_rfl) (by simp) (by kernel_rfl) ?_; intro w2 hB2 hw2))
      have hB3 : BL w2 (w.heap.size + 1) 23 [.int .i64 (-1), .int .i64 (-1), .int .i64 0] := hB2
      exact bodyPost_ret (v := .agg #[.int .i64 (-1), .int .i64 (-1), .int .i64 0]) (results_cell (p := 4) (by kernel_rfl) _ _ (w.heap.size + 1) _ _ _ _ rfl hB3 Tryz.underlying23 rfl (by kernel_rfl)) rfl ⟨by rw [HT2.out], hbw1.trans (hw2.only.below (by have := hbw1.size; omega) (by simp))⟩
    · have x0 : W.cell? ⟨w.heap.size, 0, none⟩ = some (.int .i64 f2) := hP.cell 0
      have x1 : W.cell? ⟨w.heap.size, 1, none⟩ = some (.int .i64 b2) := hP.cell 1
      have x2 : W.cell? ⟨w.heap.size, 2, none⟩ = some (.int .i64 c) := hP.cell 2
      have x2f := hP.frozen 2
      have od : Only [] W W.drew := (Only.refl _ _).drew
      have hPd := hP.only od (by simp)
      have xd : W.drew.cell? ⟨w.heap.size, 2, none⟩ = some (.int .i64 c) := hPd.cell 2
      have xf : W.drew.frozen? ⟨w.heap.size, 2, none⟩ = false := hPd.frozen 2
      by_cases e1 : code < 10
      · have HT2 : Hid (T = (f2, b2, bits .or .i64 c (attrs.getD code.toNat 0))) := Lib.hid (by rw [← HT.out, if_neg e0, if_pos e1])
        obtain ⟨k, rfl⟩ : ∃ k : Nat, code = (k : Int) := ⟨code.toNat, by omega⟩
        have xt := (hWT.only od (Nat.le_trans hB hbw.size) (by simp)).at_ k (by omega)
        rw [Int.toNat_natCast] at HT2
        generalize attrs.getD k 0 = at1 at *
        obtain ⟨v, hv⟩ : ∃ v, bits .or .i64 c at1 = v := ⟨_, rfl⟩
        rw [hv] at HT2
        have hS := hP.set_ 2 (.int .i64 v)
        have hS2 := hR.only (one_set W w.heap.size 2 (.int .i64 v)) (by simp)
        have hbS := hbw.trans ((one_set W w.heap.size 2 (.int .i64 v)).below hbw.size (by simp))
        clear hPd
        go_wp2_with fail
        go_region_law (fail)
        all_goals
          clear x0 x1 x2 x2f xd xf xt od hP hR hWT hv
          generalize W.setCell ⟨w.heap.size, 2, none⟩ (.int .i64 v) = V0 at *
          have hP1 := hS.only (Only.refl [] V0).drew (by simp)
          have hR1 := hS2.only (Only.refl [] V0).drew (by simp)
          have hb1 := hbS.drew
          clear hS hS2 hbS
          generalize V0.drew = V1 at *
          have y0 : V1.cell? ⟨w.heap.size, 0, none⟩ = some (.int .i64 f2) := hP1.cell 0
          have y1 : V1.cell? ⟨w.heap.size, 1, none⟩ = some (.int .i64 b2) := hP1.cell 1
          have y2 : V1.cell? ⟨w.heap.size, 2, none⟩ = some (.int .i64 v) := hP1.cell 2
          go_wp2_with (refine wpList_store_bl rfl 23 (.tmp 4) (.tmp 63) rfl (w.heap.size + 1) 0 [.int .i64 f2, .int .i64 b2, .int .i64 v] rfl rfl _ _ hR1 (by kernel_rfl) (by simp) (by kernel_rfl) ?_; intro w2 hB2 hw2)
          have hB3 : BL w2 (w.heap.size + 1) 23 [.int .i64 f2, .int .i64 b2, .int .i64 v] := hB2
          exact bodyPost_ret (v := .agg #[.int .i64 f2, .int .i64 b2, .int .i64 v]) (results_cell (p := 4) (by kernel_rfl) _ _ (w.heap.size + 1) _ _ _ _ rfl hB3 Tryz.underlying23 rfl (by kernel_rfl)) rfl ⟨by rw [HT2.out], hb1.trans (hw2.only.below (by have := hb1.size; omega) (by simp))⟩
      · by_cases e2 : code = 22
        · have HT2 : Hid (T = (f2, b2, bits .andNot .i64 c 3)) := Lib.hid (by rw [← HT.out, if_neg e0, if_neg e1, if_pos e2])
          obtain ⟨at1, hat⟩ : ∃ at1 : Int, at1 = 3 := ⟨_, rfl⟩
          rw [← hat] at HT2
          obtain ⟨v, hv⟩ : ∃ v, bits .andNot .i64 c at1 = v := ⟨_, rfl⟩
          rw [hv] at HT2
          have hS := hP.set_ 2 (.int .i64 v)
          have hS2 := hR.only (one_set W w.heap.size 2 (.int .i64 v)) (by simp)
          have hbS := hbw.trans ((one_set W w.heap.size 2 (.int .i64 v)).below hbw.size (by simp))
          subst e2
          clear hPd
          subst hat
          go_upto_region 15 with fail
          clear x0 x1 x2 x2f xd xf od hP hR hWT hv
          generalize W.setCell ⟨w.heap.size, 2, none⟩ (.int .i64 v) = V1 at *
          have hP1 := hS
          have hR1 := hS2
          have hb1 := hbS
          have y0 : V1.cell? ⟨w.heap.size, 0, none⟩ = some (.int .i64 f2) := hP1.cell 0
          have y1 : V1.cell? ⟨w.heap.size, 1, none⟩ = some (.int .i64 b2) := hP1.cell 1
          have y2 : V1.cell? ⟨w.heap.size, 2, none⟩ = some (.int .i64 v) := hP1.cell 2
          go_wp2_with (refine wpList_store_bl rfl 23 (.tmp 4) (.tmp 63) rfl (w.heap.size + 1) 0 [.int .i64 f2, .int .i64 b2, .int .i64 v] rfl rfl _ _ hR1 (by kernel_rfl) (by simp) (by kernel_rfl) ?_; intro w2 hB2 hw2)
          have hB3 : BL w2 (w.heap.size + 1) 23 [.int .i64 f2, .int .i64 b2, .int .i64 v] := hB2
          exact bodyPost_ret (v := .agg #[.int .i64 f2, .int .i64 b2, .int .i64 v]) (results_cell (p := 4) (by kernel_rfl) _ _ (w.heap.size + 1) _ _ _ _ rfl hB3 Tryz.underlying23 rfl (by kernel_rfl)) rfl ⟨by rw [HT2.out], hb1.trans (hw2.only.below (by have := hb1.size; omega) (by simp))⟩
        · by_cases e3 : 22 < code
          · by_cases e4 : code < 30
            · have HT2 : Hid (T = (f2, b2, bits .andNot .i64 c (attrs.getD (code - 20).toNat 0))) := Lib.hid (by rw [← HT.out, if_neg e0, if_neg e1, if_neg e2, if_pos ⟨e3, e4⟩])
              obtain ⟨k, hk⟩ : ∃ k : Nat, code - 20 = (k : Int) := ⟨(code - 20).toNat, by omega⟩
              rw [hk] at j3 HT2
              have jk : IntKind.i64.wrap (code - 20) = (k : Int) := by rw [hk]; exact j3
              have xt := (hWT.only od (Nat.le_trans hB hbw.size) (by simp)).at_ k (by omega)
              have k9 : (k : Int) < 10 := by omega
              have k0 : (0 : Int) ≤ (k : Int) := by omega
              rw [Int.toNat_natCast] at HT2
              generalize attrs.getD k 0 = at1 at *
              clear hk j3
              obtain ⟨v, hv⟩ : ∃ v, bits .andNot .i64 c at1 = v := ⟨_, rfl⟩
              rw [hv] at HT2
              have hS := hP.set_ 2 (.int .i64 v)
              have hS2 := hR.only (one_set W w.heap.size 2 (.int .i64 v)) (by simp)
              have hbS := hbw.trans ((one_set W w.heap.size 2 (.int .i64 v)).below hbw.size (by simp))
              clear hPd
              go_wp2_with fail
              go_region_law (fail)
              all_goals
                clear x0 x1 x2 x2f xd xf xt od hP hR hWT hv
                generalize W.setCell ⟨w.heap.size, 2, none⟩ (.int .i64 v) = V0 at *
                have hP1 := hS.only (Only.refl [] V0).drew (by simp)
                have hR1 := hS2.only (Only.refl [] V0).drew (by simp)
                have hb1 := hbS.drew
                clear hS hS2 hbS
                generalize V0.drew = V1 at *
                have y0 : V1.cell? ⟨w.heap.size, 0, none⟩ = some (.int .i64 f2) := hP1.cell 0
                have y1 : V1.cell? ⟨w.heap.size, 1, none⟩ = some (.int .i64 b2) := hP1.cell 1
                have y2 : V1.cell? ⟨w.heap.size, 2, none⟩ = some (.int .i64 v) := hP1.cell 2
                go_wp2_with (refine wpList_store_bl rfl 23 (.tmp 4) (.tmp 63) rfl (w.heap.size + 1) 0 [.int .i64 f2, .int .i64 b2, .int .i64 v] rfl rfl _ _ hR1 (by kernel_rfl) (by simp) (by kernel_rfl) ?_; intro w2 hB2 hw2)
                have hB3 : BL w2 (w.heap.size + 1) 23 [.int .i64 f2, .int .i64 b2, .int .i64 v] := hB2
                exact bodyPost_ret (v := .agg #[.int .i64 f2, .int .i64 b2, .int .i64 v]) (results_cell (p := 4) (by kernel_rfl) _ _ (w.heap.size + 1) _ _ _ _ rfl hB3 Tryz.underlying23 rfl (by kernel_rfl)) rfl ⟨by rw [HT2.out], hb1.trans (hw2.only.below (by have := hb1.size; omega) (by simp))⟩
            · have HT2 : Hid (T = (f2, b2, c)) := Lib.hid (by rw [← HT.out, if_neg e0, if_neg e1, if_neg e2, if_neg (fun h => e4 h.2)])
              clear xd xf hPd x0 x1 x2 x2f od hWT
              have hP1 := hP
              have hR1 := hR
              have hb1 := hbw
              generalize hVV : W = V1 at *
              clear hVV
              obtain ⟨v, rfl⟩ : ∃ v, v = c := ⟨c, rfl⟩
              have y0 : V1.cell? ⟨w.heap.size, 0, none⟩ = some (.int .i64 f2) := hP1.cell 0
              have y1 : V1.cell? ⟨w.heap.size, 1, none⟩ = some (.int .i64 b2) := hP1.cell 1
              have y2 : V1.cell? ⟨w.heap.size, 2, none⟩ = some (.int .i64 v) := hP1.cell 2
              go_wp2_with (refine wpList_store_bl rfl 23 (.tmp 4) (.tmp 63) rfl (w.heap.size + 1) 0 [.int .i64 f2, .int .i64 b2, .int .i64 v] rfl rfl _ _ hR1 (by kernel_rfl) (by simp) (by kernel_rfl) ?_; intro w2 hB2 hw2)
              have hB3 : BL w2 (w.heap.size + 1) 23 [.int .i64 f2, .int .i64 b2, .int .i64 v] := hB2
              exact bodyPost_ret (v := .agg #[.int .i64 f2, .int .i64 b2, .int .i64 v]) (results_cell (p := 4) (by kernel_rfl) _ _ (w.heap.size + 1) _ _ _ _ rfl hB3 Tryz.underlying23 rfl (by kernel_rfl)) rfl ⟨by rw [HT2.out], hb1.trans (hw2.only.below (by have := hb1.size; omega) (by simp))⟩
          · have HT2 : Hid (T = (f2, b2, c)) := Lib.hid (by rw [← HT.out, if_neg e0, if_neg e1, if_neg e2, if_neg (fun h => e3 h.1)])
            clear xd xf hPd x0 x1 x2 x2f od hWT
            have hP1 := hP
            have hR1 := hR
            have hb1 := hbw
            generalize hVV : W = V1 at *
            clear hVV
            obtain ⟨v, rfl⟩ : ∃ v, v = c := ⟨c, rfl⟩
            have y0 : V1.cell? ⟨w.heap.size, 0, none⟩ = some (.int .i64 f2) := hP1.cell 0
            have y1 : V1.cell? ⟨w.heap.size, 1, none⟩ = some (.int .i64 b2) := hP1.cell 1
            have y2 : V1.cell? ⟨w.heap.size, 2, none⟩ = some (.int .i64 v) := hP1.cell 2
            go_wp2_with (refine wpList_store_bl rfl 23 (.tmp 4) (.tmp 63) rfl (w.heap.size + 1) 0 [.int .i64 f2, .int .i64 b2, .int .i64 v] rfl rfl _ _ hR1 (by kernel_rfl) (by simp) (by kernel_rfl) ?_; intro w2 hB2 hw2)
            have hB3 : BL w2 (w.heap.size + 1) 23 [.int .i64 f2, .int .i64 b2, .int .i64 v] := hB2
            exact bodyPost_ret (v := .agg #[.int .i64 f2, .int .i64 b2, .int .i64 v]) (results_cell (p := 4) (by kernel_rfl) _ _ (w.heap.size + 1) _ _ _ _ rfl hB3 Tryz.underlying23 rfl (by kernel_rfl)) rfl ⟨by rw [HT2.out], hb1.trans (hw2.only.below (by have := hb1.size; omega) (by simp))⟩
  · go_enter Tryz.func222, Tryz.ntmps222
    go_upto_region 7 with (go_at_call 234; refine (colour_at _ (by first | exact b1.1 | exact b2.1) (by first | exact b1.2 | exact b2.2) _).mono ?_; rintro _ w1 ⟨rfl, rfl⟩; first | rw [ho1] | rw [ho2])
    clear jn1 jn2 b1 b2
    generalize (colP n1).1 = f2 at *
    obtain ⟨b2, rfl⟩ : ∃ b2, b2 = b := ⟨b, rfl⟩
    have hP : BL ((w.alloc (.cells #[.int .i64 f2, .int .i64 b2, .int .i64 c] 23)).alloc (.cells #[.int .i64 0, .int .i64 0, .int .i64 0] 23)) w.heap.size 23 [.int .i64 f2, .int .i64 b2, .int .i64 c] := (BL.new w 23 [.int .i64 f2, .int .i64 b2, .int .i64 c]).alloc _
    have hR : BL ((w.alloc (.cells #[.int .i64 f2, .int .i64 b2, .int .i64 c] 23)).alloc (.cells #[.int .i64 0, .int .i64 0, .int .i64 0] 23)) (w.heap.size + 1) 23 [.int .i64 0, .int .i64 0, .int .i64 0] := by
      have := BL.new (w.alloc (.cells #[.int .i64 f2, .int .i64 b2, .int .i64 c] 23)) 23 [.int .i64 0, .int .i64 0, .int .i64 0]
      rw [size_alloc] at this
      exact this
    have hbw : Below w.heap.size w ((w.alloc (.cells #[.int .i64 f2, .int .i64 b2, .int .i64 c] 23)).alloc (.cells #[.int .i64 0, .int .i64 0, .int .i64 0] 23)) := ((Below.refl _ _).alloc (Nat.le_refl _) _).alloc (by simp) _
    generalize (w.alloc (.cells #[.int .i64 f2, .int .i64 b2, .int .i64 c] 23)).alloc (.cells #[.int .i64 0, .int .i64 0, .int .i64 0] 23) = W at *
    have hWT := ht.below hbw hB
    by_cases e0 : code = 0
    · have HT2 : Hid (T = (-1, -1, 0)) := Lib.hid (by rw [← HT.out, if_pos e0])
      go_wp2_with (first
        | (go_at_call 10; refine (plainS_any _).mono ?_; rintro _ w1 ⟨rfl, hb1⟩; have hR1 := hR.only (F := []) (Only.of_below hb1) (by simp); have hbw1 := hbw.trans (hb1.mono hbw.size))
        | (refine wpList_store_bl rfl 23 (.tmp 4) (.tmp 30) rfl (w.heap.size + 1) 0 [.int .i64 (-1), .int .i64 (-1), .int .i64 0] rfl rfl _ _ hR1 (by kernel_rfl) (by simp) (by kernel_rfl) ?_; intro w2 hB2 hw2))
      have hB3 : BL w2 (w.heap.size + 1) 23 [.int .i64 (-1), .int .i64 (-1), .int .i64 0] := hB2
      exact bodyPost_ret (v := .agg #[.int .i64 (-1), .int .i64 (-1), .int .i64 0]) (results_cell (p := 4) (by kernel_rfl) _ _ (w.heap.size + 1) _ _ _ _ rfl hB3 Tryz.underlying23 rfl (by kernel_rfl)) rfl ⟨by rw [HT2.out], hbw1.trans (hw2.only.below (by have := hbw1.size; omega) (by simp))⟩
    · have x0 : W.cell? ⟨w.heap.size, 0, none⟩ = some (.int .i64 f2) := hP.cell 0
      have x1 : W.cell? ⟨w.heap.size, 1, none⟩ = some (.int .i64 b2) := hP.cell 1
      have x2 : W.cell? ⟨w.heap.size, 2, none⟩ = some (.int .i64 c) := hP.cell 2
      have x2f := hP.frozen 2
      have od : Only [] W W.drew := (Only.refl _ _).drew
      have hPd := hP.only od (by simp)
      have xd : W.drew.cell? ⟨w.heap.size, 2, none⟩ = some (.int .i64 c) := hPd.cell 2
      have xf : W.drew.frozen? ⟨w.heap.size, 2, none⟩ = false := hPd.frozen 2
      by_cases e1 : code < 10
      · have HT2 : Hid (T = (f2, b2, bits .or .i64 c (attrs.getD code.toNat 0))) := Lib.hid (by rw [← HT.out, if_neg e0, if_pos e1])
        obtain ⟨k, rfl⟩ : ∃ k : Nat, code = (k : Int) := ⟨code.toNat, by omega⟩
        have xt := (hWT.only od (Nat.le_trans hB hbw.size) (by simp)).at_ k (by omega)
        rw [Int.toNat_natCast] at HT2
        generalize attrs.getD k 0 = at1 at *
        obtain ⟨v, hv⟩ : ∃ v, bits .or .i64 c at1 = v := ⟨_, rfl⟩
        rw [hv] at HT2
        have hS := hP.set_ 2 (.int .i64 v)
        have hS2 := hR.only (one_set W w.heap.size 2 (.int .i64 v)) (by simp)
        have hbS := hbw.trans ((one_set W w.heap.size 2 (.int .i64 v)).below hbw.size (by simp))
        clear hPd
        go_wp2_with fail
        go_region_law (fail)
        all_goals
          clear x0 x1 x2 x2f xd xf xt od hP hR hWT hv
          generalize W.setCell ⟨w.heap.size, 2, none⟩ (.int .i64 v) = V0 at *
          have hP1 := hS.only (Only.refl [] V0).drew (by simp)
          have hR1 := hS2.only (Only.refl [] V0).drew (by simp)
          have hb1 := hbS.drew
          clear hS hS2 hbS
          generalize V0.drew = V1 at *
          have y0 : V1.cell? ⟨w.heap.size, 0, none⟩ = some (.int .i64 f2) := hP1.cell 0
          have y1 : V1.cell? ⟨w.heap.size, 1, none⟩ = some (.int .i64 b2) := hP1.cell 1
          have y2 : V1.cell? ⟨w.heap.size, 2, none⟩ = some (.int .i64 v) := hP1.cell 2
          go_wp2_with (refine wpList_store_bl rfl 23 (.tmp 4) (.tmp 63) rfl (w.heap.size + 1) 0 [.int .i64 f2, .int .i64 b2, .int .i64 v] rfl rfl _ _ hR1 (by kernel_rfl) (by simp) (by kernel_rfl) ?_; intro w2 hB2 hw2)
          have hB3 : BL w2 (w.heap.size + 1) 23 [.int .i64 f2, .int .i64 b2, .int .i64 v] := hB2
          exact bodyPost_ret (v := .agg #[.int .i64 f2, .int .i64 b2, .int .i64 v]) (results_cell (p := 4) (by kernel_rfl) _ _ (w.heap.size + 1) _ _ _ _ rfl hB3 Tryz.underlying23 rfl (by kernel_rfl)) rfl ⟨by rw [HT2.out], hb1.trans (hw2.only.below (by have := hb1.size; omega) (by simp))⟩
      · by_cases e2 : code = 22
        · have HT2 : Hid (T = (f2, b2, bits .andNot .i64 c 3)) := Lib.hid (by rw [← HT.out, if_neg e0, if_neg e1, if_pos e2])
          obtain ⟨at1, hat⟩ : ∃ at1 : Int, at1 = 3 := ⟨_, rfl⟩
          rw [← hat] at HT2
          obtain ⟨v, hv⟩ : ∃ v, bits .andNot .i64 c at1 = v := ⟨_, rfl⟩
          rw [hv] at HT2
          have hS := hP.set_ 2 (.int .i64 v)
          have hS2 := hR.only (one_set W w.heap.size 2 (.int .i64 v)) (by simp)
          have hbS := hbw.trans ((one_set W w.heap.size 2 (.int .i64 v)).below hbw.size (by simp))
          subst e2
          clear hPd
          subst hat
          go_upto_region 15 with fail
          clear x0 x1 x2 x2f xd xf od hP hR hWT hv
          generalize W.setCell ⟨w.heap.size, 2, none⟩ (.int .i64 v) = V1 at *
          have hP1 := hS
          have hR1 := hS2
          have hb1 := hbS
          have y0 : V1.cell? ⟨w.heap.size, 0, none⟩ = some (.int .i64 f2) := hP1.cell 0
          have y1 : V1.cell? ⟨w.heap.size, 1, none⟩ = some (.int .i64 b2) := hP1.cell 1
          have y2 : V1.cell? ⟨w.heap.size, 2, none⟩ = some (.int .i64 v) := hP1.cell 2
          go_wp2_with (refine wpList_store_bl rfl 23 (.tmp 4) (.tmp 63) rfl (w.heap.size + 1) 0 [.int .i64 f2, .int .i64 b2, .int .i64 v] rfl rfl _ _ hR1 (by kernel_rfl) (by simp) (by kernel_rfl) ?_; intro w2 hB2 hw2)
          have hB3 : BL w2 (w.heap.size + 1) 23 [.int .i64 f2, .int .i64 b2, .int .i64 v] := hB2
          exact bodyPost_ret (v := .agg #[.int .i64 f2, .int .i64 b2, .int .i64 v]) (results_cell (p := 4) (by kernel_rfl) _ _ (w.heap.size + 1) _ _ _ _ rfl hB3 Tryz.underlying23 rfl (by kernel_rfl)) rfl ⟨by rw [HT2.out], hb1.trans (hw2.only.below (by have := hb1.size; omega) (by simp))⟩
        · by_cases e3 : 22 < code
          · by_cases e4 : code < 30
            · have HT2 : Hid (T = (f2, b2, bits .andNot .i64 c (attrs.getD (code - 20).toNat 0))) := Lib.hid (by rw [← HT.out, if_neg e0, if_neg e1, if_neg e2, if_pos ⟨e3, e4⟩])
              obtain ⟨k, hk⟩ : ∃ k : Nat, code - 20 = (k : Int) := ⟨(code - 20).toNat, by omega⟩
              rw [hk] at j3 HT2
              have jk : IntKind.i64.wrap (code - 20) = (k : Int) := by rw [hk]; exact j3
              have xt := (hWT.only od (Nat.le_trans hB hbw.size) (by simp)).at_ k (by omega)
              have k9 : (k : Int) < 10 := by omega
              have k0 : (0 : Int) ≤ (k : Int) := by omega
              rw [Int.toNat_natCast] at HT2
              generalize attrs.getD k 0 = at1 at *
              clear hk j3
              obtain ⟨v, hv⟩ : ∃ v, bits .andNot .i64 c at1 = v := ⟨_, rfl⟩
              rw [hv] at HT2
              have hS := hP.set_ 2 (.int .i64 v)
              have hS2 := hR.only (one_set W w.heap.size 2 (.int .i64 v)) (by simp)
              have hbS := hbw.trans ((one_set W w.heap.size 2 (.int .i64 v)).below hbw.size (by simp))
              clear hPd
              go_wp2_with fail
              go_region_law (fail)
              all_goals
                clear x0 x1 x2 x2f xd xf xt od hP hR hWT hv
                generalize W.setCell ⟨w.heap.size, 2, none⟩ (.int .i64 v) = V0 at *
                have hP1 := hS.only (Only.refl [] V0).drew (by simp)
                have hR1 := hS2.only (Only.refl [] V0).drew (by simp)
                have hb1 := hbS.drew
                clear hS hS2 hbS
                generalize V0.drew = V1 at *
                have y0 : V1.cell? ⟨w.heap.size, 0, none⟩ = some (.int .i64 f2) := hP1.cell 0
                have y1 : V1.cell? ⟨w.heap.size, 1, none⟩ = some (.int .i64 b2) := hP1.cell 1
                have y2 : V1.cell? ⟨w.heap.size, 2, none⟩ = some (.int .i64 v) := hP1.cell 2
                go_wp2_with (refine wpList_store_bl rfl 23 (.tmp 4) (.tmp 63) rfl (w.heap.size + 1) 0 [.int .i64 f2, .int .i64 b2, .int .i64 v] rfl rfl _ _ hR1 (by kernel_rfl) (by simp) (by kernel_rfl) ?_; intro w2 hB2 hw2)
                have hB3 : BL w2 (w.heap.size + 1) 23 [.int .i64 f2, .int .i64 b2, .int .i64 v] := hB2
                exact bodyPost_ret (v := .agg #[.int .i64 f2, .int .i64 b2, .int .i64 v]) (results_cell (p := 4) (by kernel_rfl) _ _ (w.heap.size + 1) _ _ _ _ rfl hB3 Tryz.underlying23 rfl (by kernel_rfl)) rfl ⟨by rw [HT2.out], hb1.trans (hw2.only.below (by have := hb1.size; omega) (by simp))⟩
            · have HT2 : Hid (T = (f2, b2, c)) := Lib.hid (by rw [← HT.out, if_neg e0, if_neg e1, if_neg e2, if_neg (fun h => e4 h.2)])
              clear xd xf hPd x0 x1 x2 x2f od hWT
              have hP1 := hP
              have hR1 := hR
              have hb1 := hbw
              generalize hVV : W = V1 at *
              clear hVV
              obtain ⟨v, rfl⟩ : ∃ v, v = c := ⟨c, rfl⟩
              have y0 : V1.cell? ⟨w.heap.size, 0, none⟩ = some (.int .i64 f2) := hP1.cell 0
              have y1 : V1.cell? ⟨w.heap.size, 1, none⟩ = some (.int .i64 b2) := hP1.cell 1
              have y2 : V1.cell? ⟨w.heap.size, 2, none⟩ = some (.int .i64 v) := hP1.cell 2
              go_wp2_with (refine wpList_store_bl rfl 23 (.tmp 4) (.tmp 63) rfl (w.heap.size + 1) 0 [.int .i64 f2, .int .i64 b2, .int .i64 v] rfl rfl _ _ hR1 (by kernel_rfl) (by simp) (by kernel_rfl) ?_; intro w2 hB2 hw2)
              have hB3 : BL w2 (w.heap.size + 1) 23 [.int .i64 f2, .int .i64 b2, .int .i64 v] := hB2
              exact bodyPost_ret (v := .agg #[.int .i64 f2, .int .i64 b2, .int .i64 v]) (results_cell (p := 4) (by kernel_rfl) _ _ (w.heap.size + 1) _ _ _ _ rfl hB3 Tryz.underlying23 rfl (by kernel_rfl)) rfl ⟨by rw [HT2.out], hb1.trans (hw2.only.below (by have := hb1.size; omega) (by simp))⟩
          · have HT2 : Hid (T = (f2, b2, c)) := Lib.hid (by rw [← HT.out, if_neg e0, if_neg e1, if_neg e2, if_neg (fun h => e3 h.1)])
            clear xd xf hPd x0 x1 x2 x2f od hWT
            have hP1 := hP
            have hR1 := hR
            have hb1 := hbw
            generalize hVV : W = V1 at *
            clear hVV
            obtain ⟨v, rfl⟩ : ∃ v, v = c := ⟨c, rfl⟩
            have y0 : V1.cell? ⟨w.heap.size, 0, none⟩ = some (.int .i64 f2) := hP1.cell 0
            have y1 : V1.cell? ⟨w.heap.size, 1, none⟩ = some (.int .i64 b2) := hP1.cell 1
            have y2 : V1.cell? ⟨w.heap.size, 2, none⟩ = some (.int .i64 v) := hP1.cell 2
            go_wp2_with (refine wpList_store_bl rfl 23 (.tmp 4) (.tmp 63) rfl (w.heap.size + 1) 0 [.int .i64 f2, .int .i64 b2, .int .i64 v] rfl rfl _ _ hR1 (by kernel_rfl) (by simp) (by kernel_rfl) ?_; intro w2 hB2 hw2)
            have hB3 : BL w2 (w.heap.size + 1) 23 [.int .i64 f2, .int .i64 b2, .int .i64 v] := hB2
            exact bodyPost_ret (v := .agg #[.int .i64 f2, .int .i64 b2, .int .i64 v]) (results_cell (p := 4) (by kernel_rfl) _ _ (w.heap.size + 1) _ _ _ _ rfl hB3 Tryz.underlying23 rfl (by kernel_rfl)) rfl ⟨by rw [HT2.out], hb1.trans (hw2.only.below (by have := hb1.size; omega) (by simp))⟩
  · go_enter Tryz.func222, Tryz.ntmps222
    go_upto_region 7 with (go_at_call 234; refine (colour_at _ (by first | exact b1.1 | exact b2.1) (by first | exact b1.2 | exact b2.2) _).mono ?_; rintro _ w1 ⟨rfl, rfl⟩; first | rw [ho1] | rw [ho2])
    clear jn1 jn2 b1 b2
    generalize (colP n1).1 = f2 at *
    generalize (colP n2).1 = b2 at *
    have hP : BL ((w.alloc (.cells #[.int .i64 f2, .int .i64 b2, .int .i64 c] 23)).alloc (.cells #[.int .i64 0, .int .i64 0, .int .i64 0] 23)) w.heap.size 23 [.int .i64 f2, .int .i64 b2, .int .i64 c] := (BL.new w 23 [.int .i64 f2, .int .i64 b2, .int .i64 c]).alloc _
    have hR : BL ((w.alloc (.cells #[.int .i64 f2, .int .i64 b2, .int .i64 c] 23)).alloc (.cells #[.int .i64 0, .int .i64 0, .int .i64 0] 23)) (w.heap.size + 1) 23 [.int .i64 0, .int .i64 0, .int .i64 0] := by
      have := BL.new (w.alloc (.cells #[.int .i64 f2, .int .i64 b2, .int .i64 c] 23)) 23 [.int .i64 0, .int .i64 0, .int .i64 0]
      rw [size_alloc] at this
      exact this
    have hbw : Below w.heap.size w ((w.alloc (.cells #[.int .i64 f2, .int .i64 b2, .int .i64 c] 23)).alloc (.cells #[.int .i64 0, .int .i64 0, .int .i64 0] 23)) := ((Below.refl _ _).alloc (Nat.le_refl _) _).alloc (by simp) _
    generalize (w.alloc (.cells #[.int .i64 f2, .int .i64 b2, .int .i64 c] 23)).alloc (.cells #[.int .i64 0, .int .i64 0, .int .i64 0] 23) = W at *
    have hWT := ht.below hbw hB
    by_cases e0 : code = 0
    · have HT2 : Hid (T = (-1, -1, 0)) := Lib.hid (by rw [← HT.out, if_pos e0])
      go_wp2_with (first
        | (go_at_call 10; refine (plainS_any _).mono ?_; rintro _ w1 ⟨rfl, hb1⟩; have hR1 := hR.only (F := []) (Only.of_below hb1) (by simp); have hbw1 := hbw.trans (hb1.mono hbw.size))
        | (refine wpList_store_bl rfl 23 (.tmp 4) (.tmp 30) rfl (w.heap.size + 1) 0 [.int .i64 (-1), .int .i64 (-1), .int .i64 0] rfl rfl _ _ hR1 (by kernel_rfl) (by simp) (by kernel_rfl) ?_; intro w2 hB2 hw2))
      have hB3 : BL w2 (w.heap.size + 1) 23 [.int .i64 (-1), .int .i64 (-1), .int .i64 0] := hB2
      exact bodyPost_ret (v := .agg #[.int .i64 (-1), .int .i64 (-1), .int .i64 0]) (results_cell (p := 4) (by kernel_rfl) _ _ (w.heap.size + 1) _ _ _ _ rfl hB3 Tryz.underlying23 rfl (by kernel_rfl)) rfl ⟨by rw [HT2.out], hbw1.trans (hw2.only.below (by have := hbw1.size; omega) (by simp))⟩
    · have x0 : W.cell? ⟨w.heap.size, 0, none⟩ = some (.int .i64 f2) := hP.cell 0
      have x1 : W.cell? ⟨w.heap.size, 1, none⟩ = some (.int .i64 b2) := hP.cell 1
      have x2 : W.cell? ⟨w.heap.size, 2, none⟩ = some (.int .i64 c) := hP.cell 2
      have x2f := hP.frozen 2
      have od : Only [] W W.drew := (Only.refl _ _).drew
      have hPd := hP.only od (by simp)
      have xd : W.drew.cell? ⟨w.heap.size, 2, none⟩ = some (.int .i64 c) := hPd.cell 2
      have xf : W.drew.frozen? ⟨w.heap.size, 2, none⟩ = false := hPd.frozen 2
      by_cases e1 : code < 10
      · have HT2 : Hid (T = (f2, b2, bits .or .i64 c (attrs.getD code.toNat 0))) := Lib.hid (by rw [← HT.out, if_neg e0, if_pos e1])
        obtain ⟨k, rfl⟩ : ∃ k : Nat, code = (k : Int) := ⟨code.toNat, by omega⟩
        have xt := (hWT.only od (Nat.le_trans hB hbw.size) (by simp)).at_ k (by omega)
        rw [Int.toNat_natCast] at HT2
        generalize attrs.getD k 0 = at1 at *
        obtain ⟨v, hv⟩ : ∃ v, bits .or .i64 c at1 = v := ⟨_, rfl⟩
        rw [hv] at HT2
        have hS := hP.set_ 2 (.int .i64 v)
        have hS2 := hR.only (one_set W w.heap.size 2 (.int .i64 v)) (by simp)
        have hbS := hbw.trans ((one_set W w.heap.size 2 (.int .i64 v)).below hbw.size (by simp))
        clear hPd
        go_wp2_with fail
        go_region_law (fail)
        all_goals
          clear x0 x1 x2 x2f xd xf xt od hP hR hWT hv
          generalize W.setCell ⟨w.heap.size, 2, none⟩ (.int .i64 v) = V0 at *
          have hP1 := hS.only (Only.refl [] V0).drew (by simp)
          have hR1 := hS2.only (Only.refl [] V0).drew (by simp)
          have hb1 := hbS.drew
          clear hS hS2 hbS
          generalize V0.drew = V1 at *
          have y0 : V1.cell? ⟨w.heap.size, 0, none⟩ = some (.int .i64 f2) := hP1.cell 0
          have y1 : V1.cell? ⟨w.heap.size, 1, none⟩ = some (.int .i64 b2) := hP1.cell 1
          have y2 : V1.cell? ⟨w.heap.size, 2, none⟩ = some (.int .i64 v) := hP1.cell 2
          go_wp2_with (refine wpList_store_bl rfl 23 (.tmp 4) (.tmp 63) rfl (w.heap.size + 1) 0 [.int .i64 f2, .int .i64 b2, .int .i64 v] rfl rfl _ _ hR1 (by kernel_rfl) (by simp) (by kernel_rfl) ?_; intro w2 hB2 hw2)
          have hB3 : BL w2 (w.heap.size + 1) 23 [.int .i64 f2, .int .i64 b2, .int .i64 v] := hB2
          exact bodyPost_ret (v := .agg #[.int .i64 f2, .int .i64 b2, .int .i64 v]) (results_cell (p := 4) (by kernel_rfl) _ _ (w.heap.size + 1) _ _ _ _ rfl hB3 Tryz.underlying23 rfl (by kernel_rfl)) rfl ⟨by rw [HT2.out], hb1.trans (hw2.only.below (by have := hb1.size; omega) (by simp))⟩
      · by_cases e2 : code = 22
        · have HT2 : Hid (T = (f2, b2, bits .andNot .i64 c 3)) := Lib.hid (by rw [← HT.out, if_neg e0, if_neg e1, if_pos e2])
          obtain ⟨at1, hat⟩ : ∃ at1 : Int, at1 = 3 := ⟨_, rfl⟩
          rw [← hat] at HT2
          obtain ⟨v, hv⟩ : ∃ v, bits .andNot .i64 c at1 = v := ⟨_, rfl⟩
          rw [hv] at HT2
          have hS := hP.set_ 2 (.int .i64 v)
          have hS2 := hR.only (one_set W w.heap.size 2 (.int .i64 v)) (by simp)
          have hbS := hbw.trans ((one_set W w.heap.size 2 (.int .i64 v)).below hbw.size (by simp))
          subst e2
          clear hPd
          subst hat
          go_upto_region 15 with fail
          clear x0 x1 x2 x2f xd xf od hP hR hWT hv
          generalize W.setCell ⟨w.heap.size, 2, none⟩ (.int .i64 v) = V1 at *
          have hP1 := hS
          have hR1 := hS2
          have hb1 := hbS
          have y0 : V1.cell? ⟨w.heap.size, 0, none⟩ = some (.int .i64 f2) := hP1.cell 0
          have y1 : V1.cell? ⟨w.heap.size, 1, none⟩ = some (.int .i64 b2) := hP1.cell 1
          have y2 : V1.cell? ⟨w.heap.size, 2, none⟩ = some (.int .i64 v) := hP1.cell 2
          go_wp2_with (refine wpList_store_bl rfl 23 (.tmp 4) (.tmp 63) rfl (w.heap.size + 1) 0 [.int .i64 f2, .int .i64 b2, .int .i64 v] rfl rfl _ _ hR1 (by kernel_rfl) (by simp) (by kernel_rfl) ?_; intro w2 hB2 hw2)
          have hB3 : BL w2 (w.heap.size + 1) 23 [.int .i64 f2, .int .i64 b2, .int .i64 v] := hB2
          exact bodyPost_ret (v := .agg #[.int .i64 f2, .int .i64 b2, .int .i64 v]) (results_cell (p := 4) (by kernel_rfl) _ _ (w.heap.size + 1) _ _ _ _ rfl hB3 Tryz.underlying23 rfl (by kernel_rfl)) rfl ⟨by rw [HT2.out], hb1.trans (hw2.only.below (by have := hb1.size; omega) (by simp))⟩
        · by_cases e3 : 22 < code
          · by_cases e4 : code < 30
            · have HT2 : Hid (T = (f2, b2, bits .andNot .i64 c (attrs.getD (code - 20).toNat 0))) := Lib.hid (by rw [← HT.out, if_neg e0, if_neg e1, if_neg e2, if_pos ⟨e3, e4⟩])
              obtain ⟨k, hk⟩ : ∃ k : Nat, code - 20 = (k : Int) := ⟨(code - 20).toNat, by omega⟩
              rw [hk] at j3 HT2
              have jk : IntKind.i64.wrap (code - 20) = (k : Int) := by rw [hk]; exact j3
              have xt := (hWT.only od (Nat.le_trans hB hbw.size) (by simp)).at_ k (by omega)
              have k9 : (k : Int) < 10 := by omega
              have k0 : (0 : Int) ≤ (k : Int) := by omega
              rw [Int.toNat_natCast] at HT2
              generalize attrs.getD k 0 = at1 at *
              clear hk j3
              obtain ⟨v, hv⟩ : ∃ v, bits .andNot .i64 c at1 = v := ⟨_, rfl⟩
              rw [hv] at HT2
              have hS := hP.set_ 2 (.int .i64 v)
              have hS2 := hR.only (one_set W w.heap.size 2 (.int .i64 v)) (by simp)
              have hbS := hbw.trans ((one_set W w.heap.size 2 (.int .i64 v)).below hbw.size (by simp))
              clear hPd
              go_wp2_with fail
              go_region_law (fail)
              all_goals
                clear x0 x1 x2 x2f xd xf xt od hP hR hWT hv
                generalize W.setCell ⟨w.heap.size, 2, none⟩ (.int .i64 v) = V0 at *
                have hP1 := hS.only (Only.refl [] V0).drew (by simp)
                have hR1 := hS2.only (Only.refl [] V0).drew (by simp)
                have hb1 := hbS.drew
                clear hS hS2 hbS
                generalize V0.drew = V1 at *
                have y0 : V1.cell? ⟨w.heap.size, 0, none⟩ = some (.int .i64 f2) := hP1.cell 0
                have y1 : V1.cell? ⟨w.heap.size, 1, none⟩ = some (.int .i64 b2) := hP1.cell 1
                have y2 : V1.cell? ⟨w.heap.size, 2, none⟩ = some (.int .i64 v) := hP1.cell 2
                go_wp2_with (refine wpList_store_bl rfl 23 (.tmp 4) (.tmp 63) rfl (w.heap.size + 1) 0 [.int .i64 f2, .int .i64 b2, .int .i64 v] rfl rfl _ _ hR1 (by kernel_rfl) (by simp) (by kernel_rfl) ?_; intro w2 hB2 hw2)
                have hB3 : BL w2 (w.heap.size + 1) 23 [.int .i64 f2, .int .i64 b2, .int .i64 v] := hB2
                exact bodyPost_ret (v := .agg #[.int .i64 f2, .int .i64 b2, .int .i64 v]) (results_cell (p := 4) (by kernel_rfl) _ _ (w.heap.size + 1) _ _ _ _ rfl hB3 Tryz.underlying23 rfl (by kernel_rfl)) rfl ⟨by rw [HT2.out], hb1.trans (hw2.only.below (by have := hb1.size; omega) (by simp))⟩
            · have HT2 : Hid (T = (f2, b2, c)) := Lib.hid (by rw [← HT.out, if_neg e0, if_neg e1, if_neg e2, if_neg (fun h => e4 h.2)])
              clear xd xf hPd x0 x1 x2 x2f od hWT
              have hP1 := hP
              have hR1 := hR
              have hb1 := hbw
              generalize hVV : W = V1 at *
              clear hVV
              obtain ⟨v, rfl⟩ : ∃ v, v = c := ⟨c, rfl⟩
              have y0 : V1.cell? ⟨w.heap.size, 0, none⟩ = some (.int .i64 f2) := hP1.cell 0
              have y1 : V1.cell? ⟨w.heap.size, 1, none⟩ = some (.int .i64 b2) := hP1.cell 1
              have y2 : V1.cell? ⟨w.heap.size, 2, none⟩ = some (.int .i64 v) := hP1.cell 2
              go_wp2_with (refine wpList_store_bl rfl 23 (.tmp 4) (.tmp 63) rfl (w.heap.size + 1) 0 [.int .i64 f2, .int .i64 b2, .int .i64 v] rfl rfl _ _ hR1 (by kernel_rfl) (by simp) (by kernel_rfl) ?_; intro w2 hB2 hw2)
              have hB3 : BL w2 (w.heap.size + 1) 23 [.int .i64 f2, .int .i64 b2, .int .i64 v] := hB2
              exact bodyPost_ret (v := .agg #[.int .i64 f2, .int .i64 b2, .int .i64 v]) (results_cell (p := 4) (by kernel_rfl) _ _ (w.heap.size + 1) _ _ _ _ rfl hB3 Tryz.underlying23 rfl (by kernel_rfl)) rfl ⟨by rw [HT2.out], hb1.trans (hw2.only.below (by have := hb1.size; omega) (by simp))⟩
          · have HT2 : Hid (T = (f2, b2, c)) := Lib.hid (by rw [← HT.out, if_neg e0, if_neg e1, if_neg e2, if_neg (fun h => e3 h.1)])
            clear xd xf hPd x0 x1 x2 x2f od hWT
            have hP1 := hP
            have hR1 := hR
            have hb1 := hbw
            generalize hVV : W = V1 at *
            clear hVV
            obtain ⟨v, rfl⟩ : ∃ v, v = c := ⟨c, rfl⟩
            have y0 : V1.cell? ⟨w.heap.size, 0, none⟩ = some (.int .i64 f2) := hP1.cell 0
            have y1 : V1.cell? ⟨w.heap.size, 1, none⟩ = some (.int .i64 b2) := hP1.cell 1
            have y2 : V1.cell? ⟨w.heap.size, 2, none⟩ = some (.int .i64 v) := hP1.cell 2
            go_wp2_with (refine wpList_store_bl rfl 23 (.tmp 4) (.tmp 63) rfl (w.heap.size + 1) 0 [.int .i64 f2, .int .i64 b2, .int .i64 v] rfl rfl _ _ hR1 (by kernel_rfl) (by simp) (by kernel_rfl) ?_; intro w2 hB2 hw2)
            have hB3 : BL w2 (w.heap.size + 1) 23 [.int .i64 f2, .int .i64 b2, .int .i64 v] := hB2
            exact bodyPost_ret (v := .agg #[.int .i64 f2, .int .i64 b2, .int .i64 v]) (results_cell (p := 4) (by kernel_rfl) _ _ (w.heap.size + 1) _ _ _ _ rfl hB3 Tryz.underlying23 rfl (by kernel_rfl)) rfl ⟨by rw [HT2.out], hb1.trans (hw2.only.below (by have := hb1.size; omega) (by simp))⟩
end Go.Proofs.YtjklnnklgkihlaaGreatDoor.Scr
