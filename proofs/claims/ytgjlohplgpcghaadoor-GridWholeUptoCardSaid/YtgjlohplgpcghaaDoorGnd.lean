/- Calls that do nothing. -/
import Derived.Test.YtgjlohplgpcghaaDoorGcp
import Derived.Test.YtgjlohplgpcghaaDoorGpn
namespace Go.Proofs.YtgjlohplgpcghaaDoor.Grd
open Go.RowKit Cel Sty

set_option maxRecDepth 100000 in
set_option maxHeartbeats 2000000 in
theorem put_far {B : Nat} {w : World} {g s : Nat} {pv : Value} {fp : List Nat} {G : GS} (h : GridAt w g s pv fp G) (ht : Tabs B w) (hB : B ≤ w.heap.size) (x y : Int) (r wd s1 s2 s3 : Int) (hr0 : -2147483648 ≤ r) (hr1 : r ≤ 2147483647) (hsh0 : decide (0 ≤ y ∧ y < G.scr.length) = true) (hmay : mayS r wd s1 s2 s3 = true) (hx0 : 0 ≤ x) (hno : (G.cols : Int) < x + wd) :
    Calls Tryd.prog 11 #[.pointer (some ⟨g, 0, none⟩), .int .i64 x, .int .i64 y, .agg #[.int .i32 r, .int .i64 wd, .int .i64 s1, .int .i64 s2, .int .i64 s3]] w fun e w' => e = .returned (.tuple #[]) ∧ Below w.heap.size w w' := by
  have hsh := fun w h => shows_any (w := w) (g := g) (s := s) (pv := pv) (fp := fp) (G := G) h y true hsh0
  have hmb := fun w ht hB => mayBePut_any (B := B) r wd s1 s2 s3 hr0 hr1 true hmay w ht hB
  have hc1 := h.c1
  have hc2 := h.c2
  have hw := may_width hmay
  obtain ⟨n, hn⟩ : ∃ n, G.cols = n := ⟨_, rfl⟩
  have HCN := Lib.hid hn
  rw [hn] at hno hc1 hc2
  have d1 : decide (x < 0) = false := by simpa using hx0
  have d2 : decide ((n : Int) - wd < x) = true := by simp; omega
  have d3 : (n : Int) - wd < x := by omega
  have j1 : IntKind.i64.wrap ((n : Int) - wd) = (n : Int) - wd := IntWalk.i64_in _ ⟨by omega, by omega⟩
  have hgl := h.blk.lt
  have hA := BL.new w 35 [.int .i32 r, .int .i64 wd, .int .i64 s1, .int .i64 s2, .int .i64 s3]
  have hb0 : Below w.heap.size w (w.alloc (.cells #[.int .i32 r, .int .i64 wd, .int .i64 s1, .int .i64 s2, .int .i64 s3] 35)) := (Below.refl _ _).alloc (Nat.le_refl _) _
  have hs0 := hb0.size
  have HA := Lib.hid hA
  have HG := Lib.hid (h.below hb0)
  have HT := Lib.hid (ht.below hb0 hB)
  have hAl := hA.lt
  have HB0 := Lib.hid hb0
  clear hA h ht hb0 hsh0 hmay hr0 hr1 hn hw hno
  go_enter Tryd.func11, Tryd.ntmps11
  go_wp2_with fail
  generalize w.alloc (.cells #[.int .i32 r, .int .i64 wd, .int .i64 s1, .int .i64 s2, .int .i64 s3] 35) = W at *
  have hdr : Below W.heap.size W W.drew := (Below.refl _ _).drew
  go_cut [32] (fun s32 wx => s32 = .bool true ∧ Below W.heap.size W wx)
  case first =>
    have SS : ∀ V, Below W.heap.size W V → (V.cell? ⟨w.heap.size, 0, none⟩ = some (.int .i32 r) ∧ V.cell? ⟨w.heap.size, 1, none⟩ = some (.int .i64 wd) ∧ V.cell? ⟨w.heap.size, 2, none⟩ = some (.int .i64 s1) ∧ V.cell? ⟨w.heap.size, 3, none⟩ = some (.int .i64 s2) ∧ V.cell? ⟨w.heap.size, 4, none⟩ = some (.int .i64 s3) ∧ V.cell? ⟨g, 0, none⟩ = some (.int .i64 (n : Int)) ∧ GridAt V g s pv fp G ∧ Tabs B V ∧ Below W.heap.size W V) := fun V hkk => by
      have hA2 := HA.out.only (F := []) (Only.of_below hkk) (by simp)
      have hG2 := HG.out.below hkk
      exact ⟨hA2.cell 0, hA2.cell 1, hA2.cell 2, hA2.cell 3, hA2.cell 4, by rw [← HCN.out]; exact hG2.f0, hG2, HT.out.below hkk (by omega), hkk⟩
    clear HB0
    go_region_held3 (fun V => V.cell? ⟨w.heap.size, 0, none⟩ = some (.int .i32 r) ∧ V.cell? ⟨w.heap.size, 1, none⟩ = some (.int .i64 wd) ∧ V.cell? ⟨w.heap.size, 2, none⟩ = some (.int .i64 s1) ∧ V.cell? ⟨w.heap.size, 3, none⟩ = some (.int .i64 s2) ∧ V.cell? ⟨w.heap.size, 4, none⟩ = some (.int .i64 s3) ∧ V.cell? ⟨g, 0, none⟩ = some (.int .i64 (n : Int)) ∧ GridAt V g s pv fp G ∧ Tabs B V ∧ Below W.heap.size W V)
      (first
        | (refine SS _ ?_; assumption)
        | fail)
      (first
        | (go_at_call 35; obtain ⟨_, _, _, _, _, _, kg, _, k2⟩ := (by assumption : _ ∧ _ ∧ _ ∧ _ ∧ _ ∧ _ ∧ GridAt _ g s pv fp G ∧ Tabs B _ ∧ Below W.heap.size W _); refine (hsh _ kg).mono ?_; rintro _ w2 ⟨rfl, rfl⟩)
        | (go_at_call 36; obtain ⟨_, _, _, _, _, _, _, kt, k3⟩ := (by assumption : _ ∧ _ ∧ _ ∧ _ ∧ _ ∧ _ ∧ GridAt _ g s pv fp G ∧ Tabs B _ ∧ Below W.heap.size W _); refine (hmb _ kt (by have := k3.size; omega)).mono ?_; rintro _ w3 ⟨rfl, hb3⟩; have hby := k3.trans (hb3.mono k3.size)))
    all_goals go_wp2_with fail
    all_goals go_meet
    all_goals exact ⟨rfl, hby⟩
  case rest =>
    obtain ⟨rfl, hb1⟩ := hcut
    have HF := Lib.hid (HB0.out.trans (hb1.mono hs0))
    go_wp2_with fail
    exact bodyPost_ret (results_none rfl _ _) rfl ⟨rfl, HF.out⟩
set_option maxRecDepth 100000 in
set_option maxHeartbeats 2000000 in
theorem put_neg {B : Nat} {w : World} {g s : Nat} {pv : Value} {fp : List Nat} {G : GS} (h : GridAt w g s pv fp G) (ht : Tabs B w) (hB : B ≤ w.heap.size) (x y : Int) (r wd s1 s2 s3 : Int) (hr0 : -2147483648 ≤ r) (hr1 : r ≤ 2147483647) (hsh0 : decide (0 ≤ y ∧ y < G.scr.length) = true) (hmay : mayS r wd s1 s2 s3 = true) (hx0 : x < 0) :
    Calls Tryd.prog 11 #[.pointer (some ⟨g, 0, none⟩), .int .i64 x, .int .i64 y, .agg #[.int .i32 r, .int .i64 wd, .int .i64 s1, .int .i64 s2, .int .i64 s3]] w fun e w' => e = .returned (.tuple #[]) ∧ Below w.heap.size w w' := by
  have hsh := fun w h => shows_any (w := w) (g := g) (s := s) (pv := pv) (fp := fp) (G := G) h y true hsh0
  have hmb := fun w ht hB => mayBePut_any (B := B) r wd s1 s2 s3 hr0 hr1 true hmay w ht hB
  have hgl := h.blk.lt
  have d1 : decide (x < 0) = true := by simpa using hx0
  have hA := BL.new w 35 [.int .i32 r, .int .i64 wd, .int .i64 s1, .int .i64 s2, .int .i64 s3]
  have hb0 : Below w.heap.size w (w.alloc (.cells #[.int .i32 r, .int .i64 wd, .int .i64 s1, .int .i64 s2, .int .i64 s3] 35)) := (Below.refl _ _).alloc (Nat.le_refl _) _
  have hs0 := hb0.size
  have HA := Lib.hid hA
  have HG := Lib.hid (h.below hb0)
  have HT := Lib.hid (ht.below hb0 hB)
  have hAl := hA.lt
  have HB0 := Lib.hid hb0
  clear hA h ht hb0 hsh0 hmay hr0 hr1
  go_enter Tryd.func11, Tryd.ntmps11
  go_wp2_with fail
  generalize w.alloc (.cells #[.int .i32 r, .int .i64 wd, .int .i64 s1, .int .i64 s2, .int .i64 s3] 35) = W at *
  have hdr : Below W.heap.size W W.drew := (Below.refl _ _).drew
  go_cut [32] (fun s32 wx => s32 = .bool true ∧ Below W.heap.size W wx)
  case first =>
    have SS : ∀ V, Below W.heap.size W V → (V.cell? ⟨w.heap.size, 0, none⟩ = some (.int .i32 r) ∧ V.cell? ⟨w.heap.size, 1, none⟩ = some (.int .i64 wd) ∧ V.cell? ⟨w.heap.size, 2, none⟩ = some (.int .i64 s1) ∧ V.cell? ⟨w.heap.size, 3, none⟩ = some (.int .i64 s2) ∧ V.cell? ⟨w.heap.size, 4, none⟩ = some (.int .i64 s3) ∧ GridAt V g s pv fp G ∧ Tabs B V ∧ Below W.heap.size W V) := fun V hkk => by
      have hA2 := HA.out.only (F := []) (Only.of_below hkk) (by simp)
      exact ⟨hA2.cell 0, hA2.cell 1, hA2.cell 2, hA2.cell 3, hA2.cell 4, HG.out.below hkk, HT.out.below hkk (by omega), hkk⟩
    clear HB0
    refine wp_region_held_drew (S := fun V => V.cell? ⟨w.heap.size, 0, none⟩ = some (.int .i32 r) ∧ V.cell? ⟨w.heap.size, 1, none⟩ = some (.int .i64 wd) ∧ V.cell? ⟨w.heap.size, 2, none⟩ = some (.int .i64 s1) ∧ V.cell? ⟨w.heap.size, 3, none⟩ = some (.int .i64 s2) ∧ V.cell? ⟨w.heap.size, 4, none⟩ = some (.int .i64 s3) ∧ GridAt V g s pv fp G ∧ Tabs B V ∧ Below W.heap.size W V) (by kernel_rfl) (SS _ hdr) (fun hHeld => ?_)
    refine any_take (i := 0) (d := 9) (v := .pointer (some ⟨g, 0, none⟩)) rfl rfl (by kernel_rfl) (by kernel_rfl) (by kernel_rfl) (fun _ _ _ h => h) rfl ?_ (by assumption) ?_
    · intro V hV
      obtain ⟨_, _, _, _, _, _, _, _⟩ := hV
      go_simp
    simp only [Act.put, List.setIfInBounds_toArray, List.set_cons_zero, List.set_cons_succ]
    refine any_take (i := 1) (d := 10) (v := .int .i64 y) rfl rfl (by kernel_rfl) (by kernel_rfl) (by kernel_rfl) (fun _ _ _ h => h) rfl ?_ (by assumption) ?_
    · intro V hV
      obtain ⟨_, _, _, _, _, _, _, _⟩ := hV
      go_simp
    simp only [Act.put, List.setIfInBounds_toArray, List.set_cons_zero, List.set_cons_succ]
    refine wpAnyH_ready (rs := [2]) (by kernel_rfl) (by simp) ?_
    refine AllReadyH.cons rfl (fun K hK => ?_) AllReadyH.nil
    go_simp
    obtain ⟨_, _, _, _, _, kg, _, _⟩ := hHeld
    refine (hsh _ kg).mono ?_
    rintro _ w2 ⟨rfl, rfl⟩
    go_wp2_with fail
    refine hK.out _ _ ?_ (fun hHeld => ?_)
    · exact SS _ hdr
    clear hK K
    refine any_take (i := 3) (d := 12) (v := .bool false) rfl rfl (by kernel_rfl) (by kernel_rfl) (by kernel_rfl) (fun _ _ _ h => h) rfl ?_ (by assumption) ?_
    · intro V hV
      obtain ⟨_, _, _, _, _, _, _, _⟩ := hV
      go_simp
    simp only [Act.put, List.setIfInBounds_toArray, List.set_cons_zero, List.set_cons_succ]
    refine any_take (i := 4) (d := 13) (v := .bool false) rfl rfl (by kernel_rfl) (by kernel_rfl) (by kernel_rfl) (fun _ _ _ h => h) rfl ?_ (by assumption) ?_
    · intro V hV
      obtain ⟨_, _, _, _, _, _, _, _⟩ := hV
      go_simp
    simp only [Act.put, List.setIfInBounds_toArray, List.set_cons_zero, List.set_cons_succ]
    refine any_take (i := 5) (d := 14) (v := .agg #[.int .i32 r, .int .i64 wd, .int .i64 s1, .int .i64 s2, .int .i64 s3]) rfl rfl (by kernel_rfl) (by kernel_rfl) (by kernel_rfl) (fun _ _ _ h => h) rfl ?_ (by assumption) ?_
    · intro V hV
      obtain ⟨_, _, _, _, _, _, _, _⟩ := hV
      go_simp
    simp only [Act.put, List.setIfInBounds_toArray, List.set_cons_zero, List.set_cons_succ]
    refine wpAnyH_ready (rs := [6]) (by kernel_rfl) (by simp) ?_
    refine AllReadyH.cons rfl (fun K hK => ?_) AllReadyH.nil
    go_simp
    obtain ⟨_, _, _, _, _, _, kt, k3⟩ := hHeld
    refine (hmb _ kt (by have := k3.size; omega)).mono ?_
    rintro _ w3 ⟨rfl, hb3⟩
    have hby := k3.trans (hb3.mono k3.size)
    go_wp2_with fail
    refine hK.out _ _ ?_ (fun hHeld => ?_)
    · exact SS _ hby
    clear hK K
    refine any_take (i := 7) (d := 16) (v := .bool false) rfl rfl (by kernel_rfl) (by kernel_rfl) (by kernel_rfl) (fun _ _ _ h => h) rfl ?_ (by assumption) ?_
    · intro V hV
      obtain ⟨_, _, _, _, _, _, _, _⟩ := hV
      go_simp
    simp only [Act.put, List.setIfInBounds_toArray, List.set_cons_zero, List.set_cons_succ]
    refine any_take (i := 8) (d := 17) (v := .bool false) rfl rfl (by kernel_rfl) (by kernel_rfl) (by kernel_rfl) (fun _ _ _ h => h) rfl ?_ (by assumption) ?_
    · intro V hV
      obtain ⟨_, _, _, _, _, _, _, _⟩ := hV
      go_simp
    simp only [Act.put, List.setIfInBounds_toArray, List.set_cons_zero, List.set_cons_succ]
    refine any_take (i := 9) (d := 18) (v := .bool false) rfl rfl (by kernel_rfl) (by kernel_rfl) (by kernel_rfl) (fun _ _ _ h => h) rfl ?_ (by assumption) ?_
    · intro V hV
      obtain ⟨_, _, _, _, _, _, _, _⟩ := hV
      go_simp
    simp only [Act.put, List.setIfInBounds_toArray, List.set_cons_zero, List.set_cons_succ]
    refine any_take (i := 10) (d := 19) (v := .int .i64 x) rfl rfl (by kernel_rfl) (by kernel_rfl) (by kernel_rfl) (fun _ _ _ h => h) rfl ?_ (by assumption) ?_
    · intro V hV
      obtain ⟨_, _, _, _, _, _, _, _⟩ := hV
      go_simp
    simp only [Act.put, List.setIfInBounds_toArray, List.set_cons_zero, List.set_cons_succ]
    refine any_take (i := 11) (d := 20) (v := .bool true) rfl rfl (by kernel_rfl) (by kernel_rfl) (by kernel_rfl) (fun _ _ _ h => h) rfl ?_ (by assumption) ?_
    · intro V hV
      obtain ⟨_, _, _, _, _, _, _, _⟩ := hV
      go_simp
    simp only [Act.put, List.setIfInBounds_toArray, List.set_cons_zero, List.set_cons_succ]
    refine any_take (i := 12) (d := 21) (v := .bool true) rfl rfl (by kernel_rfl) (by kernel_rfl) (by kernel_rfl) (fun _ _ _ h => h) rfl ?_ (by assumption) ?_
    · intro V hV
      obtain ⟨_, _, _, _, _, _, _, _⟩ := hV
      go_simp
    simp only [Act.put, List.setIfInBounds_toArray, List.set_cons_zero, List.set_cons_succ]
    refine any_take (i := 13) (d := 22) (v := .bool true) rfl rfl (by kernel_rfl) (by kernel_rfl) (by kernel_rfl) (fun _ _ _ h => h) rfl ?_ (by assumption) ?_
    · intro V hV
      obtain ⟨_, _, _, _, _, _, _, _⟩ := hV
      go_simp
    simp only [Act.put, List.setIfInBounds_toArray, List.set_cons_zero, List.set_cons_succ]
    refine any_skip (i := 14) rfl (by kernel_rfl) (by kernel_rfl) (by kernel_rfl) (fun _ _ _ h => h) rfl rfl (by assumption) ?_
    refine any_skip (i := 15) rfl (by kernel_rfl) (by kernel_rfl) (by kernel_rfl) (fun _ _ _ h => h) rfl rfl (by assumption) ?_
    refine any_skip (i := 16) rfl (by kernel_rfl) (by kernel_rfl) (by kernel_rfl) (fun _ _ _ h => h) rfl rfl (by assumption) ?_
    refine any_skip (i := 17) rfl (by kernel_rfl) (by kernel_rfl) (by kernel_rfl) (fun _ _ _ h => h) rfl rfl (by assumption) ?_
    refine any_skip (i := 18) rfl (by kernel_rfl) (by kernel_rfl) (by kernel_rfl) (fun _ _ _ h => h) rfl rfl (by assumption) ?_
    refine any_skip (i := 19) rfl (by kernel_rfl) (by kernel_rfl) (by kernel_rfl) (fun _ _ _ h => h) rfl rfl (by assumption) ?_
    refine any_skip (i := 20) rfl (by kernel_rfl) (by kernel_rfl) (by kernel_rfl) (fun _ _ _ h => h) rfl rfl (by assumption) ?_
    refine any_skip (i := 21) rfl (by kernel_rfl) (by kernel_rfl) (by kernel_rfl) (fun _ _ _ h => h) rfl rfl (by assumption) ?_
    refine any_skip (i := 22) rfl (by kernel_rfl) (by kernel_rfl) (by kernel_rfl) (fun _ _ _ h => h) rfl rfl (by assumption) ?_
    refine any_take (i := 23) (d := 32) (v := .bool true) rfl rfl (by kernel_rfl) (by kernel_rfl) (by kernel_rfl) (fun _ _ _ h => h) rfl ?_ (by assumption) ?_
    · intro V hV
      obtain ⟨_, _, _, _, _, _, _, _⟩ := hV
      go_simp
    simp only [Act.put, List.setIfInBounds_toArray, List.set_cons_zero, List.set_cons_succ]
    refine wpAnyH_done (by kernel_rfl) ?_ _
    go_wp2_with fail
    go_meet
    exact ⟨rfl, hby⟩
  case rest =>
    obtain ⟨rfl, hb1⟩ := hcut
    have HF := Lib.hid (HB0.out.trans (hb1.mono hs0))
    go_wp2_with fail
    exact bodyPost_ret (results_none rfl _ _) rfl ⟨rfl, HF.out⟩
set_option maxRecDepth 100000 in
set_option maxHeartbeats 1000000 in
theorem erase_no {w : World} {g s : Nat} {pv : Value} {fp : List Nat} {G : GS} (h : GridAt w g s pv fp G) (x y n s1 s2 s3 : Int) (hno : mayR G.cols G.scr.length x y n s1 s2 s3 = false) :
    Calls Tryd.prog 12 #[.pointer (some ⟨g, 0, none⟩), .int .i64 x, .int .i64 y, .int .i64 n, .agg #[.int .i64 s1, .int .i64 s2, .int .i64 s3]] w fun e w' => e = .returned (.tuple #[]) ∧ Below w.heap.size w w' := by
  have hb0 : Below w.heap.size w (w.alloc (.cells #[.int .i64 s1, .int .i64 s2, .int .i64 s3] 33)) := (Below.refl _ _).alloc (Nat.le_refl _) _
  have hs0 := hb0.size
  have hre := reach_no (h.below hb0) x y n s1 s2 s3 hno
  clear hno h
  go_enter Tryd.func12, Tryd.ntmps12
  go_wp2_with (go_at_call 39; refine hre.mono ?_; rintro _ w1 ⟨rfl, hb1⟩; have hbw := hb0.trans (hb1.mono hs0))
  exact bodyPost_ret (results_none rfl _ _) rfl ⟨rfl, hbw⟩
set_option maxRecDepth 100000 in
set_option maxHeartbeats 1000000 in
theorem insert_no {w : World} {g s : Nat} {pv : Value} {fp : List Nat} {G : GS} (h : GridAt w g s pv fp G) (x y n s1 s2 s3 : Int) (hno : mayR G.cols G.scr.length x y n s1 s2 s3 = false) :
    Calls Tryd.prog 13 #[.pointer (some ⟨g, 0, none⟩), .int .i64 x, .int .i64 y, .int .i64 n, .agg #[.int .i64 s1, .int .i64 s2, .int .i64 s3]] w fun e w' => e = .returned (.tuple #[]) ∧ Below w.heap.size w w' := by
  have hb0 : Below w.heap.size w (w.alloc (.cells #[.int .i64 s1, .int .i64 s2, .int .i64 s3] 33)) := (Below.refl _ _).alloc (Nat.le_refl _) _
  have hs0 := hb0.size
  have hre := reach_no (h.below hb0) x y n s1 s2 s3 hno
  clear hno h
  go_enter Tryd.func13, Tryd.ntmps13
  go_wp2_with (go_at_call 39; refine hre.mono ?_; rintro _ w1 ⟨rfl, hb1⟩; have hbw := hb0.trans (hb1.mono hs0))
  exact bodyPost_ret (results_none rfl _ _) rfl ⟨rfl, hbw⟩
set_option maxRecDepth 100000 in
set_option maxHeartbeats 1000000 in
theorem delete_no {w : World} {g s : Nat} {pv : Value} {fp : List Nat} {G : GS} (h : GridAt w g s pv fp G) (x y n s1 s2 s3 : Int) (hno : mayR G.cols G.scr.length x y n s1 s2 s3 = false) :
    Calls Tryd.prog 14 #[.pointer (some ⟨g, 0, none⟩), .int .i64 x, .int .i64 y, .int .i64 n, .agg #[.int .i64 s1, .int .i64 s2, .int .i64 s3]] w fun e w' => e = .returned (.tuple #[]) ∧ Below w.heap.size w w' := by
  have hb0 : Below w.heap.size w (w.alloc (.cells #[.int .i64 s1, .int .i64 s2, .int .i64 s3] 33)) := (Below.refl _ _).alloc (Nat.le_refl _) _
  have hs0 := hb0.size
  have hre := reach_no (h.below hb0) x y n s1 s2 s3 hno
  clear hno h
  go_enter Tryd.func14, Tryd.ntmps14
  go_wp2_with (go_at_call 39; refine hre.mono ?_; rintro _ w1 ⟨rfl, hb1⟩; have hbw := hb0.trans (hb1.mono hs0))
  exact bodyPost_ret (results_none rfl _ _) rfl ⟨rfl, hbw⟩
set_option maxRecDepth 100000 in
set_option maxHeartbeats 1000000 in
theorem wrap_no {w : World} {g s : Nat} {pv : Value} {fp : List Nat} {G : GS} (h : GridAt w g s pv fp G) (y : Int) (is : Bool) (hno : decide (0 ≤ y ∧ y < (G.scr.length : Int)) = false) :
    Calls Tryd.prog 17 #[.pointer (some ⟨g, 0, none⟩), .int .i64 y, .bool is] w fun e w' => e = .returned (.tuple #[]) ∧ w = w' := by
  have hsh := shows_any h y false hno
  clear hno h
  go_enter Tryd.func17, Tryd.ntmps17
  go_wp2_with (go_at_call 35; refine hsh.mono ?_; rintro _ w1 ⟨rfl, rfl⟩)
  exact body_end rfl rfl ⟨rfl, rfl⟩
/-- May such a call scroll? -/
def mayU (rows : Nat) (top bottom n s1 s2 s3 : Int) : Bool := decide (0 ≤ top ∧ top ≤ bottom ∧ bottom < (rows : Int)) && (decide (1 ≤ n) && rightS s1 s2 s3)
set_option maxRecDepth 100000 in
set_option maxHeartbeats 1000000 in
theorem region_no {w : World} {g s : Nat} {pv : Value} {fp : List Nat} {G : GS} (h : GridAt w g s pv fp G) (top bottom n s1 s2 s3 : Int) (hno : mayU G.scr.length top bottom n s1 s2 s3 = false) :
    Calls Tryd.prog 41 #[.pointer (some ⟨g, 0, none⟩), .int .i64 top, .int .i64 bottom, .int .i64 n, .agg #[.int .i64 s1, .int .i64 s2, .int .i64 s3]] w fun e w' => e = .returned (.tuple #[.slice none 0 0, .int .i64 0]) ∧ Below w.heap.size w w' := by
  have hb0 : Below w.heap.size w (w.alloc (.cells #[.int .i64 s1, .int .i64 s2, .int .i64 s3] 33)) := (Below.refl _ _).alloc (Nat.le_refl _) _
  have hs0 := hb0.size
  have hA := BL.new w 33 [.int .i64 s1, .int .i64 s2, .int .i64 s3]
  have a0 := hA.cell 0
  have a1 := hA.cell 1
  have a2 := hA.cell 2
  have f3 := (h.below hb0).f3
  obtain ⟨r, hr⟩ : ∃ r, G.scr.length = r := ⟨_, rfl⟩
  rw [hr] at hno f3
  clear hr h
  by_cases h1 : top < 0
  · clear hno
    go_enter Tryd.func41, Tryd.ntmps41
    go_wp2_with fail
    go_ret2
    exact ⟨rfl, hb0⟩
  · have h1' : 0 ≤ top := by omega
    by_cases h2 : bottom < top
    · clear hno h1
      go_enter Tryd.func41, Tryd.ntmps41
      go_wp2_with fail
      go_ret2
      exact ⟨rfl, hb0⟩
    · have h2' : top ≤ bottom := by omega
      by_cases h3 : (r : Int) ≤ bottom
      · clear hno h1 h2
        go_enter Tryd.func41, Tryd.ntmps41
        go_wp2_with fail
        go_ret2
        exact ⟨rfl, hb0⟩
      · have h3' : bottom < (r : Int) := by omega
        by_cases h4 : n < 1
        · clear hno h1 h2 h3
          go_enter Tryd.func41, Tryd.ntmps41
          go_wp2_with fail
          go_ret2
          exact ⟨rfl, hb0⟩
        · have h4' : 1 ≤ n := by omega
          have hr : rightS s1 s2 s3 = false := by
            unfold mayU at hno
            simpa [h1', h2', h3', h4'] using hno
          have hrt := fun w => right_any s1 s2 s3 _ hr w
          clear hno h1 h2 h3 h4 hr
          go_enter Tryd.func41, Tryd.ntmps41
          go_wp2_with (go_at_call 59; refine (hrt _).mono ?_; rintro _ w1 ⟨rfl, hb1⟩; have hbw := hb0.trans (hb1.mono hs0))
          go_ret2
          exact ⟨rfl, hbw⟩
set_option maxRecDepth 100000 in
set_option maxHeartbeats 1000000 in
theorem lay_nil (cols : Int) (s1 s2 s3 : Int) (w : World) : Calls Tryd.prog 43 #[.slice none 0 0, .int .i64 cols, .agg #[.int .i64 s1, .int .i64 s2, .int .i64 s3]] w fun e w' => e = .returned (.tuple #[]) ∧ Below w.heap.size w w' := by
  have hb0 : Below w.heap.size w (w.alloc (.cells #[.int .i64 s1, .int .i64 s2, .int .i64 s3] 33)) := (Below.refl _ _).alloc (Nat.le_refl _) _
  go_enter Tryd.func43, Tryd.ntmps43
  go_wp2_with fail
  go_loopw [6, 9] (fun _ i wr => i = .int .i64 0 ∧ Below w.heap.size w wr) (fun _ _ _ => 0)
  case atStart => exact ⟨rfl, hb0⟩
  case round =>
    obtain ⟨rfl, hb⟩ := hrel
    go_wp2_with fail
    exact body_end rfl rfl ⟨rfl, hb⟩
section
variable {ops : Array Oper} {rest : List Oper} {op : Oper} {a : Act} {w : World} {Q : Exit → Act → World → Prop}
theorem wpList_copy_nils (hgd : op.guard = none) (d s : Operand) (ho : op.op = .call { callee := .builtin .copy, args := #[d, s], argTypes := #[68, 68] }) (hd : a.eval d = .slice none 0 0) (hs : a.eval s = .slice none 0 0)
    (h : wpList Tryd.prog ops Q rest (a.put op.dst (goInt 0)) w) : wpList Tryd.prog ops Q (op :: rest) a w := by
  refine wpList_plain hgd fun K hK => ?_
  have hrun : (Builtin.copy_ #[68, 68] op.type #[.slice none 0 0, .slice none 0 0]).run Tryd.prog w = .ok (goInt 0) w := by
    have hi := info_row
    cases hq : Tryd.prog.info? 73 with
    | none => rw [hq] at hi; cases hi
    | some i => simp [Builtin.copy_, run_underlying Tryd.underlying68, Builtin.lenOf, Builtin.firstCells, sizeOf, typeInfo, hq]
  unfold Oper.wp
  simp [execOp, ho, resolve, invoke, builtin, hd, hs, hrun, Result.andThen]
  exact hK _ _ h
theorem wpList_append_none (hgd : op.guard = none) (s x : Operand) (ho : op.op = .call { callee := .builtin .append, args := #[s, x], argTypes := #[68, 68] }) (base : Option Addr) (n c : Nat) (hs : a.eval s = .slice base n c) (hnc : n ≤ c) (hx : a.eval x = .slice none 0 0)
    (h : wpList Tryd.prog ops Q rest (a.put op.dst (.slice base n c)) w) : wpList Tryd.prog ops Q (op :: rest) a w := by
  refine wpList_plain hgd fun K hK => ?_
  have hrun : (Builtin.append_ #[68, 68] op.type #[.slice base n c, .slice none 0 0]).run Tryd.prog w = .ok (.slice base n c) w := by
    have hi := info_row
    cases hq : Tryd.prog.info? 73 with
    | none => rw [hq] at hi; cases hi
    | some i => cases base <;> simp [Builtin.append_, run_underlying Tryd.underlying68, sizeOf, typeInfo, hq, Builtin.lenOf, Builtin.firstCells, hnc, storeCells]
  unfold Oper.wp
  simp [execOp, ho, resolve, invoke, builtin, hs, hx, hrun, Result.andThen]
  exact hK _ _ h
theorem wpList_clear_zero (hgd : op.guard = none) (s : Operand) (ho : op.op = .call { callee := .builtin .clear, args := #[s], argTypes := #[68] }) (base : Option Addr) (c : Nat) (hs : a.eval s = .slice base 0 c)
    (h : wpList Tryd.prog ops Q rest (a.put op.dst (.tuple #[])) w) : wpList Tryd.prog ops Q (op :: rest) a w := by
  refine wpList_plain hgd fun K hK => ?_
  have hrun : (Builtin.clear_ #[68] op.type #[.slice base 0 c]).run Tryd.prog w = .ok (.tuple #[]) w := by
    cases base <;> simp [Builtin.clear_, run_underlying Tryd.underlying68]
  unfold Oper.wp
  simp [execOp, ho, resolve, invoke, builtin, hs, hrun, Result.andThen]
  exact hK _ _ h
end
set_option maxRecDepth 100000 in
set_option maxHeartbeats 1000000 in
theorem down_no {w : World} {g s : Nat} {pv : Value} {fp : List Nat} {G : GS} (h : GridAt w g s pv fp G) (top bottom n s1 s2 s3 : Int) (hno : mayU G.scr.length top bottom n s1 s2 s3 = false) :
    Calls Tryd.prog 16 #[.pointer (some ⟨g, 0, none⟩), .int .i64 top, .int .i64 bottom, .int .i64 n, .agg #[.int .i64 s1, .int .i64 s2, .int .i64 s3]] w fun e w' => e = .returned (.tuple #[]) ∧ Below w.heap.size w w' := by
  have hb0 : Below w.heap.size w (w.alloc (.cells #[.int .i64 s1, .int .i64 s2, .int .i64 s3] 33)) := (Below.refl _ _).alloc (Nat.le_refl _) _
  have hs0 := hb0.size
  have hA := BL.new w 33 [.int .i64 s1, .int .i64 s2, .int .i64 s3]
  have hre := region_no (h.below hb0) top bottom n s1 s2 s3 hno
  have f0 := h.f0
  have hgl := h.blk.lt
  clear hno h
  go_enter Tryd.func16, Tryd.ntmps16
  go_wp2_with (first
    | (go_at_call 41; refine hre.mono ?_; rintro _ w1 ⟨rfl, hb1⟩; have hbw := hb0.trans (hb1.mono hs0))
    | (refine wpList_copy_nils rfl (.tmp 22) (.tmp 23) rfl rfl rfl ?_))
  have hbd : Below w.heap.size w w1.drew := hbw.drew
  have hA1 := hA.only (F := []) (Only.of_below hb1) (by simp)
  have hAd : BL w1.drew w.heap.size 33 [.int .i64 s1, .int .i64 s2, .int .i64 s3] := hA1
  have a0 := hAd.cell 0
  have a1 := hAd.cell 1
  have a2 := hAd.cell 2
  have g0 : w1.drew.cell? ⟨g, 0, none⟩ = some (.int .i64 (G.cols : Int)) := (hbw.cell (p := ⟨g, 0, none⟩) hgl).trans f0
  clear hA hA1 hre f0 hAd
  go_region_with (go_at_call 43; refine (lay_nil _ _ _ _ _).mono ?_; rintro _ w3 ⟨rfl, hb3⟩)
  all_goals go_wp2_with fail
  all_goals exact body_end rfl rfl ⟨rfl, hbd.trans (hb3.mono hbd.size)⟩
end Go.Proofs.YtgjlohplgpcghaaDoor.Grd
