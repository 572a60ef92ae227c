/- The law StyleBack walked. -/
import Derived.Test.YtdbkccffepfenaaDoorBck
namespace Go.Proofs.YtdbkccffepfenaaDoor.Sty
open Go.RowKit

theorem ne_run (f1 f2 f3 t1 t2 t3 : Int) (b : Bool) (h : decide ((f1, f2, f3) = (t1, t2, t3)) = b) (w : World) :
    (binOp .neq 31 (.agg #[.int .i64 f1, .int .i64 f2, .int .i64 f3]) (.agg #[.int .i64 t1, .int .i64 t2, .int .i64 t3])).run Tryd.prog w = .ok (.bool (!b)) w := by
  subst h
  by_cases h1 : f1 = t1
  · by_cases h2 : f2 = t2
    · by_cases h3 : f3 = t3
      · go_simp
      · go_simp
    · go_simp
  · go_simp
theorem backS_run (s1 s2 s3 : Int) (h : rightS s1 s2 s3 = true) {B : Nat} (o1 o2 o3 : Int) (w : World) (ht : Tabs B w) (hB : B ≤ w.heap.size) :
    Calls Tryd.prog 14 #[.string (bs (printS s1 s2 s3)), .agg #[.int .i64 o1, .int .i64 o2, .int .i64 o3]] w fun e w' => e = .returned (.tuple #[.agg #[.int .i64 s1, .int .i64 s2, .int .i64 s3], .int .i64 0]) ∧ Below w.heap.size w w' := by
  have hl := printS_len s1 s2 s3
  have := parse_any (B := B) (printS s1 s2 s3) o1 o2 o3 w ht hB (by omega)
  rwa [back_parse h] at this
theorem backS_run2 (s1 s2 s3 : Int) (h : rightS s1 s2 s3 = true) {B : Nat} (o1 o2 o3 : Int) (w : World) (ht : Tabs B w) (hB : B ≤ w.heap.size) :
    Calls Tryd.prog 14 #[.string (bs (printS s1 s2 s3) ++ { data := #[44, 32, 44] }), .agg #[.int .i64 o1, .int .i64 o2, .int .i64 o3]] w fun e w' => e = .returned (.tuple #[.agg #[.int .i64 s1, .int .i64 s2, .int .i64 s3], .int .i64 0]) ∧ Below w.heap.size w w' := by
  have hl := printS_len s1 s2 s3
  have := parse_any (B := B) (printS s1 s2 s3 ++ [44, 32, 44]) o1 o2 o3 w ht hB (by rw [List.length_append]; simp; omega)
  rw [back_parse2 h, ← bs_app] at this
  exact this
theorem colour_back (c : Int) (hc : isCol c = true) {B : Nat} (w : World) (ht : Tabs B w) (hB : B ≤ w.heap.size) :
    Calls Tryd.prog 10 #[.string (bs (name c))] w fun e w' => e = .returned (.tuple #[.int .i64 c, .int .i64 0]) ∧ Below w.heap.size w w' := by
  have hl := name_len c
  have := colour_any (B := B) (name c) w ht hB (by omega)
  rw [colour_name hc] at this
  exact this
set_option maxRecDepth 100000 in
set_option maxHeartbeats 6000000 in
theorem back_walk {B : Nat} (fg bg at_ o1 o2 o3 c d : Int) (hfg : -9223372036854775808 ≤ fg ∧ fg ≤ 9223372036854775807) (hbg : -9223372036854775808 ≤ bg ∧ bg ≤ 9223372036854775807) (hat : -9223372036854775808 ≤ at_ ∧ at_ ≤ 9223372036854775807)
    (hc : -9223372036854775808 ≤ c ∧ c ≤ 9223372036854775807) (hd : -9223372036854775808 ≤ d ∧ d ≤ 9223372036854775807) (w : World) (ht : Tabs B w) (hB : B ≤ w.heap.size) :
    Calls Tryd.prog 7 #[.int .i64 fg, .int .i64 bg, .int .i64 at_, .agg #[.int .i64 o1, .int .i64 o2, .int .i64 o3], .int .i64 c, .int .i64 d] w fun e w' => e = .returned (.bool true) ∧ Below w.heap.size w w' := by
  have hA := Blk.new w 31 #[.int .i64 o1, .int .i64 o2, .int .i64 o3]
  have hb0 : Below w.heap.size w (w.alloc (.cells #[.int .i64 o1, .int .i64 o2, .int .i64 o3] 31)) := (Below.refl _ _).alloc (Nat.le_refl _) _
  have hrt := look_right fg bg at_
  have c0 := fun w ht hB => shown_any (B := B) w ht hB
  have c1 := fun w => rightLaw_any fg bg at_ hfg hbg hat w
  have c2 := fun w => colourLaw_any c hc.1 hc.2 w
  have c3 := fun w => colourLaw_any d hd.1 hd.2 w
  have hx := colL_col c
  have hy := colL_col d
  generalize colL fg = s1 at *
  generalize colL bg = s2 at *
  generalize pickS at_ 256 = s3 at *
  generalize colL c = x at *
  generalize colL d = y at *
  clear hfg hbg hat hc hd
  have b1 := fun o1 o2 o3 w ht hB => backS_run s1 s2 s3 hrt (B := B) o1 o2 o3 w ht hB
  have b2 := fun o1 o2 o3 w ht hB => backS_run2 s1 s2 s3 hrt (B := B) o1 o2 o3 w ht hB
  have b3 := fun w ht hB => print_any (B := B) s1 s2 s3 w ht hB
  have b4 := fun w => right_any s1 s2 s3 true hrt w
  have hps := printS_len s1 s2 s3
  rw [← bs_size] at hps
  generalize bs (printS s1 s2 s3) = X at *
  clear hrt
  go_enter Tryd.func7, Tryd.ntmps7
  go_wp2_with fail
  refine (c0 _ (ht.on hB hb0) (by simp; omega)).mono ?_
  rintro e w1 ⟨rfl, hb1⟩
  have hA1 := hA.below hb1 (by simp)
  have hbw1 := hb0.trans (hb1.mono hb0.size)
  have hs1 := hA1.lt
  clear hA hb0 hb1 c0
  go_wp2_with fail
  refine (c1 _).mono ?_
  rintro e w2 ⟨rfl, hb2⟩
  have hA2 := (hA1.below hb2 hs1).alloc (.cells #[.int .i64 s1, .int .i64 s2, .int .i64 s3] 31)
  have hbw2 := hbw1.trans (hb2.mono hbw1.size)
  have hbw3 := hbw2.alloc hbw2.size (.cells #[.int .i64 s1, .int .i64 s2, .int .i64 s3] 31)
  have hS2 := Blk.new w2 31 #[.int .i64 s1, .int .i64 s2, .int .i64 s3]
  obtain ⟨g, hg⟩ : ∃ g, w2.heap.size = g := ⟨_, rfl⟩
  have hgl : w.heap.size < g := by have := hb2.size; omega
  rw [hg] at hS2
  clear hA1 hb2 hbw1 hbw2
  go_upto_region 3 with fail
  generalize w2.alloc (.cells #[.int .i64 s1, .int .i64 s2, .int .i64 s3] 31) = W at *
  go_cut [15, 16] (fun s15 s16 wx => ∃ k, g < k ∧ s15 = .pointer (some ⟨k, 0, none⟩) ∧ s16 = .int .i64 0 ∧ Blk wx k 31 #[.int .i64 s1, .int .i64 s2, .int .i64 s3] ∧ Blk wx g 31 #[.int .i64 s1, .int .i64 s2, .int .i64 s3] ∧ Below w.heap.size w wx)
  case first =>
    have hdr : Below W.heap.size W W.drew := (Below.refl _ _).drew
    have HA := Lib.hid hA2
    have HS := Lib.hid hS2
    have hAl := hA2.lt
    have hSl := hS2.lt
    have htW := ht.on hB hbw3
    clear hA2 hS2 c1 c2 c3 b2 b4
    have SS : ∀ V, Below W.heap.size W V → (V.cell? ⟨w.heap.size, 0, none⟩ = some (.int .i64 o1) ∧ V.cell? ⟨w.heap.size, 1, none⟩ = some (.int .i64 o2) ∧ V.cell? ⟨w.heap.size, 2, none⟩ = some (.int .i64 o3) ∧ V.cell? ⟨g, 0, none⟩ = some (.int .i64 s1) ∧ V.cell? ⟨g, 1, none⟩ = some (.int .i64 s2) ∧ V.cell? ⟨g, 2, none⟩ = some (.int .i64 s3) ∧ Tabs B V ∧ Below W.heap.size W V) := fun V hkk =>
      ⟨(HA.out.below hkk hAl).cell 0, (HA.out.below hkk hAl).cell 1, (HA.out.below hkk hAl).cell 2, (HS.out.below hkk hSl).cell 0, (HS.out.below hkk hSl).cell 1, (HS.out.below hkk hSl).cell 2, htW.on (by omega) hkk, hkk⟩
    have BA : ∀ V o, Below W.heap.size W V → Below W.heap.size W (V.alloc o) := fun V o h => h.alloc h.size o
    have hdr2 : Below W.heap.size W (W.alloc (.cells #[.int .i64 0, .int .i64 0, .int .i64 0] 31)).drew := ((Below.refl _ _).alloc (Nat.le_refl _) _).drew
    have hzd : Blk (W.alloc (.cells #[.int .i64 0, .int .i64 0, .int .i64 0] 31)).drew W.heap.size 31 #[.int .i64 0, .int .i64 0, .int .i64 0] := Blk.new W 31 #[.int .i64 0, .int .i64 0, .int .i64 0]
    have hkz0 := Nat.le_refl W.heap.size
    have BS : ∀ V k x, W.heap.size ≤ k → Below W.heap.size W V → Below W.heap.size W (((V.setCell ⟨k, 0, none⟩ (.int .i64 s1)).setCell ⟨k, 1, none⟩ (.int .i64 s2)).setCell ⟨k, 2, none⟩ x) := fun V k x hk h => ((h.setCell (p := ⟨k, 0, none⟩) (by simpa using hk) _).setCell (p := ⟨k, 1, none⟩) (by simpa using hk) _).setCell (p := ⟨k, 2, none⟩) (by simpa using hk) _
    have SA : ∀ V o, (V.cell? ⟨w.heap.size, 0, none⟩ = some (.int .i64 o1) ∧ V.cell? ⟨w.heap.size, 1, none⟩ = some (.int .i64 o2) ∧ V.cell? ⟨w.heap.size, 2, none⟩ = some (.int .i64 o3) ∧ V.cell? ⟨g, 0, none⟩ = some (.int .i64 s1) ∧ V.cell? ⟨g, 1, none⟩ = some (.int .i64 s2) ∧ V.cell? ⟨g, 2, none⟩ = some (.int .i64 s3) ∧ Tabs B V ∧ Below W.heap.size W V) → ((V.alloc o).cell? ⟨w.heap.size, 0, none⟩ = some (.int .i64 o1) ∧ (V.alloc o).cell? ⟨w.heap.size, 1, none⟩ = some (.int .i64 o2) ∧ (V.alloc o).cell? ⟨w.heap.size, 2, none⟩ = some (.int .i64 o3) ∧ (V.alloc o).cell? ⟨g, 0, none⟩ = some (.int .i64 s1) ∧ (V.alloc o).cell? ⟨g, 1, none⟩ = some (.int .i64 s2) ∧ (V.alloc o).cell? ⟨g, 2, none⟩ = some (.int .i64 s3) ∧ Tabs B (V.alloc o) ∧ Below W.heap.size W (V.alloc o)) := fun V o h => SS _ (h.2.2.2.2.2.2.2.alloc h.2.2.2.2.2.2.2.size o)
    go_region_held3 (fun V => V.cell? ⟨w.heap.size, 0, none⟩ = some (.int .i64 o1) ∧ V.cell? ⟨w.heap.size, 1, none⟩ = some (.int .i64 o2) ∧ V.cell? ⟨w.heap.size, 2, none⟩ = some (.int .i64 o3) ∧ V.cell? ⟨g, 0, none⟩ = some (.int .i64 s1) ∧ V.cell? ⟨g, 1, none⟩ = some (.int .i64 s2) ∧ V.cell? ⟨g, 2, none⟩ = some (.int .i64 s3) ∧ Tabs B V ∧ Below W.heap.size W V)
      (first
        | (refine SS _ ?_; assumption)
        | (refine SA _ _ ?_; assumption)
        | (refine SS _ (BA _ _ ?_); assumption)
        | (refine SS _ (BS _ _ _ ?_ ?_) <;> assumption)
        | fail)
      (first
        | (go_at_call 18; obtain ⟨k0, k1, k2, k5, k6, k7, kt, k3⟩ := (by assumption : _ ∧ _ ∧ _ ∧ _ ∧ _ ∧ _ ∧ Tabs B _ ∧ Below W.heap.size W _); have k4 := k3.size; refine (b3 _ kt (by omega)).mono ?_; rintro e w3 ⟨rfl, hb3⟩; have hbx := k3.trans (hb3.mono k4); try (first | (have hz3 := (Blk.new _ 31 #[.int .i64 0, .int .i64 0, .int .i64 0]).below hb3 (by simp); have hkz := hdr.size) | (have hz3 := hzd.below hb3 hzd.lt)))
        | (go_at_call 14; obtain ⟨k0, k1, k2, k5, k6, k7, kt, k3⟩ := (by assumption : _ ∧ _ ∧ _ ∧ _ ∧ _ ∧ _ ∧ Tabs B _ ∧ Below W.heap.size W _); have k4 := k3.size; refine (b1 _ _ _ _ kt (by omega)).mono ?_; rintro e w4 ⟨rfl, hb4⟩; have hby := k3.trans (hb4.mono k4); try (first | (have hz4 := (Blk.new _ 31 #[.int .i64 0, .int .i64 0, .int .i64 0]).below hb4 (by simp); have hkz := Below.size hbx) | (have hz4 := hz3.below hb4 hz3.lt)); try (have z0 := hz4.cell 0; have z1 := hz4.cell 1; have z2 := hz4.cell 2; have q0 := hz4.frozen 0; have q1 := hz4.frozen 1; have q2 := hz4.frozen 2)))
    all_goals go_wp2_with fail
    all_goals go_meet
    all_goals first
      | exact ⟨_, by have := Below.size hby; omega, rfl, rfl, Blk.new _ _ _, HS.out.below (BA _ _ hby) hSl, hbw3.trans ((BA _ _ hby).mono hbw3.size)⟩
      | exact ⟨_, by omega, rfl, rfl, ((hz4.set_ 0 (.int .i64 s1)).set_ 1 (.int .i64 s2)).set_ 2 (.int .i64 s3), HS.out.below (BS _ _ _ (by first | exact hkz | exact hkz0) hby) hSl, hbw3.trans ((BS _ _ _ (by first | exact hkz | exact hkz0) hby).mono hbw3.size)⟩
  case rest =>
    obtain ⟨k, hk, rfl, rfl, hX3, hS3, hb3w⟩ := hcut
    have hX3l := hX3.lt
    have hS3l := hS3.lt
    have ht3 := ht.on hB hb3w
    have hb3s := hb3w.size
    clear hA2 hS2 hbw3 b1
    go_wp2_with (refine wpList_load_row rfl 31 _ rfl g rfl _ _ _ _ hS3 Tryd.underlying31 rfl (by kernel_rfl) ?_)
    refine (b3 _ ht3 (by omega)).mono ?_
    rintro e w4 ⟨rfl, hb4⟩
    have hX4 := hX3.below hb4 hX3l
    have hS4 := hS3.below hb4 hS3l
    have hb4w := hb3w.trans (hb4.mono hb3s)
    have hb4s := hb4.size
    clear hX3 hS3
    go_wp2_with fail
    refine (plain_any _).mono ?_
    rintro e w5 ⟨rfl, hb5⟩
    have hX5 := hX4.below hb5 (by omega)
    have hS5 := hS4.below hb5 (by omega)
    have hb5w := hb4w.trans (hb5.mono hb4w.size)
    have hb5s := hb5.size
    clear hX4 hS4
    go_wp2_with fail
    refine (b2 _ _ _ _ (ht.on hB hb5w) (by omega)).mono ?_
    rintro e w6 ⟨rfl, hb6⟩
    have hX6 := hX5.below hb6 (by omega)
    have hS6 := hS5.below hb6 (by omega)
    have hb6w := hb5w.trans (hb6.mono hb5w.size)
    have hb6s := hb6.size
    have hX7 := hX6.alloc (.cells #[.int .i64 s1, .int .i64 s2, .int .i64 s3] 31)
    have hS7 := hS6.alloc (.cells #[.int .i64 s1, .int .i64 s2, .int .i64 s3] 31)
    have hY7 := Blk.new w6 31 #[.int .i64 s1, .int .i64 s2, .int .i64 s3]
    have hb7w := hb6w.alloc hb6w.size (.cells #[.int .i64 s1, .int .i64 s2, .int .i64 s3] 31)
    clear hX5 hS5 hX6 hS6 b2 b3
    go_wp2_with fail
    obtain ⟨k2, hk2⟩ : ∃ k2, w6.heap.size = k2 := ⟨_, rfl⟩
    rw [hk2] at hY7
    generalize w6.alloc (.cells #[.int .i64 s1, .int .i64 s2, .int .i64 s3] 31) = W7 at *
    clear hb4 hb5 hb6
    have hX7l := hX7.lt
    have hS7l := hS7.lt
    have hY7l := hY7.lt
    refine (c2 _).mono ?_
    rintro e w8 ⟨rfl, rfl⟩
    go_wp2_with fail
    refine (name_any x _ (ht.on hB hb7w) (by omega)).mono ?_
    rintro e w8 ⟨rfl, hb8⟩
    have hX8 := hX7.below hb8 (by omega)
    have hS8 := hS7.below hb8 (by omega)
    have hY8 := hY7.below hb8 (by omega)
    have hb8w := hb7w.trans (hb8.mono hb7w.size)
    have hb8s := hb8.size
    clear hX7 hS7 hY7
    go_wp2_with fail
    refine (colour_back x hx _ (ht.on hB hb8w) (by omega)).mono ?_
    rintro e w9 ⟨rfl, hb9⟩
    have hX9 := hX8.below hb9 (by omega)
    have hS9 := hS8.below hb9 (by omega)
    have hY9 := hY8.below hb9 (by omega)
    have hb9w := hb8w.trans (hb9.mono hb8w.size)
    have hb9s := hb9.size
    clear hX8 hS8 hY8
    have neq := ne_run s1 s2 s3 s1 s2 s3 true (by simp)
    have x0 := hX9.cell 0
    have x1 := hX9.cell 1
    have x2 := hX9.cell 2
    have y0 := hS9.cell 0
    have y1 := hS9.cell 1
    have y2 := hS9.cell 2
    have z0 := hY9.cell 0
    have z1 := hY9.cell 1
    have z2 := hY9.cell 2
    go_wp2_with fail
    refine (c2 _).mono ?_
    rintro e w10 ⟨rfl, rfl⟩
    clear x0 x1 x2 z0 z1 z2 hX9 hY9
    have nm1 := fun w ht hB => name_any (B := B) x w ht hB
    have nm2 := fun w ht hB => name_any (B := B) y w ht hB
    have hni := name_inj hx hy
    have T1 := bs_tl (name x)
    have T2 := bs_tl (name y)
    by_cases hxy : x = y
    · subst hxy
      clear hni
      generalize bs (name x) = N1 at *
      go_wp2_with fail
      refine (c2 _).mono ?_
      rintro e w11 ⟨rfl, rfl⟩
      go_wp2_with fail
      refine (nm1 _ (ht.on hB hb9w) (by omega)).mono ?_
      rintro e w12 ⟨rfl, hb12⟩
      have hb12w := hb9w.trans (hb12.mono hb9w.size)
      have hb12s := hb12.size
      have hS12 := hS9.below hb12 (by omega)
      go_wp2_with fail
      refine (c3 _).mono ?_
      rintro e w13 ⟨rfl, rfl⟩
      go_wp2_with fail
      refine (nm2 _ (ht.on hB hb12w) (by omega)).mono ?_
      rintro e w14 ⟨rfl, hb14⟩
      have hb14w := hb12w.trans (hb14.mono hb12w.size)
      have hb14s := hb14.size
      have hS14 := hS12.below hb14 (by omega)
      clear y0 y1 y2
      have y0 := hS14.cell 0
      have y1 := hS14.cell 1
      have y2 := hS14.cell 2
      go_wp2_with fail
      refine (c2 _).mono ?_
      rintro e w15 ⟨rfl, rfl⟩
      go_wp2_with fail
      refine (c3 _).mono ?_
      rintro e w16 ⟨rfl, rfl⟩
      go_wp2_with fail
      refine (b4 _).mono ?_
      rintro e w17 ⟨rfl, hb17⟩
      go_wp2_with fail
      go_ret
      exact ⟨rfl, hb14w.trans (hb17.mono hb14w.size)⟩
    · have hne : (name x == name y) = false := by
        cases h : name x == name y
        · rfl
        · exact absurd (hni.1 (by simpa using h)) hxy
      have hxe : (x == y) = false := by simpa using hxy
      rw [← T1, ← T2] at hne
      clear hni hxy T1 T2
      generalize bs (name x) = N1 at *
      generalize bs (name y) = N2 at *
      go_wp2_with fail
      refine (c2 _).mono ?_
      rintro e w11 ⟨rfl, rfl⟩
      go_wp2_with fail
      refine (nm1 _ (ht.on hB hb9w) (by omega)).mono ?_
      rintro e w12 ⟨rfl, hb12⟩
      have hb12w := hb9w.trans (hb12.mono hb9w.size)
      have hb12s := hb12.size
      have hS12 := hS9.below hb12 (by omega)
      go_wp2_with fail
      refine (c3 _).mono ?_
      rintro e w13 ⟨rfl, rfl⟩
      go_wp2_with fail
      refine (nm2 _ (ht.on hB hb12w) (by omega)).mono ?_
      rintro e w14 ⟨rfl, hb14⟩
      have hb14w := hb12w.trans (hb14.mono hb12w.size)
      have hb14s := hb14.size
      have hS14 := hS12.below hb14 (by omega)
      clear y0 y1 y2
      have y0 := hS14.cell 0
      have y1 := hS14.cell 1
      have y2 := hS14.cell 2
      go_wp2_with fail
      refine (c2 _).mono ?_
      rintro e w15 ⟨rfl, rfl⟩
      go_wp2_with fail
      refine (c3 _).mono ?_
      rintro e w16 ⟨rfl, rfl⟩
      go_wp2_with fail
      refine (b4 _).mono ?_
      rintro e w17 ⟨rfl, hb17⟩
      go_wp2_with fail
      go_ret
      exact ⟨rfl, hb14w.trans (hb17.mono hb14w.size)⟩
end Go.Proofs.YtdbkccffepfenaaDoor.Sty
