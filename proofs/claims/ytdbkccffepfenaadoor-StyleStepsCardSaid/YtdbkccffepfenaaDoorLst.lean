/- The law StyleSteps walked. -/
import Derived.Test.YtdbkccffepfenaaDoorSpk
import Derived.Test.YtdbkccffepfenaaDoorPal
namespace Go.Proofs.YtdbkccffepfenaaDoor.Sty
open Go.RowKit

theorem parseV_is (l : Tx) (over : St) : ∃ a b c e : Int, parseV l over = .tuple #[.agg #[.int .i64 a, .int .i64 b, .int .i64 c], .int .i64 e] := by
  unfold parseV
  split
  · exact ⟨_, _, _, _, rfl⟩
  · split
    · exact ⟨_, _, _, _, rfl⟩
    · exact ⟨_, _, _, _, rfl⟩
set_option maxRecDepth 100000 in
set_option maxHeartbeats 1000000 in
theorem steps_walk {B : Nat} (a b : Tx) (fg bg at_ : Int) (hla : a.length ≤ 140737488351232) (hlb : b.length ≤ 140737488351232) (hfg : -9223372036854775808 ≤ fg ∧ fg ≤ 9223372036854775807) (hbg : -9223372036854775808 ≤ bg ∧ bg ≤ 9223372036854775807) (hat : -9223372036854775808 ≤ at_ ∧ at_ ≤ 9223372036854775807)
    (w : World) (ht : Tabs B w) (hB : B ≤ w.heap.size) :
    Calls Tryd.prog 8 #[.string (bs a), .string (bs b), .int .i64 fg, .int .i64 bg, .int .i64 at_] w fun e w' => e = .returned (.bool true) ∧ Below w.heap.size w w' := by
  have hrt := look_right fg bg at_
  have c0 := fun w ht hB => shown_any (B := B) w ht hB
  have c1 := fun w => rightLaw_any fg bg at_ hfg hbg hat w
  generalize colL fg = s1 at *
  generalize colL bg = s2 at *
  generalize pickS at_ 256 = s3 at *
  clear hfg hbg hat
  have p1 := fun w ht hB => parse_all (B := B) a s1 s2 s3 w ht hB
  by_cases hx : ∃ x, ¬ 256 < a.length ∧ foldS (s1, s2, s3) (s1, s2, s3) (items (low a)) = some x
  · obtain ⟨⟨x1, x2, x3⟩, hal, hx⟩ := hx
    rw [parseV_some _ _ _ hal hx] at p1
    obtain ⟨hxr, hst⟩ := steps_fold (b := b) (show RightT (s1, s2, s3) from hrt) hx
    have p2 := fun w ht hB => parse_all (B := B) b x1 x2 x3 w ht hB
    have p3 := fun w ht hB => parse_all (B := B) (a ++ 44 :: b) s1 s2 s3 w ht hB
    obtain ⟨y1, y2, y3, f, hy⟩ := parseV_is b (x1, x2, x3)
    obtain ⟨z1, z2, z3, g, hz⟩ := parseV_is (a ++ 44 :: b) (s1, s2, s3)
    rw [hy] at p2
    rw [hz] at p3
    have HW : Hid ((255 < a.length + b.length ∧ g = 2) ∨ (a.length + b.length ≤ 255 ∧ ((f = 4 ∧ g = 4 ∧ z1 = 0 ∧ z2 = 0 ∧ z3 = 0) ∨ (f = 0 ∧ g = 0 ∧ rightS x1 x2 x3 = true ∧ rightS y1 y2 y3 = true ∧ rightS z1 z2 z3 = true ∧ ((y1, y2, y3) = (z1, z2, z3) ∨ speaksS b))))) := by
      show _ ∨ _
      by_cases hl : 255 < a.length + b.length
      · left
        refine ⟨hl, ?_⟩
        rw [errLong_V _ _ (by rw [List.length_append, List.length_cons]; omega)] at hz
        simp at hz
        exact hz.2.symm
      · right
        refine ⟨by omega, ?_⟩
        rcases hst with ⟨h1, h2⟩ | ⟨⟨y1', y2', y3'⟩, ⟨z1', z2', z3'⟩, h1, h2, h3, h4, h5⟩
        · left
          rw [parseV_none _ _ (by omega) h1] at hy
          rw [parseV_none _ _ (by rw [List.length_append, List.length_cons]; omega) h2] at hz
          simp at hy hz
          exact ⟨hy.2.symm, hz.2.symm, hz.1.1.symm, hz.1.2.1.symm, hz.1.2.2.symm⟩
        · right
          rw [parseV_some _ _ _ (by omega) h1] at hy
          rw [parseV_some _ _ _ (by rw [List.length_append, List.length_cons]; omega) h2] at hz
          simp at hy hz
          obtain ⟨⟨rfl, rfl, rfl⟩, rfl⟩ := hy
          obtain ⟨⟨rfl, rfl, rfl⟩, rfl⟩ := hz
          exact ⟨rfl, rfl, hxr, h3, h4, h5⟩
    clear hy hz hst hxr hx hrt
    have HJ : Hid (bs a ++ { data := #[44] } ++ bs b = bs (a ++ 44 :: b)) := by
      show _ = _
      have e : ({ data := #[44] } : ByteArray) = bs [44] := rfl
      rw [e, bs_app, bs_app, List.append_assoc]
      rfl
    rw [← HJ.out] at p3
    have hza := bs_size a
    have hzb := bs_size b
    have q1 := fun w : World => run_string_add_sum (P := Tryd.prog) w (bs a) { data := #[44] } (by show _ + 1 ≤ _; omega)
    have z1' : (bs a ++ ({ data := #[44] } : ByteArray)).size ≤ 140737488351233 := by rw [ByteArray.size_append]; show _ + 1 ≤ _; omega
    have q2 := fun w : World => run_string_add_sum (P := Tryd.prog) w (bs a ++ { data := #[44] }) (bs b) (by omega)
    clear z1'
    have HSP := fun w => speaks_any b w (by omega)
    clear HJ
    generalize bs a = SA at *
    generalize bs b = SB at *
    go_enter Tryd.func8, Tryd.ntmps8
    go_wp2_with fail
    refine (c0 _ ht hB).mono ?_
    rintro _ w1 ⟨rfl, hb1⟩
    go_wp2_with fail
    refine (c1 _).mono ?_
    rintro _ w2 ⟨rfl, hb2⟩
    have hbw2 := hb1.trans (hb2.mono hb1.size)
    have hbw3 := hbw2.alloc hbw2.size (.cells #[.int .i64 s1, .int .i64 s2, .int .i64 s3] 31)
    have hS3 := Blk.new w2 31 #[.int .i64 s1, .int .i64 s2, .int .i64 s3]
    have hgs := hbw2.size
    clear hb1 hb2 c0 c1
    go_wp2_with fail
    refine (p1 _ (ht.on hB hbw3) (Nat.le_trans hB hbw3.size)).mono ?_
    rintro _ w4 ⟨rfl, hb4⟩
    obtain ⟨gs, hgse⟩ : ∃ gs, w2.heap.size = gs := ⟨_, rfl⟩
    have hS4 := hS3.below hb4 hS3.lt
    have hbw4 := hbw3.trans (hb4.mono hbw3.size)
    rw [hgse] at hS4 hgs
    clear hS3 hb4 hbw2 hbw3
    have hS4l := hS4.lt
    have hS5 := hS4.alloc (.cells #[.int .i64 x1, .int .i64 x2, .int .i64 x3] 31)
    have hX5 := Blk.new w4 31 #[.int .i64 x1, .int .i64 x2, .int .i64 x3]
    have hbw5 := hbw4.alloc hbw4.size (.cells #[.int .i64 x1, .int .i64 x2, .int .i64 x3] 31)
    go_wp2_with fail
    refine (p2 _ (ht.on hB hbw5) (Nat.le_trans hB hbw5.size)).mono ?_
    rintro _ w6 ⟨rfl, hb6⟩
    obtain ⟨gx, hgx⟩ : ∃ gx, w4.heap.size = gx := ⟨_, rfl⟩
    have hS6 := hS5.below hb6 hS5.lt
    have hX6 := hX5.below hb6 hX5.lt
    have hbw6 := hbw5.trans (hb6.mono hbw5.size)
    rw [hgx] at hX6
    clear hS4 hS5 hX5 hb6 hbw5 hbw4
    have hX6l := hX6.lt
    have hS7 := hS6.alloc (.cells #[.int .i64 y1, .int .i64 y2, .int .i64 y3] 31)
    have hX7 := hX6.alloc (.cells #[.int .i64 y1, .int .i64 y2, .int .i64 y3] 31)
    have hY7 := Blk.new w6 31 #[.int .i64 y1, .int .i64 y2, .int .i64 y3]
    have hbw7 := hbw6.alloc hbw6.size (.cells #[.int .i64 y1, .int .i64 y2, .int .i64 y3] 31)
    go_upto_region 7 with fail
    obtain ⟨gy, hgy⟩ : ∃ gy, w6.heap.size = gy := ⟨_, rfl⟩
    rw [hgy] at hY7
    generalize w6.alloc (.cells #[.int .i64 y1, .int .i64 y2, .int .i64 y3] 31) = W7 at *
    clear hS6 hX6 hbw6
    have hS7l := hS7.lt
    have hX7l := hX7.lt
    have hY7l := hY7.lt
    have hb7s := hbw7.size
    go_wp2_with (refine wpList_load_row rfl 31 _ rfl gs rfl _ _ _ _ hS7 Tryd.underlying31 rfl (by kernel_rfl) ?_)
    refine (p3 _ (ht.on hB hbw7) (by omega)).mono ?_
    rintro _ w8 ⟨rfl, hb8⟩
    have hX8 := hX7.below hb8 hX7l
    have hY8 := hY7.below hb8 hY7l
    have hbw8 := hbw7.trans (hb8.mono hbw7.size)
    have hb8s := hb8.size
    have hX9 := hX8.alloc (.cells #[.int .i64 z1, .int .i64 z2, .int .i64 z3] 31)
    have hY9 := hY8.alloc (.cells #[.int .i64 z1, .int .i64 z2, .int .i64 z3] 31)
    have hZ9 := Blk.new w8 31 #[.int .i64 z1, .int .i64 z2, .int .i64 z3]
    have hbw9 := hbw8.alloc hbw8.size (.cells #[.int .i64 z1, .int .i64 z2, .int .i64 z3] 31)
    clear hS7 hX7 hY7 hX8 hY8 hb8 hbw7 p1 p2 p3 q1 q2
    go_upto_region 8 with fail
    obtain ⟨gz, hgz⟩ : ∃ gz, w8.heap.size = gz := ⟨_, rfl⟩
    rw [hgz] at hZ9
    generalize w8.alloc (.cells #[.int .i64 z1, .int .i64 z2, .int .i64 z3] 31) = W9 at *
    clear hgse hgx hgy hbw8
    have hX9l := hX9.lt
    have hY9l := hY9.lt
    have hZ9l := hZ9.lt
    have hb9s := hbw9.size
    rcases HW.out with ⟨hl, rfl⟩ | ⟨hl, ⟨rfl, rfl, rfl, rfl, rfl⟩ | ⟨rfl, rfl, r1, r2, r3, hq⟩⟩
    · clear HW HSP
      go_wp2_with fail
      go_ret
      exact ⟨rfl, hbw9⟩
    · clear HW HSP
      have heq := eq_run 0 0 0 0 0 0 true (by decide)
      have z0 := hZ9.cell 0
      have z1 := hZ9.cell 1
      have z2 := hZ9.cell 2
      go_wp2_with (refine wpList_load_row rfl 31 _ rfl gz rfl _ _ _ _ hZ9 Tryd.underlying31 rfl (by kernel_rfl) ?_)
      go_ret
      exact ⟨rfl, hbw9⟩
    · clear HW
      have rx := fun w => right_any x1 x2 x3 true r1 w
      have ry := fun w => right_any y1 y2 y3 true r2 w
      have rz := fun w => right_any z1 z2 z3 true r3 w
      clear r1 r2 r3
      go_wp2_with (refine wpList_load_row rfl 31 _ rfl gx rfl _ _ _ _ hX9 Tryd.underlying31 rfl (by kernel_rfl) ?_)
      refine (rx _).mono ?_
      rintro _ w10 ⟨rfl, hb10⟩
      have hY10 := hY9.below hb10 hY9l
      have hZ10 := hZ9.below hb10 hZ9l
      have hbw10 := hbw9.trans (hb10.mono hbw9.size)
      have hb10s := hb10.size
      have y0' := hY10.cell 0
      have y1' := hY10.cell 1
      have y2' := hY10.cell 2
      go_wp2_with fail
      refine (ry _).mono ?_
      rintro _ w11 ⟨rfl, hb11⟩
      have hY11 := hY10.below hb11 (by omega)
      have hZ11 := hZ10.below hb11 (by omega)
      have hbw11 := hbw10.trans (hb11.mono hbw10.size)
      have hb11s := hb11.size
      clear y0' y1' y2'
      have z0' := hZ11.cell 0
      have z1' := hZ11.cell 1
      have z2' := hZ11.cell 2
      go_wp2_with fail
      refine (rz _).mono ?_
      rintro _ w12 ⟨rfl, hb12⟩
      have hY12 := hY11.below hb12 (by omega)
      have hZ12 := hZ11.below hb12 (by omega)
      have hbw12 := hbw11.trans (hb12.mono hbw11.size)
      clear z0' z1' z2'
      have y0' := hY12.cell 0
      have y1' := hY12.cell 1
      have y2' := hY12.cell 2
      have z0' := hZ12.cell 0
      have z1' := hZ12.cell 1
      have z2' := hZ12.cell 2
      by_cases hyz : (y1, y2, y3) = (z1, z2, z3)
      · have heq := eq_run y1 y2 y3 z1 z2 z3 true (by simpa using hyz)
        clear hyz hq HSP
        go_wp2_with fail
        go_ret
        exact ⟨rfl, hbw12⟩
      · have heq := eq_run y1 y2 y3 z1 z2 z3 false (by simpa using hyz)
        have hsp : speaksS b := hq.resolve_left hyz
        have HSQ := Lib.hid hsp
        clear hyz hq hsp
        go_wp2_with fail
        refine (HSP _).mono ?_
        rintro _ w13 ⟨⟨r, rfl, hr⟩, rfl⟩
        have hr2 := hr HSQ.out
        subst hr2
        clear hr HSP
        go_wp2_with fail
        go_ret
        exact ⟨rfl, hbw12⟩
  · have he : ∃ e : Int, (e != 0) = true ∧ parseV a (s1, s2, s3) = .tuple #[.agg #[.int .i64 0, .int .i64 0, .int .i64 0], .int .i64 e] := by
      by_cases hl : 256 < a.length
      · exact ⟨2, rfl, errLong_V _ _ hl⟩
      · cases hf : foldS (s1, s2, s3) (s1, s2, s3) (items (low a)) with
        | none => exact ⟨4, rfl, parseV_none _ _ hl hf⟩
        | some x => exact absurd ⟨x, hl, hf⟩ hx
    obtain ⟨e, he0, he⟩ := he
    rw [he] at p1
    clear he hx hrt
    generalize bs a = SA at *
    generalize bs b = SB at *
    go_enter Tryd.func8, Tryd.ntmps8
    go_wp2_with fail
    refine (c0 _ ht hB).mono ?_
    rintro _ w1 ⟨rfl, hb1⟩
    go_wp2_with fail
    refine (c1 _).mono ?_
    rintro _ w2 ⟨rfl, hb2⟩
    have hbw2 := hb1.trans (hb2.mono hb1.size)
    have hbw3 := hbw2.alloc hbw2.size (.cells #[.int .i64 s1, .int .i64 s2, .int .i64 s3] 31)
    go_wp2_with fail
    refine (p1 _ (ht.on hB hbw3) (Nat.le_trans hB hbw3.size)).mono ?_
    rintro _ w4 ⟨rfl, hb4⟩
    have hbw4 := hbw3.trans (hb4.mono hbw3.size)
    have hbw5 := hbw4.alloc hbw4.size (.cells #[.int .i64 0, .int .i64 0, .int .i64 0] 31)
    go_wp2_with fail
    go_ret
    exact ⟨rfl, hbw5⟩
end Go.Proofs.YtdbkccffepfenaaDoor.Sty
