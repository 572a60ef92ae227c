/- The law StyleParses walked. -/
import Derived.Test.YtajnlbfhcbkopaaDoorRps
import Derived.Test.YtajnlbfhcbkopaaDoorPal
namespace Go.Proofs.YtajnlbfhcbkopaaDoor.Sty
open Go.RowKit

theorem parseV_form (l : Tx) (over : St) : ∃ a b c e : Int, parseV l over = .tuple #[.agg #[.int .i64 a, .int .i64 b, .int .i64 c], .int .i64 e] := by
  unfold parseV
  split
  · exact ⟨_, _, _, _, rfl⟩
  · split
    · exact ⟨_, _, _, _, rfl⟩
    · exact ⟨_, _, _, _, rfl⟩
set_option maxRecDepth 100000 in
set_option maxHeartbeats 1000000 in
theorem parses_walk {B : Nat} (l : Tx) (o1 o2 o3 : Int) (hl : l.length ≤ 140737488351232) (w : World) (ht : Tabs B w) (hB : B ≤ w.heap.size) :
    Calls Tryd.prog 4 #[.string (bs l), .agg #[.int .i64 o1, .int .i64 o2, .int .i64 o3]] w fun e w' => e = .returned (.bool true) ∧ Below w.heap.size w w' := by
  have c0 := fun w ht hB => shown_any (B := B) w ht hB
  have p1 := fun w ht hB => parse_all (B := B) l o1 o2 o3 w ht hB
  have p2 := fun w => parseRef_any l o1 o2 o3 w hl
  obtain ⟨a, b, c, e, he⟩ := parseV_form l (o1, o2, o3)
  rw [he] at p1 p2
  clear he hl
  generalize bs l = S at *
  have hA := Blk.new w 31 #[.int .i64 o1, .int .i64 o2, .int .i64 o3]
  have hb0 : Below w.heap.size w (w.alloc (.cells #[.int .i64 o1, .int .i64 o2, .int .i64 o3] 31)) := (Below.refl _ _).alloc (Nat.le_refl _) _
  go_enter Tryd.func4, Tryd.ntmps4
  go_wp2_with fail
  refine (c0 _ (ht.on hB hb0) (by simp; omega)).mono ?_
  rintro _ w1 ⟨rfl, hb1⟩
  have hA1 := hA.below hb1 hA.lt
  have hbw1 := hb0.trans (hb1.mono hb0.size)
  have hA1l := hA1.lt
  clear hA hb0 hb1 c0
  go_wp2_with (refine wpList_load_row rfl 31 _ rfl w.heap.size rfl _ _ _ _ hA1 Tryd.underlying31 rfl (by kernel_rfl) ?_)
  refine (p1 _ (ht.on hB hbw1) (by have := hbw1.size; omega)).mono ?_
  rintro _ w2 ⟨rfl, hb2⟩
  have hbw2 := hbw1.trans (hb2.mono hbw1.size)
  have hA2 := (hA1.below hb2 hA1l).alloc (.cells #[.int .i64 a, .int .i64 b, .int .i64 c] 31)
  have hX2 := Blk.new w2 31 #[.int .i64 a, .int .i64 b, .int .i64 c]
  have hbw3 := hbw2.alloc hbw2.size (.cells #[.int .i64 a, .int .i64 b, .int .i64 c] 31)
  clear hA1 hb2 p1
  go_wp2_with (refine wpList_load_row rfl 31 _ rfl w.heap.size rfl _ _ _ _ hA2 Tryd.underlying31 rfl (by kernel_rfl) ?_)
  refine (p2 _).mono ?_
  rintro _ w4 ⟨rfl, hb4⟩
  have hX4 := (hX2.below hb4 hX2.lt).alloc (.cells #[.int .i64 a, .int .i64 b, .int .i64 c] 31)
  have hY4 := Blk.new w4 31 #[.int .i64 a, .int .i64 b, .int .i64 c]
  have hbw4 := hbw3.trans (hb4.mono hbw3.size)
  have hbw5 := hbw4.alloc hbw4.size (.cells #[.int .i64 a, .int .i64 b, .int .i64 c] 31)
  have heq := eq_run a b c a b c true (by simp)
  have x0 := hX4.cell 0
  have x1 := hX4.cell 1
  have x2 := hX4.cell 2
  have y0 := hY4.cell 0
  have y1 := hY4.cell 1
  have y2 := hY4.cell 2
  go_wp2_with fail
  go_ret
  exact ⟨rfl, hbw5⟩
end Go.Proofs.YtajnlbfhcbkopaaDoor.Sty
