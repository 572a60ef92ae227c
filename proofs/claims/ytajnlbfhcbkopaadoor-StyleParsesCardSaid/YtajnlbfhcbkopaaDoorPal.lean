/- Package style's Parse, for texts of whatever length. -/
import Derived.Test.YtajnlbfhcbkopaaDoorPrs
namespace Go.Proofs.YtajnlbfhcbkopaaDoor.Sty
open Go.RowKit

set_option maxRecDepth 100000 in
set_option maxHeartbeats 1000000 in
theorem parse_all {B : Nat} (l : Tx) (fg bg at_ : Int) (w : World) (ht : Tabs B w) (hB : B ≤ w.heap.size) :
    Calls Tryd.prog 14 #[.string (bs l), .agg #[.int .i64 fg, .int .i64 bg, .int .i64 at_]] w fun e w' => e = .returned (parseV l (fg, bg, at_)) ∧ Below w.heap.size w w' := by
  have hsz := bs_size l
  by_cases hl : 256 < l.length
  · have HE := Lib.hid (errLong_V l (fg, bg, at_) hl)
    have hl2 : 256 < (bs l).size := by omega
    clear hsz hl
    go_enter Tryd.func14, Tryd.ntmps14
    have hZ := Blk.new (w.alloc (.cells #[.int .i64 fg, .int .i64 bg, .int .i64 at_] 31)) 31 #[.int .i64 0, .int .i64 0, .int .i64 0]
    have hbel : Below w.heap.size w ((w.alloc (.cells #[.int .i64 fg, .int .i64 bg, .int .i64 at_] 31)).alloc (.cells #[.int .i64 0, .int .i64 0, .int .i64 0] 31)) := ((Below.refl _ _).alloc (Nat.le_refl _) _).alloc (by simp) _
    rw [size_alloc] at hZ
    go_wp2_with (refine wpList_store_blk rfl 31 (.tmp 4) (.tmp 14) rfl (w.heap.size + 1) #[.int .i64 0, .int .i64 0, .int .i64 0] rfl rfl _ _ hZ (by kernel_rfl) rfl (by kernel_rfl) ?_; intro w9 hblk9 hb9)
    exact bodyPost_ret (v := .tuple #[.agg #[.int .i64 0, .int .i64 0, .int .i64 0], .int .i64 2]) (results_cell_tmp (p := 4) (q := 5) (by kernel_rfl) _ w9 _ _ _ _ _ rfl hblk9 Tryd.underlying31 rfl (by kernel_rfl)) rfl ⟨by rw [HE.out], hbel.trans (hb9 _ (by omega))⟩
  · exact parse_any l fg bg at_ w ht hB (by omega)
end Go.Proofs.YtajnlbfhcbkopaaDoor.Sty
