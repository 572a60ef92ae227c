/- The chapter's Words and Print walked. -/
import Derived.Test.YtajnlbfhcbkopaaDoorShw
namespace Go.Proofs.YtajnlbfhcbkopaaDoor.Sty
open Go.RowKit

theorem words8 : (#[.string { data := #[98, 111, 108, 100] }, .string { data := #[100, 105, 109] }, .string { data := #[105, 116, 97, 108, 105, 99, 115] }, .string { data := #[117, 110, 100, 101, 114, 115, 99, 111, 114, 101] }, .string { data := #[98, 108, 105, 110, 107] }, .string { data := #[114, 101, 118, 101, 114, 115, 101] }, .string { data := #[104, 105, 100, 100, 101, 110] }, .string { data := #[115, 116, 114, 105, 107, 101, 116, 104, 114, 111, 117, 103, 104] }] : Array Value) = strs words := by kernel_rfl
theorem words_any (w : World) : Calls Tryd.prog 45 #[] w fun e w' => e = .returned (.slice (some ⟨w.heap.size, 0, none⟩) 8 8) ∧ Blk w' w.heap.size 9 (strs words) ∧ Below w.heap.size w w' := by
  go_enter Tryd.func45, Tryd.ntmps45
  have hA := Blk.new w 9 (strs words)
  have hb := (Below.refl w.heap.size w).alloc (Nat.le_refl _) (.cells (strs words) 9)
  rw [← words8] at hA hb
  go_wp2_with fail
  go_ret
  exact ⟨rfl, by rw [← words8]; exact hA, hb⟩
end Go.Proofs.YtajnlbfhcbkopaaDoor.Sty
