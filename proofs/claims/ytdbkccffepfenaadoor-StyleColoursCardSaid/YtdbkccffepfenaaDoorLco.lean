/- The law StyleColours walked. -/
import Derived.Test.YtdbkccffepfenaaDoorRcl
namespace Go.Proofs.YtdbkccffepfenaaDoor.Sty
open Go.RowKit

set_option maxRecDepth 100000 in
set_option maxHeartbeats 1000000 in
theorem colours_walk {B : Nat} (l : Tx) (n : Int) (hs : l.length ≤ 140737488351232) (w : World) (ht : Tabs B w) (hB : B ≤ w.heap.size) :
    Calls Tryd.prog 3 #[.string (bs l), .int .i64 n] w fun e w' => e = .returned (.bool true) ∧ Below w.heap.size w w' := by
  have c0 := fun w ht hB => shown_any (B := B) w ht hB
  have c1 := fun w ht hB => colour_any (B := B) l w ht hB hs
  have c2 := fun w => colourRef_any l w hs
  have c3 := fun w ht hB => name_any (B := B) n w ht hB
  have c4 := fun w => nameRef_any n w
  have T := bs_tl (name n)
  have HT := Lib.hid T
  clear T
  generalize bs l = S at *
  generalize colourS (low l) = R at *
  obtain ⟨X, hX⟩ : ∃ X, bs (name n) = X := ⟨_, rfl⟩
  rw [hX] at c3 c4
  clear hX HT
  cases R
  all_goals
    simp only [colVal, colRef] at c1 c2
    go_enter Tryd.func3, Tryd.ntmps3
    go_wp2_with fail
    refine (c0 _ ht hB).mono ?_
    rintro e w1 ⟨rfl, hb1⟩
    go_wp2_with fail
    refine (c1 _ (ht.on hB hb1) (Nat.le_trans hB hb1.size)).mono ?_
    rintro e w2 ⟨rfl, hb2⟩
    have hbw2 := hb1.trans (hb2.mono hb1.size)
    go_wp2_with fail
    refine (c2 _).mono ?_
    rintro e w3 ⟨rfl, hb3⟩
    have hbw3 := hbw2.trans (hb3.mono hbw2.size)
    go_wp2_with fail
    refine (c3 _ (ht.on hB hbw3) (Nat.le_trans hB hbw3.size)).mono ?_
    rintro e w4 ⟨rfl, hb4⟩
    have hbw4 := hbw3.trans (hb4.mono hbw3.size)
    go_wp2_with fail
    refine (c4 _).mono ?_
    rintro e w5 ⟨rfl, hb5⟩
    have hbw5 := hbw4.trans (hb5.mono hbw4.size)
    go_wp2_with fail
    go_ret
    exact ⟨rfl, hbw5⟩
end Go.Proofs.YtdbkccffepfenaaDoor.Sty
