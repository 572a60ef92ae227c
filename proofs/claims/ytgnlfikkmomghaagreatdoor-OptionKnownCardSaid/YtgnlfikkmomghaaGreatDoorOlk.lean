/- The law on Known. -/
import Derived.Test.YtgnlfikkmomghaaGreatDoorOre
import Derived.Test.YtgnlfikkmomghaaGreatDoorOsw
namespace Go.Proofs.YtgnlfikkmomghaaGreatDoor.Opt
open Go.RowKit Go.Maps

set_option maxRecDepth 100000 in
set_option maxHeartbeats 4000000 in
theorem known_walk {B : Nat} (l : Tx) (hl : l.length ≤ 140737488355328) (w : World) (ht : Tabs B w) (hB : B ≤ w.heap.size) :
    Calls Tryz.prog 4 #[.string (bs l)] w fun e w' => e = .returned (.bool true) ∧ Below w.heap.size w w' := by
  have HS := Lib.hid (shown_any w ht hB)
  have HT := Lib.hid ht
  have H1 := Lib.hid (fun w' (ht' : Tabs B w') (hB' : B ≤ w'.heap.size) => known_any l hl w' ht' hB')
  have H2 := Lib.hid (fun w' => knownRef_any l hl w')
  clear ht
  generalize knownP l = r at H1 H2
  obtain ⟨a, k, i⟩ := r
  dsimp only at H1 H2
  generalize bs a = A at H1 H2
  generalize bs k = K at H1 H2
  generalize bs l = L at H1 H2 ⊢
  go_enter Tryz.func4, Tryz.ntmps4
  go_wp2_with fail
  refine HS.out.mono ?_
  rintro e w1 ⟨rfl, hb1⟩
  have HB1 := Lib.hid hb1
  clear hb1 HS
  go_wp2_with fail
  refine (H1.out _ (HT.out.below (HB1.out.mono hB)) (Nat.le_trans hB HB1.out.size)).mono ?_
  rintro e w2 ⟨rfl, hb2⟩
  have HB2 := Lib.hid (HB1.out.trans (hb2.mono HB1.out.size))
  clear hb2 HB1 H1
  go_wp2_with fail
  refine (H2.out _).mono ?_
  rintro e w3 ⟨rfl, hb3⟩
  have HB3 := Lib.hid (HB2.out.trans (hb3.mono HB2.out.size))
  clear hb3 HB2 H2
  go_wp2_with fail
  go_ret
  exact ⟨rfl, HB3.out⟩
end Go.Proofs.YtgnlfikkmomghaaGreatDoor.Opt
