/- A CSI done. -/
import Derived.Test.YtjklnnklgkihlaaGreatDoorPNcd
namespace Go.Proofs.YtjklnnklgkihlaaGreatDoor.Scr
open Go.RowKit Cel Sty Grd

section
variable {w : World} {d sb : Nat} {a : Vt.Ac} {pv av : Value}
set_option maxRecDepth 100000 in
set_option maxHeartbeats 1000000 in
theorem sequence_at {P : World → Prop} (hD : dgB w d sb a pv av) (hb : a.b = 72 ∨ a.b = 110 ∨ a.b = 109) (hi : a.it = [])
    (hs : Calls Tryz.prog (stepF a.b) #[ptrV d] w fun e w' => e = .returned (.tuple #[]) ∧ P w') :
    Calls Tryz.prog 47 #[ptrV d] w fun e w' => e = .returned (.tuple #[]) ∧ P w' := by
  have kc := Lib.hid (csi_at hD hb hi)
  have hn2 : ∀ (f : FuncId) (p : Value) (w : World), Sem.run Tryz.prog (binOp BinOp.neq 1 (.func (.func f) #[p] #[]) Value.nilFunc) w = .ok (.bool true) w := fun _ _ _ => rfl
  clear hD hi
  unfold ptrV at *
  rcases hb with hb | hb | hb
  all_goals
    rw [hb] at hs kc
    first
      | rw [show stepF 72 = 169 from rfl] at hs kc
      | rw [show stepF 110 = 183 from rfl] at hs kc
      | rw [show stepF 109 = 186 from rfl] at hs kc
    have HS := Lib.hid hs
    clear hs
    go_enter Tryz.func47, Tryz.ntmps47
    go_wp2_with fail
    refine kc.out.mono ?_
    rintro _ w1 ⟨rfl, rfl⟩
    go_wp2_with fail
    refine HS.out.mono ?_
    rintro _ w2 ⟨rfl, hP⟩
    go_wp2_with fail
    exact body_end rfl rfl ⟨rfl, hP⟩
end
end Go.Proofs.YtjklnnklgkihlaaGreatDoor.Scr
