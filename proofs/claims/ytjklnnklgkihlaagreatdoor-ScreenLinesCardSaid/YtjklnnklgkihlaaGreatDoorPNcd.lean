/- Which step a CSI is: H, n, m. -/
import Derived.Test.YtjklnnklgkihlaaGreatDoorPNcs
namespace Go.Proofs.YtjklnnklgkihlaaGreatDoor.Scr
open Go.RowKit Cel Sty Grd

/-- The steps of H, n, m. -/
def stepF (b : Int) : FuncId := if b = 72 then 169 else if b = 110 then 183 else 186
section
variable {w : World} {d sb : Nat} {a : Vt.Ac} {pv av : Value} {B2 : Nat}
set_option maxRecDepth 100000 in
set_option maxHeartbeats 1000000 in
theorem move_72 (hD : dgB w d sb a pv av) (hb : a.b = 72) :
    Calls Tryz.prog 131 #[ptrV d] w fun e w' => e = .returned (.func (.func 169) #[ptrV d] #[]) ∧ w = w' := by
  have e3 : w.cell? ⟨d, 3, none⟩ = some (.int .u8 a.b) := hD.cell 3
  rw [hb] at e3
  have hmf : ∀ (fn : Fn) (first cap : Array Value) (w : World), (Instr.makeFunc fn first cap).run Tryz.prog w = .ok (.func fn first cap) w := fun _ _ _ _ => rfl
  clear hD
  unfold ptrV
  go_enter Tryz.func131, Tryz.ntmps131
  go_wp2_with fail
  go_ret
  exact ⟨rfl, rfl⟩
set_option maxRecDepth 100000 in
set_option maxHeartbeats 1000000 in
theorem move_none (hD : dgB w d sb a pv av) (hb : a.b = 110 ∨ a.b = 109) :
    Calls Tryz.prog 131 #[ptrV d] w fun e w' => e = .returned .nilFunc ∧ w = w' := by
  have e3 : w.cell? ⟨d, 3, none⟩ = some (.int .u8 a.b) := hD.cell 3
  clear hD
  unfold ptrV
  rcases hb with hb | hb
  all_goals
    rw [hb] at e3
    go_enter Tryz.func131, Tryz.ntmps131
    go_wp2_with fail
    go_ret
    exact ⟨rfl, rfl⟩
set_option maxRecDepth 100000 in
set_option maxHeartbeats 1000000 in
theorem change_none (hD : dgB w d sb a pv av) (hb : a.b = 110 ∨ a.b = 109) :
    Calls Tryz.prog 132 #[ptrV d] w fun e w' => e = .returned .nilFunc ∧ w = w' := by
  have e3 : w.cell? ⟨d, 3, none⟩ = some (.int .u8 a.b) := hD.cell 3
  clear hD
  unfold ptrV
  rcases hb with hb | hb
  all_goals
    rw [hb] at e3
    go_enter Tryz.func132, Tryz.ntmps132
    go_wp2_with fail
    go_ret
    exact ⟨rfl, rfl⟩
set_option maxRecDepth 100000 in
set_option maxHeartbeats 1000000 in
theorem other_some (hD : dgB w d sb a pv av) (hb : a.b = 110 ∨ a.b = 109) :
    Calls Tryz.prog 133 #[ptrV d] w fun e w' => e = .returned (.func (.func (stepF a.b)) #[ptrV d] #[]) ∧ w = w' := by
  have e3 : w.cell? ⟨d, 3, none⟩ = some (.int .u8 a.b) := hD.cell 3
  have hmf : ∀ (fn : Fn) (first cap : Array Value) (w : World), (Instr.makeFunc fn first cap).run Tryz.prog w = .ok (.func fn first cap) w := fun _ _ _ _ => rfl
  clear hD
  unfold ptrV
  rcases hb with hb | hb
  all_goals
    rw [hb] at e3 ⊢
    go_enter Tryz.func133, Tryz.ntmps133
    go_wp2_with fail
    go_ret
    exact ⟨rfl, rfl⟩
set_option maxRecDepth 100000 in
set_option maxHeartbeats 1000000 in
theorem csi_at (hD : dgB w d sb a pv av) (hb : a.b = 72 ∨ a.b = 110 ∨ a.b = 109) (hi : a.it = []) :
    Calls Tryz.prog 90 #[ptrV d] w fun e w' => e = .returned (.func (.func (stepF a.b)) #[ptrV d] #[]) ∧ w = w' := by
  have e5 : w.cell? ⟨d, 5, none⟩ = some (.string (Vt.bs a.it)) := hD.cell 5
  rw [hi, show Vt.bs [] = { data := #[] } from rfl] at e5
  have hn1 : ∀ w : World, Sem.run Tryz.prog (binOp BinOp.neq 1 Value.nilFunc Value.nilFunc) w = .ok (.bool false) w := fun _ => rfl
  have hn2 : ∀ (f : FuncId) (p : Value) (w : World), Sem.run Tryz.prog (binOp BinOp.neq 1 (.func (.func f) #[p] #[]) Value.nilFunc) w = .ok (.bool true) w := fun _ _ _ => rfl
  rcases hb with hb | hb
  · have k1 := Lib.hid (move_72 hD hb)
    rw [hb]
    clear hD hb
    unfold ptrV at *
    go_enter Tryz.func90, Tryz.ntmps90
    go_wp2_with fail
    refine k1.out.mono ?_
    rintro _ w1 ⟨rfl, rfl⟩
    go_wp2_with fail
    go_ret
    exact ⟨rfl, rfl⟩
  · have k1 := Lib.hid (move_none hD hb)
    have k2 := Lib.hid (change_none hD hb)
    have k3 := Lib.hid (other_some hD hb)
    clear hD hb
    unfold ptrV at *
    go_enter Tryz.func90, Tryz.ntmps90
    go_wp2_with fail
    refine k1.out.mono ?_
    rintro _ w1 ⟨rfl, rfl⟩
    go_wp2_with fail
    refine k2.out.mono ?_
    rintro _ w1 ⟨rfl, rfl⟩
    go_wp2_with fail
    refine k3.out.mono ?_
    rintro _ w1 ⟨rfl, rfl⟩
    go_wp2_with fail
    go_ret
    exact ⟨rfl, rfl⟩
end
end Go.Proofs.YtjklnnklgkihlaaGreatDoor.Scr
