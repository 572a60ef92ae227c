/- Plain bytes tell printed runes. -/
import Derived.Test.YtjklnnklgkihlaaGreatDoorPat
namespace Go.Proofs.YtjklnnklgkihlaaGreatDoor.Scr
open Go.RowKit Cel Vt

theorem step_plain (u : UInt8) (h0 : 32 ≤ u.toNat) (h1 : u.toNat ≤ 126) : Vt.step ps0 u = (ps0, [prt (u.toNat : Int)]) := by
  have a0 : (32 : Int) ≤ (u.toNat : Int) := by omega
  have a1 : (u.toNat : Int) ≤ 126 := by omega
  unfold Vt.step
  simp only [show ps0.s = 0 from rfl]
  generalize (u.toNat : Int) = x at *
  rw [if_neg (by omega), if_neg (by omega), if_neg (by decide), if_neg (by omega), if_neg (by omega), if_neg (by omega), if_pos trivial]
  unfold ground
  have hs : Cel.step ps0.d x = (zero, [x]) := by
    show Cel.step zero x = _
    unfold Cel.step
    rw [if_neg (by simp [Cel.fits, zero])]
    unfold first
    rw [if_pos (by omega)]
    rfl
  rw [hs]
  rfl
theorem run_plain (l : Tx) (h : ∀ u ∈ l, 32 ≤ u.toNat ∧ u.toNat ≤ 126) : Vt.run ps0 l = (ps0, l.map fun u => prt (u.toNat : Int)) := by
  induction l with
  | nil => rfl
  | cons u l ih =>
    rw [Vt.run_cons, step_plain u (h u (.head _)).1 (h u (.head _)).2, ih fun v hv => h v (.tail _ hv)]
    rfl
end Go.Proofs.YtjklnnklgkihlaaGreatDoor.Scr
