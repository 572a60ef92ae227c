/- The steps of CSI H, n, m. -/
import Derived.Test.YtjklnnklgkihlaaGreatDoorPNmf
import Derived.Test.YtjklnnklgkihlaaGreatDoorPat
namespace Go.Proofs.YtjklnnklgkihlaaGreatDoor.Scr
open Go.RowKit Cel Sty Grd

section
variable {B sb g c lim : Nat} {pp tv : Value} {M : MP} {a : Vt.Ac}
theorem sized {V : World} {F : List Nat} {past rows : List Ro} {S : ScP} (h : SG V sb g F c lim past rows pp tv S) : Sized V sb g c rows.length := fun W hW => by
  have hg := h.grd.only hW (fun x hx e => h.far (by rw [List.mem_singleton] at e; exact e ▸ hx))
  exact ⟨cols_ga hg, rows_ga hg⟩
def goMP (c : Nat) (M : MP) (l : List Int) : MP := ⟨M.past, M.rows, M.S.goTo (nearP c (ordP l 1 - 1)) (nearP M.rows.length (ordP l 0 - 1))⟩
theorem step_H (ha : a.b = 72) (hb : ∀ x ∈ a.ps, -9223372036854775808 ≤ x ∧ x ≤ 9223372036854775807) (ho : M.S.now.origin = false) : StepIs B sb g c lim pp tv M (goMP c M a.ps) a [] := by
  intro V F pv B2 d h hD hne hdF
  have hbd := h.scr.grd.bd
  rw [ha]
  refine (toPlace_at hD h.nums hb h.scr.blk (sized h.scr) hbd.c1 hbd.c2 hbd.r1 hbd.r2 ho).mono ?_
  rintro e w' ⟨he, hB, hO⟩
  exact ⟨he, _, F, hD.only hO (by simpa using hne), World.ownsRow_nil _ _ _ _, h.scr.turn hB hO, fun x hx => .inl hx, hO.mono fun x hx => by rw [List.mem_singleton] at hx; rw [hx]; simp⟩
theorem step_n (ha : a.b = 110) (hb : ∀ x ∈ a.ps, -9223372036854775808 ≤ x ∧ x ≤ 9223372036854775807) (h6 : parP a.ps 0 0 = 6) (ho : M.S.now.origin = false) (x y : Nat) (hx : M.S.now.x = (x : Int)) (hy : M.S.now.y = (y : Int)) (hx9 : x < 99) (hy9 : y < 99) :
    StepIs B sb g c lim pp tv M M a (placeT x y) := by
  intro V F pv B2 d h hD hne hdF
  rw [ha]
  refine (tellStatus_6 (base := V.heap.size) hD h.nums hb h6 h.scr.blk ho x y hx hy hx9 hy9 (Nat.le_refl _)).mono ?_
  rintro e w' ⟨he, av, hD2, hA, hO⟩
  exact ⟨he, av, F, hD2, hA, h.scr.only hO (by simpa using fun e => hne e.symm) (fun x hx e => hdF (by rw [List.mem_singleton] at e; exact e ▸ hx)), fun x hx => .inl hx, hO.mono fun x hx => by rw [List.mem_singleton] at hx; rw [hx]; simp⟩
def penMP (M : MP) (l : List Int) : MP := ⟨M.past, M.rows, M.S.setP (penP M.S.now.pen (codesP l))⟩
theorem step_m (ha : a.b = 109) (hb : ∀ x ∈ a.ps, -9223372036854775808 ≤ x ∧ x ≤ 9223372036854775807) (hl : a.ps.length ≤ 100) (hno : ∀ x ∈ codesP a.ps, x ≠ 38 ∧ x ≠ 48 ∧ 0 ≤ x ∧ x ≤ 9999) :
    StepIs B sb g c lim pp tv M (penMP M a.ps) a [] := by
  intro V F pv B2 d h hD hne hdF
  rw [ha]
  refine (turnPen_at hD h.nums hb hl h.scr.blk h.att h.base h.own hne hno).mono ?_
  rintro e w' ⟨he, hB, hO⟩
  exact ⟨he, _, F, hD.only hO (by simpa using hne), World.ownsRow_nil _ _ _ _, h.scr.turn hB hO, fun x hx => .inl hx, hO.mono fun x hx => by rw [List.mem_singleton] at hx; rw [hx]; simp⟩
end
end Go.Proofs.YtjklnnklgkihlaaGreatDoor.Scr
/- Plain bytes tell printed runes. -/
namespace Go.Proofs.YtjklnnklgkihlaaGreatDoor.Scr
open Go.RowKit Cel Vt

theorem step_plain (u : UInt8) (h0 : 32 ≤ u.toNat) (h1 : u.toNat ≤ 126) : Vt.step ps0 u = (ps0, [prt (u.toNat : Int)]) := by
  have a0 : (32 : Int) ≤ (u.toNat : Int) := by omega
  have a1 : (u.toNat : Int) ≤ 126 := by omega
  unfold Vt.step
  simp only [show ps0.s = 0 from rfl]
  generalize (u.toNat : Int) = x at *
  rw [if_neg (by omega), if_neg (by omega), if_neg (by decide), if_neg (by omega), if_neg (by omega), if_neg (by omega), if_pos trivial]
  unfold ground
  have hs : Cel.step ps0.d x = (zero, [x]) := by
    show Cel.step zero x = _
    unfold Cel.step
    rw [if_neg (by simp [Cel.fits, zero])]
    unfold first
    rw [if_pos (by omega)]
    rfl
  rw [hs]
  rfl
theorem run_plain (l : Tx) (h : ∀ u ∈ l, 32 ≤ u.toNat ∧ u.toNat ≤ 126) : Vt.run ps0 l = (ps0, l.map fun u => prt (u.toNat : Int)) := by
  induction l with
  | nil => rfl
  | cons u l ih =>
    rw [Vt.run_cons, step_plain u (h u (.head _)).1 (h u (.head _)).2, ih fun v hv => h v (.tail _ hv)]
    rfl
end Go.Proofs.YtjklnnklgkihlaaGreatDoor.Scr
