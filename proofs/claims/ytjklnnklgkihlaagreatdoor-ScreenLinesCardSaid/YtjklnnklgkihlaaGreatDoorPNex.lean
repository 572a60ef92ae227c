/- The document's examples for a screen, in plain words. -/
import Derived.Test.YtjklnnklgkihlaaGreatDoorPNfg
import Derived.Test.YtjklnnklgkihlaaGreatDoorPNvw
import Derived.Test.YtjklnnklgkihlaaGreatDoorPNlt
namespace Go.Proofs.YtjklnnklgkihlaaGreatDoor.Scr
open Go.RowKit Cel Sty Grd

def ex1 : List UInt8 := [97, 98, 99, 100, 101]
def ex2 : List UInt8 := [27, 91, 50, 59, 51, 72, 27, 91, 54, 110, 27, 91, 49, 59, 51, 49, 109]
def csiA (b : Int) (ps : List Int) : Vt.Ac := ⟨4, 0, b, ps, [], []⟩
def tx2 : List Vt.Ac := [csiA 72 [2, 3], csiA 110 [6], csiA 109 [1, 31]]
set_option maxRecDepth 100000 in
theorem run_ex2 : Vt.run Vt.ps0 ex2 = (Vt.ps0, tx2) := by kernel_rfl
def exM (lim : Nat) : MP := stateK 4 2 lim (runesI ex1) 5
def exN : Nat → MP → MP
  | 0, M => M
  | 1, M => goMP 4 M [2, 3]
  | 2, M => goMP 4 M [2, 3]
  | _, M => penMP (goMP 4 M [2, 3]) [1, 31]
def exA : Nat → List UInt8
  | 1 => placeT 2 1
  | _ => []
theorem ex_rows (lim : Nat) : rowTs (exM lim).rows = [.string { data := #[97, 98, 99, 100] }, .string { data := #[101] }] := by kernel_rfl
theorem ex_view (lim : Nat) (rv : Value) : viewL rv (exM lim).S = [rv, .int .i64 1, .int .i64 1, .bool true, .bool false, .int .i64 9, .string { data := #[] }] := by kernel_rfl
theorem ex_pen (lim : Nat) : (exN 3 (exM lim)).S.now.pen = (1, -1, 1) := by kernel_rfl
theorem ex_cat : catP exA 3 = [27, 91, 50, 59, 51, 82] := by
  unfold catP
  simp [List.range_succ, exA, placeT]
  rw [Lib.decDigits, dif_pos (by decide), Lib.decDigits, dif_pos (by decide)]
  rfl
section
variable {B sb g c lim : Nat} {pp tv : Value}
theorem do_0 {M : MP} (ho : M.S.now.origin = false) : DoIs B sb g 4 lim pp tv M (goMP 4 M [2, 3]) (csiA 72 [2, 3]) [] := do_csi rfl (.inl rfl) rfl (step_H (a := csiA 72 [2, 3]) rfl (by decide) ho)
theorem do_1 {M : MP} (ho : M.S.now.origin = false) (hx : M.S.now.x = 2) (hy : M.S.now.y = 1) : DoIs B sb g 4 lim pp tv M M (csiA 110 [6]) (placeT 2 1) := do_csi rfl (.inr (.inl rfl)) rfl (step_n (a := csiA 110 [6]) rfl (by decide) (by decide) ho 2 1 hx hy (by decide) (by decide))
theorem do_2 {M : MP} : DoIs B sb g 4 lim pp tv M (penMP M [1, 31]) (csiA 109 [1, 31]) [] := do_csi rfl (.inr (.inr rfl)) rfl (step_m (a := csiA 109 [1, 31]) rfl (by decide) (by decide) (by decide))
theorem ex_org (lim : Nat) : (exM lim).S.now.origin = false := by kernel_rfl
theorem ex_len (lim : Nat) : (exM lim).rows.length = 2 := rowsK_len _ _ _ _ _
theorem ex_do (k : Nat) (hk : k < tx2.length) {M : MP} (ho : M.S.now.origin = false) (hl : M.rows.length = 2) : DoIs B sb g 4 lim pp tv (exN k M) (exN (k + 1) M) tx2[k] (exA k) := by
  match k, hk with
  | 0, _ => exact do_0 ho
  | 1, _ =>
    refine do_1 (M := goMP 4 M [2, 3]) ho ?_ ?_
    · show nearP 4 (ordP [2, 3] 1 - 1) = 2
      decide
    · show nearP (M.rows.length : Int) (ordP [2, 3] 0 - 1) = 1
      rw [hl]
      decide
  | 2, _ => exact do_2 (M := goMP 4 M [2, 3])
  | k + 3, hk => exact absurd hk (by unfold tx2; simp)
end
theorem ex_wide : ∀ u ∈ ex1, 32 ≤ u.toNat ∧ u.toNat ≤ 126 ∧ width (u.toNat : Int) = 1 := by decide
end Go.Proofs.YtjklnnklgkihlaaGreatDoor.Scr
