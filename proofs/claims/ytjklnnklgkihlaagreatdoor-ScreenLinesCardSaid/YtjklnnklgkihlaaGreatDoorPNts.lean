/- CSI n: where the place is. -/
import Derived.Test.YtjklnnklgkihlaaGreatDoorPNte
import Derived.Test.YtjklnnklgkihlaaGreatDoorPNtp
import Derived.Test.YtjklnnklgkihlaaGreatDoorPaj
namespace Go.Proofs.YtjklnnklgkihlaaGreatDoor.Scr
open Go.RowKit Cel Sty Grd

/-- The answer that tells a place. -/
def placeT (x y : Nat) : List UInt8 := [27, 91] ++ Lib.decDigits (y + 1) ++ [59] ++ Lib.decDigits (x + 1) ++ [82]
theorem dec_len (n : Nat) (h : n < 100) : (Lib.decDigits n).length ≤ 2 := by
  rw [Lib.decDigits]
  split
  · simp
  · rw [Lib.decDigits, dif_pos (by omega)]
    simp
section
variable {w : World} {sb g d : Nat} {a : Vt.Ac} {pv : Value} {B2 base : Nat} {pp tv : Value} {S : ScP}
set_option maxRecDepth 100000 in
set_option maxHeartbeats 2000000 in
theorem tellStatus_6 (hD : dgB w d sb a pv (.slice none 0 0)) (hp : Vt.Ints w B2 pv a.ps) (hb : ∀ x ∈ a.ps, -9223372036854775808 ≤ x ∧ x ≤ 9223372036854775807) (h6 : parP a.ps 0 0 = 6)
    (h : scB w sb pp g none tv S) (ho : S.now.origin = false) (x y : Nat) (hx : S.now.x = (x : Int)) (hy : S.now.y = (y : Int)) (hx9 : x < 99) (hy9 : y < 99) (hbase : base ≤ w.heap.size) :
    Calls Tryz.prog 183 #[ptrV d] w fun e w' => e = .returned (.tuple #[]) ∧ ∃ av2, dgB w' d sb a pv av2 ∧ AnsAt w' base av2 (placeT x y) ∧ Only [d] w w' := by
  have kp := param_at hD hp hb 0 (by omega) 0
  rw [h6] at kp
  have q0 : w.cell? ⟨d, 0, none⟩ = some (.pointer (some ⟨sb, 0, none⟩)) := hD.cell 0
  have q4 : w.cell? ⟨sb, 4, none⟩ = some (.int .i64 S.now.y) := h.cell 4
  have q9 : w.cell? ⟨sb, 9, none⟩ = some (.bool S.now.origin) := h.cell 9
  rw [hy] at q4
  rw [ho] at q9
  have od : Only [] w w.drew := (Only.refl _ _).drew
  have hDd := hD.only od (by simp)
  have r0 : w.drew.cell? ⟨d, 0, none⟩ = some (.pointer (some ⟨sb, 0, none⟩)) := hDd.cell 0
  have r3 : w.drew.cell? ⟨sb, 3, none⟩ = some (.int .i64 S.now.x) := (h.only od (by simp)).cell 3
  rw [hx] at r3
  have ky : Calls Tryz.prog 50 #[.int .i64 ((y : Int) + 1)] w.drew fun e w' => e = .returned (.string ⟨(Lib.decDigits (y + 1)).toArray⟩) ∧ w' = w.drew := Tryz.strconv_Itoa_small (y + 1) (by omega) w.drew
  have kx : Calls Tryz.prog 50 #[.int .i64 ((x : Int) + 1)] w.drew fun e w' => e = .returned (.string ⟨(Lib.decDigits (x + 1)).toArray⟩) ∧ w' = w.drew := Tryz.strconv_Itoa_small (x + 1) (by omega) w.drew
  have j1 : IntKind.i64.wrap ((y : Int) + 1) = (y : Int) + 1 := IntWalk.i64_in _ ⟨by omega, by omega⟩
  have j2 : IntKind.i64.wrap ((x : Int) + 1) = (x : Int) + 1 := IntWalk.i64_in _ ⟨by omega, by omega⟩
  have hT : (Vt.bs (placeT x y)) = ((({ data := #[27, 91] } : ByteArray) ++ ⟨(Lib.decDigits (y + 1)).toArray⟩ ++ { data := #[59] } ++ ⟨(Lib.decDigits (x + 1)).toArray⟩ ++ { data := #[82] })) := by
    apply ByteArray.ext
    simp [Vt.bs, placeT, ByteArray.data_append]
  have z1 := dec_len (y + 1) (by omega)
  have z2 := dec_len (x + 1) (by omega)
  have kt := tell_at (L := []) (base := base) hDd (World.ownsRow_nil _ _ _ _) (Nat.le_trans hbase od.size) (placeT x y) (by
    unfold placeT
    simp only [List.length_append, List.length_cons, List.length_nil]
    omega)
  rw [hT] at kt
  generalize Lib.decDigits (y + 1) = ty at *
  generalize Lib.decDigits (x + 1) = tx at *
  have l1 : ¬ 9223372036854775807 < 2 + ty.length := by omega
  have l2 : ¬ 9223372036854775807 < 2 + ty.length + 1 := by omega
  have l3 : ¬ 9223372036854775807 < 2 + ty.length + 1 + tx.length := by omega
  have l4 : ¬ 9223372036854775807 < 2 + ty.length + 1 + tx.length + 1 := by omega
  have KT := Lib.hid kt
  clear kt hT hD hDd hp hb h6 h ho hx hy
  unfold ptrV at *
  go_enter Tryz.func183, Tryz.ntmps183
  go_wp2_with (go_at_call 190; refine kp.mono ?_; rintro _ w1 ⟨rfl, rfl⟩)
  go_region_law
    (first
      | (go_simp; go_at_call 50; refine ky.mono ?_; rintro _ w4 ⟨rfl, rfl⟩)
      | (go_simp; go_at_call 50; refine kx.mono ?_; rintro _ w4 ⟨rfl, rfl⟩)
      | (go_simp; go_at_call 94; refine KT.out.mono ?_; rintro _ w4 ⟨rfl, av2, hD4, hA4, hO4⟩))
  all_goals go_wp2_with fail
  all_goals exact body_end rfl rfl ⟨rfl, av2, hD4, hA4, (od.mono (by simp)).trans (hO4 [] (fun k hk => by cases hk))⟩
end
end Go.Proofs.YtjklnnklgkihlaaGreatDoor.Scr
