/- A line of letters as a text. (Plain.) -/
import Derived.Test.YtjklnnklgkihlaaGreatDoorPNln
import Derived.Lib.TrimByte
namespace Go.Proofs.YtjklnnklgkihlaaGreatDoor.Scr
open Go.RowKit Cel Sty Grd

theorem runes_getD (B : List UInt8) (p : Nat) (h : p < B.length) : (runesI B).getD p 0 = (B[p].toNat : Int) := by
  unfold runesI
  rw [getD_nth (by rw [List.length_map]; exact h) _, List.getElem_map]
theorem line_letters (c : Nat) (B : List UInt8) (a j : Nat) : lettersL (lineK c (runesI B) B.length a j).1 = (List.range c).map fun x => B.getD (j * c + x) 32 := by
  unfold lettersL lineK
  rw [List.filter_eq_self.2 (fun y hy => by
    obtain ⟨z, _, rfl⟩ := List.mem_map.1 hy
    rw [ceK_wide]
    rfl), List.map_map]
  apply List.map_congr_left
  intro x hx
  simp only [Function.comp]
  unfold ceK
  by_cases h : j * c + x < B.length
  · rw [if_pos h, getD_nth h _]
    simp only
    rw [runes_getD B _ h, Int.toNat_natCast, UInt8.ofNat_toNat]
  · rw [if_neg h, List.getD_eq_getElem?_getD, List.getElem?_eq_none (by omega)]
    rfl
theorem line_text {c : Nat} {B : List UInt8} (h : ∀ u ∈ B, u ≠ 32) (a j : Nat) : Lib.trimRightB (lettersL (lineK c (runesI B) B.length a j).1) 32 = (B.drop (j * c)).take c := by
  rw [line_letters]
  have hg : ∀ i, i < c → ((List.range c).map fun x => B.getD (j * c + x) 32)[i]? = some (B.getD (j * c + i) 32) := fun i hi => by
    rw [List.getElem?_map, List.getElem?_range hi]
    rfl
  rw [Lib.trimRightB_take _ 32 (min c (B.length - j * c)) (by simp; omega)]
  · apply List.ext_getElem
    · simp
    · intro i h1 h2
      simp only [List.length_take, List.length_map, List.length_range] at h1
      simp only [List.getElem_take, List.getElem_map, List.getElem_range, List.getElem_drop]
      rw [getD_nth (by omega) _]
  · intro i b hi hb
    rcases Nat.lt_or_ge i c with hc | hc
    · rw [hg i hc, List.getD_eq_getElem?_getD, List.getElem?_eq_none (by omega)] at hb
      exact (Option.some.inj hb).symm
    · rw [List.getElem?_eq_none (by simp; exact hc)] at hb
      cases hb
  · intro b hk hb
    rw [hg _ (by omega), getD_nth (by omega) _] at hb
    rw [← Option.some.inj hb]
    exact h _ (List.getElem_mem _)
theorem line_seven {c : Nat} {B : List UInt8} (h : ∀ u ∈ B, u.toNat < 128) (a j : Nat) : ∀ y ∈ (lineK c (runesI B) B.length a j).1, y.2.1 ≠ 0 → 0 ≤ y.1 ∧ y.1 < 128 := by
  intro y hy _
  unfold lineK at hy
  obtain ⟨x, _, rfl⟩ := List.mem_map.1 hy
  unfold ceK
  split
  · rename_i hp
    simp only
    rw [runes_getD B _ hp]
    have := h _ (List.getElem_mem hp)
    omega
  · unfold plainCe
    simp only
    omega
end Go.Proofs.YtjklnnklgkihlaaGreatDoor.Scr
