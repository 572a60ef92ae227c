/- The chapter's examples, asked at the head of each law of layer 1: they hold in every world where the program's tables lie. -/
import Derived.Test.YtmnembhfbboljaaDoorRefe
namespace Go.Proofs.YtmnembhfbboljaaDoor.Cel
open Go.RowKit

theorem rd_lit (w : World) (l : List Int) : Rd (w.alloc (.cells (zs l).toArray 21)) (w.heap.size + 1) (some ⟨w.heap.size, 0, none⟩) l := fun j r hr => by
  refine ⟨_, rfl, by omega, ?_⟩
  rw [(Blk.new w 21 (zs l).toArray).cell]
  simp [zs, hr]
theorem Rd.up {w : World} {B B' : Nat} {A : Option Addr} {l : List Int} (h : Rd w B A l) (hB : B ≤ B') : Rd w B' A l := fun j r hr => by
  obtain ⟨g, h1, h2, h3⟩ := h j r hr
  exact ⟨g, h1, by omega, h3⟩
theorem Rd.alloc {w : World} {A : Option Addr} {l : List Int} (h : Rd w w.heap.size A l) (o : Obj) : Rd (w.alloc o) (w.alloc o).heap.size A l :=
  (h.below ((Below.refl _ _).alloc (Nat.le_refl _) o)).up (by simp)

/-- A list that is owned against a literal. -/
theorem same_lit (v : Value) (base : Nat) (l k : List Int) (w : World) (h : Owns w base v l) (hl : l.length ≤ 1099511627776) (c : Nat) (b : Bool) (hb : decide (l = k) = b) :
    Calls Tryd.prog 14 #[v, .slice (some ⟨w.heap.size, 0, none⟩) k.length c] (w.alloc (.cells (zs k).toArray 21)) fun e w' => e = .returned (.bool b) ∧ Below w.heap.size w w' := by
  obtain ⟨A, d, rfl, hrd, _⟩ := Owns.rd h
  refine (same_any l k A (some ⟨w.heap.size, 0, none⟩) d c (w.alloc (.cells (zs k).toArray 21)) (hrd.alloc _) ((rd_lit w k).up (by simp)) hl).mono fun e w' ⟨he, hw⟩ => ?_
  exact ⟨by rw [he, hb], ((Below.refl _ _).alloc (Nat.le_refl _) _).trans (hw.mono (by simp))⟩

theorem ex1 : runes [226, 130, 65] = [65533, 65] := by decide +kernel
theorem ex2 : runes [237, 160, 128] = [65533, 65533, 65533] := by decide +kernel
theorem ex3 : width 65 = 1 := by decide +kernel
theorem ex4 : width 20013 = 2 := by decide +kernel
theorem ex5 : width 769 = 0 := by decide +kernel
theorem ex6 : width 7 = -1 := by decide +kernel
theorem ex7 : cols (runes [97, 228, 184, 173, 98]) = 4 := by decide +kernel
theorem ex8 : runesBytes (cut (runes [97, 228, 184, 173, 98]) 2) = ⟨#[97]⟩ := by
  have e : bytes (cut (runes [97, 228, 184, 173, 98]) 2) = [97] := by decide +kernel
  rw [runesBytes_eq, e]
theorem ex9 : (⟨(fit (runes [97]) 3).toArray⟩ : ByteArray) = ⟨#[97, 32, 32]⟩ := by
  have e : fit (runes [97]) 3 = [97, 32, 32] := by decide +kernel
  rw [e]

set_option maxRecDepth 100000 in
set_option maxHeartbeats 1000000 in
theorem shown_any (w : World) (ht : Tabs w) (hlow : low ≤ w.heap.size) :
    Calls Tryd.prog 9 #[] w fun e w' => e = .returned (.bool true) ∧ Below w.heap.size w w' := by
  go_enter Tryd.func9, Tryd.ntmps9
  go_wp2_with fail
  refine (runes_any { data := #[226, 130, 65] } w ht hlow (by show 3 ≤ _; omega)).mono ?_
  rintro e w1 ⟨v1, rfl, ho1, hb1⟩
  have hb1' := hb1
  go_wp2_with fail
  refine (same_lit v1 w.heap.size _ [65533, 65] w1 ho1 (by rw [ex1]; decide) 2 true (by rw [ex1]; decide)).mono ?_
  rintro e w2 ⟨rfl, hb2⟩
  have hbb2 := hb1.trans (hb2.mono hb1.size)
  go_wp2_with fail
  refine (runes_any { data := #[237, 160, 128] } w2 (ht.below hbb2 hlow) (Nat.le_trans hlow hbb2.size) (by show 3 ≤ _; omega)).mono ?_
  rintro e w3 ⟨v3, rfl, ho3, hb3⟩
  have hbb3 := hbb2.trans (hb3.mono hbb2.size)
  go_wp2_with fail
  refine (same_lit v3 w2.heap.size _ [65533, 65533, 65533] w3 ho3 (by rw [ex2]; decide) 3 true (by rw [ex2]; decide)).mono ?_
  rintro e w4 ⟨rfl, hb4⟩
  have hbb4 := hbb3.trans (hb4.mono hbb3.size)
  go_wp2_with fail
  have h65 := width_any 65 w4 (ht.below hbb4 hlow) (by omega) (by omega)
  rw [ex3] at h65
  refine h65.mono ?_
  rintro e w5 ⟨rfl, hb5⟩
  have hbb5 := hbb4.trans (hb5.mono hbb4.size)
  go_wp2_with fail
  have h66 := width_any 20013 w5 (ht.below hbb5 hlow) (by omega) (by omega)
  rw [ex4] at h66
  refine h66.mono ?_
  rintro e w6 ⟨rfl, hb6⟩
  have hbb6 := hbb5.trans (hb6.mono hbb5.size)
  go_wp2_with fail
  have h67 := width_any 769 w6 (ht.below hbb6 hlow) (by omega) (by omega)
  rw [ex5] at h67
  refine h67.mono ?_
  rintro e w7 ⟨rfl, hb7⟩
  have hbb7 := hbb6.trans (hb7.mono hbb6.size)
  go_wp2_with fail
  have h68 := width_any 7 w7 (ht.below hbb7 hlow) (by omega) (by omega)
  rw [ex6] at h68
  refine h68.mono ?_
  rintro e w8 ⟨rfl, hb8⟩
  have hbb8 := hbb7.trans (hb8.mono hbb7.size)
  go_wp2_with fail
  have h69 := columns_any { data := #[97, 228, 184, 173, 98] } w8 (ht.below hbb8 hlow) (Nat.le_trans hlow hbb8.size) (by show 5 ≤ _; omega)
  rw [ex7] at h69
  refine h69.mono ?_
  rintro e w9 ⟨rfl, hb9⟩
  have hbb9 := hbb8.trans (hb9.mono hbb8.size)
  go_wp2_with fail
  have h70 := cut_any { data := #[97, 228, 184, 173, 98] } 2 w9 (ht.below hbb9 hlow) (Nat.le_trans hlow hbb9.size) (by show 5 ≤ _; omega)
  rw [ex8] at h70
  refine h70.mono ?_
  rintro e w10 ⟨rfl, hb10⟩
  have hbb10 := hbb9.trans (hb10.mono hbb9.size)
  go_wp2_with fail
  have h71 := fit_any { data := #[97] } 3 w10 (ht.below hbb10 hlow) (Nat.le_trans hlow hbb10.size) (by show 1 ≤ _; omega) (by omega) (by omega)
  rw [ex9] at h71
  refine h71.mono ?_
  rintro e w11 ⟨rfl, hb11⟩
  go_wp2_with fail
  go_ret
  exact ⟨rfl, hbb10.trans (hb11.mono hbb10.size)⟩
end Go.Proofs.YtmnembhfbboljaaDoor.Cel
