/- The chapter's own answer: what stands ahead of an item's bracket. -/
import Derived.Test.YtgnlfikkmomghaaGreatDoorOru
namespace Go.Proofs.YtgnlfikkmomghaaGreatDoor.Opt
open Go.RowKit

/-- Of a text: what stands ahead of its last bracket and the number in it; or all of it, and −1. -/
def ItemOk (l : Tx) (r : Tx × Int) : Prop :=
  (0 ≤ r.2 ∧ r.2 < 1000 ∧ l = itemP r.1 r.2) ∨ (r = (l, -1) ∧ ∀ a n, 0 ≤ n → n < 1000 → l ≠ itemP a n)
def digU (b : UInt8) : Bool := digB b.toNat
/-- What digits say. -/
def valD (d : Tx) : Int := d.foldl (fun v b => 10 * v + ((b.toNat : Int) - 48)) 0
/-- Digits as a number's: one to three, none but a lone nought ahead. -/
def numD (d : Tx) : Bool := d.all digU && (decide (1 ≤ d.length) && (decide (d.length ≤ 3) && (!(decide (1 < d.length) && ((d.headD 0).toNat : Int) == 48))))
theorem numD_itoa : ∀ n : Fin 1000, numD (Lib.itoa ((n.val : Nat) : Int)) = true ∧ valD (Lib.itoa ((n.val : Nat) : Int)) = ((n.val : Nat) : Int) := by decide +kernel
theorem dig_form {b : UInt8} (h : digU b = true) : ∃ k : Fin 10, b = UInt8.ofNat (48 + k.val) := by
  unfold digU digB at h
  simp only [Bool.and_eq_true, decide_eq_true_eq] at h
  refine ⟨⟨b.toNat - 48, by omega⟩, ?_⟩
  apply UInt8.toNat_inj.1
  show b.toNat = _
  rw [UInt8.toNat_ofNat']
  have : b.toNat < 256 := UInt8.toNat_lt _
  show b.toNat = (48 + (b.toNat - 48)) % 256
  omega
theorem itoa_one : ∀ x : Fin 10, numD [UInt8.ofNat (48 + x.val)] = true → Lib.itoa (valD [UInt8.ofNat (48 + x.val)]) = [UInt8.ofNat (48 + x.val)] := by decide +kernel
theorem itoa_two : ∀ x y : Fin 10, numD [UInt8.ofNat (48 + x.val), UInt8.ofNat (48 + y.val)] = true → Lib.itoa (valD [UInt8.ofNat (48 + x.val), UInt8.ofNat (48 + y.val)]) = [UInt8.ofNat (48 + x.val), UInt8.ofNat (48 + y.val)] := by decide +kernel
theorem itoa_three : ∀ x y z : Fin 10, numD [UInt8.ofNat (48 + x.val), UInt8.ofNat (48 + y.val), UInt8.ofNat (48 + z.val)] = true → Lib.itoa (valD [UInt8.ofNat (48 + x.val), UInt8.ofNat (48 + y.val), UInt8.ofNat (48 + z.val)]) = [UInt8.ofNat (48 + x.val), UInt8.ofNat (48 + y.val), UInt8.ofNat (48 + z.val)] := by decide +kernel
theorem digU_val {b : UInt8} (h : digU b = true) : 48 ≤ (b.toNat : Int) ∧ (b.toNat : Int) ≤ 57 := by
  unfold digU digB at h
  simpa only [Bool.and_eq_true, decide_eq_true_eq] using h
theorem numD_val {d : Tx} (h : numD d = true) : 0 ≤ valD d ∧ valD d < 1000 ∧ Lib.itoa (valD d) = d := by
  have h0 := h
  unfold numD at h
  simp only [Bool.and_eq_true, decide_eq_true_eq] at h
  obtain ⟨ha, h1, h3, -⟩ := h
  match d, ha, h1, h3, h0 with
  | [], _, h1, _, _ => simp at h1
  | [x], ha, _, _, h0 =>
    simp only [List.all_cons, Bool.and_eq_true] at ha
    have hx := digU_val ha.1
    obtain ⟨k, rfl⟩ := dig_form ha.1
    refine ⟨?_, ?_, itoa_one k h0⟩ <;> simp only [valD, List.foldl] <;> omega
  | [x, y], ha, _, _, h0 =>
    simp only [List.all_cons, Bool.and_eq_true] at ha
    have hx := digU_val ha.1
    have hy := digU_val ha.2.1
    obtain ⟨k, rfl⟩ := dig_form ha.1
    obtain ⟨m, rfl⟩ := dig_form ha.2.1
    refine ⟨?_, ?_, itoa_two k m h0⟩ <;> simp only [valD, List.foldl] <;> omega
  | [x, y, z], ha, _, _, h0 =>
    simp only [List.all_cons, Bool.and_eq_true] at ha
    have hx := digU_val ha.1
    have hy := digU_val ha.2.1
    have hz := digU_val ha.2.2.1
    obtain ⟨k, rfl⟩ := dig_form ha.1
    obtain ⟨m, rfl⟩ := dig_form ha.2.1
    obtain ⟨p, rfl⟩ := dig_form ha.2.2.1
    refine ⟨?_, ?_, itoa_three k m p h0⟩ <;> simp only [valD, List.foldl] <;> omega
  | _ :: _ :: _ :: _ :: _, _, _, h3, _ => simp at h3
/-- Every item's name: a text, a bracket, digits, a bracket. -/
theorem item_form {l a : Tx} {n : Int} (h0 : 0 ≤ n) (h1 : n < 1000) (h : l = itemP a n) : ∃ d, l = a ++ 91 :: (d ++ [93]) ∧ numD d = true ∧ valD d = n := by
  obtain ⟨m, rfl⟩ := Int.eq_ofNat_of_zero_le h0
  have := numD_itoa ⟨m, by omega⟩
  exact ⟨Lib.itoa m, by rw [h]; simp [itemP], this.1, this.2⟩
theorem item_of {l a d : Tx} (h : l = a ++ 91 :: (d ++ [93])) (hd : numD d = true) : 0 ≤ valD d ∧ valD d < 1000 ∧ l = itemP a (valD d) := by
  obtain ⟨h1, h2, h3⟩ := numD_val hd
  exact ⟨h1, h2, by rw [h, itemP, h3]; simp⟩
end Go.Proofs.YtgnlfikkmomghaaGreatDoor.Opt
