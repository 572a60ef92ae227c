/- Layer 3 in plain words: colours' names, texts made small. No word of the model. -/
import Derived.Lib.ItoaNum
namespace Go.Proofs.YtgjlohplgpcghaaDoor.Sty
abbrev Tx := List UInt8

def isCol (c : Int) : Bool := (decide (-1 ≤ c) && decide (c ≤ 255)) || (decide (16777216 ≤ c) && decide (c ≤ 33554431))
theorem isCol_iff (c : Int) : isCol c = true ↔ (-1 ≤ c ∧ c ≤ 255) ∨ (16777216 ≤ c ∧ c ≤ 33554431) := by
  unfold isCol; simp
theorem isCol_not (c : Int) : isCol c = false ↔ ¬ ((-1 ≤ c ∧ c ≤ 255) ∨ (16777216 ≤ c ∧ c ≤ 33554431)) := by
  rw [← isCol_iff]; simp

def tDefault : Tx := [100, 101, 102, 97, 117, 108, 116]
def tBright : Tx := [98, 114, 105, 103, 104, 116]
def tColour : Tx := [99, 111, 108, 111, 117, 114]
def tColor : Tx := [99, 111, 108, 111, 114]
def eight : List Tx := [[98, 108, 97, 99, 107], [114, 101, 100], [103, 114, 101, 101, 110], [121, 101, 108, 108, 111, 119], [98, 108, 117, 101], [109, 97, 103, 101, 110, 116, 97], [99, 121, 97, 110], [119, 104, 105, 116, 101]]
def words : List Tx := [[98, 111, 108, 100], [100, 105, 109], [105, 116, 97, 108, 105, 99, 115], [117, 110, 100, 101, 114, 115, 99, 111, 114, 101], [98, 108, 105, 110, 107], [114, 101, 118, 101, 114, 115, 101], [104, 105, 100, 100, 101, 110], [115, 116, 114, 105, 107, 101, 116, 104, 114, 111, 117, 103, 104]]

/-- The decimal digits of a number below a thousand. -/
def dec (n : Nat) : Tx :=
  if n < 10 then [UInt8.ofNat (48 + n)]
  else if n < 100 then [UInt8.ofNat (48 + n / 10), UInt8.ofNat (48 + n % 10)]
  else [UInt8.ofNat (48 + n / 100), UInt8.ofNat (48 + n / 10 % 10), UInt8.ofNat (48 + n % 10)]
theorem dec_digits (n : Nat) (h : n < 1000) : Lib.decDigits n = dec n := by
  unfold dec
  by_cases h1 : n < 10
  · rw [if_pos h1, Lib.decDigits, dif_pos h1]
  · rw [if_neg h1, Lib.decDigits, dif_neg h1]
    by_cases h2 : n < 100
    · rw [if_pos h2, Lib.decDigits, dif_pos (by omega)]; rfl
    · rw [if_neg h2, Lib.decDigits, dif_neg (by omega), Lib.decDigits, dif_pos (by omega)]
      have e : n / 10 / 10 = n / 100 := by omega
      rw [e]; rfl
theorem itoa_dec (n : Nat) (h : n < 1000) : Lib.itoa (n : Int) = dec n := by
  unfold Lib.itoa
  rw [if_neg (by omega)]
  exact dec_digits n h

/-- One digit to the base 16. -/
def hx (d : Nat) : UInt8 := UInt8.ofNat (if d < 10 then 48 + d else 87 + d)
/-- The k lowest digits to the base 16, the highest ahead. -/
def hexk : Nat → Nat → Tx
  | 0, _ => []
  | k + 1, n => hx (n / 16 ^ k % 16) :: hexk k n
theorem hexk_length (k n : Nat) : (hexk k n).length = k := by induction k with | zero => rfl | succ k ih => simp [hexk, ih]
theorem hexk_pad (n : Nat) : ∀ (j k : Nat), n < 16 ^ k → hexk (k + j) n = List.replicate j 48 ++ hexk k n
  | 0, k, _ => by simp
  | j + 1, k, h => by
    have e : k + (j + 1) = (k + j) + 1 := by omega
    have hp : n / 16 ^ (k + j) = 0 := Nat.div_eq_of_lt (Nat.lt_of_lt_of_le h (Nat.pow_le_pow_right (by omega) (by omega)))
    rw [e, hexk, hexk_pad n j k h, hp, List.replicate_succ]
    rfl

/-- The name of a colour; empty, if it is none. -/
def name (c : Int) : Tx :=
  if isCol c = false then []
  else if c = -1 then tDefault
  else if c < 8 then eight.getD c.toNat []
  else if c < 16 then tBright ++ eight.getD (c - 8).toNat []
  else if c ≤ 255 then tColour ++ dec c.toNat
  else 35 :: hexk 6 (c - 16777216).toNat

/-- A letter made small. -/
def lw (b : UInt8) : UInt8 := if 65 ≤ b.toNat ∧ b.toNat ≤ 90 then b + 32 else b
def low (l : Tx) : Tx := l.map lw

theorem name_no {c : Int} (h : isCol c = false) : name c = [] := by unfold name; rw [if_pos h]
theorem name_default : name (-1) = tDefault := by decide
theorem name_eight {c : Int} (h0 : 0 ≤ c) (h1 : c < 8) : name c = eight.getD c.toNat [] := by
  have h : ¬ isCol c = false := by rw [isCol_not]; omega
  unfold name; rw [if_neg h, if_neg (by omega), if_pos h1]
theorem name_bright {c : Int} (h0 : 8 ≤ c) (h1 : c < 16) : name c = tBright ++ eight.getD (c - 8).toNat [] := by
  have h : ¬ isCol c = false := by rw [isCol_not]; omega
  unfold name; rw [if_neg h, if_neg (by omega), if_neg (by omega), if_pos h1]
theorem name_num {c : Int} (h0 : 16 ≤ c) (h1 : c ≤ 255) : name c = tColour ++ dec c.toNat := by
  have h : ¬ isCol c = false := by rw [isCol_not]; omega
  unfold name; rw [if_neg h, if_neg (by omega), if_neg (by omega), if_neg (by omega), if_pos h1]
theorem name_rgb {c : Int} (h0 : 16777216 ≤ c) (h1 : c ≤ 33554431) : name c = 35 :: hexk 6 (c - 16777216).toNat := by
  have h : ¬ isCol c = false := by rw [isCol_not]; omega
  unfold name; rw [if_neg h, if_neg (by omega), if_neg (by omega), if_neg (by omega), if_neg (by omega)]
theorem eight_len (k : Nat) : (eight.getD k []).length ≤ 7 := by
  by_cases h : k < 8
  · have : ∀ k, k < 8 → (eight.getD k []).length ≤ 7 := by decide
    exact this k h
  · rw [List.getD_eq_getElem?_getD, List.getElem?_eq_none (by show 8 ≤ k; omega)]; decide
theorem dec_len (n : Nat) : (dec n).length ≤ 3 := by
  unfold dec; split
  · simp
  · split <;> simp
end Go.Proofs.YtgjlohplgpcghaaDoor.Sty
