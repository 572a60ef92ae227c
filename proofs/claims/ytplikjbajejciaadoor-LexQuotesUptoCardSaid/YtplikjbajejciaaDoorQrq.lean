/- lex: the document's own answer to words as they are written. -/
import Derived.Test.YtplikjbajejciaaDoorQjp
import Derived.Lib.AppendStr
namespace Go.Proofs.YtplikjbajejciaaDoor.Lex
open Go.RowKit
def letP (n : Nat) : Bool := decide (97 ≤ n ∧ n ≤ 122 ∨ 65 ≤ n ∧ n ≤ 90 ∨ n = 95 ∨ 48 ≤ n ∧ n ≤ 57)
theorem let_facts : ∀ n : Fin 256, (isL (UInt8.ofNat n.val) || isD (UInt8.ofNat n.val)) = letP n.val := by decide +kernel
theorem let_at (c : UInt8) : (isL c || isD c) = letP c.toNat := by
  have := let_facts ⟨c.toNat, c.toNat_lt⟩
  simp only [UInt8.ofNat_toNat] at this
  exact this
def nineP (n : Nat) : Bool := decide (n = 46 ∨ n = 47 ∨ n = 58 ∨ n = 61 ∨ n = 64 ∨ n = 37 ∨ n = 43 ∨ n = 44 ∨ n = 45)
theorem bare_nine : ∀ n : Fin 256, bareB (UInt8.ofNat n.val) = (letP n.val || nineP n.val) := by decide +kernel
theorem bare_let (c : UInt8) : bareB c = (letP c.toNat || nineP c.toNat) := by
  have := bare_nine ⟨c.toNat, c.toNat_lt⟩
  simp only [UInt8.ofNat_toNat] at this
  exact this
set_option maxRecDepth 100000 in
set_option maxHeartbeats 4000000 in
theorem letter_any (n : Nat) (w : World) :
    Calls Tryd.prog 13 #[.int .u8 (n : Int), .bool false] w fun e w' => e = .returned (.bool (letP n)) ∧ w' = w := by
  obtain ⟨z, hz⟩ : ∃ z, z = letP n := ⟨_, rfl⟩
  rw [← hz]
  unfold letP at hz
  obtain ⟨x, hx⟩ : ∃ x : Int, x = (n : Int) := ⟨_, rfl⟩
  rw [← hx]
  by_cases a1 : 97 ≤ x <;> by_cases a2 : x ≤ 122 <;> by_cases a3 : 65 ≤ x <;> by_cases a4 : x ≤ 90 <;> by_cases a5 : x = 95 <;> by_cases a6 : 48 ≤ x <;> by_cases a7 : x ≤ 57 <;>
    first
    | (exfalso; omega)
    | (have hz1 : z = true := by (rw [hz, decide_eq_true_eq]; omega)
       subst hz1
       clear hz hx
       try subst a5
       go_enter Tryd.func13, Tryd.ntmps13
       go_wp2_with fail
       go_ret
       exact ⟨rfl, rfl⟩)
    | (have hz1 : z = false := by (rw [hz, decide_eq_false_iff_not]; omega)
       subst hz1
       have e5 : (x == (95 : Int)) = false := by simpa using a5
       clear hz hx
       go_enter Tryd.func13, Tryd.ntmps13
       go_wp2_with fail
       go_ret
       exact ⟨by first | rfl | (show Ending.returned (.bool (x == 95)) = _; rw [e5]), rfl⟩)
end Go.Proofs.YtplikjbajejciaaDoor.Lex
