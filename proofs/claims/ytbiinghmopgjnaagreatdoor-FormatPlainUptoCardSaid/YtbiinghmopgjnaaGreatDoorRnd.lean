/- math.Round, and a float as the nearest int: the program's way and the document's. -/
import Derived.Test.YtbiinghmopgjnaaGreatDoorFun
import Derived.Laws.Bits64b
import Derived.Laws.BitsAllLaws
namespace Go.Proofs.YtbiinghmopgjnaaGreatDoor.Cal
open Go.RowKit

theorem and_high (a d : Nat) (ha : a < 2 ^ 64) (hd : d ≤ 64) : a &&& (2 ^ 64 - 2 ^ d) = a / 2 ^ d * 2 ^ d := by
  have e : 2 ^ 64 - 2 ^ d = 2 ^ d * (2 ^ (64 - d) - 1) := by rw [Nat.mul_sub, ← Nat.pow_add, Nat.mul_one, show d + (64 - d) = 64 by omega]
  apply Nat.eq_of_testBit_eq
  intro i
  rw [Nat.testBit_and, e, Nat.mul_comm (a / 2 ^ d), Nat.testBit_two_pow_mul, Nat.testBit_two_pow_mul, Nat.testBit_two_pow_sub_one, Nat.testBit_div_two_pow]
  by_cases h : d ≤ i
  · by_cases h2 : i < 64
    · simp [h, show i - d < 64 - d by omega, show i - d + d = i by omega]
    · have : a.testBit i = false := Nat.testBit_lt_two_pow (Nat.lt_of_lt_of_le ha (Nat.pow_le_pow_right (by omega) (by omega)))
      simp [h, show ¬ i - d < 64 - d by omega, show i - d + d = i by omega, this]
  · simp [h]
theorem exp_bits (x : Nat) (hx : x < 2 ^ 64) : bits .and .u64 ((x : Int) / 4503599627370496) 2047 = ((Flt.rung x / 4503599627370496 : Nat) : Int) := by
  have e : ((x : Int) / 4503599627370496) = ((x / 4503599627370496 : Nat) : Int) := by simp
  rw [e]
  refine (bits_and_u64_nat (x / 4503599627370496) 2047 (by omega) (by omega)).trans ?_
  have : x / 4503599627370496 &&& 2047 = x / 4503599627370496 % 2048 := Nat.and_two_pow_sub_one_eq_mod _ 11
  rw [this]
  congr 1
  unfold Flt.rung
  omega
theorem sign_bits (x : Nat) (hx : x < 2 ^ 64) : bits .and .u64 (x : Int) 9223372036854775808 = ((if Flt.neg x then 9223372036854775808 else 0 : Nat) : Int) := by
  have h := bits_and_u64_nat x 9223372036854775808 (by omega) (by omega)
  have a := and_high x 63 hx (by omega)
  have e : (2 ^ 64 - 2 ^ 63 : Nat) = 9223372036854775808 := by decide
  rw [e] at a
  rw [a] at h
  refine h.trans ?_
  congr 1
  unfold Flt.neg
  by_cases c : 9223372036854775808 ≤ x
  · simp only [c, decide_true, if_true]; omega
  · simp only [c, decide_false]; simp; omega
theorem sign_word (x : Nat) (hx : x < 2 ^ 64) : (bits .and .u64 (x : Int) 9223372036854775808).toNat = Ieee.double.word (Flt.neg x) 0 := by
  rw [sign_bits x hx]
  unfold Ieee.Format.word
  rw [Flt.sw]
  cases Flt.neg x <;> rfl
theorem sign_one (x : Nat) (hx : x < 2 ^ 64) : (bits .or .u64 (bits .and .u64 (x : Int) 9223372036854775808) 4607182418800017408).toNat = Ieee.double.word (Flt.neg x) (1023 * 4503599627370496) := by
  rw [sign_bits x hx]
  unfold Ieee.Format.word
  rw [Flt.sw]
  cases Flt.neg x <;> decide +kernel
theorem round_mid (x E : Nat) (hx : x < 2 ^ 64) (hE : E = Flt.rung x / 4503599627370496) (h1 : 1023 ≤ E) (h2 : E < 1075) :
    (bits .andNot .u64 (IntKind.u64.wrap ((x : Int) + 2251799813685248 / 2 ^ (E - 1023))) (4503599627370495 / 2 ^ (E - 1023))).toNat
      = Ieee.double.word (Flt.neg x) ((Flt.rung x + 2 ^ (1074 - E)) / 2 ^ (1075 - E) * 2 ^ (1075 - E)) := by
  obtain ⟨q, hq⟩ : ∃ q : Nat, E - 1023 = q := ⟨_, rfl⟩
  have hq2 : q ≤ 51 := by omega
  rw [hq, show 1074 - E = 51 - q by omega, show 1075 - E = 52 - q by omega]
  have a1 : (2251799813685248 / 2 ^ q : Nat) = 2 ^ (51 - q) := by
    rw [show 2251799813685248 = 2 ^ 51 by decide, Nat.pow_div hq2 (by omega)]
  have a2 : (4503599627370495 / 2 ^ q : Nat) = 2 ^ (52 - q) - 1 := by
    have hp : 2 ^ (52 - q) * 2 ^ q = 4503599627370496 := by rw [← Nat.pow_add, show 52 - q + q = 52 by omega]
    have := Nat.two_pow_pos q
    have := Nat.two_pow_pos (52 - q)
    rw [Nat.div_eq_iff (by omega), Nat.sub_mul]
    omega
  have b1 : (2251799813685248 / 2 ^ q : Int) = ((2 ^ (51 - q) : Nat) : Int) := by rw [← a1]; simp
  have b2 : (4503599627370495 / 2 ^ q : Int) = ((2 ^ (52 - q) - 1 : Nat) : Int) := by rw [← a2]; simp
  rw [b1, b2]
  have p1 : 2 ^ (51 - q) ≤ 2 ^ 51 := Nat.pow_le_pow_right (by omega) (by omega)
  have p2 : 2 ^ (52 - q) ≤ 2 ^ 52 := Nat.pow_le_pow_right (by omega) (by omega)
  have p3 := Nat.two_pow_pos (52 - q)
  have hr : Flt.rung x < 1075 * 4503599627370496 := by omega
  have hxr := Flt.word_of x hx
  unfold Ieee.Format.word at hxr ⊢
  rw [Flt.sw] at hxr ⊢
  have hc : ∃ c, 9223372036854775808 = c * 2 ^ (52 - q) := ⟨2 ^ (63 - (52 - q)), by rw [← Nat.pow_add, show 63 - (52 - q) + (52 - q) = 63 by omega]⟩
  obtain ⟨c, hc⟩ := hc
  have hh := fun a ha => and_high a (52 - q) ha (by omega)
  clear b1 b2 a1 a2 hE
  generalize 2 ^ (52 - q) = D at *
  generalize 2 ^ (51 - q) = H at *
  generalize Flt.rung x = r at *
  generalize Flt.neg x = s at *
  have hs : x + H < 18446744073709551616 := by
    cases s <;> simp at hxr <;> omega
  have hw : IntKind.u64.wrap ((x : Int) + (H : Int)) = ((x + H : Nat) : Int) := by
    rw [IntKind.wrap_u64]; omega
  rw [hw, u64_andNot_nat _ _ hs (by omega), Int.toNat_natCast]
  have hm : 18446744073709551615 - (D - 1) = 2 ^ 64 - D := by omega
  rw [hm, hh _ hs]
  clear hw hm p1 p2 hs hr hh
  cases s
  · simp at hxr ⊢
    rw [hxr]
  · simp only [if_true] at hxr ⊢
    have : x + H = (r + H) + c * D := by omega
    rw [this, Nat.add_mul_div_right _ _ p3, Nat.add_mul]
    omega

set_option maxRecDepth 100000 in
set_option maxHeartbeats 400000 in
theorem round_any (x : Nat) (w : World) (hx : x < 2 ^ 64) :
    Calls Tryz.prog 82 #[.float .f64 x] w fun e w' => e = .returned (.float .f64 (Ieee.double.word (Flt.neg x) (Flt.rndR (Flt.rung x)))) ∧ w = w' := by
  have hb := bits_run
  have hf := from_run
  have hE := exp_bits x hx
  obtain ⟨E, he⟩ : ∃ E, E = Flt.rung x / 4503599627370496 := ⟨_, rfl⟩
  rw [← he] at hE
  have HX := Lib.hid hx
  have HE := Lib.hid he
  clear hx he
  by_cases c1 : E < 1023
  · by_cases c2 : E = 1022
    · have hv : Hid ((bits .or .u64 (bits .and .u64 (x : Int) 9223372036854775808) 4607182418800017408).toNat = Ieee.double.word (Flt.neg x) (Flt.rndR (Flt.rung x))) := by
        show _ = _
        have h := HE.out
        rw [sign_one x HX.out]
        unfold Flt.rndR
        rw [if_neg (by omega), if_pos (by omega)]
      clear HE
      subst c2
      go_enter Tryz.func82, Tryz.ntmps82
      go_wp2
      go_ret
      exact ⟨ret_flt hv.out, rfl⟩
    · have hv : Hid ((bits .and .u64 (x : Int) 9223372036854775808).toNat = Ieee.double.word (Flt.neg x) (Flt.rndR (Flt.rung x))) := by
        show _ = _
        have h := HE.out
        rw [sign_word x HX.out]
        unfold Flt.rndR
        rw [if_pos (by omega)]
      have c3 : ((E : Int) == 1022) = false := by simp; omega
      clear HE
      go_enter Tryz.func82, Tryz.ntmps82
      go_wp2
      go_ret
      exact ⟨ret_flt hv.out, rfl⟩
  · by_cases c2 : E < 1075
    · have hv : Hid ((bits .andNot .u64 (IntKind.u64.wrap ((x : Int) + 2251799813685248 / 2 ^ (E - 1023))) (4503599627370495 / 2 ^ (E - 1023))).toNat = Ieee.double.word (Flt.neg x) (Flt.rndR (Flt.rung x))) := by
        show _ = _
        have h := HE.out
        rw [round_mid x E HX.out h (by omega) c2]
        unfold Flt.rndR
        rw [if_neg (by omega), if_neg (by omega), if_pos (by omega), ← h]
      clear HE
      go_enter Tryz.func82, Tryz.ntmps82
      go_wp2
      go_ret
      exact ⟨ret_flt hv.out, rfl⟩
    · have hv : Hid ((x : Int).toNat = Ieee.double.word (Flt.neg x) (Flt.rndR (Flt.rung x))) := by
        show _ = _
        have h := HE.out
        unfold Flt.rndR
        rw [if_neg (by omega), if_neg (by omega), if_neg (by omega), Flt.word_of x HX.out]
        rfl
      clear HE
      go_enter Tryz.func82, Tryz.ntmps82
      go_wp2
      go_ret
      exact ⟨ret_flt hv.out, rfl⟩
end Go.Proofs.YtbiinghmopgjnaaGreatDoor.Cal
