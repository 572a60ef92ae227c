/- Floats of 64 bits as plain numbers: their order, how they are rounded, products, quotients, differences, whole numbers. -/
import Ieee.Arith
namespace Go.Proofs.YtbiinghmopgjnaaGreatDoor.Flt
open Ieee


/-- One is two to this power, in the least units. -/
@[irreducible] def UE : Nat := 1074
theorem UE_eq : UE = 1074 := by unfold UE; rfl
/-- One, in the least units. -/
def U : Nat := 2 ^ UE
theorem U_pos : 0 < U := Nat.two_pow_pos UE
theorem U_split (d e : Nat) (h : d + e = UE) : U = 2 ^ d * 2 ^ e := by rw [← Nat.pow_add, h]; rfl
/-- A magnitude in units of the least one above nought. -/
def cum (r : Nat) : Nat := if r < 4503599627370496 then r else (4503599627370496 + r % 4503599627370496) * 2 ^ (r / 4503599627370496 - 1)
def rung (x : Nat) : Nat := x % 9223372036854775808
def neg (x : Nat) : Bool := decide (9223372036854775808 ≤ x)
def isNaN (x : Nat) : Bool := decide (9218868437227405312 < rung x)
/-- What a word is worth, in those units; an infinity as the next number would be. -/
def sv (x : Nat) : Int := if neg x then -(cum (rung x) : Int) else cum (rung x)

theorem sw : double.signWeight = 9223372036854775808 := by decide
theorem bn : double.binade = 4503599627370496 := by decide
theorem ir : double.infRung = 9218868437227405312 := by decide
theorem lp : double.leastPlace = -1074 := by decide

theorem read_eq (x : Nat) (h : x < 2 ^ 64) : double.read x =
    if rung x < 4503599627370496 then .number (neg x) (rung x) (-1074)
    else if rung x < 9218868437227405312 then .number (neg x) (4503599627370496 + rung x % 4503599627370496) (-1074 + (rung x / 4503599627370496 - 1 : Nat))
    else if rung x = 9218868437227405312 then .infinity (neg x) else .nan (neg x) (rung x - 9218868437227405312) := by
  have hn : (x / 9223372036854775808 % 2 == 1) = neg x := by
    unfold neg
    rw [Bool.eq_iff_iff]
    simp only [beq_iff_eq, decide_eq_true_eq]
    omega
  unfold Format.read
  simp only [sw, bn, ir, lp, hn]
  rfl

theorem cum_succ (r : Nat) : cum r < cum (r + 1) := by
  unfold cum
  by_cases h : r + 1 < 4503599627370496
  · rw [if_pos h, if_pos (by omega)]; omega
  · rw [if_neg h]
    by_cases h1 : r < 4503599627370496
    · have e : r = 4503599627370496 - 1 := by omega
      subst e
      decide
    · rw [if_neg h1]
      by_cases h2 : r % 4503599627370496 = 4503599627370496 - 1
      · have e1 : (r + 1) / 4503599627370496 = r / 4503599627370496 + 1 := by omega
        have e2 : (r + 1) % 4503599627370496 = 0 := by omega
        have e3 : r / 4503599627370496 + 1 - 1 = (r / 4503599627370496 - 1) + 1 := by omega
        rw [e1, e2, h2, e3, Nat.pow_succ]
        have : 0 < 2 ^ (r / 4503599627370496 - 1) := Nat.two_pow_pos _
        generalize 2 ^ (r / 4503599627370496 - 1) = p at this
        have : (4503599627370496 + 0) * (p * 2) = 9007199254740992 * p := by omega
        have : (4503599627370496 + (4503599627370496 - 1)) * p = 9007199254740991 * p := by omega
        omega
      · have e1 : (r + 1) / 4503599627370496 = r / 4503599627370496 := by omega
        have e2 : (r + 1) % 4503599627370496 = r % 4503599627370496 + 1 := by omega
        rw [e1, e2]
        have : 0 < 2 ^ (r / 4503599627370496 - 1) := Nat.two_pow_pos _
        exact Nat.mul_lt_mul_of_pos_right (by omega) this
theorem cum_mono {a b : Nat} (h : a < b) : cum a < cum b := by
  induction b with
  | zero => omega
  | succ n ih =>
    by_cases e : a = n
    · subst e; exact cum_succ a
    · exact Nat.lt_trans (ih (by omega)) (cum_succ n)
theorem cum_le {a b : Nat} (h : a ≤ b) : cum a ≤ cum b := by
  by_cases e : a = b
  · subst e; exact Nat.le_refl _
  · exact Nat.le_of_lt (cum_mono (by omega))
theorem cum_lt_iff {a b : Nat} : cum a < cum b ↔ a < b := by
  constructor
  · intro h
    by_cases e : a < b
    · exact e
    · have := cum_le (Nat.le_of_not_lt e); omega
  · exact cum_mono
theorem cum_inj {a b : Nat} (h : cum a = cum b) : a = b := by
  rcases Nat.lt_trichotomy a b with e | e | e
  · have := cum_mono e; omega
  · exact e
  · have := cum_mono e; omega
theorem cum_zero : cum 0 = 0 := by decide

theorem cmp_int (a b c d : Int) (h1 : a < b ↔ c < d) (h2 : a = b ↔ c = d) : compare a b = compare c d := by
  simp only [compare, compareOfLessAndEq]
  by_cases e : a < b
  · rw [if_pos e, if_pos (h1.1 e)]
  · rw [if_neg e, if_neg (fun h => e (h1.2 h))]
    by_cases e2 : a = b
    · rw [if_pos e2, if_pos (h2.1 e2)]
    · rw [if_neg e2, if_neg (fun h => e2 (h2.2 h))]

theorem cmp_lt {a b : Int} (h : a < b) : compare a b = .lt := by simp only [compare, compareOfLessAndEq]; rw [if_pos h]
theorem cmp_gt {a b : Int} (h : b < a) : compare a b = .gt := by simp only [compare, compareOfLessAndEq]; rw [if_neg (by omega), if_neg (by omega)]
theorem cmp_same {a b : Int} (h : a = b) : compare a b = .eq := by simp only [compare, compareOfLessAndEq]; rw [if_neg (by omega), if_pos h]
/-- A number, in the least units. -/
def unit (s : Bool) (m : Nat) (i : Int) : Int := signed s m (i + 1074).toNat
theorem signed_mul (s : Bool) (m a b : Nat) : signed s m (a + b) = signed s m a * (2 ^ b : Nat) := by
  unfold signed
  simp only [Nat.shiftLeft_eq, Nat.pow_add]
  cases s <;> simp [Int.natCast_mul, Int.mul_assoc, Int.neg_mul]
theorem order_unit (s t : Bool) (m n : Nat) (i j : Int) (hi : -1074 ≤ i) (hj : -1074 ≤ j) :
    Datum.order (.number s m i) (.number t n j) = some (compare (unit s m i) (unit t n j)) := by
  unfold Datum.order unit
  simp only [Option.some.injEq]
  have hb : ∃ k : Nat, min i j = -1074 + k := ⟨(min i j + 1074).toNat, by omega⟩
  obtain ⟨k, hk⟩ := hb
  rw [hk]
  have e1 : (i + 1074).toNat = (i - (-1074 + k)).toNat + k := by omega
  have e2 : (j + 1074).toNat = (j - (-1074 + k)).toNat + k := by omega
  rw [e1, e2, signed_mul, signed_mul]
  have hp : (0 : Int) < (2 ^ k : Nat) := by exact_mod_cast Nat.two_pow_pos k
  refine cmp_int _ _ _ _ ?_ ?_
  · constructor
    · exact fun h => Int.mul_lt_mul_of_pos_right h hp
    · exact fun h => Int.lt_of_mul_lt_mul_right h (Int.le_of_lt hp)
  · constructor
    · exact fun h => by rw [h]
    · exact fun h => Int.eq_of_mul_eq_mul_right (Int.ne_of_gt hp) h

theorem read_fin (x : Nat) (h : x < 2 ^ 64) (hf : rung x < 9218868437227405312) : ∃ m i, double.read x = .number (neg x) m i ∧ -1074 ≤ i ∧ unit (neg x) m i = sv x ∧ (m = 0 ↔ rung x = 0) := by
  rw [read_eq x h]
  by_cases h1 : rung x < 4503599627370496
  · rw [if_pos h1]
    refine ⟨_, _, rfl, by omega, ?_, Iff.rfl⟩
    unfold unit sv cum signed
    rw [if_pos h1]
    simp
  · rw [if_neg h1, if_pos hf]
    refine ⟨_, _, rfl, by omega, ?_, by omega⟩
    unfold unit sv cum signed
    rw [if_neg h1]
    have e : (-1074 + ((rung x / 4503599627370496 - 1 : Nat) : Int) + 1074).toNat = rung x / 4503599627370496 - 1 := by omega
    rw [e, Nat.shiftLeft_eq]
theorem sv_abs (x : Nat) : (sv x).natAbs = cum (rung x) := by unfold sv; split <;> omega
theorem sv_neg_lt (x : Nat) (hf : rung x < 9218868437227405312) : -(cum 9218868437227405312 : Int) < sv x ∧ sv x < cum 9218868437227405312 := by
  have := cum_mono hf
  unfold sv; split <;> omega

theorem order_eq (x y : Nat) (hx : x < 2 ^ 64) (hy : y < 2 ^ 64) : double.order x y = if isNaN x || isNaN y then none else some (compare (sv x) (sv y)) := by
  unfold Format.order
  by_cases nx : 9218868437227405312 < rung x
  · rw [if_pos (by simp [isNaN, nx]), read_eq x hx, if_neg (by omega), if_neg (by omega), if_neg (by omega)]
    cases double.read y <;> rfl
  · by_cases ny : 9218868437227405312 < rung y
    · rw [if_pos (by simp [isNaN, ny]), read_eq y hy, if_neg (by omega), if_neg (by omega), if_neg (by omega)]
      cases double.read x <;> rfl
    · rw [if_neg (by simp [isNaN]; omega)]
      by_cases ix : rung x = 9218868437227405312
      · have ex : double.read x = .infinity (neg x) := by rw [read_eq x hx, if_neg (by omega), if_neg (by omega), if_pos ix]
        have sx : sv x = if neg x then -(cum 9218868437227405312 : Int) else cum 9218868437227405312 := by unfold sv; rw [ix]
        have hp : 0 < cum 9218868437227405312 := by have := cum_mono (show 0 < 9218868437227405312 by omega); omega
        rw [ex, sx]
        by_cases iy : rung y = 9218868437227405312
        · have ey : double.read y = .infinity (neg y) := by rw [read_eq y hy, if_neg (by omega), if_neg (by omega), if_pos iy]
          have sy : sv y = if neg y then -(cum 9218868437227405312 : Int) else cum 9218868437227405312 := by unfold sv; rw [iy]
          rw [ey, sy]
          generalize cum 9218868437227405312 = c at hp
          unfold Datum.order
          cases neg x <;> cases neg y
          · rw [cmp_same rfl]; rfl
          · rw [cmp_gt (by simp; omega)]; rfl
          · rw [cmp_lt (by simp; omega)]; rfl
          · rw [cmp_same rfl]; rfl
        · obtain ⟨m, i, ey, -, -, -⟩ := read_fin y hy (by omega)
          have := sv_neg_lt y (by omega)
          rw [ey]
          unfold Datum.order
          cases neg x
          · rw [cmp_gt (by simp; omega)]; rfl
          · rw [cmp_lt (by simp; omega)]; rfl
      · obtain ⟨m, i, ex, hi, ux, -⟩ := read_fin x hx (by omega)
        have sx := sv_neg_lt x (by omega)
        by_cases iy : rung y = 9218868437227405312
        · have ey : double.read y = .infinity (neg y) := by rw [read_eq y hy, if_neg (by omega), if_neg (by omega), if_pos iy]
          have sy : sv y = if neg y then -(cum 9218868437227405312 : Int) else cum 9218868437227405312 := by unfold sv; rw [iy]
          rw [ex, ey, sy]
          unfold Datum.order
          cases neg y
          · rw [cmp_lt (by simp; omega)]; rfl
          · rw [cmp_gt (by simp; omega)]; rfl
        · obtain ⟨n, j, ey, hj, uy, -⟩ := read_fin y hy (by omega)
          rw [ex, ey, order_unit _ _ _ _ _ _ hi hj, ux, uy]

/-- The three questions. -/
def lt (x y : Nat) : Bool := !isNaN x && !isNaN y && decide (sv x < sv y)
def eq (x y : Nat) : Bool := !isNaN x && !isNaN y && decide (sv x = sv y)
theorem order_lt (x y : Nat) (hx : x < 2 ^ 64) (hy : y < 2 ^ 64) : (double.order x y == some .lt) = lt x y := by
  rw [order_eq x y hx hy]; unfold lt
  cases isNaN x <;> cases isNaN y <;> simp [compare, compareOfLessAndEq]
  by_cases h : sv x < sv y <;> by_cases h2 : sv x = sv y <;> simp [h, h2]
theorem order_gt (x y : Nat) (hx : x < 2 ^ 64) (hy : y < 2 ^ 64) : (double.order x y == some .gt) = lt y x := by
  rw [order_eq x y hx hy]; unfold lt
  cases isNaN x <;> cases isNaN y <;> simp [compare, compareOfLessAndEq]
  by_cases h : sv x < sv y <;> by_cases h2 : sv x = sv y <;> simp [h, h2] <;> omega
theorem order_same (x y : Nat) (hx : x < 2 ^ 64) (hy : y < 2 ^ 64) : (double.order x y == some .eq) = eq x y := by
  rw [order_eq x y hx hy]; unfold eq
  cases isNaN x <;> cases isNaN y <;> simp [compare, compareOfLessAndEq]
  by_cases h : sv x < sv y <;> by_cases h2 : sv x = sv y <;> simp [h, h2] <;> omega

theorem cum_at (e k : Nat) (h2 : k ≤ 9007199254740992) (h1 : e = 0 ∨ 4503599627370496 ≤ k) : cum (e * 4503599627370496 + k) = k * 2 ^ e := by
  unfold cum
  by_cases he : e = 0
  · subst he
    by_cases hk : k < 4503599627370496
    · rw [if_pos (by omega)]; omega
    · rw [if_neg (by omega)]
      by_cases hk2 : k = 9007199254740992
      · subst hk2; decide
      · have a : (0 * 4503599627370496 + k) / 4503599627370496 - 1 = 0 := by omega
        have b : 4503599627370496 + (0 * 4503599627370496 + k) % 4503599627370496 = k := by omega
        rw [a, b]
  · have hk : 4503599627370496 ≤ k := by omega
    rw [if_neg (by omega)]
    by_cases hk2 : k = 9007199254740992
    · subst hk2
      have a : (e * 4503599627370496 + 9007199254740992) / 4503599627370496 - 1 = e + 1 := by omega
      have b : 4503599627370496 + (e * 4503599627370496 + 9007199254740992) % 4503599627370496 = 4503599627370496 := by omega
      rw [a, b, Nat.pow_succ]; omega
    · have a : (e * 4503599627370496 + k) / 4503599627370496 - 1 = e := by omega
      have b : 4503599627370496 + (e * 4503599627370496 + k) % 4503599627370496 = k := by omega
      rw [a, b]
/-- Every rung is of that form. -/
theorem rung_form (r : Nat) : ∃ e k, r = e * 4503599627370496 + k ∧ k < 9007199254740992 ∧ (e = 0 ∨ 4503599627370496 ≤ k) := by
  by_cases h : r < 9007199254740992
  · exact ⟨0, r, by omega, h, Or.inl rfl⟩
  · exact ⟨r / 4503599627370496 - 1, 4503599627370496 + r % 4503599627370496, by omega, by omega, Or.inr (by omega)⟩

/-- r is the rung nearest to num / den, in the least units; between two, the even one. -/
structure Near (num den r : Nat) : Prop where
  up : r < 9218868437227405312 → 2 * num ≤ den * (cum r + cum (r + 1)) ∧ (2 * num = den * (cum r + cum (r + 1)) → r % 2 = 0)
  down : 0 < r → den * (cum (r - 1) + cum r) ≤ 2 * num ∧ (den * (cum (r - 1) + cum r) = 2 * num → r % 2 = 0)
  top : r ≤ 9218868437227405312

theorem Near.mono {n1 d1 r1 n2 d2 r2 : Nat} (h1 : Near n1 d1 r1) (h2 : Near n2 d2 r2) (p1 : 0 < d1) (p2 : 0 < d2) (h : n1 * d2 ≤ n2 * d1) : r1 ≤ r2 := by
  refine Nat.le_of_not_lt fun hlt => ?_
  obtain ⟨u1, u2⟩ := h2.up (by have := h1.top; omega)
  obtain ⟨v1, v2⟩ := h1.down (by omega)
  generalize hA : cum r2 + cum (r2 + 1) = A at u1 u2
  generalize hB : cum (r1 - 1) + cum r1 = B at v1 v2
  have c1 := cum_le (show r2 ≤ r1 - 1 by omega)
  have c2 := cum_le (show r2 + 1 ≤ r1 by omega)
  have hAB : A ≤ B := by omega
  have e1 : d2 * (d1 * B) ≤ d2 * (2 * n1) := Nat.mul_le_mul_left _ v1
  have e2 : d1 * (2 * n2) ≤ d1 * (d2 * A) := Nat.mul_le_mul_left _ u1
  have e3 : d1 * (d2 * A) ≤ d1 * (d2 * B) := Nat.mul_le_mul_left _ (Nat.mul_le_mul_left _ hAB)
  have e4 : d2 * (d1 * B) = d1 * (d2 * B) := by rw [← Nat.mul_assoc, ← Nat.mul_assoc, Nat.mul_comm d2]
  have e5 : d2 * (2 * n1) = 2 * (n1 * d2) := by rw [Nat.mul_comm d2, Nat.mul_assoc]
  have e6 : d1 * (2 * n2) = 2 * (n2 * d1) := by rw [Nat.mul_comm d1, Nat.mul_assoc]
  have f1 : d1 * (d2 * A) = d1 * (d2 * B) := by omega
  have f2 : A = B := Nat.eq_of_mul_eq_mul_left p2 (Nat.eq_of_mul_eq_mul_left p1 f1)
  have f3 : d2 * (d1 * B) = d2 * (2 * n1) := by omega
  have f4 : d1 * (2 * n2) = d1 * (d2 * A) := by omega
  have g1 := v2 (Nat.eq_of_mul_eq_mul_left p2 f3)
  have g2 := u2 (Nat.eq_of_mul_eq_mul_left p1 f4)
  have : r1 = r2 + 1 := by
    refine Nat.le_antisymm (Nat.le_of_not_lt fun hh => ?_) hlt
    have := cum_mono hh
    omega
  omega
theorem Near.unique {n1 d1 r1 n2 d2 r2 : Nat} (h1 : Near n1 d1 r1) (h2 : Near n2 d2 r2) (p1 : 0 < d1) (p2 : 0 < d2) (h : n1 * d2 = n2 * d1) : r1 = r2 :=
  Nat.le_antisymm (h1.mono h2 p1 p2 (by omega)) (h2.mono h1 p2 p1 (by omega))
theorem Near.exact (r : Nat) (h : r ≤ 9218868437227405312) (d : Nat) (hd : 0 < d) : Near (cum r * d) d r := by
  refine ⟨fun _ => ?_, fun h0 => ?_, h⟩
  · have := cum_succ r
    have e : 2 * (cum r * d) = d * (cum r + cum r) := by rw [Nat.mul_add, Nat.mul_comm d]; omega
    have := Nat.mul_lt_mul_of_pos_left (show cum r + cum r < cum r + cum (r + 1) by omega) hd
    omega
  · have := cum_mono (show r - 1 < r by omega)
    have e : 2 * (cum r * d) = d * (cum r + cum r) := by rw [Nat.mul_add, Nat.mul_comm d]; omega
    have := Nat.mul_lt_mul_of_pos_left (show cum (r - 1) + cum r < cum r + cum r by omega) hd
    omega
theorem Near.scale {n d r : Nat} (c : Nat) (hc : 0 < c) : Near (n * c) (d * c) r ↔ Near n d r := by
  have e1 : 2 * (n * c) = c * (2 * n) := by rw [← Nat.mul_assoc, Nat.mul_comm]
  have e2 : ∀ S, d * c * S = c * (d * S) := fun S => by rw [Nat.mul_comm d c, Nat.mul_assoc]
  constructor
  · intro h
    refine ⟨fun hr => ?_, fun hr => ?_, h.top⟩
    · obtain ⟨a, b⟩ := h.up hr
      rw [e1, e2] at a b
      exact ⟨Nat.le_of_mul_le_mul_left a hc, fun hh => b (by rw [hh])⟩
    · obtain ⟨a, b⟩ := h.down hr
      rw [e1, e2] at a b
      exact ⟨Nat.le_of_mul_le_mul_left a hc, fun hh => b (by rw [hh])⟩
  · intro h
    refine ⟨fun hr => ?_, fun hr => ?_, h.top⟩
    · obtain ⟨a, b⟩ := h.up hr
      rw [e1, e2]
      exact ⟨Nat.mul_le_mul_left c a, fun hh => b (Nat.eq_of_mul_eq_mul_left hc hh)⟩
    · obtain ⟨a, b⟩ := h.down hr
      rw [e1, e2]
      exact ⟨Nat.mul_le_mul_left c a, fun hh => b (Nat.eq_of_mul_eq_mul_left hc hh)⟩

/-- To a whole number, of two that are as near to the even one. -/
theorem cut_even (s : Bool) (n drop : Nat) : let k := Toward.even.cut s n drop
    2 * n ≤ (2 * k + 1) * 2 ^ drop ∧ (2 * n = (2 * k + 1) * 2 ^ drop → k % 2 = 0) ∧ (0 < k → (2 * k - 1) * 2 ^ drop ≤ 2 * n ∧ ((2 * k - 1) * 2 ^ drop = 2 * n → k % 2 = 0)) := by
  intro k
  have hk : k = Toward.even.cut s n drop := rfl
  clear_value k
  unfold Toward.cut at hk
  simp only at hk
  by_cases hd : drop ≤ n.log2 + 2
  · rw [Nat.min_eq_left hd, Nat.one_shiftLeft] at hk
    have hg : 0 < 2 ^ drop := Nat.two_pow_pos _
    generalize 2 ^ drop = g at hk hg
    have hdm := Nat.div_add_mod n g
    have hm := Nat.mod_lt n hg
    generalize hq : n / g = q at hk hdm
    generalize hr : n % g = r at hk hdm hm
    have e1 : (2 * q + 1) * g = 2 * (g * q) + g := by rw [Nat.add_mul, Nat.one_mul, Nat.mul_assoc, Nat.mul_comm q]
    have e2 : (2 * (q + 1) + 1) * g = 2 * (g * q) + 3 * g := by rw [show 2 * (q + 1) + 1 = 2 * q + 3 by omega, Nat.add_mul, Nat.mul_assoc, Nat.mul_comm q]
    have e3 : (2 * (q + 1) - 1) * g = 2 * (g * q) + g := by rw [show 2 * (q + 1) - 1 = 2 * q + 1 by omega, e1]
    have e4 : 0 < q → (2 * q - 1) * g + g = 2 * (g * q) := fun h0 => by
      rw [show (2 * q - 1) * g + g = ((2 * q - 1) + 1) * g by rw [Nat.add_mul, Nat.one_mul], show 2 * q - 1 + 1 = 2 * q by omega, Nat.mul_assoc, Nat.mul_comm q]
    by_cases c1 : g < 2 * r
    · simp only [c1, decide_true, Bool.true_or, Bool.toNat_true] at hk
      subst hk
      rw [e2, e3]
      omega
    · by_cases c2 : g = 2 * r ∧ q % 2 = 1
      · obtain ⟨c2, c3⟩ := c2
        simp [c3, ← c2] at hk
        subst hk
        rw [e2, e3]
        omega
      · have : k = q := by
          rw [hk]
          simp only [c1, decide_false, Bool.false_or]
          rw [show (g == 2 * r && q % 2 == 1) = false by simpa using c2]
          rfl
        subst this
        rw [e1]
        refine ⟨by omega, by omega, fun h0 => ?_⟩
        have := e4 h0
        omega
  · have hn : n < 2 ^ (n.log2 + 1) := Nat.lt_log2_self
    rw [Nat.min_eq_right (by omega), Nat.one_shiftLeft] at hk
    have hp : 2 ^ (n.log2 + 2) = 2 * 2 ^ (n.log2 + 1) := by rw [show n.log2 + 2 = (n.log2 + 1) + 1 from rfl, Nat.pow_succ]; omega
    have hle : 2 ^ (n.log2 + 2) ≤ 2 ^ drop := Nat.pow_le_pow_right (by omega) (by omega)
    generalize 2 ^ drop = G at hle
    rw [hp] at hk hle
    generalize 2 ^ (n.log2 + 1) = g at hn hk hle
    have hq : n / (2 * g) = 0 := Nat.div_eq_of_lt (by omega)
    have hr : n % (2 * g) = n := Nat.mod_eq_of_lt (by omega)
    rw [hq, hr] at hk
    have : k = 0 := by
      rw [hk]
      simp
      omega
    subst this
    omega

theorem nearest_core (e k N drop : Nat) (hk : k = Toward.even.cut false N drop) (hlt : N < 9007199254740992 * 2 ^ drop) (hge : e = 0 ∨ 4503599627370496 * 2 ^ drop ≤ N) :
    Near (N * 2 ^ e) (2 ^ drop) (min (e * 4503599627370496 + k) 9218868437227405312) := by
  obtain ⟨h1, h2, h3⟩ := cut_even false N drop
  rw [← hk] at h1 h2 h3
  clear hk
  have hd : 0 < 2 ^ drop := Nat.two_pow_pos _
  generalize 2 ^ drop = D at *
  have kle : k ≤ 9007199254740992 := by
    refine Nat.le_of_not_lt fun hh => ?_
    obtain ⟨a, -⟩ := h3 (by omega)
    have : (2 * 9007199254740992 + 1) * D ≤ (2 * k - 1) * D := Nat.mul_le_mul_right _ (by omega)
    omega
  have kge : e = 0 ∨ 4503599627370496 ≤ k := by
    rcases hge with h | h
    · exact Or.inl h
    · refine Or.inr (Nat.le_of_not_lt fun hh => ?_)
      have : (2 * k + 1) * D ≤ (2 * 4503599627370496 - 1) * D := Nat.mul_le_mul_right _ (by omega)
      omega
  have cr := cum_at e k kle kge
  have hp : 0 < 2 ^ e := Nat.two_pow_pos _
  have cn : (k + 1) * 2 ^ e ≤ cum (e * 4503599627370496 + k + 1) := by
    by_cases c : k = 9007199254740992
    · subst c
      have := cum_at (e + 1) (4503599627370496 + 1) (by omega) (Or.inr (by omega))
      rw [show e * 4503599627370496 + 9007199254740992 + 1 = (e + 1) * 4503599627370496 + (4503599627370496 + 1) by omega, this, Nat.pow_succ]
      generalize 2 ^ e = p at hp
      omega
    · have := cum_at e (k + 1) (by omega) (by omega)
      rw [← Nat.add_assoc] at this
      omega
  have par : (e * 4503599627370496 + k) % 2 = k % 2 := by omega
  have up : 2 * (N * 2 ^ e) ≤ D * (cum (e * 4503599627370496 + k) + cum (e * 4503599627370496 + k + 1)) ∧ (2 * (N * 2 ^ e) = D * (cum (e * 4503599627370496 + k) + cum (e * 4503599627370496 + k + 1)) → (e * 4503599627370496 + k) % 2 = 0) := by
    rw [cr, par]
    generalize cum (e * 4503599627370496 + k + 1) = C at cn
    generalize 2 ^ e = p at *
    have e1 : 2 * (N * p) = (2 * N) * p := by rw [Nat.mul_assoc]
    have e2 : (2 * N) * p ≤ ((2 * k + 1) * D) * p := Nat.mul_le_mul_right _ h1
    have e3 : ((2 * k + 1) * D) * p = D * (k * p + (k + 1) * p) := by
      rw [← Nat.add_mul, show k + (k + 1) = 2 * k + 1 by omega, Nat.mul_comm (2 * k + 1) D, Nat.mul_assoc]
    have e4 : D * (k * p + (k + 1) * p) ≤ D * (k * p + C) := Nat.mul_le_mul_left _ (by omega)
    refine ⟨by omega, fun hh => h2 ?_⟩
    exact Nat.eq_of_mul_eq_mul_right hp (by omega)
  have down : 0 < e * 4503599627370496 + k → D * (cum (e * 4503599627370496 + k - 1) + cum (e * 4503599627370496 + k)) ≤ 2 * (N * 2 ^ e) ∧ (D * (cum (e * 4503599627370496 + k - 1) + cum (e * 4503599627370496 + k)) = 2 * (N * 2 ^ e) → (e * 4503599627370496 + k) % 2 = 0) := by
    intro h0
    have k0 : 0 < k := by omega
    rw [par]
    by_cases c : e = 0 ∨ 4503599627370496 < k
    · have cp : cum (e * 4503599627370496 + k - 1) = (k - 1) * 2 ^ e := by
        rw [← cum_at e (k - 1) (by omega) (by omega)]
        congr 1; omega
      rw [cr, cp]
      obtain ⟨a, b⟩ := h3 k0
      generalize 2 ^ e = p at *
      have e1 : 2 * (N * p) = (2 * N) * p := by rw [Nat.mul_assoc]
      have e2 : ((2 * k - 1) * D) * p ≤ (2 * N) * p := Nat.mul_le_mul_right _ a
      have e3 : ((2 * k - 1) * D) * p = D * ((k - 1) * p + k * p) := by
        rw [← Nat.add_mul, show (k - 1) + k = 2 * k - 1 by omega, Nat.mul_comm (2 * k - 1) D, Nat.mul_assoc]
      refine ⟨by omega, fun hh => b ?_⟩
      exact Nat.eq_of_mul_eq_mul_right hp (by omega)
    · have ke : k = 4503599627370496 := by omega
      have hN : 4503599627370496 * D ≤ N := by rcases hge with h | h <;> omega
      have lt := cum_mono (show e * 4503599627370496 + k - 1 < e * 4503599627370496 + k by omega)
      rw [cr] at lt ⊢
      generalize cum (e * 4503599627370496 + k - 1) = C at lt
      generalize 2 ^ e = p at *
      have e1 : D * (C + k * p) < D * (k * p + k * p) := Nat.mul_lt_mul_of_pos_left (by omega) hd
      have e2 : (4503599627370496 * D) * p ≤ N * p := Nat.mul_le_mul_right _ hN
      have e3 : D * (k * p + k * p) = 2 * ((4503599627370496 * D) * p) := by
        rw [Nat.mul_add, ke, Nat.mul_comm 4503599627370496 D, Nat.mul_assoc]; omega
      omega
  by_cases hr : e * 4503599627370496 + k ≤ 9218868437227405312
  · rw [Nat.min_eq_left hr]
    exact ⟨fun _ => up, down, hr⟩
  · rw [Nat.min_eq_right (by omega)]
    refine ⟨fun h => absurd h (by omega), fun _ => ⟨?_, fun _ => rfl⟩, Nat.le_refl _⟩
    obtain ⟨a, -⟩ := down (by omega)
    have c1 := cum_le (show 9218868437227405312 - 1 ≤ e * 4503599627370496 + k - 1 by omega)
    have c2 := cum_le (show 9218868437227405312 ≤ e * 4503599627370496 + k by omega)
    exact Nat.le_trans (Nat.mul_le_mul_left _ (by omega)) a

theorem cut_sign (s t : Bool) (n drop : Nat) : Toward.even.cut s n drop = Toward.even.cut t n drop := rfl

/-- The word that 'nearest' gives bears the rung that is nearest. -/
theorem nearest_near (s : Bool) (mag : Nat) (place : Int) (a b : Nat) (hab : place + 1074 + b = a) :
    ∃ r, double.nearest s mag place = double.word s r ∧ Near (mag * 2 ^ a) (2 ^ b) r := by
  unfold Format.nearest
  by_cases h0 : mag = 0
  · rw [if_pos h0]
    refine ⟨0, rfl, ?_⟩
    subst h0
    have := Near.exact 0 (by omega) (2 ^ b) (Nat.two_pow_pos _)
    rw [cum_zero] at this
    rw [Nat.zero_mul] at this ⊢
    exact this
  · rw [if_neg h0]
    simp only [lp, bn, ir]
    refine ⟨_, rfl, ?_⟩
    have hf : (double.fractionBits : Int) = 52 := rfl
    rw [hf]
    have l1 : 2 ^ mag.log2 ≤ mag := Nat.log2_self_le h0
    have l2 : mag < 2 ^ (mag.log2 + 1) := Nat.lt_log2_self
    generalize hl : mag.log2 = l at l1 l2
    generalize hL : max (place + (l : Int) - 52) (-1074) = L
    have hL1 : -1074 ≤ L := by omega
    have hL2 : place + l - 52 ≤ L := by omega
    have hL3 : L = -1074 ∨ L = place + l - 52 := by omega
    clear hL
    generalize he : (L - -1074).toNat = e
    generalize hs : (place - L).toNat = sh
    generalize hdr : (L - place).toNat = drop
    rw [Nat.shiftLeft_eq]
    have core := nearest_core e _ (mag * 2 ^ sh) drop rfl ?_ ?_
    · have pb : 0 < 2 ^ b := Nat.two_pow_pos _
      have pd : 0 < 2 ^ drop := Nat.two_pow_pos _
      refine (Near.scale (2 ^ drop) pd).1 ?_
      have := (Near.scale (2 ^ b) pb).2 core
      have e1 : mag * 2 ^ sh * 2 ^ e * 2 ^ b = mag * 2 ^ a * 2 ^ drop := by
        rw [Nat.mul_assoc, Nat.mul_assoc, Nat.mul_assoc, ← Nat.pow_add, ← Nat.pow_add, ← Nat.pow_add]
        congr 2; omega
      rw [e1, Nat.mul_comm (2 ^ drop)] at this
      exact this
    · have : 2 ^ (l + 1) * 2 ^ sh ≤ 9007199254740992 * 2 ^ drop := by
        rw [show 9007199254740992 = 2 ^ 53 by decide, ← Nat.pow_add, ← Nat.pow_add]
        exact Nat.pow_le_pow_right (by omega) (by omega)
      exact Nat.lt_of_lt_of_le (Nat.mul_lt_mul_of_pos_right l2 (Nat.two_pow_pos _)) this
    · rcases hL3 with h | h
      · left; omega
      · right
        have : 4503599627370496 * 2 ^ drop ≤ 2 ^ l * 2 ^ sh := by
          rw [show 4503599627370496 = 2 ^ 52 by decide, ← Nat.pow_add, ← Nat.pow_add]
          exact Nat.pow_le_pow_right (by omega) (by omega)
        exact Nat.le_trans this (Nat.mul_le_mul_right _ l1)
theorem word_parts (s : Bool) (r : Nat) (h : r ≤ 9218868437227405312) : double.word s r < 2 ^ 64 ∧ rung (double.word s r) = r ∧ neg (double.word s r) = s := by
  unfold Format.word rung neg
  rw [sw]
  cases s
  · simp only [Bool.false_eq_true, if_false, decide_eq_false_iff_not]; omega
  · simp only [if_true, decide_eq_true_eq]; omega
theorem word_of (x : Nat) (h : x < 2 ^ 64) : double.word (neg x) (rung x) = x := by
  unfold Format.word rung neg
  rw [sw]
  by_cases c : 9223372036854775808 ≤ x
  · rw [if_pos (by simpa using c)]; omega
  · rw [if_neg (by simpa using c)]; omega
theorem sv_word (s : Bool) (r : Nat) (h : r ≤ 9218868437227405312) : sv (double.word s r) = if s then -(cum r : Int) else cum r := by
  obtain ⟨-, a, b⟩ := word_parts s r h
  unfold sv
  rw [a, b]
theorem nan_word (s : Bool) (r : Nat) (h : r ≤ 9218868437227405312) : isNaN (double.word s r) = false := by
  obtain ⟨-, a, -⟩ := word_parts s r h
  unfold isNaN
  rw [a, decide_eq_false_iff_not]; omega

/-- So many of such a power is a float, if it is not too great. -/
theorem rep (e : Nat) : ∀ k : Nat, k ≤ 9007199254740992 → ∃ r, cum r = k * 2 ^ e := by
  induction e with
  | zero => exact fun k hk => ⟨0 * 4503599627370496 + k, cum_at 0 k hk (Or.inl rfl)⟩
  | succ e ih =>
    intro k hk
    by_cases h : 4503599627370496 ≤ k
    · exact ⟨_, cum_at (e + 1) k hk (Or.inr h)⟩
    · obtain ⟨r, hr⟩ := ih (k * 2) (by omega)
      refine ⟨r, ?_⟩
      rw [hr, Nat.pow_succ, Nat.mul_assoc, Nat.mul_comm 2]
theorem unit_abs (s : Bool) (m : Nat) (i : Int) : (unit s m i).natAbs = m * 2 ^ (i + 1074).toNat := by
  unfold unit signed
  rw [Nat.shiftLeft_eq]
  split <;> omega
/-- A finite word, with its magnitude. -/
theorem read_fin' (x : Nat) (h : x < 2 ^ 64) (hf : rung x < 9218868437227405312) : ∃ m i, double.read x = .number (neg x) m i ∧ -1074 ≤ i ∧ m * 2 ^ (i + 1074).toNat = cum (rung x) ∧ (m = 0 ↔ rung x = 0) ∧ m < 9007199254740992 := by
  obtain ⟨m, i, a, b, c, d⟩ := read_fin x h hf
  refine ⟨m, i, a, b, ?_, d, ?_⟩
  · rw [← unit_abs (neg x), c, sv_abs]
  · rw [read_eq x h] at a
    split at a
    · cases a; omega
    · cases a; omega
theorem read_inf (x : Nat) (h : x < 2 ^ 64) (hi : rung x = 9218868437227405312) : double.read x = .infinity (neg x) := by rw [read_eq x h, if_neg (by omega), if_neg (by omega), if_pos hi]
theorem not_nan {x : Nat} (h : isNaN x = false) : rung x ≤ 9218868437227405312 := by unfold isNaN at h; rw [decide_eq_false_iff_not] at h; omega

/-- What an operation hands back: a word, no NaN, of that sign, whose rung does so. -/
structure Gives (o : Option Nat) (s : Bool) (p : Nat → Prop) (r : Nat) : Prop where
  is : o = some r
  lt : r < 2 ^ 64
  nan : isNaN r = false
  neg : neg r = s
  rung : p (rung r)
theorem gives_word {o : Option Nat} {s : Bool} {p : Nat → Prop} {r : Nat} (h : o = some (double.word s r)) (hr : r ≤ 9218868437227405312) (hp : p r) : ∃ x, Gives o s p x := by
  obtain ⟨a, b, c⟩ := word_parts s r hr
  exact ⟨_, h, a, nan_word s r hr, c, by rw [b]; exact hp⟩

theorem mul_fin (x y : Nat) (hx : x < 2 ^ 64) (hy : y < 2 ^ 64) (fx : rung x < 9218868437227405312) (fy : rung y < 9218868437227405312) :
    ∃ r, Gives (double.mul x y) (neg x ^^ neg y) (Near (cum (rung x) * cum (rung y)) U) r := by
  have hUE := UE_eq
  obtain ⟨m, i, ex, hi, vx, -, -⟩ := read_fin' x hx fx
  obtain ⟨n, j, ey, hj, vy, -, -⟩ := read_fin' y hy fy
  obtain ⟨r, e, hn⟩ := nearest_near (neg x ^^ neg y) (m * n) (i + j) ((i + 1074).toNat + (j + 1074).toNat) UE (by omega)
  refine gives_word (r := r) ?_ hn.top ?_
  · unfold Format.mul
    rw [ex, ey]
    show some (double.nearest _ _ _) = _
    rw [e]
  · rw [Nat.pow_add] at hn
    have : m * n * (2 ^ (i + 1074).toNat * 2 ^ (j + 1074).toNat) = cum (rung x) * cum (rung y) := by
      rw [← vx, ← vy, Nat.mul_assoc, Nat.mul_assoc, Nat.mul_left_comm n]
    rw [this] at hn
    exact hn
theorem mul_inf (x y : Nat) (hx : x < 2 ^ 64) (hy : y < 2 ^ 64) (fx : rung x < 9218868437227405312) (x0 : rung x ≠ 0) (fy : rung y = 9218868437227405312) :
    ∃ r, Gives (double.mul x y) (neg x ^^ neg y) (fun k => k = 9218868437227405312) r := by
  obtain ⟨m, i, ex, hi, vx, m0, -⟩ := read_fin' x hx fx
  have ey := read_inf y hy fy
  refine gives_word (r := 9218868437227405312) ?_ (Nat.le_refl _) rfl
  unfold Format.mul
  rw [ex, ey]
  show ((if m = 0 then none else some (Datum.infinity (neg y ^^ neg x))).map double.write) = _
  rw [if_neg (by omega), Bool.xor_comm]
  rfl

/-- The sum's exact worth. -/
theorem signed_abs (s : Bool) (m a : Nat) : (signed s m a).natAbs = m * 2 ^ a := by
  unfold signed
  rw [Nat.shiftLeft_eq]
  split <;> omega
theorem sub_fin (x y : Nat) (hx : x < 2 ^ 64) (hy : y < 2 ^ 64) (fx : rung x < 9218868437227405312) (fy : rung y < 9218868437227405312) :
    ∃ r, double.sub x y = some r ∧ r < 2 ^ 64 ∧ isNaN r = false ∧ Near (sv x - sv y).natAbs 1 (rung r) ∧ (sv x ≠ sv y → neg r = decide (sv x < sv y)) := by
  obtain ⟨m, i, ex, hi, ux, -⟩ := read_fin x hx fx
  obtain ⟨n, j, ey, hj, uy, -⟩ := read_fin y hy fy
  have hk : ∃ k : Nat, min i j = -1074 + k := ⟨(min i j + 1074).toNat, by omega⟩
  obtain ⟨k, hk⟩ := hk
  have es : (Datum.number (neg x) m i).sum (Datum.number (neg y) n j).opposite = some (.number (if signed (neg x) m (i - (-1074 + k)).toNat + signed (!neg y) n (j - (-1074 + k)).toNat = 0 then neg x && !neg y else decide (signed (neg x) m (i - (-1074 + k)).toNat + signed (!neg y) n (j - (-1074 + k)).toNat < 0)) (signed (neg x) m (i - (-1074 + k)).toNat + signed (!neg y) n (j - (-1074 + k)).toNat).natAbs (-1074 + k)) := by
    unfold Datum.opposite Datum.sum
    simp only [hk]
  have e1 : (i + 1074).toNat = (i - (-1074 + k)).toNat + k := by omega
  have e2 : (j + 1074).toNat = (j - (-1074 + k)).toNat + k := by omega
  have sn : ∀ t q : Nat, signed (!neg y) t q = -signed (neg y) t q := fun t q => by
    unfold signed; cases neg y <;> simp
  rw [sn] at es
  have tot : sv x - sv y = (signed (neg x) m (i - (-1074 + k)).toNat + -signed (neg y) n (j - (-1074 + k)).toNat) * (2 ^ k : Nat) := by
    rw [← ux, ← uy]
    unfold unit
    rw [e1, e2, signed_mul, signed_mul, Int.add_mul, Int.neg_mul]
    omega
  generalize signed (neg x) m (i - (-1074 + k)).toNat + -signed (neg y) n (j - (-1074 + k)).toNat = T at es tot
  obtain ⟨r, e, hn⟩ := nearest_near (if T = 0 then neg x && !neg y else decide (T < 0)) T.natAbs (-1074 + k) k 0 (by omega)
  have hp : (0 : Int) < (2 ^ k : Nat) := by exact_mod_cast Nat.two_pow_pos k
  have ha : (sv x - sv y).natAbs = T.natAbs * 2 ^ k := by rw [tot, Int.natAbs_mul]; rfl
  obtain ⟨a, b, c⟩ := word_parts (if T = 0 then neg x && !neg y else decide (T < 0)) r hn.top
  refine ⟨_, ?_, a, nan_word _ r hn.top, ?_, fun hne => ?_⟩
  · unfold Format.sub
    rw [ex, ey, es]
    show some (double.nearest _ _ _) = _
    rw [e]
  · rw [b, ha]
    exact hn
  · have hT : T ≠ 0 := fun h0 => hne (by rw [h0, Int.zero_mul] at tot; omega)
    rw [c, if_neg hT]
    rw [Bool.eq_iff_iff]
    simp only [decide_eq_true_eq]
    constructor
    · intro h
      have := Int.mul_neg_of_neg_of_pos h hp
      omega
    · intro h
      refine Int.lt_of_not_ge fun h2 => ?_
      have := Int.mul_nonneg h2 (Int.le_of_lt hp)
      omega

/-- A whole number as a float. -/
theorem ofInt_near (n : Int) : ∃ r, double.write (.number (n < 0) n.natAbs 0) = double.word (n < 0) r ∧ Near (n.natAbs * U) 1 r := nearest_near (n < 0) n.natAbs 0 UE 0 (by have := UE_eq; omega)
theorem ofInt_exact (n : Int) (r : Nat) (hr : r ≤ 9218868437227405312) (h : cum r = n.natAbs * U) : double.write (.number (n < 0) n.natAbs 0) = double.word (n < 0) r := by
  obtain ⟨r', e, hn⟩ := ofInt_near n
  have := Near.exact r hr 1 (by omega)
  rw [h, Nat.mul_one] at this
  rw [e, hn.unique this (by omega) (by omega) rfl]

theorem mid (t α β : Nat) : (∃ c, 2 ^ β * (cum t + cum (t + 1)) = 4 * 2 ^ α * c) ∨ 2 ^ β * (cum t + cum (t + 1)) < 9007199254740992 * (4 * 2 ^ α) := by
  obtain ⟨e, k, rfl, hk, he⟩ := rung_form t
  have c1 := cum_at e k (by omega) he
  have c2 := cum_at e (k + 1) (by omega) (by omega)
  rw [← Nat.add_assoc] at c2
  rw [c1, c2, ← Nat.add_mul, show k + (k + 1) = 2 * k + 1 by omega]
  have e0 : 2 ^ β * ((2 * k + 1) * 2 ^ e) = (2 * k + 1) * 2 ^ (β + e) := by rw [Nat.pow_add, Nat.mul_left_comm]
  rw [e0]
  have e4 : 4 * 2 ^ α = 2 ^ (α + 2) := by rw [Nat.pow_add]; omega
  rw [e4]
  by_cases h : α + 2 ≤ β + e
  · left
    refine ⟨(2 * k + 1) * 2 ^ (β + e - (α + 2)), ?_⟩
    rw [Nat.mul_left_comm, ← Nat.pow_add, show α + 2 + (β + e - (α + 2)) = β + e by omega]
  · right
    have h1 : 2 ^ (β + e) ≤ 2 ^ (α + 1) := Nat.pow_le_pow_right (by omega) (by omega)
    have h2 : 2 ^ (α + 2) = 2 * 2 ^ (α + 1) := by rw [show α + 2 = (α + 1) + 1 from rfl, Nat.pow_succ]; omega
    have hp : 0 < 2 ^ (α + 1) := Nat.two_pow_pos _
    rw [h2]
    generalize 2 ^ (β + e) = x at *
    generalize 2 ^ (α + 1) = y at *
    have h3 : (2 * k + 1) * x ≤ (2 * k + 1) * y := Nat.mul_le_mul_left _ h1
    have h4 : (2 * k + 1) * y ≤ (2 * 9007199254740992 - 1) * y := Nat.mul_le_mul_right _ (by omega)
    omega

/-- A quotient's last digit, 1 where something is left over, is enough to round by. -/
theorem sticky (D n q α β r : Nat) (hn : 0 < n) (hq : q = D / n) (big : D % n ≠ 0 → 9007199254740992 ≤ q) (h : Near ((2 * q + (D % n != 0).toNat) * 2 ^ α) (2 ^ β) r) : Near (2 * D * 2 ^ α) (n * 2 ^ β) r := by
  have hdm := Nat.div_add_mod D n
  have hml := Nat.mod_lt D hn
  rw [← hq] at hdm
  by_cases h0 : D % n = 0
  · rw [h0] at h hdm
    have : 2 * D * 2 ^ α = ((2 * q + (0 != 0).toNat) * 2 ^ α) * n := by
      have : ((0 : Nat) != 0).toNat = 0 := rfl
      rw [this, ← hdm]
      simp only [Nat.add_zero, Nat.mul_assoc, Nat.mul_comm]
    rw [this, Nat.mul_comm n]
    exact (Near.scale n hn).2 h
  · have hb := big h0
    have hs : (D % n != 0).toNat = 1 := by simp [h0]
    rw [hs] at h
    have lo : n * q + 1 ≤ D := by omega
    have hi : D + 1 ≤ n * (q + 1) := by rw [Nat.mul_add]; omega
    clear hdm hml hs h0 big hq
    have pA : 0 < 2 ^ α := Nat.two_pow_pos _
    refine ⟨fun hr => ?_, fun hr => ?_, h.top⟩
    · obtain ⟨u, -⟩ := h.up hr
      have hm := mid r α β
      rw [Nat.mul_assoc n]
      generalize 2 ^ β * (cum r + cum (r + 1)) = T at *
      generalize 2 ^ α = A at *
      have u' : (4 * q + 2) * A ≤ T := by
        have : 2 * ((2 * q + 1) * A) = (4 * q + 2) * A := by rw [← Nat.mul_assoc]; congr 1; omega
        omega
      have key : 4 * (q + 1) * A ≤ T := by
        rcases hm with ⟨c, hc⟩ | hc
        · have : (4 * q + 2) * A ≤ (4 * c) * A := by rw [Nat.mul_right_comm 4 A c] at hc; omega
          have := Nat.le_of_mul_le_mul_right this pA
          have : 4 * (q + 1) * A ≤ 4 * c * A := Nat.mul_le_mul_right _ (by omega)
          rw [Nat.mul_right_comm 4 A c] at hc; omega
        · have : (4 * 9007199254740992) * A ≤ (4 * q + 2) * A := Nat.mul_le_mul_right _ (by omega)
          rw [← Nat.mul_assoc, Nat.mul_comm 9007199254740992 4] at hc; omega
      have f1 : 2 * (2 * D * A) + 4 * A ≤ n * (4 * (q + 1) * A) := by
        have : (D + 1) * (4 * A) ≤ (n * (q + 1)) * (4 * A) := Nat.mul_le_mul_right _ hi
        have e1 : (n * (q + 1)) * (4 * A) = n * (4 * (q + 1) * A) := by simp only [Nat.mul_assoc, Nat.mul_left_comm]
        have e2 : (D + 1) * (4 * A) = 2 * (2 * D * A) + 4 * A := by rw [Nat.add_mul, Nat.one_mul, ← Nat.mul_assoc, ← Nat.mul_assoc, ← Nat.mul_assoc, Nat.mul_comm D 4]
        omega
      have f2 : n * (4 * (q + 1) * A) ≤ n * T := Nat.mul_le_mul_left _ key
      omega
    · obtain ⟨u, -⟩ := h.down hr
      have hm := mid (r - 1) α β
      rw [show r - 1 + 1 = r by omega] at hm
      rw [Nat.mul_assoc n]
      generalize 2 ^ β * (cum (r - 1) + cum r) = T at *
      generalize 2 ^ α = A at *
      have u' : T ≤ (4 * q + 2) * A := by
        have : 2 * ((2 * q + 1) * A) = (4 * q + 2) * A := by rw [← Nat.mul_assoc]; congr 1; omega
        omega
      have key : T ≤ 4 * q * A := by
        rcases hm with ⟨c, hc⟩ | hc
        · have : (4 * c) * A ≤ (4 * q + 2) * A := by rw [Nat.mul_right_comm 4 A c] at hc; omega
          have := Nat.le_of_mul_le_mul_right this pA
          have : 4 * c * A ≤ 4 * q * A := Nat.mul_le_mul_right _ (by omega)
          rw [Nat.mul_right_comm 4 A c] at hc; omega
        · have : (4 * 9007199254740992) * A ≤ 4 * q * A := Nat.mul_le_mul_right _ (by omega)
          rw [← Nat.mul_assoc, Nat.mul_comm 9007199254740992 4] at hc; omega
      have f1 : n * (4 * q * A) + 4 * A ≤ 2 * (2 * D * A) := by
        have : (n * q + 1) * (4 * A) ≤ D * (4 * A) := Nat.mul_le_mul_right _ lo
        have e1 : (n * q + 1) * (4 * A) = n * (4 * q * A) + 4 * A := by rw [Nat.add_mul, Nat.one_mul]; congr 1; simp only [Nat.mul_assoc, Nat.mul_left_comm]
        have e2 : D * (4 * A) = 2 * (2 * D * A) := by rw [← Nat.mul_assoc, ← Nat.mul_assoc, ← Nat.mul_assoc, Nat.mul_comm D 4]
        omega
      have f2 : n * T ≤ n * (4 * q * A) := Nat.mul_le_mul_left _ key
      omega

theorem div_fin (x y : Nat) (hx : x < 2 ^ 64) (hy : y < 2 ^ 64) (fx : rung x < 9218868437227405312) (fy : rung y < 9218868437227405312) (y0 : rung y ≠ 0) :
    ∃ r, Gives (double.div x y) (neg x ^^ neg y) (Near (cum (rung x) * U) (cum (rung y))) r := by
  have hUE := UE_eq
  obtain ⟨m, i, ex, hi, vx, mx, bm⟩ := read_fin' x hx fx
  obtain ⟨n, j, ey, hj, vy, ny, bn⟩ := read_fin' y hy fy
  have n0 : n ≠ 0 := fun h => y0 (ny.1 h)
  have hml : m.log2 ≤ 52 := by
    by_cases h : m = 0
    · subst h; decide
    · have : m.log2 < 53 := (Nat.log2_lt h).2 (by omega)
      omega
  have hmore : ∃ more : Nat, 54 + n.log2 - m.log2 = more ∧ more + m.log2 = 54 + n.log2 := ⟨_, rfl, by omega⟩
  obtain ⟨more, em, hm⟩ := hmore
  obtain ⟨r, e, hn⟩ := nearest_near (neg x ^^ neg y) (2 * (m <<< more / n) + ((m <<< more) % n != 0).toNat) (i - j - more - 1) ((i + 1074).toNat + UE) ((j + 1074).toNat + more + 1) (by omega)
  refine gives_word (r := r) ?_ hn.top ?_
  · unfold Format.div
    rw [ex, ey]
    show (Datum.quotient (52 + 2) _ _).map double.write = _
    unfold Datum.quotient
    simp only [if_neg n0]
    rw [show 52 + 2 + n.log2 - m.log2 = more from em]
    show some (double.nearest _ _ _) = _
    rw [e]
  · have h := sticky (m <<< more) n _ _ _ r (by omega) rfl ?_ hn
    · rw [← vx, ← vy]
      refine (Near.scale (2 ^ (more + 1)) (Nat.two_pow_pos _)).1 ?_
      have e1 : 2 * m <<< more * 2 ^ ((i + 1074).toNat + UE) = m * 2 ^ (i + 1074).toNat * 2 ^ UE * 2 ^ (more + 1) := by
        have e3 : 2 ^ (more + 1) = 2 ^ more * 2 := Nat.pow_succ ..
        have e4 : ∀ k, 2 ^ ((i + 1074).toNat + k) = 2 ^ (i + 1074).toNat * 2 ^ k := fun k => Nat.pow_add ..
        rw [Nat.shiftLeft_eq, e4, e3]
        generalize 2 ^ (i + 1074).toNat = a
        generalize 2 ^ UE = b
        generalize 2 ^ more = c
        simp only [Nat.mul_assoc, Nat.mul_comm, Nat.mul_left_comm]
      have e2 : n * 2 ^ ((j + 1074).toNat + more + 1) = n * 2 ^ (j + 1074).toNat * 2 ^ (more + 1) := by
        rw [Nat.add_assoc, Nat.pow_add, Nat.mul_assoc]
      rw [e1, e2] at h
      exact h
    · intro hne
      have m0 : m ≠ 0 := fun h => hne (by subst h; rw [Nat.zero_shiftLeft, Nat.zero_mod])
      rw [Nat.shiftLeft_eq]
      have l1 : 2 ^ m.log2 ≤ m := Nat.log2_self_le m0
      have l2 : n < 2 ^ (n.log2 + 1) := Nat.lt_log2_self
      rw [Nat.le_div_iff_mul_le (by omega)]
      have a1 : 2 ^ m.log2 * 2 ^ more ≤ m * 2 ^ more := Nat.mul_le_mul_right _ l1
      have a2 : 2 ^ m.log2 * 2 ^ more = 9007199254740992 * 2 ^ (n.log2 + 1) := by
        rw [← Nat.pow_add, show 9007199254740992 = 2 ^ 53 by decide, ← Nat.pow_add]
        congr 1; omega
      have a3 : 9007199254740992 * n ≤ 9007199254740992 * 2 ^ (n.log2 + 1) := Nat.mul_le_mul_left _ (by omega)
      omega
theorem div_inf (x y : Nat) (hx : x < 2 ^ 64) (hy : y < 2 ^ 64) (fx : rung x = 9218868437227405312) (fy : rung y < 9218868437227405312) :
    ∃ r, Gives (double.div x y) (neg x ^^ neg y) (fun k => k = 9218868437227405312) r := by
  obtain ⟨n, j, ey, -⟩ := read_fin' y hy fy
  refine gives_word (r := 9218868437227405312) ?_ (Nat.le_refl _) rfl
  unfold Format.div
  rw [read_inf x hx fx, ey]
  rfl

/-! ### To a whole number, towards nought -/
theorem cut_zero (s : Bool) (n drop : Nat) : Toward.zero.cut s n drop = n / 2 ^ drop := by
  unfold Toward.cut
  simp only [Bool.toNat_false, Nat.add_zero, Nat.one_shiftLeft]
  by_cases hd : drop ≤ n.log2 + 2
  · rw [Nat.min_eq_left hd]
  · rw [Nat.min_eq_right (by omega)]
    have hn : n < 2 ^ (n.log2 + 1) := Nat.lt_log2_self
    have a : n < 2 ^ (n.log2 + 2) := Nat.lt_of_lt_of_le hn (Nat.pow_le_pow_right (by omega) (by omega))
    have b : n < 2 ^ drop := Nat.lt_of_lt_of_le hn (Nat.pow_le_pow_right (by omega) (by omega))
    rw [Nat.div_eq_of_lt a, Nat.div_eq_of_lt b]
theorem toInt_fin (x : Nat) (hx : x < 2 ^ 64) (fx : rung x < 9218868437227405312) : (double.read x).toInt .zero = some (if neg x then -((cum (rung x) / U : Nat) : Int) else ((cum (rung x) / U : Nat) : Int)) := by
  have hUE := UE_eq
  obtain ⟨m, i, ex, hi, vx, mx, bm⟩ := read_fin' x hx fx
  rw [ex]
  unfold Datum.toInt Datum.integral
  simp only [cut_zero]
  unfold signed
  rw [Nat.shiftLeft_eq, Nat.shiftLeft_eq, Nat.pow_zero, Nat.mul_one]
  have : m * 2 ^ i.toNat / 2 ^ (-i).toNat = cum (rung x) / U := by
    rw [← vx]
    by_cases h : 0 ≤ i
    · have e4 : 2 ^ (i.toNat + UE) = 2 ^ i.toNat * U := Nat.pow_add ..
      have hp := U_pos
      rw [show (-i).toNat = 0 by omega, show (i + 1074).toNat = i.toNat + UE by omega, e4]
      generalize U = u at hp
      rw [← Nat.mul_assoc, Nat.mul_div_cancel _ hp, Nat.pow_zero, Nat.div_one]
    · rw [show i.toNat = 0 by omega, Nat.pow_zero, Nat.mul_one]
      have e2 := U_split (i + 1074).toNat (-i).toNat (by omega)
      rw [e2, Nat.mul_comm m, Nat.mul_div_mul_left _ _ (Nat.two_pow_pos _)]
  rw [this]

/-- To the nearest whole number, of two that are as near to the one farther from nought. -/
def rnd (c : Nat) : Nat := (2 * c + U) / (2 * U)

theorem top_form (e k : Nat) (h : UE ≤ e) : k * 2 ^ e = k * 2 ^ (e - UE) * U := by
  have : 2 ^ (e - UE) * U = 2 ^ (e - UE + UE) := (Nat.pow_add ..).symm
  rw [Nat.mul_assoc, this, Nat.sub_add_cancel h]
theorem rep_trunc (r : Nat) (hr : r ≤ 9218868437227405312) : (∃ r1, r1 ≤ 9218868437227405312 ∧ cum r1 = cum r / U * U) ∧ (∃ r2, r2 ≤ 9218868437227405312 ∧ cum r2 = cum r % U) := by
  have fin : ∀ s, cum s ≤ cum r → s ≤ 9218868437227405312 := fun s hs => by
    refine Nat.le_of_not_lt fun h => ?_
    have := cum_mono (show r < s by omega)
    omega
  have m1 : cum r / U * U ≤ cum r := Nat.div_mul_le_self ..
  have m2 : cum r % U ≤ cum r := Nat.mod_le ..
  suffices h : (∃ r1, cum r1 = cum r / U * U) ∧ ∃ r2, cum r2 = cum r % U by
    obtain ⟨⟨a, ha⟩, ⟨b, hb⟩⟩ := h
    exact ⟨⟨a, fin a (by omega), ha⟩, ⟨b, fin b (by omega), hb⟩⟩
  obtain ⟨e, k, er, hk, he⟩ := rung_form r
  have c1 := cum_at e k (by omega) he
  rw [← er] at c1
  have hUE := UE_eq
  by_cases h : UE ≤ e
  · have hd := top_form e k h
    rw [← c1] at hd
    refine ⟨⟨r, ?_⟩, ⟨0, ?_⟩⟩
    · rw [hd, Nat.mul_div_cancel _ U_pos]
    · rw [hd, Nat.mul_mod_left]; rfl
  · have hU := U_split (UE - e) e (by omega)
    have pe := Nat.two_pow_pos e
    rw [c1, hU]
    generalize 2 ^ (UE - e) = d
    rw [Nat.mul_div_mul_right _ _ pe, Nat.mul_mod_mul_right]
    refine ⟨?_, rep e (k % d) (Nat.le_trans (Nat.mod_le ..) (by omega))⟩
    obtain ⟨s, hs⟩ := rep e (k / d * d) (Nat.le_trans (Nat.div_mul_le_self ..) (by omega))
    exact ⟨s, by rw [hs, Nat.mul_assoc]⟩

theorem cum_half : cum (1022 * 4503599627370496) * 2 = U := by
  obtain ⟨e, he⟩ : ∃ e, e = 1021 := ⟨_, rfl⟩
  have hUE := UE_eq
  have := cum_at e 4503599627370496 (by omega) (Or.inr (by omega))
  rw [show e * 4503599627370496 + 4503599627370496 = 1022 * 4503599627370496 by omega] at this
  have hU := U_split 53 e (by omega)
  rw [this, hU]
  have e : (2 ^ 53 : Nat) = 4503599627370496 * 2 := by decide
  rw [e, Nat.mul_right_comm]
theorem cum_one : cum (1023 * 4503599627370496) = U := by
  obtain ⟨e, he⟩ : ∃ e, e = 1022 := ⟨_, rfl⟩
  have hUE := UE_eq
  have := cum_at e 4503599627370496 (by omega) (Or.inr (by omega))
  rw [show e * 4503599627370496 + 4503599627370496 = 1023 * 4503599627370496 by omega] at this
  have hU := U_split 52 e (by omega)
  rw [this, hU]
theorem cum_top : cum (1086 * 4503599627370496) = 9223372036854775808 * U := by
  obtain ⟨e, he⟩ : ∃ e, e = 1085 := ⟨_, rfl⟩
  have hUE := UE_eq
  have := cum_at e 4503599627370496 (by omega) (Or.inr (by omega))
  rw [show e * 4503599627370496 + 4503599627370496 = 1086 * 4503599627370496 by omega] at this
  rw [this, top_form e _ (by omega), show e - UE = 11 by omega]

/-- What Round makes of a magnitude's bits. -/
def rndR (r : Nat) : Nat :=
  if r < 1022 * 4503599627370496 then 0 else if r < 1023 * 4503599627370496 then 1023 * 4503599627370496
  else if r < 1075 * 4503599627370496 then (r + 2 ^ (1074 - r / 4503599627370496)) / 2 ^ (1075 - r / 4503599627370496) * 2 ^ (1075 - r / 4503599627370496) else r
theorem rndR_cum (r : Nat) : cum (rndR r) = rnd (cum r) * U := by
  have hU := U_pos
  unfold rndR rnd
  by_cases h1 : r < 1022 * 4503599627370496
  · rw [if_pos h1]
    have := cum_mono h1
    have hh := cum_half
    rw [Nat.div_eq_of_lt (by omega), cum_zero, Nat.zero_mul]
  · rw [if_neg h1]
    by_cases h2 : r < 1023 * 4503599627370496
    · rw [if_pos h2]
      have a := cum_mono h2
      have b := cum_le (show 1022 * 4503599627370496 ≤ r by omega)
      have hh := cum_half
      rw [cum_one] at a ⊢
      have : (2 * cum r + U) / (2 * U) = 1 := by
        rw [Nat.div_eq_iff (by omega)]; omega
      rw [this, Nat.one_mul]
    · rw [if_neg h2]
      have hUE := UE_eq
      obtain ⟨e, k, er, hk, he⟩ := rung_form r
      have c1 := cum_at e k (by omega) he
      rw [← er] at c1
      by_cases h3 : r < 1075 * 4503599627370496
      · rw [if_pos h3]
        have hE : r / 4503599627370496 = e + 1 := by omega
        have he2 : e ≤ 1073 := by omega
        have he3 : 1022 ≤ e := by omega
        have hk2 : 4503599627370496 ≤ k := by omega
        rw [hE, c1, show 1075 - (e + 1) = (1073 - e) + 1 by omega, show 1074 - (e + 1) = 1073 - e by omega]
        have hUe := U_split ((1073 - e) + 1) e (by omega)
        have pe := Nat.two_pow_pos e
        have hs : (2 ^ (1073 - e + 1) : Nat) = 2 * 2 ^ (1073 - e) := by rw [Nat.pow_succ, Nat.mul_comm]
        have hdv : ∃ c, 4503599627370496 = c * 2 ^ (1073 - e + 1) := ⟨2 ^ (52 - (1073 - e + 1)), by rw [← Nat.pow_add, show 52 - (1073 - e + 1) + (1073 - e + 1) = 52 by omega]⟩
        obtain ⟨c, hc⟩ := hdv
        have pd := Nat.two_pow_pos (1073 - e)
        rw [hUe, hs]
        rw [hs] at hc
        generalize 2 ^ (1073 - e) = h at *
        have e1 : (2 * (k * 2 ^ e) + 2 * h * 2 ^ e) / (2 * (2 * h * 2 ^ e)) = (k + h) / (2 * h) := by
          have a1 : 2 * (k * 2 ^ e) + 2 * h * 2 ^ e = (k + h) * (2 * 2 ^ e) := by
            rw [Nat.add_mul]
            congr 1
            · rw [Nat.mul_left_comm]
            · rw [Nat.mul_comm 2 h, Nat.mul_assoc]
          have a2 : 2 * (2 * h * 2 ^ e) = (2 * h) * (2 * 2 ^ e) := by rw [Nat.mul_left_comm]
          rw [a1, a2, Nat.mul_div_mul_right _ _ (by omega)]
        rw [e1]
        have e2 : (r + h) / (2 * h) * (2 * h) = e * 4503599627370496 + (k + h) / (2 * h) * (2 * h) := by
          have f1 : r + h = (k + h) + e * c * (2 * h) := by rw [er, hc, Nat.mul_assoc]; omega
          have f2 : e * 4503599627370496 = e * c * (2 * h) := by rw [hc, Nat.mul_assoc]
          rw [f1, f2, Nat.add_mul_div_right _ _ (by omega), Nat.add_mul, Nat.add_comm]
        have q1 : (k + h) / (2 * h) * (2 * h) ≤ k + h := Nat.div_mul_le_self ..
        have q2 : 2 * c ≤ (9007199254740992 : Nat) := by
          have : c * (2 * h) ≥ c * 2 := Nat.mul_le_mul_left _ (by omega)
          omega
        have q3 : (k + h) / (2 * h) ≤ 2 * c := by
          rw [← Nat.lt_succ_iff, Nat.div_lt_iff_lt_mul (by omega)]
          have : (2 * c).succ * (2 * h) = 2 * (c * (2 * h)) + 2 * h := by rw [Nat.succ_mul, Nat.mul_assoc]
          omega
        have q4 : (k + h) / (2 * h) * (2 * h) ≤ 2 * c * (2 * h) := Nat.mul_le_mul_right _ q3
        have q5 : 2 * c * (2 * h) = 2 * 4503599627370496 := by rw [hc, Nat.mul_assoc]
        have q6 : c ≤ (k + h) / (2 * h) := by
          rw [Nat.le_div_iff_mul_le (by omega)]; omega
        have q7 : c * (2 * h) ≤ (k + h) / (2 * h) * (2 * h) := Nat.mul_le_mul_right _ q6
        rw [e2, cum_at e _ (by omega) (Or.inr (by omega)), Nat.mul_assoc]
      · rw [if_neg h3]
        have he2 : 1074 ≤ e := by omega
        have hd := top_form e k (by omega)
        rw [← c1] at hd
        rw [hd]
        generalize k * 2 ^ (e - UE) = x
        have : (2 * (x * U) + U) / (2 * U) = x := by
          rw [Nat.div_eq_iff (by omega)]
          have : x * (2 * U) = 2 * (x * U) := by rw [Nat.mul_left_comm]
          omega
        rw [this]

/-- The nearest int to a float. -/
def whole (x : Nat) : Int :=
  if isNaN x then 0 else if 1086 * 4503599627370496 ≤ rung x then (if neg x then -9223372036854775808 else 9223372036854775807)
  else if neg x then -(rnd (cum (rung x)) : Int) else rnd (cum (rung x))
theorem rnd_mono {a b : Nat} (h : a ≤ b) : rnd a ≤ rnd b := Nat.div_le_div_right (by omega)
theorem rnd_lt {r : Nat} (h : r < 1086 * 4503599627370496) : rnd (cum r) < 9223372036854775808 := by
  -- the greatest float below 2^63 is 2^63 - 1024
  have a := cum_le (show r ≤ 1085 * 4503599627370496 + 4503599627370495 by omega)
  obtain ⟨e, he⟩ : ∃ e, e = 1084 := ⟨_, rfl⟩
  have hUE := UE_eq
  have c := cum_at e (4503599627370496 + 4503599627370495) (by omega) (Or.inr (by omega))
  rw [show e * 4503599627370496 + (4503599627370496 + 4503599627370495) = 1085 * 4503599627370496 + 4503599627370495 by omega, top_form e _ (by omega), show e - UE = 10 by omega] at c
  have hU := U_pos
  unfold rnd
  rw [Nat.div_lt_iff_lt_mul (by omega)]
  have : 9223372036854775808 * (2 * U) = 18446744073709551616 * U := by rw [← Nat.mul_assoc]
  omega
theorem whole_bd (x : Nat) : -9223372036854775808 ≤ whole x ∧ whole x ≤ 9223372036854775807 := by
  unfold whole
  by_cases a : isNaN x
  · rw [if_pos a]; omega
  · rw [if_neg a]
    by_cases b : 1086 * 4503599627370496 ≤ rung x
    · rw [if_pos b]; split <;> omega
    · rw [if_neg b]
      have := rnd_lt (show rung x < 1086 * 4503599627370496 by omega)
      split <;> omega
end Go.Proofs.YtbiinghmopgjnaaGreatDoor.Flt
