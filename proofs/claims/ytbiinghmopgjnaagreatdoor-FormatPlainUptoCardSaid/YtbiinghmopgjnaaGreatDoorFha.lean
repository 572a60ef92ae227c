/- format: sets of bytes. -/
import Derived.Test.YtbiinghmopgjnaaGreatDoorFou
import Derived.Laws.BitsLemmas
import Derived.Laws.Bits64
namespace Go.Proofs.YtbiinghmopgjnaaGreatDoor.Fmt
open Go.RowKit

theorem wraps_u64 (n : Int) (h₀ : 0 ≤ n) (h₁ : n < 2 ^ 64) : IntKind.u64.wrap n = n := by rw [IntKind.wrap_u64]; omega
theorem u64_and (a b : Nat) (ha : a < 18446744073709551616) (hb : b < 18446744073709551616) : bits .and .u64 (a : Int) (b : Int) = ((a &&& b : Nat) : Int) := (bits_nat .u64 64 (by decide) wraps_u64 a b (by omega) (by omega)).1
theorem u64_or (a b : Nat) (ha : a < 18446744073709551616) (hb : b < 18446744073709551616) : bits .or .u64 (a : Int) (b : Int) = ((a ||| b : Nat) : Int) := (bits_nat .u64 64 (by decide) wraps_u64 a b (by omega) (by omega)).2
theorem wrap_nat (z : Nat) (h : z < 18446744073709551616) : IntKind.u64.wrap (z : Int) = (z : Int) := wraps_u64 _ (by omega) (by omega)
theorem pow_cast (r : Nat) : (2 : Int) ^ r = ((2 ^ r : Nat) : Int) := by simp
theorem bit_test (x r : Nat) (hx : x < 18446744073709551616) : (bits .and .u64 ((x : Int) / 2 ^ r) 1 == 1) = x.testBit r := by
  have e : ((x : Int) / 2 ^ r) = ((x / 2 ^ r : Nat) : Int) := by rw [pow_cast]; rfl
  have hd : x / 2 ^ r < 18446744073709551616 := Nat.lt_of_le_of_lt (Nat.div_le_self _ _) hx
  have h1 : bits .and .u64 ((x / 2 ^ r : Nat) : Int) 1 = ((x / 2 ^ r &&& 1 : Nat) : Int) := u64_and _ 1 hd (by decide)
  rw [e, h1, Nat.testBit_eq_decide_div_mod_eq, Nat.and_one_is_mod]
  by_cases hq : x / 2 ^ r % 2 = 1
  · rw [hq]; rfl
  · have : x / 2 ^ r % 2 = 0 := by omega
    rw [this]; rfl
/-- Four words as a set of bytes. -/
structure SetIs (ws : Nat → Nat) (f : UInt8 → Bool) : Prop where
  low : ∀ i, ws i < 18446744073709551616
  mem : ∀ c : UInt8, (ws (c.toNat / 64)).testBit (c.toNat % 64) = f c
def setL (ws : Nat → Nat) : List Value := [.int .u64 (ws 0 : Int), .int .u64 (ws 1 : Int), .int .u64 (ws 2 : Int), .int .u64 (ws 3 : Int)]
theorem setL_at (ws : Nat → Nat) (pre : List Value) (q : Nat) (hq : q < 4) : (pre ++ setL ws)[pre.length + q]? = some (.int .u64 (ws q : Int)) := by
  rw [List.getElem?_append_right (by omega), show pre.length + q - pre.length = q by omega]
  match q, hq with
  | 0, _ => rfl
  | 1, _ => rfl
  | 2, _ => rfl
  | 3, _ => rfl
def upd (ws : Nat → Nat) (q v : Nat) : Nat → Nat := fun i => if i = q then v else ws i
theorem setL_set (ws : Nat → Nat) (pre : List Value) (q v : Nat) (hq : q < 4) : (pre ++ setL ws).set (pre.length + q) (.int .u64 (v : Int)) = pre ++ setL (upd ws q v) := by
  rw [List.set_append_right _ _ (by omega), show pre.length + q - pre.length = q by omega]
  match q, hq with
  | 0, _ => rfl
  | 1, _ => rfl
  | 2, _ => rfl
  | 3, _ => rfl
theorem SetIs.empty : SetIs (fun _ => 0) (fun _ => false) := ⟨fun _ => by decide, fun c => Nat.zero_testBit _⟩
theorem SetIs.not {ws : Nat → Nat} {f : UInt8 → Bool} (h : SetIs ws f) : SetIs (fun i => 18446744073709551615 ^^^ ws i) (fun c => !f c) := by
  refine ⟨fun i => ?_, fun c => ?_⟩
  · have := Nat.xor_lt_two_pow (n := 64) (x := 18446744073709551615) (y := ws i) (by decide) (by have := h.low i; omega)
    exact this
  · rw [Nat.testBit_xor, h.mem, show (18446744073709551615 : Nat) = 2 ^ 64 - 1 by decide, Nat.testBit_two_pow_sub_one, decide_eq_true (by omega)]
    simp
theorem SetIs.add {ws : Nat → Nat} {f : UInt8 → Bool} (h : SetIs ws f) (j : Nat) : SetIs (upd ws (j / 64) (ws (j / 64) ||| 2 ^ (j % 64))) (fun c => f c || decide (c.toNat = j)) := by
  have hp : 2 ^ (j % 64) < 18446744073709551616 := Nat.pow_lt_pow_right (by decide) (show j % 64 < 64 by omega)
  refine ⟨fun i => ?_, fun c => ?_⟩
  · unfold upd
    split
    · exact Nat.or_lt_two_pow (n := 64) (h.low _) hp
    · exact h.low i
  · unfold upd
    by_cases hq : c.toNat / 64 = j / 64
    · rw [if_pos hq, Nat.testBit_or, Nat.testBit_two_pow, ← hq, h.mem]
      congr 1
      by_cases hc : c.toNat = j
      · rw [decide_eq_true hc, decide_eq_true (by omega)]
      · rw [decide_eq_false hc, decide_eq_false (by omega)]
    · rw [if_neg hq, h.mem, decide_eq_false (by intro e; exact hq (by rw [e])), Bool.or_false]
theorem SetIs.same {ws : Nat → Nat} {f g : UInt8 → Bool} (h : SetIs ws f) (e : ∀ c, f c = g c) : SetIs ws g := ⟨h.low, fun c => (h.mem c).trans (e c)⟩
set_option maxHeartbeats 1000000 in
set_option maxRecDepth 100000 in
theorem has_at (b o n x : Nat) (w : World) (hn : n < 256) (hc : w.cell? ⟨b, o + n / 64, none⟩ = some (.int .u64 (x : Int))) (hx : x < 18446744073709551616) :
    Calls Tryz.prog 76 #[.pointer (some ⟨b, o, none⟩), .int .u8 (n : Int)] w fun e w' => e = .returned (.bool (x.testBit (n % 64))) ∧ w = w' := by
  have h1 : ((n : Int).tdiv 64) = ((n / 64 : Nat) : Int) := by rw [Int.tdiv_eq_ediv_of_nonneg (by omega)]; omega
  have h2 : ((n : Int).tmod 64) = ((n % 64 : Nat) : Int) := by rw [Int.tmod_eq_emod_of_nonneg (by omega)]; omega
  have h3 : n / 64 < 4 := by omega
  have h4 : n % 64 < 64 := by omega
  have hsg : IntKind.u64.signed = false := rfl
  have hsg2 : IntKind.u8.signed = false := rfl
  have HT := Lib.hid (bit_test x (n % 64) hx)
  generalize n / 64 = q at *
  generalize n % 64 = r at *
  go_enter Tryz.func76, Tryz.ntmps76
  go_wp2_with fail
  go_ret
  exact ⟨by rw [← HT.out]; rfl, rfl⟩
/-- A set that lies behind some cells of a block. -/
theorem has_any {w : World} {b : Nat} {t : TypeId} {pre post : List Value} {ws : Nat → Nat} {f : UInt8 → Bool} (h : BL w b t (pre ++ setL ws ++ post)) (hs : SetIs ws f) (c : UInt8) :
    Calls Tryz.prog 76 #[.pointer (some ⟨b, pre.length, none⟩), .int .u8 (c.toNat : Int)] w fun e w' => e = .returned (.bool (f c)) ∧ w = w' := by
  have h4 : c.toNat / 64 < 4 := by have := UInt8.toNat_lt c; omega
  have := has_at b pre.length c.toNat (ws (c.toNat / 64)) w (UInt8.toNat_lt c) (by
    rw [h.cell, List.getElem?_append_left (by rw [List.length_append]; show _ < pre.length + 4; omega)]
    exact setL_at ws pre _ h4) (hs.low _)
  rw [hs.mem] at this
  exact this
theorem others_any {ws : Nat → Nat} {f : UInt8 → Bool} (hs : SetIs ws f) (w : World) :
    Calls Tryz.prog 101 #[.agg (setL ws).toArray] w fun e w' => e = .returned (.agg (setL (fun i => 18446744073709551615 ^^^ ws i)).toArray) ∧ Below w.heap.size w w' := by
  have e : ∀ i, bits .xor .u64 IntKind.u64.max (ws i : Int) = ((18446744073709551615 ^^^ ws i : Nat) : Int) := fun i => bits_xor_u64_nat 18446744073709551615 (ws i) (by decide) (hs.low i)
  have e0 := e 0
  have e1 := e 1
  have e2 := e 2
  have e3 := e 3
  have hsg : IntKind.u64.signed = false := rfl
  unfold setL
  simp only
  clear e hs
  generalize (18446744073709551615 ^^^ ws 0) = y0 at *
  generalize (18446744073709551615 ^^^ ws 1) = y1 at *
  generalize (18446744073709551615 ^^^ ws 2) = y2 at *
  generalize (18446744073709551615 ^^^ ws 3) = y3 at *
  generalize ws 0 = x0 at *
  generalize ws 1 = x1 at *
  generalize ws 2 = x2 at *
  generalize ws 3 = x3 at *
  go_enter Tryz.func101, Tryz.ntmps101
  go_wp2_with fail
  refine bodyPost_ret (results_cell (p := 2) (by kernel_rfl) _ _ (w.heap.size + 1) 107 #[.int .u64 (y0 : Int), .int .u64 (y1 : Int), .int .u64 (y2 : Int), .int .u64 (y3 : Int)] (0, 0) _ rfl ?_ Tryz.underlying107 rfl (by kernel_rfl)) rfl ⟨rfl, ?_⟩
  · have := BL.new (w.alloc (.cells #[.int .u64 (x0 : Int), .int .u64 (x1 : Int), .int .u64 (x2 : Int), .int .u64 (x3 : Int)] 107)) 107 [.int .u64 (y0 : Int), .int .u64 (y1 : Int), .int .u64 (y2 : Int), .int .u64 (y3 : Int)]
    rw [size_alloc] at this
    exact this
  · exact ((Below.refl _ _).alloc (Nat.le_refl _) _).alloc (by simp) _
/-- The bytes from low to below j, besides. -/
def upto (f : UInt8 → Bool) (low j : Nat) : UInt8 → Bool := fun c => f c || (decide (low ≤ c.toNat) && decide (c.toNat < j))
theorem upto_start (f : UInt8 → Bool) (lo : Nat) (c : UInt8) : upto f lo lo c = f c := by
  unfold upto
  by_cases hx : lo ≤ c.toNat
  · rw [decide_eq_false (show ¬ c.toNat < lo by omega), Bool.and_false, Bool.or_false]
  · rw [decide_eq_false hx, Bool.false_and, Bool.or_false]
theorem SetIs.more {ws : Nat → Nat} {f : UInt8 → Bool} {low j : Nat} (h : SetIs ws (upto f low j)) (hj : low ≤ j) : SetIs (upd ws (j / 64) (ws (j / 64) ||| 2 ^ (j % 64))) (upto f low (j + 1)) := by
  refine (h.add j).same fun c => ?_
  unfold upto
  rw [Bool.or_assoc]
  congr 1
  by_cases h1 : c.toNat = j
  · rw [decide_eq_true h1, decide_eq_true (show low ≤ c.toNat by omega), decide_eq_true (show c.toNat < j + 1 by omega)]
    simp
  · rw [decide_eq_false h1, Bool.or_false]
    congr 1
    by_cases h2 : c.toNat < j
    · rw [decide_eq_true h2, decide_eq_true (by omega)]
    · rw [decide_eq_false h2, decide_eq_false (by omega)]
set_option maxRecDepth 100000 in
set_option maxHeartbeats 4000000 in
theorem put_any {w : World} {b : Nat} {t : TypeId} {pre : List Value} {ws : Nat → Nat} {f : UInt8 → Bool} (h : BL w b t (pre ++ setL ws)) (hs : SetIs ws f) (low high : UInt8) :
    Calls Tryz.prog 103 #[.pointer (some ⟨b, pre.length, none⟩), .int .u8 (low.toNat : Int), .int .u8 (high.toNat : Int)] w fun e w' => e = .returned (.tuple #[]) ∧ ∃ ws', BL w' b t (pre ++ setL ws') ∧ SetIs ws' (upto f low.toNat (max low.toNat (high.toNat + 1))) ∧ Only [b] w w' := by
  have hl := UInt8.toNat_lt low
  have hh := UInt8.toNat_lt high
  obtain ⟨o, ho⟩ : ∃ o, pre.length = o := ⟨_, rfl⟩
  rw [ho]
  have H := Lib.hid h
  have HS := Lib.hid hs
  have HO := Lib.hid ho
  have hw : IntKind.i64.wrap (low.toNat : Int) = (low.toNat : Int) := IntWalk.i64_in _ ⟨by omega, by omega⟩
  have hw2 : IntKind.i64.wrap (high.toNat : Int) = (high.toNat : Int) := IntWalk.i64_in _ ⟨by omega, by omega⟩
  have HRES := Lib.hid (fun (Q : Nat → Prop) (a : Q (max low.toNat (high.toNat + 1))) => a)
  clear h hs ho
  generalize low.toNat = lo at *
  generalize high.toNat = hi at *
  go_enter Tryz.func103, Tryz.ntmps103
  go_wp2_with fail
  go_loopw [6] (fun i wr => ∃ (j : Nat) (ws' : Nat → Nat), lo ≤ j ∧ (j ≤ lo ∨ j ≤ hi + 1) ∧ i = .int .i64 (j : Int) ∧ BL wr b t (pre ++ setL ws') ∧ SetIs ws' (upto f lo j) ∧ Only [b] w wr) (fun i _ => hi + 1 - (intOf i).toNat)
  case atStart => exact ⟨lo, ws, Nat.le_refl _, .inl (Nat.le_refl _), rfl, H.out, HS.out.same (fun c => (upto_start f lo c).symm), Only.refl _ _⟩
  case round =>
    obtain ⟨j, ws', hj1, hj2, rfl, hbl, hset, hon⟩ := hrel
    by_cases hle : j ≤ hi
    · have j1 : (j : Int) ≤ (hi : Int) := by omega
      have h1 : ((j : Int).tdiv 64) = ((j / 64 : Nat) : Int) := by rw [Int.tdiv_eq_ediv_of_nonneg (by omega)]; omega
      have h2 : ((j : Int).tmod 64) = ((j % 64 : Nat) : Int) := by rw [Int.tmod_eq_emod_of_nonneg (by omega)]; omega
      have h3 : j / 64 < 4 := by omega
      have h4 : j % 64 < 64 := by omega
      have c0 : wr.cell? ⟨b, o + j / 64, none⟩ = some (.int .u64 (ws' (j / 64) : Int)) := by rw [hbl.cell, ← HO.out]; exact setL_at ws' pre _ h3
      have c0f := hbl.frozen (o + j / 64)
      have hsh : (2 : Int) ^ (j % 64) = ((2 ^ (j % 64) : Nat) : Int) := pow_cast _
      have hor := u64_or (ws' (j / 64)) (2 ^ (j % 64)) (hset.low _) (Nat.pow_lt_pow_right (by decide) (show j % 64 < 64 by omega))
      have hzl : 2 ^ (j % 64) < 18446744073709551616 := Nat.pow_lt_pow_right (by decide) (show j % 64 < 64 by omega)
      have hwz : IntKind.u64.wrap ((2 ^ (j % 64) : Nat) : Int) = ((2 ^ (j % 64) : Nat) : Int) := wrap_nat _ hzl
      clear hzl
      have HSET := Lib.hid (hset.more hj1)
      have HBL := Lib.hid (hbl.set_ (o + j / 64) (.int .u64 ((ws' (j / 64) ||| 2 ^ (j % 64) : Nat) : Int)))
      have HON := Lib.hid hon
      have hsg : IntKind.u64.signed = false := rfl
      clear hset hbl hon
      generalize (ws' (j / 64) ||| 2 ^ (j % 64)) = y at *
      generalize ws' (j / 64) = x at *
      obtain ⟨q, hq⟩ : ∃ q, q = j / 64 := ⟨_, rfl⟩
      rw [← hq] at h1 h3 c0 c0f HBL HSET
      have HQ := Lib.hid hq
      clear hq
      generalize 2 ^ (j % 64) = z at *
      generalize j % 64 = r at *
      go_wp2_with fail
      go_region
      all_goals go_wp2_with fail
      go_roundw
      case measure => simp [intOf]; omega
      case rel =>
        have e := setL_set ws' pre q y h3
        rw [HO.out] at e
        have hb := HBL.out
        rw [e] at hb
        exact ⟨j + 1, upd ws' q y, by omega, .inr (by omega), by go_num, hb, HSET.out, (HON.out.setCell (p := ⟨b, o + q, none⟩) (.inl (by simp)) _).drew⟩
    · have j1 : ¬ (j : Int) ≤ (hi : Int) := by omega
      have HR : Hid (BL wr b t (pre ++ setL ws') ∧ SetIs ws' (upto f lo (max lo (hi + 1))) ∧ Only [b] w wr) := by
        refine ⟨hbl, ?_, hon⟩
        have e : max lo (hi + 1) = j := by omega
        rw [e]; exact hset
      clear hbl hset hon
      go_wp2_with fail
      exact body_end rfl rfl ⟨rfl, _, HR.out⟩
end Go.Proofs.YtbiinghmopgjnaaGreatDoor.Fmt
