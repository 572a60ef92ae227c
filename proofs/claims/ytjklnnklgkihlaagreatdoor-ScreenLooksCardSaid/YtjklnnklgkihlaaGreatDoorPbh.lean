/- Package style's escapes, in a screen's words: they turn the one look into the other. Plain words alone. -/
import Derived.Test.YtjklnnklgkihlaaGreatDoorPNsm
import Derived.Test.YtjklnnklgkihlaaGreatDoorPStl
namespace Go.Proofs.YtjklnnklgkihlaaGreatDoor.Scr
open Go.RowKit Cel Grd

/-! ### Numbers as bytes -/
theorem nums1_app (a b : List Int) : Vt.nums1 (a ++ b) = Vt.nums1 a ++ Vt.nums1 b := by
  induction a with
  | nil => rfl
  | cons x a ih => simp [Vt.nums1, ih]
theorem nums1_ne {a : List Int} (h : a ≠ []) : Vt.nums1 a = 59 :: Vt.nums a := by
  cases a with
  | nil => exact absurd rfl h
  | cons x a => rfl
theorem nums_app {a : List Int} (h : a ≠ []) (b : List Int) : Vt.nums (a ++ b) = Vt.nums a ++ Vt.nums1 b := by
  cases a with
  | nil => exact absurd rfl h
  | cons x a => simp [Vt.nums, nums1_app]
theorem tail_nums (L : List (List Int)) (h : ∀ x ∈ L, x ≠ []) : Lib.joinTail [59] (L.map Vt.nums) = Vt.nums1 L.flatten := by
  induction L with
  | nil => rfl
  | cons x L ih =>
    have := ih fun y hy => h y (by simp [hy])
    unfold Lib.joinTail at this ⊢
    rw [List.flatten_cons, nums1_app, nums1_ne (h x (by simp)), List.map_cons, List.map_cons, List.flatten_cons, this]
    rfl
theorem join_nums (L : List (List Int)) (h : ∀ x ∈ L, x ≠ []) : Lib.join (L.map Vt.nums) [59] = Vt.nums L.flatten := by
  cases L with
  | nil => rfl
  | cons x L =>
    rw [List.map_cons, Lib.join_cons, tail_nums L fun y hy => h y (by simp [hy]), List.flatten_cons, nums_app (h x (by simp))]
theorem num1_dec (p : Int) (h0 : 0 ≤ p) (h1 : p < 1000) : Vt.num1 p = Sty.dec p.toNat := by
  obtain ⟨n, rfl⟩ : ∃ n : Nat, p = (n : Int) := ⟨p.toNat, by omega⟩
  unfold Vt.num1
  rw [if_neg (by omega), Sty.itoa_dec n (by omega), Int.toNat_natCast]
/-- The number of an attribute; the numbers of a colour. -/
def dI (i : Nat) : Int := ([1, 2, 3, 4, 5, 7, 8, 9] : List Int).getD i 0
def codeN (c f : Int) : List Int :=
  if c = -1 then [f + 9]
  else if c < 8 then [f + c]
  else if c < 16 then [f + 52 + c]
  else if c ≤ 255 then [f + 8, 5, c]
  else [f + 8, 2, (c - 16777216) / 65536, (c - 16777216) / 256 % 256, (c - 16777216) % 256]
theorem dI_in : ∀ i, i < 8 → 0 < dI i ∧ dI i < 10 := by decide
theorem digit_nums (i : Nat) (hi : i < 8) : Sty.digitAt i = Vt.nums [dI i] := by
  have h := dI_in i hi
  show _ = Vt.num1 (dI i) ++ []
  rw [num1_dec _ (by omega) (by omega), List.append_nil]
  exact (by decide : ∀ i, i < 8 → Sty.digitAt i = Sty.dec (dI i).toNat) i hi
theorem codeN_nums (c f : Int) (hc : Sty.isCol c = true) (hf : f = 30 ∨ f = 40) : Sty.codeS c f = Vt.nums (codeN c f) := by
  rw [Sty.isCol_iff] at hc
  unfold Sty.codeS codeN
  split
  · show _ = Vt.num1 (f + 9) ++ []
    rw [num1_dec _ (by omega) (by omega), List.append_nil]
  split
  · show _ = Vt.num1 (f + c) ++ []
    rw [num1_dec _ (by omega) (by omega), List.append_nil]
  split
  · show _ = Vt.num1 (f + 52 + c) ++ []
    rw [num1_dec _ (by omega) (by omega), List.append_nil]
  split
  · show _ = Vt.num1 (f + 8) ++ 59 :: (Vt.num1 5 ++ 59 :: (Vt.num1 c ++ []))
    rw [num1_dec _ (by omega) (by omega), num1_dec 5 (by omega) (by omega), num1_dec c (by omega) (by omega), List.append_nil, List.append_assoc]
    rfl
  · show _ = Vt.num1 (f + 8) ++ 59 :: (Vt.num1 2 ++ 59 :: (Vt.num1 ((c - 16777216) / 65536) ++ 59 :: (Vt.num1 ((c - 16777216) / 256 % 256) ++ 59 :: (Vt.num1 ((c - 16777216) % 256) ++ []))))
    rw [num1_dec (f + 8) (by omega) (by omega), num1_dec 2 (by omega) (by omega), num1_dec ((c - 16777216) / 65536) (by omega) (by omega), num1_dec ((c - 16777216) / 256 % 256) (by omega) (by omega), num1_dec ((c - 16777216) % 256) (by omega) (by omega), List.append_nil]
    simp only [List.append_assoc]
    rfl
theorem codeN_in (c f : Int) (hc : Sty.isCol c = true) (hf : f = 30 ∨ f = 40) : codeN c f ≠ [] ∧ (codeN c f).length ≤ 5 ∧ ∀ x ∈ codeN c f, 0 ≤ x ∧ x ≤ 9999 := by
  rw [Sty.isCol_iff] at hc
  unfold codeN
  split
  · exact ⟨by simp, by simp, fun x hx => by simp at hx; omega⟩
  split
  · exact ⟨by simp, by simp, fun x hx => by simp at hx; omega⟩
  split
  · exact ⟨by simp, by simp, fun x hx => by simp at hx; omega⟩
  split
  · exact ⟨by simp, by simp, fun x hx => by simp at hx; omega⟩
  · exact ⟨by simp, by simp, fun x hx => by simp at hx; omega⟩

/-! ### What they turn -/
theorem turned_hue (s : Grd.St) (x : Int) (h : 30 ≤ x) : turnedP s x = hueP s x := by
  unfold turnedP
  rw [if_neg (by omega), if_neg (by omega), if_neg (by omega), if_neg (by omega)]
theorem colP_no {n : Int} (h : n < 0 ∨ 9 < n ∧ n < 60 ∨ 68 ≤ n) : (colP n).2 = false := by
  unfold colP
  rw [if_neg (by omega), if_neg (by omega), if_neg (by omega)]
theorem colP_low {n : Int} (h0 : 0 ≤ n) (h1 : n < 8) : colP n = (n, true) := by unfold colP; rw [if_pos ⟨h0, h1⟩]
theorem colP_nine : colP 9 = (-1, true) := by decide
theorem colP_hi {n : Int} (h0 : 60 ≤ n) (h1 : n < 68) : colP n = (n - 60 + 8, true) := by
  unfold colP; rw [if_neg (by omega), if_neg (by omega), if_pos ⟨h0, h1⟩]
theorem hue_fg (s : Grd.St) (x c : Int) (h1 : colP (x - 30) = (c, true)) (h2 : (colP (x - 40)).2 = false) : hueP s x = (c, s.2.1, s.2.2) := by
  unfold hueP
  rw [h1, h2]
  rfl
theorem hue_bg (s : Grd.St) (x c : Int) (h1 : colP (x - 40) = (c, true)) (h2 : (colP (x - 30)).2 = false) : hueP s x = (s.1, c, s.2.2) := by
  unfold hueP
  rw [h1, h2]
  rfl
theorem mixP_5 (f c was : Int) (l : List Int) (h : c ≤ 255) : mixP (f :: 5 :: c :: l) was = (c, 3) := by
  unfold mixP
  rw [if_pos ⟨by simp, rfl, h⟩]
  rfl
theorem mixP_2 (f r g b was : Int) (l : List Int) (h1 : r ≤ 255) (h2 : g ≤ 255) (h3 : b ≤ 255) : mixP (f :: 2 :: r :: g :: b :: l) was = (16777216 + r * 65536 + g * 256 + b, 5) := by
  unfold mixP
  rw [if_neg (fun h => absurd (show (2 : Int) = 5 from h.2.1) (by decide)), if_pos ⟨by simp, rfl, h1, h2, h3⟩]
  rfl
theorem pen_fg (c : Int) (hc : Sty.isCol c = true) (s q : Grd.St) (l : List Int) (h : PenR (c, s.2.1, s.2.2) l q) : PenR s (codeN c 30 ++ l) q := by
  rw [Sty.isCol_iff] at hc
  unfold codeN
  split
  · rename_i h1
    refine .one (by decide) (by decide) ?_
    rw [turned_hue _ _ (by omega), hue_fg _ _ (-1) colP_nine (colP_no (by omega))]
    rw [h1] at h
    exact h
  split
  · refine .one (by omega) (by omega) ?_
    rw [turned_hue _ _ (by omega), hue_fg _ _ c (by rw [show 30 + c - 30 = c by omega]; exact colP_low (by omega) (by omega)) (colP_no (by omega))]
    exact h
  split
  · refine .one (by omega) (by omega) ?_
    rw [turned_hue _ _ (by omega), hue_fg _ _ c (by rw [colP_hi (by omega) (by omega)]; simp; omega) (colP_no (by omega))]
    exact h
  split
  · refine .fg ?_
    show PenR ((mixP (38 :: 5 :: c :: l) s.1).1, s.2.1, s.2.2) ((38 :: 5 :: c :: l).drop (mixP (38 :: 5 :: c :: l) s.1).2) q
    rw [mixP_5 _ _ _ _ (by omega)]
    exact h
  · refine .fg ?_
    have e : 16777216 + (c - 16777216) / 65536 * 65536 + (c - 16777216) / 256 % 256 * 256 + (c - 16777216) % 256 = c := by omega
    generalize hr : (c - 16777216) / 65536 = r at *
    generalize hg : (c - 16777216) / 256 % 256 = g at *
    generalize hb : (c - 16777216) % 256 = b at *
    show PenR ((mixP (38 :: 2 :: r :: g :: b :: l) s.1).1, s.2.1, s.2.2) ((38 :: 2 :: r :: g :: b :: l).drop (mixP (38 :: 2 :: r :: g :: b :: l) s.1).2) q
    rw [mixP_2 _ _ _ _ _ _ (by omega) (by omega) (by omega), e]
    exact h
theorem pen_bg (c : Int) (hc : Sty.isCol c = true) (s q : Grd.St) (l : List Int) (h : PenR (s.1, c, s.2.2) l q) : PenR s (codeN c 40 ++ l) q := by
  rw [Sty.isCol_iff] at hc
  unfold codeN
  split
  · rename_i h1
    refine .one (by decide) (by decide) ?_
    rw [turned_hue _ _ (by omega), hue_bg _ _ (-1) colP_nine (colP_no (by omega))]
    rw [h1] at h
    exact h
  split
  · refine .one (by omega) (by omega) ?_
    rw [turned_hue _ _ (by omega), hue_bg _ _ c (by rw [show 40 + c - 40 = c by omega]; exact colP_low (by omega) (by omega)) (colP_no (by omega))]
    exact h
  split
  · refine .one (by omega) (by omega) ?_
    rw [turned_hue _ _ (by omega), hue_bg _ _ c (by rw [colP_hi (by omega) (by omega)]; simp; omega) (colP_no (by omega))]
    exact h
  split
  · refine .bg ?_
    show PenR (s.1, (mixP (48 :: 5 :: c :: l) s.2.1).1, s.2.2) ((48 :: 5 :: c :: l).drop (mixP (48 :: 5 :: c :: l) s.2.1).2) q
    rw [mixP_5 _ _ _ _ (by omega)]
    exact h
  · refine .bg ?_
    have e : 16777216 + (c - 16777216) / 65536 * 65536 + (c - 16777216) / 256 % 256 * 256 + (c - 16777216) % 256 = c := by omega
    generalize hr : (c - 16777216) / 65536 = r at *
    generalize hg : (c - 16777216) / 256 % 256 = g at *
    generalize hb : (c - 16777216) % 256 = b at *
    show PenR (s.1, (mixP (48 :: 2 :: r :: g :: b :: l) s.2.1).1, s.2.2) ((48 :: 2 :: r :: g :: b :: l).drop (mixP (48 :: 2 :: r :: g :: b :: l) s.2.1).2) q
    rw [mixP_2 _ _ _ _ _ _ (by omega) (by omega) (by omega), e]
    exact h
theorem bits_or (a b : Nat) (ha : a < 256) (hb : b < 256) : bits .or .i64 (a : Int) (b : Int) = ((a ||| b : Nat) : Int) := by
  have h : a ||| b < 2 ^ 8 := Nat.or_lt_two_pow (by omega) (by omega)
  unfold bits
  simp only [IntKind.bits, BitVec.ofInt_natCast]
  have e : (BitVec.ofNat 64 a ||| BitVec.ofNat 64 b).toNat = a ||| b := by
    rw [BitVec.toNat_or, BitVec.toNat_ofNat, BitVec.toNat_ofNat, Nat.mod_eq_of_lt (by omega : a < 2 ^ 64), Nat.mod_eq_of_lt (by omega : b < 2 ^ 64)]
  exact (congrArg (fun n : Nat => IntKind.i64.wrap (n : Int)) e).trans (Sty.i64_small ((a ||| b : Nat) : Int) (Int.natCast_nonneg _) (by omega))
theorem turned_dI (s1 s2 : Int) (a : Nat) (ha : a < 256) (i : Nat) (hi : i < 8) : turnedP (s1, s2, (a : Int)) (dI i) = (s1, s2, ((a ||| 2 ^ i : Nat) : Int)) := by
  have h := dI_in i hi
  have e1 : (colP (dI i - 30)).2 = false := colP_no (by omega)
  have e2 : (colP (dI i - 40)).2 = false := colP_no (by omega)
  have e3 : attrs.getD (dI i).toNat 0 = ((2 ^ i : Nat) : Int) := (by decide : ∀ i, i < 8 → attrs.getD (dI i).toNat 0 = ((2 ^ i : Nat) : Int)) i hi
  have hp : 2 ^ i < 256 := (by decide : ∀ i, i < 8 → 2 ^ i < 256) i hi
  unfold turnedP hueP
  rw [if_neg (by omega), if_pos (by omega), e1, e2, e3, bits_or a (2 ^ i) ha hp]
  rfl
/-- The attributes, turned on. -/
def onAll (a : Nat) (l : List Nat) : Nat := l.foldl (fun x i => x ||| 2 ^ i) a
theorem or_lt {a i : Nat} (ha : a < 256) (hi : i < 8) : a ||| 2 ^ i < 256 :=
  Nat.or_lt_two_pow (n := 8) (by omega) (Nat.pow_lt_pow_right (by decide) hi)
theorem pen_on (s1 s2 : Int) (q : Grd.St) (r : List Int) : ∀ (l : List Nat) (a : Nat), a < 256 → (∀ i ∈ l, i < 8) → PenR (s1, s2, ((onAll a l : Nat) : Int)) r q → PenR (s1, s2, (a : Int)) ((l.map fun i => [dI i]).flatten ++ r) q
  | [], a, _, _, h => h
  | i :: l, a, ha, hl, h => by
    have hi := hl i (by simp)
    have hd := dI_in i hi
    show PenR (s1, s2, (a : Int)) (dI i :: ((l.map fun i => [dI i]).flatten ++ r)) q
    refine .one (by omega) (by omega) ?_
    rw [turned_dI s1 s2 a ha i hi]
    exact pen_on s1 s2 q r l (a ||| 2 ^ i) (or_lt ha hi) (fun j hj => hl j (by simp [hj])) h
theorem onAll_bit (j : Nat) : ∀ (l : List Nat) (a : Nat), (onAll a l).testBit j = (a.testBit j || decide (j ∈ l))
  | [], a => by simp [onAll]
  | i :: l, a => by
    show (onAll (a ||| 2 ^ i) l).testBit j = _
    rw [onAll_bit j l, Nat.testBit_or, Nat.testBit_two_pow]
    simp only [List.mem_cons]
    by_cases h : i = j
    · subst h; simp
    · have h2 : ¬ j = i := fun e => h e.symm
      simp [h, h2]
theorem bit_far {a j : Nat} (ha : a < 256) (hj : 8 ≤ j) : a.testBit j = false :=
  Nat.testBit_lt_two_pow (Nat.lt_of_lt_of_le ha (by
    have : (2 : Nat) ^ 8 ≤ 2 ^ j := Nat.pow_le_pow_right (by decide) hj
    omega))
/-- Those that are lacking. -/
def lack (t g : Nat) : List Nat := (List.range 8).filter fun i => Sty.onN t i && !Sty.onN g i
theorem onAll_lack (t g : Nat) (ht : t < 256) (hg : g < 256) (h : Sty.an g t = 0) : onAll g (lack t g) = t := by
  apply Nat.eq_of_testBit_eq
  intro j
  rw [onAll_bit]
  by_cases hj : j < 8
  · have h2 := Sty.an_on g t j (by omega)
    rw [h] at h2
    have h3 : Sty.onN 0 j = false := by rw [Sty.onN_bit]; simp
    rw [h3, Sty.onN_bit, Sty.onN_bit] at h2
    have h4 : decide (j ∈ lack t g) = (t.testBit j && !g.testBit j) := by
      unfold lack
      rw [← Sty.onN_bit, ← Sty.onN_bit]
      simp [hj]
    rw [h4]
    cases hgj : g.testBit j <;> cases htj : t.testBit j <;> simp_all
  · have h5 : ¬ j ∈ lack t g := fun hm => by
      unfold lack at hm
      simp at hm
      omega
    rw [bit_far ht (by omega), bit_far hg (by omega)]
    simp [h5]

/-! ### An escape -/
def codesL (f t : Grd.St) : List (List Int) :=
  let clr := decide (Sty.an f.2.2.toNat t.2.2.toNat ≠ 0)
  let g : Grd.St := if clr = true then (-1, -1, 0) else f
  (if clr = true then [[0]] else []) ++ (lack t.2.2.toNat g.2.2.toNat).map (fun i => [dI i]) ++ (if t.1 ≠ g.1 then [codeN t.1 30] else []) ++ (if t.2.1 ≠ g.2.1 then [codeN t.2.1 40] else [])
theorem lack_in (t g : Nat) : ∀ i ∈ lack t g, i < 8 := fun i hi => by
  unfold lack at hi
  simp at hi
  exact hi.1
theorem lack_len (t g : Nat) : (lack t g).length ≤ 8 := by
  unfold lack
  have := List.length_filter_le (fun i => Sty.onN t i && !Sty.onN g i) (List.range 8)
  simpa using this
theorem map_if {α β : Type} (p : Prop) [Decidable p] (f : α → β) (x : α) : (if p then [x] else []).map f = if p then [f x] else [] := by split <;> rfl
theorem mem_if {α : Type} {p : Prop} [Decidable p] {x y : α} (h : x ∈ if p then [y] else []) : x = y := by
  split at h
  · simpa using h
  · simp at h
theorem codesL_map (f t : Grd.St) (h1 : Sty.isCol t.1 = true) (h2 : Sty.isCol t.2.1 = true) : Sty.codesOf f t = (codesL f t).map Vt.nums := by
  have hz : ([48] : List UInt8) = Vt.nums [0] := by
    show _ = Vt.num1 0 ++ []
    rw [num1_dec 0 (by decide) (by decide), List.append_nil]
    decide
  have hm : ∀ a b, Sty.onCodes a b 8 = ((lack a b).map fun i => [dI i]).map Vt.nums := fun a b => by
    unfold Sty.onCodes lack
    rw [List.map_map]
    refine List.map_congr_left fun i hi => ?_
    exact digit_nums i (by simp at hi; exact hi.1)
  unfold Sty.codesOf codesL
  simp only [List.map_append, map_if, ← hm, ← codeN_nums _ _ h1 (.inl rfl), ← codeN_nums _ _ h2 (.inr rfl), ← hz]
theorem codesL_ne (f t : Grd.St) (h1 : Sty.isCol t.1 = true) (h2 : Sty.isCol t.2.1 = true) : ∀ x ∈ codesL f t, x ≠ [] := by
  have c1 := (codeN_in t.1 30 h1 (.inl rfl)).1
  have c2 := (codeN_in t.2.1 40 h2 (.inr rfl)).1
  intro x hx
  unfold codesL at hx
  simp only [List.mem_append, List.mem_map] at hx
  rcases hx with ((hx | ⟨i, _, rfl⟩) | hx) | hx
  · rw [mem_if hx]; simp
  · simp
  · rw [mem_if hx]; exact c1
  · rw [mem_if hx]; exact c2
theorem flat_len (l : List Nat) : ((l.map fun i => [dI i]).flatten).length = l.length := by
  induction l with
  | nil => rfl
  | cons i l ih => rw [List.map_cons, List.flatten_cons, List.length_append, ih]; simp; omega
theorem codesL_in (f t : Grd.St) (h1 : Sty.isCol t.1 = true) (h2 : Sty.isCol t.2.1 = true) : (codesL f t).flatten.length ≤ 32 ∧ ∀ x ∈ (codesL f t).flatten, 0 ≤ x ∧ x ≤ 9999 := by
  obtain ⟨_, c1, d1⟩ := codeN_in t.1 30 h1 (.inl rfl)
  obtain ⟨_, c2, d2⟩ := codeN_in t.2.1 40 h2 (.inr rfl)
  refine ⟨?_, fun x hx => ?_⟩
  · unfold codesL
    simp only [List.flatten_append, List.length_append]
    rw [flat_len]
    have hl := lack_len t.2.2.toNat (if decide (Sty.an f.2.2.toNat t.2.2.toNat ≠ 0) = true then ((-1, -1, 0) : Grd.St) else f).2.2.toNat
    have k1 : ∀ (p : Prop) [Decidable p], (if p then [([0] : List Int)] else []).flatten.length ≤ 1 := fun p _ => by split <;> simp
    have k2 : ∀ (p : Prop) [Decidable p], (if p then [codeN t.1 30] else []).flatten.length ≤ 5 := fun p _ => by split <;> simp <;> omega
    have k3 : ∀ (p : Prop) [Decidable p], (if p then [codeN t.2.1 40] else []).flatten.length ≤ 5 := fun p _ => by split <;> simp <;> omega
    have a1 := k1 (decide (Sty.an f.2.2.toNat t.2.2.toNat ≠ 0) = true)
    have a2 := k2 (t.1 ≠ (if decide (Sty.an f.2.2.toNat t.2.2.toNat ≠ 0) = true then ((-1, -1, 0) : Grd.St) else f).1)
    have a3 := k3 (t.2.1 ≠ (if decide (Sty.an f.2.2.toNat t.2.2.toNat ≠ 0) = true then ((-1, -1, 0) : Grd.St) else f).2.1)
    omega
  · obtain ⟨y, hy, hxy⟩ := List.mem_flatten.1 hx
    unfold codesL at hy
    simp only [List.mem_append, List.mem_map] at hy
    rcases hy with ((hy | ⟨i, hi, rfl⟩) | hy) | hy
    · rw [mem_if hy] at hxy
      simp at hxy; omega
    · have := dI_in i (lack_in _ _ i hi)
      simp at hxy
      omega
    · rw [mem_if hy] at hxy
      exact d1 x hxy
    · rw [mem_if hy] at hxy
      exact d2 x hxy
theorem pen_codes (f t : Grd.St) (hf : Sty.rightS f.1 f.2.1 f.2.2 = true) (ht : Sty.rightS t.1 t.2.1 t.2.2 = true) : PenR f (codesL f t).flatten t := by
  obtain ⟨f1, f2, f3⟩ := f
  obtain ⟨t1, t2, t3⟩ := t
  obtain ⟨_, _, f30, f31⟩ := Sty.rightS_parts hf
  obtain ⟨ht1, ht2, t30, t31⟩ := Sty.rightS_parts ht
  simp only at f30 f31 t30 t31 ht1 ht2
  obtain ⟨fa, rfl⟩ : ∃ n : Nat, f3 = (n : Int) := ⟨f3.toNat, by omega⟩
  obtain ⟨ta, rfl⟩ : ∃ n : Nat, t3 = (n : Int) := ⟨t3.toNat, by omega⟩
  have key : ∀ (g1 g2 : Int) (ga : Nat), ga < 256 → Sty.an ga ta = 0 → PenR (g1, g2, (ga : Int)) (((lack ta ga).map fun i => [dI i]).flatten ++ ((if t1 ≠ g1 then [codeN t1 30] else []).flatten ++ (if t2 ≠ g2 then [codeN t2 40] else []).flatten)) (t1, t2, (ta : Int)) := fun g1 g2 ga hga han => by
    refine pen_on g1 g2 _ _ _ ga hga (lack_in _ _) ?_
    rw [onAll_lack ta ga (by omega) hga han]
    by_cases e1 : t1 = g1
    · subst e1
      rw [if_neg (by simp)]
      by_cases e2 : t2 = g2
      · subst e2
        rw [if_neg (by simp)]
        exact .nil _
      · rw [if_pos e2]
        show PenR _ (codeN t2 40 ++ []) _
        exact pen_bg t2 ht2 _ _ _ (.nil _)
    · rw [if_pos e1]
      show PenR _ ((codeN t1 30 ++ []) ++ _) _
      rw [List.append_nil]
      refine pen_fg t1 ht1 _ _ _ ?_
      by_cases e2 : t2 = g2
      · subst e2
        rw [if_neg (by simp)]
        exact .nil _
      · rw [if_pos e2]
        show PenR _ (codeN t2 40 ++ []) _
        exact pen_bg t2 ht2 _ _ _ (.nil _)
  unfold codesL
  by_cases hc : Sty.an fa ta = 0
  · have e : decide (Sty.an fa ta ≠ 0) = false := by simp [hc]
    simp only [Int.toNat_natCast, e, Bool.false_eq_true, if_false, List.nil_append, List.flatten_append, List.append_assoc]
    exact key f1 f2 fa (by omega) hc
  · have e : decide (Sty.an fa ta ≠ 0) = true := by simp [hc]
    simp only [Int.toNat_natCast, e, if_true, List.flatten_append, List.append_assoc]
    have h0 : Sty.an 0 ta = 0 := Nat.le_zero.1 (Sty.an_le 0 ta (by decide))
    refine .one (by decide) (by decide) ?_
    exact key (-1) (-1) 0 (by decide) h0
theorem codesP_same (l : List Int) (hn : l ≠ []) (h : ∀ x ∈ l, 0 ≤ x ∧ x ≤ 9999) : codesP l = l := by
  have hl := List.length_pos_iff.2 hn
  apply List.ext_getElem
  · rw [codesP_len]; omega
  · intro i h1 h2
    have hx := h l[i] (List.getElem_mem h2)
    have e : (codesP l)[i]? = l[i]? := by
      unfold codesP
      rw [List.getElem?_map, List.getElem?_range (by omega), List.getElem?_eq_getElem h2]
      show some (parP l i 0) = _
      unfold parP
      rw [getD_at h2, if_pos ⟨h2, hx.1⟩, Int.min_eq_left hx.2]
    rw [List.getElem?_eq_getElem h1, List.getElem?_eq_getElem h2] at e
    exact Option.some.inj e
/-- Package style's escape turns the one pen into the other. -/
theorem sgr_turns (f t : Grd.St) (hf : Sty.rightS f.1 f.2.1 f.2.2 = true) (ht : Sty.rightS t.1 t.2.1 t.2.2 = true) : Turns (Sty.sgrS f t) f t := by
  by_cases he : f = t
  · refine .inl ⟨?_, he⟩
    unfold Sty.sgrS
    rw [if_pos he]
  · obtain ⟨ht1, ht2, _, _⟩ := Sty.rightS_parts ht
    have hp := pen_codes f t hf ht
    obtain ⟨hl, hb⟩ := codesL_in f t ht1 ht2
    have hn : (codesL f t).flatten ≠ [] := fun e => by
      rw [e] at hp
      cases hp
      exact he rfl
    have hcp := codesP_same _ hn hb
    refine .inr ⟨(codesL f t).flatten, ?_, by rw [hcp]; exact hb, ?_, by rw [hcp]; exact hp⟩
    · generalize (codesL f t).flatten = l at *
      unfold Vt.arep
      simp only [Bool.and_eq_true, List.all_eq_true, decide_eq_true_eq, Bool.or_eq_true, bne_iff_ne]
      refine ⟨fun p hpm => by have := hb p hpm; omega, hl, .inr ?_⟩
      cases l with
      | nil => exact absurd rfl hn
      | cons x l =>
        have := hb x (by simp)
        show x ≠ -1
        omega
    · unfold Sty.sgrS escT
      rw [if_neg he, codesL_map f t ht1 ht2, join_nums _ (codesL_ne f t ht1 ht2)]
      rfl
/-- CSI m without numbers. -/
theorem bare_turns (p : Grd.St) : Turns [27, 91, 109] p (-1, -1, 0) :=
  .inr ⟨[], rfl, codesP_in [], rfl, .one (by decide) (by decide) (.nil _)⟩
end Go.Proofs.YtjklnnklgkihlaaGreatDoor.Scr
