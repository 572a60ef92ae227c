/- Layer 3 in plain words: which texts name which colours. No word of the model. -/
import Derived.Test.YtajnlbfhcbkopaaDoorSp
namespace Go.Proofs.YtajnlbfhcbkopaaDoor.Sty

theorem hx_inj {a b : Nat} (ha : a < 16) (hb : b < 16) (h : hx a = hx b) : a = b := by
  have : ∀ a, a < 16 → ∀ b, b < 16 → hx a = hx b → a = b := by decide
  exact this a ha b hb h
theorem hexk_snoc (k a t : Nat) (ht : t < 16) : hexk (k + 1) (16 * a + t) = hexk k a ++ [hx t] := by
  induction k with
  | zero =>
    have e : (16 * a + t) % 16 = t := by omega
    simp [hexk, e]
  | succ k ih =>
    rw [hexk, ih]
    conv => rhs; rw [hexk]
    have e : (16 * a + t) / 16 ^ (k + 1) = a / 16 ^ k := by
      rw [Nat.pow_succ, Nat.mul_comm (16 ^ k) 16, ← Nat.div_div_eq_div_mul]
      congr 1
      omega
    rw [e]
    rfl
theorem hexk_mem (k n : Nat) (b : UInt8) (h : b ∈ hexk k n) : ∃ t, t < 16 ∧ b = hx t := by
  induction k with
  | zero => simp [hexk] at h
  | succ k ih =>
    rw [hexk, List.mem_cons] at h
    rcases h with h | h
    · exact ⟨_, Nat.mod_lt _ (by omega), h⟩
    · exact ih h
theorem hex6_inj {a b : Nat} (ha : a < 16777216) (hb : b < 16777216) (h : hexk 6 a = hexk 6 b) : a = b := by
  simp only [hexk, List.cons.injEq, Nat.reducePow, Nat.div_one, and_true] at h
  obtain ⟨h1, h2, h3, h4, h5, h6⟩ := h
  have e1 := hx_inj (by omega) (by omega) h1
  have e2 := hx_inj (by omega) (by omega) h2
  have e3 := hx_inj (by omega) (by omega) h3
  have e4 := hx_inj (by omega) (by omega) h4
  have e5 := hx_inj (by omega) (by omega) h5
  have e6 := hx_inj (by omega) (by omega) h6
  omega
def und (l : Tx) : Nat := l.foldl (fun a b => 10 * a + (b.toNat - 48)) 0
set_option maxRecDepth 100000 in
theorem und_dec : ∀ a, a < 256 → und (dec a) = a := by decide
theorem dec_inj {a b : Nat} (ha : a < 256) (hb : b < 256) (h : dec a = dec b) : a = b := by rw [← und_dec a ha, h, und_dec b hb]

/-- The small letters s are a name of the colour c. -/
def Names (s : Tx) (c : Int) : Prop := isCol c = true ∧ (s = name c ∨ (0 ≤ c ∧ c ≤ 255 ∧ (s = tColour ++ dec c.toNat ∨ s = tColor ++ dec c.toNat)))

def tColo : Tx := [99, 111, 108, 111]
theorem small_all : ∀ k : Nat, k < 17 → (name ((k : Int) - 1)).take 4 ≠ tColo ∧ (name ((k : Int) - 1)).head? ≠ some 35 ∧ name ((k : Int) - 1) ≠ [] := by decide
theorem small_inj : ∀ k : Nat, k < 17 → ∀ j : Nat, j < 17 → name ((k : Int) - 1) = name ((j : Int) - 1) → k = j := by decide
/-- The ways in which a text can name a colour. -/
theorem names_ways {s : Tx} {c : Int} (h : Names s c) :
    (∃ k : Nat, k < 17 ∧ c = (k : Int) - 1 ∧ s = name c) ∨ (∃ n : Nat, n < 256 ∧ c = n ∧ s = tColour ++ dec n) ∨ (∃ n : Nat, n < 256 ∧ c = n ∧ s = tColor ++ dec n) ∨ (∃ n : Nat, n < 16777216 ∧ c = (n : Int) + 16777216 ∧ s = 35 :: hexk 6 n) := by
  obtain ⟨hc, h⟩ := h
  rw [isCol_iff] at hc
  rcases h with h | ⟨h0, h1, h | h⟩
  · by_cases h16 : c < 16
    · exact .inl ⟨(c + 1).toNat, by omega, by omega, h⟩
    · by_cases h255 : c ≤ 255
      · refine .inr (.inl ⟨c.toNat, by omega, by omega, ?_⟩)
        rw [h, name_num (by omega) h255]
      · refine .inr (.inr (.inr ⟨(c - 16777216).toNat, by omega, by omega, ?_⟩))
        rw [h, name_rgb (by omega) (by omega)]
  · exact .inr (.inl ⟨c.toNat, by omega, by omega, h⟩)
  · exact .inr (.inr (.inl ⟨c.toNat, by omega, by omega, h⟩))
theorem take4_colour (d : Tx) : (tColour ++ d).take 4 = tColo := rfl
theorem take4_color (d : Tx) : (tColor ++ d).take 4 = tColo := rfl
theorem colour_color (d e : Tx) : tColour ++ d ≠ tColor ++ e := by
  intro h
  have := congrArg (fun l => l.take 5) h
  simp [tColour, tColor] at this
theorem names_uniq {s : Tx} {c d : Int} (h : Names s c) (k : Names s d) : c = d := by
  rcases names_ways h with ⟨a, ha, ec, es⟩ | ⟨a, ha, ec, es⟩ | ⟨a, ha, ec, es⟩ | ⟨a, ha, ec, es⟩ <;>
  rcases names_ways k with ⟨b, hb, ed, es2⟩ | ⟨b, hb, ed, es2⟩ | ⟨b, hb, ed, es2⟩ | ⟨b, hb, ed, es2⟩ <;> rw [es] at es2
  · rw [ec, ed] at es2; have := small_inj a ha b hb es2; omega
  · have := (small_all a ha).1; rw [← ec, es2] at this; exact absurd (take4_colour _) this
  · have := (small_all a ha).1; rw [← ec, es2] at this; exact absurd (take4_color _) this
  · have := (small_all a ha).2.1; rw [← ec, es2] at this; exact absurd rfl this
  · have := (small_all b hb).1; rw [← ed, ← es2] at this; exact absurd (take4_colour _) this
  · have := dec_inj ha hb (List.append_cancel_left es2); omega
  · exact absurd es2 (colour_color _ _)
  · simp [tColour] at es2
  · have := (small_all b hb).1; rw [← ed, ← es2] at this; exact absurd (take4_color _) this
  · exact absurd es2.symm (colour_color _ _)
  · have := dec_inj ha hb (List.append_cancel_left es2); omega
  · simp [tColor] at es2
  · have := (small_all b hb).2.1; rw [← ed, ← es2] at this; exact absurd rfl this
  · simp [tColour] at es2
  · simp [tColor] at es2
  · simp only [List.cons.injEq, true_and] at es2; have := hex6_inj ha hb es2; omega

open Classical in
/-- The colour that the small letters s name, if any. -/
noncomputable def colourS (s : Tx) : Option Int := if h : ∃ c, Names s c then some h.choose else none
theorem colourS_some {s : Tx} {c : Int} (h : Names s c) : colourS s = some c := by
  have he : ∃ c, Names s c := ⟨c, h⟩
  unfold colourS
  rw [dif_pos he, names_uniq he.choose_spec h]
theorem colourS_none {s : Tx} (h : ∀ c, ¬ Names s c) : colourS s = none := by
  unfold colourS
  rw [dif_neg (fun ⟨c, hc⟩ => h c hc)]
theorem names_of_colourS {s : Tx} {c : Int} (h : colourS s = some c) : Names s c := by
  unfold colourS at h
  by_cases he : ∃ c, Names s c
  · rw [dif_pos he] at h
    rw [← Option.some.inj h]
    exact he.choose_spec
  · rw [dif_neg he] at h
    cases h
theorem names_name {c : Int} (h : isCol c = true) : Names (name c) c := ⟨h, .inl rfl⟩
/-- Behind 'colour' and behind 'color' stands the number. -/
theorem names_colour {d : Tx} {n : Nat} (hn : n < 256) (h : d = dec n) : Names (tColour ++ d) n := ⟨(isCol_iff _).2 (by omega), .inr ⟨by omega, by omega, .inl (by rw [h]; rfl)⟩⟩
theorem names_color {d : Tx} {n : Nat} (hn : n < 256) (h : d = dec n) : Names (tColor ++ d) n := ⟨(isCol_iff _).2 (by omega), .inr ⟨by omega, by omega, .inr (by rw [h]; rfl)⟩⟩
theorem names_hex {d : Tx} {n : Nat} (hn : n < 16777216) (h : d = hexk 6 n) : Names (35 :: d) ((n : Int) + 16777216) := by
  refine ⟨(isCol_iff _).2 (by omega), .inl ?_⟩
  have e : ((n : Int) + 16777216 - 16777216).toNat = n := by omega
  rw [name_rgb (by omega) (by omega), h, e]
theorem not_colour {d : Tx} (h : ∀ n, n < 256 → d ≠ dec n) (c : Int) : ¬ Names (tColour ++ d) c := by
  intro hn
  rcases names_ways hn with ⟨b, hb, ed, es2⟩ | ⟨b, hb, ed, es2⟩ | ⟨b, hb, ed, es2⟩ | ⟨b, hb, ed, es2⟩
  · have := (small_all b hb).1; rw [← ed, ← es2] at this; exact absurd (take4_colour _) this
  · exact h b hb (List.append_cancel_left es2)
  · exact absurd es2 (colour_color _ _)
  · simp [tColour] at es2
theorem not_color {d : Tx} (h : ∀ n, n < 256 → d ≠ dec n) (c : Int) : ¬ Names (tColor ++ d) c := by
  intro hn
  rcases names_ways hn with ⟨b, hb, ed, es2⟩ | ⟨b, hb, ed, es2⟩ | ⟨b, hb, ed, es2⟩ | ⟨b, hb, ed, es2⟩
  · have := (small_all b hb).1; rw [← ed, ← es2] at this; exact absurd (take4_color _) this
  · exact absurd es2.symm (colour_color _ _)
  · exact h b hb (List.append_cancel_left es2)
  · simp [tColor] at es2
theorem not_hex {d : Tx} (h : ∀ n, n < 16777216 → d ≠ hexk 6 n) (c : Int) : ¬ Names (35 :: d) c := by
  intro hn
  rcases names_ways hn with ⟨b, hb, ed, es2⟩ | ⟨b, hb, ed, es2⟩ | ⟨b, hb, ed, es2⟩ | ⟨b, hb, ed, es2⟩
  · have := (small_all b hb).2.1; rw [← ed, ← es2] at this; exact absurd rfl this
  · simp [tColour] at es2
  · simp [tColor] at es2
  · simp only [List.cons.injEq, true_and] at es2; exact h b hb es2
/-- A text that is none of the short names, and begins in none of the three ways. -/
theorem not_any {s : Tx} (h1 : ∀ k : Nat, k < 17 → s ≠ name ((k : Int) - 1)) (h2 : ∀ d, s ≠ tColour ++ d) (h3 : ∀ d, s ≠ tColor ++ d) (h4 : ∀ d, s ≠ 35 :: d) (c : Int) : ¬ Names s c := by
  intro hn
  rcases names_ways hn with ⟨b, hb, ed, es2⟩ | ⟨b, hb, ed, es2⟩ | ⟨b, hb, ed, es2⟩ | ⟨b, hb, ed, es2⟩
  · exact h1 b hb (by rw [← ed]; exact es2)
  · exact h2 _ es2
  · exact h3 _ es2
  · exact h4 _ es2
end Go.Proofs.YtajnlbfhcbkopaaDoor.Sty
