/- Package style's inOrder: the attributes' names, gathered out of a map whatever its order. -/
import Derived.Test.YtajnlbfhcbkopaaDoorPrs
namespace Go.Proofs.YtajnlbfhcbkopaaDoor.Sty
open Go.RowKit
open Go.Maps (Keyed)

/-- Is the attribute number i there? -/
def onN (a i : Nat) : Bool := decide (a / 2 ^ i % 2 = 1)
/-- The eight names, empty where one is not there; 'left': the keys that are still to come. -/
def gath (a : Nat) (left : Lit → Bool) : List Tx := (List.range 8).map fun i => if onN a i && !left (.string (words.getD i [])) then words.getD i [] else []
def ordered (a : Nat) : List Tx := (List.range 8).map fun i => if onN a i then words.getD i [] else []
def strs (l : List Tx) : Array Value := (l.map fun x => Value.string (bs x)).toArray
theorem gath_all (a : Nat) (left : Lit → Bool) (h : ∀ kl, left kl = false) : gath a left = ordered a := by
  unfold gath ordered
  refine List.map_congr_left fun i _ => ?_
  rw [h]
  simp
theorem gath_none (a : Nat) (left : Lit → Bool) (h : ∀ i, i < 8 → left (.string (words.getD i [])) = true) : gath a left = List.replicate 8 [] := by
  unfold gath
  rw [List.eq_replicate_iff]
  refine ⟨by simp, fun x hx => ?_⟩
  obtain ⟨i, hi, rfl⟩ := List.mem_map.1 hx
  rw [h i (List.mem_range.1 hi)]
  simp
theorem gath_len (a : Nat) (left : Lit → Bool) : (gath a left).length = 8 := by simp [gath]
theorem gath_off (a : Nat) (left : Lit → Bool) (i : Nat) (h : onN a i = false) : gath a (fun z => left z && !z.sameKey (.string (words.getD i []))) = gath a left := by
  unfold gath
  refine List.map_congr_left fun j hj => ?_
  have hj8 := List.mem_range.1 hj
  by_cases e : j = i
  · subst e
    rw [h]; simp
  · by_cases hi : i < 8
    · have hne : (Lit.string (words.getD j [])).sameKey (.string (words.getD i [])) = false := Maps.sameKey_ne fun he => e (words_inj j hj8 i hi (by injection he))
      simp only [hne, Bool.not_false, Bool.and_true]
    · have : words.getD i [] = [] := by rw [List.getD_eq_getElem?_getD, List.getElem?_eq_none (by show 8 ≤ i; omega)]; rfl
      rw [this]
      have hne : (Lit.string (words.getD j [])).sameKey (.string []) = false := Maps.sameKey_ne fun he => by
        have h0 : ∀ j, j < 8 → words.getD j [] ≠ [] := by decide
        exact h0 j hj8 (by injection he)
      simp only [hne, Bool.not_false, Bool.and_true]
theorem gath_on (a : Nat) (left : Lit → Bool) (i : Nat) (hi : i < 8) (h : onN a i = true) : gath a (fun z => left z && !z.sameKey (.string (words.getD i []))) = (gath a left).set i (words.getD i []) := by
  refine List.ext_getElem? fun j => ?_
  rw [List.getElem?_set]
  unfold gath
  by_cases e : i = j
  · subst e
    rw [if_pos rfl, if_pos (by simpa using hi)]
    have hs : (Lit.string (words.getD i [])).sameKey (.string (words.getD i [])) = true := WideAt.sameKey_self (by simp [WideAt.IsKeyLit])
    rw [List.getElem?_map, List.getElem?_range hi, Option.map_some]
    simp only [hs, h, Bool.not_true, Bool.and_false, Bool.not_false, Bool.and_true, if_true]
  · rw [if_neg e]
    rw [List.getElem?_map, List.getElem?_map]
    by_cases hj : j < 8
    · have hne : (Lit.string (words.getD j [])).sameKey (.string (words.getD i [])) = false := Maps.sameKey_ne fun he => e (words_inj j hj i hi (by injection he)).symm
      simp only [List.getElem?_range hj, Option.map_some, hne, Bool.not_false, Bool.and_true]
    · rw [List.getElem?_eq_none (by simpa using hj)]; rfl
def bitRow : Bool := (List.range 8).all fun i => (List.range 256).all fun a => decide ((!(a &&& 2 ^ i == 0)) = onN a i)
theorem bitRow_true : bitRow = true := by kernel_rfl
theorem bit_on : ∀ i : Nat, i < 8 → ∀ a : Nat, a < 256 → (bits .and .i64 (a : Int) ((2 ^ i : Nat) : Int) != 0) = onN a i := by
  intro i hi a ha
  have h1 := (bits_nat .i64 63 (by decide) (fun n h0 h1 => by rw [IntKind.wrap_i64]; omega) a (2 ^ i) (by omega) (Nat.pow_lt_pow_right (by omega) (by omega))).1
  rw [h1]
  have h2 := List.all_eq_true.1 (List.all_eq_true.1 bitRow_true i (List.mem_range.2 hi)) a (List.mem_range.2 ha)
  have h3 := of_decide_eq_true h2
  rw [← h3]
  by_cases h : a &&& 2 ^ i = 0
  · rw [h]; rfl
  · have h4 : ((a &&& 2 ^ i : Nat) : Int) ≠ 0 := by exact_mod_cast h
    have h5 : (((a &&& 2 ^ i : Nat) : Int) == 0) = false := by simpa using h4
    have h6 : (a &&& 2 ^ i == 0) = false := by simpa using h
    unfold bne
    rw [h5, h6]
theorem zeros_any {B : Nat} (i : Nat) (hi : i < 8) (w : World) (ht : Tabs B w) :
    Calls Tryd.prog 62 #[.int .u64 ((2 ^ i : Nat) : Int)] w fun e w' => e = .returned (.int .i64 (i : Int)) ∧ w = w' := by
  match i, hi with
  | 0, _ => exact zeros_0 w ht
  | 1, _ => exact zeros_1 w ht
  | 2, _ => exact zeros_2 w ht
  | 3, _ => exact zeros_3 w ht
  | 4, _ => exact zeros_4 w ht
  | 5, _ => exact zeros_5 w ht
  | 6, _ => exact zeros_6 w ht
  | 7, _ => exact zeros_7 w ht
  | n + 8, hi => exact absurd hi (by omega)
theorem lit_inj {a b : Int} (h : (DataW.lit (.int .i64 a) : DataW Unit) = .lit (.int .i64 b)) : a = b := by
  injection h with h
  injection h with _ h
/-- A key and what stands at it, out of the table. -/
theorem entry_is (x : ByteArray) (c : Int) (kl : Lit) (y : DataW Unit × List MemPlace) (hk : keyOf Tryd.prog 9 (.string x) = some kl) (hv : plainElem (H := Unit) Tryd.prog 3 (.int .i64 c) = some y) (hat : ∀ zd, attrD.atKey kl zd = y.1) :
    ∃ i, i < 8 ∧ x = bs (words.getD i []) ∧ kl = .string (words.getD i []) ∧ c = ((2 ^ i : Nat) : Int) := by
  obtain ⟨s, hs, hl, _⟩ := WideMaps.string_of_keyOf Tryd.underlying9 hk
  obtain rfl : x = s := by injection hs
  obtain ⟨c', hc, hd, _⟩ := plainElem_int_inv Tryd.underlying3 hv
  obtain rfl : c = c' := by injection hc
  rw [hl] at hat
  by_cases h : ∃ i, i < 8 ∧ x.data.toList = words.getD i []
  · obtain ⟨i, hi, hx⟩ := h
    have h0 := hat (.lit (.int .i64 0))
    rw [hx, atKey_word i hi, hd] at h0
    refine ⟨i, hi, ?_, by rw [hl, hx], ?_⟩
    · rw [← hx]; exact bs_of x
    · exact (lit_inj h0).symm
  · have hn : ∀ i, i < 8 → x.data.toList ≠ words.getD i [] := fun i hi e => h ⟨i, hi, e⟩
    have h1 := hat (.lit (.int .i64 0))
    have h2 := hat (.lit (.int .i64 1))
    rw [atKey_none _ hn] at h1 h2
    rw [← h1] at h2
    simp at h2
end Go.Proofs.YtajnlbfhcbkopaaDoor.Sty
