/- Package style's table of attributes, a map that a call makes, and what stands in it. -/
import Derived.Test.YtajnlbfhcbkopaaDoorClr
import Derived.Test.YtajnlbfhcbkopaaDoorSpc
import Derived.Maps.OwnOps
import Derived.Maps.RangeWalk
import Derived.Maps.Views
namespace Go.Proofs.YtajnlbfhcbkopaaDoor.Sty
open Go.RowKit
open Go.Maps (Keyed string_keyed)
open Go.WideShapes

theorem law : Keyed Tryd.prog 9 := string_keyed Tryd.underlying9
theorem key_at (l : Tx) (h : l.length ≤ maxLen) : keyOf Tryd.prog 9 (.string (bs l)) = some (.string l) := by
  rw [WideMaps.keyOf_string_mk Tryd.underlying9 (by rw [bs_size]; exact h), bs_list]
/-- A map literal's entry: as a store into the map that the call has made. -/
theorem wpList_insert_own {H : Type} {P : Program} (w : World) {ops : Array Oper} {rest : List Oper} {o : Oper} {a : Act} {Q : Exit → Act → World → Prop}
    (hg : o.guard = none) (m x v : Operand) (t : TypeId) (hop : o.op = Op.insert t m x v)
    (k e : TypeId) (K : Keyed P k) (ht : P.underlying t = some (.map k e)) (R : Value → Option (DataW H × List MemPlace)) (b n : Nat) (D : DataW H)
    (hm : a.eval m = .map (some b)) (hown : w.ownsMap P k R b n D) (hn : n < maxLen) (key val : Value) (kl : Lit) (hx : a.eval x = key) (hv : a.eval v = val) (hkey : keyOf P k key = some kl)
    (d : DataW H) (ps : List MemPlace) (hval : R val = some (d, ps))
    (hK : ∀ w', w'.ownsMap P k R b (n + 1) (D.put kl d) → w.grownBy w' (some b) → wpList P ops Q rest (a.put o.dst undef) w') :
    wpList P ops Q (o :: rest) a w := by
  refine wpList_plain hg fun K' hK' => ?_
  obtain ⟨w', hrun, r1, r2⟩ := hown.update K ht hn hkey hval
  unfold Oper.wp
  simp [execOp, hop, hm, hx, hv, hrun, Result.andThen]
  exact hK' _ _ (hK w' r1 r2)

/-- The table as it reads. -/
def attrD : DataW Unit := .map [(.string [98, 108, 105, 110, 107], .lit (.int .i64 16)), (.string [98, 111, 108, 100], .lit (.int .i64 1)), (.string [100, 105, 109], .lit (.int .i64 2)), (.string [104, 105, 100, 100, 101, 110], .lit (.int .i64 64)), (.string [105, 116, 97, 108, 105, 99, 115], .lit (.int .i64 4)), (.string [114, 101, 118, 101, 114, 115, 101], .lit (.int .i64 32)), (.string [115, 116, 114, 105, 107, 101, 116, 104, 114, 111, 117, 103, 104], .lit (.int .i64 128)), (.string [117, 110, 100, 101, 114, 115, 99, 111, 114, 101], .lit (.int .i64 8))]
def AttrMap (w : World) (g : Nat) : Prop := w.ownsMap Tryd.prog 9 (plainElem Tryd.prog 3) g 8 attrD
theorem AttrMap.below {w w' : World} {g B : Nat} (h : AttrMap w g) (hb : Below B w w') (hg : g < B) : AttrMap w' g := by
  obtain ⟨es, clock, h1, h2⟩ := h
  exact ⟨es, clock, (hb.block g hg).trans h1, h2⟩
theorem AttrMap.lt {w : World} {g : Nat} (h : AttrMap w g) : g < w.heap.size := World.ownsMap.lt h

set_option maxRecDepth 100000 in
set_option maxHeartbeats 400000 in
theorem attributes_any (w : World) :
    Calls Tryd.prog 39 #[] w fun e w' => e = .returned (.map (some w.heap.size)) ∧ AttrMap w' w.heap.size ∧ Below w.heap.size w w' := by
  have hmm := @run_makeMap Tryd.prog
  have hown0 := World.ownsMap_made (H := Unit) w Tryd.prog 9 (plainElem Tryd.prog 3)
  go_enter Tryd.func39, Tryd.ntmps39
  go_wp2_with (first
    | (refine wpList_insert_own _ rfl (.tmp 1) (.const (.string { data := #[98, 111, 108, 100] })) (.const (.int .i64 1)) 54 rfl 9 3 law Tryd.underlying54 (plainElem Tryd.prog 3) _ 0 _ rfl hown0 (by unfold maxLen; omega) _ _ _ rfl rfl (key_at [98, 111, 108, 100] (by decide)) _ [] (plainElem_int Tryd.underlying3 (by decide)) ?_; intro w1 hown1 hg1; clear hown0)
    | (refine wpList_insert_own _ rfl (.tmp 1) (.const (.string { data := #[100, 105, 109] })) (.const (.int .i64 2)) 54 rfl 9 3 law Tryd.underlying54 (plainElem Tryd.prog 3) _ 1 _ rfl hown1 (by unfold maxLen; omega) _ _ _ rfl rfl (key_at [100, 105, 109] (by decide)) _ [] (plainElem_int Tryd.underlying3 (by decide)) ?_; intro w2 hown2 hg2; clear hown1)
    | (refine wpList_insert_own _ rfl (.tmp 1) (.const (.string { data := #[105, 116, 97, 108, 105, 99, 115] })) (.const (.int .i64 4)) 54 rfl 9 3 law Tryd.underlying54 (plainElem Tryd.prog 3) _ 2 _ rfl hown2 (by unfold maxLen; omega) _ _ _ rfl rfl (key_at [105, 116, 97, 108, 105, 99, 115] (by decide)) _ [] (plainElem_int Tryd.underlying3 (by decide)) ?_; intro w3 hown3 hg3; clear hown2)
    | (refine wpList_insert_own _ rfl (.tmp 1) (.const (.string { data := #[117, 110, 100, 101, 114, 115, 99, 111, 114, 101] })) (.const (.int .i64 8)) 54 rfl 9 3 law Tryd.underlying54 (plainElem Tryd.prog 3) _ 3 _ rfl hown3 (by unfold maxLen; omega) _ _ _ rfl rfl (key_at [117, 110, 100, 101, 114, 115, 99, 111, 114, 101] (by decide)) _ [] (plainElem_int Tryd.underlying3 (by decide)) ?_; intro w4 hown4 hg4; clear hown3)
    | (refine wpList_insert_own _ rfl (.tmp 1) (.const (.string { data := #[98, 108, 105, 110, 107] })) (.const (.int .i64 16)) 54 rfl 9 3 law Tryd.underlying54 (plainElem Tryd.prog 3) _ 4 _ rfl hown4 (by unfold maxLen; omega) _ _ _ rfl rfl (key_at [98, 108, 105, 110, 107] (by decide)) _ [] (plainElem_int Tryd.underlying3 (by decide)) ?_; intro w5 hown5 hg5; clear hown4)
    | (refine wpList_insert_own _ rfl (.tmp 1) (.const (.string { data := #[114, 101, 118, 101, 114, 115, 101] })) (.const (.int .i64 32)) 54 rfl 9 3 law Tryd.underlying54 (plainElem Tryd.prog 3) _ 5 _ rfl hown5 (by unfold maxLen; omega) _ _ _ rfl rfl (key_at [114, 101, 118, 101, 114, 115, 101] (by decide)) _ [] (plainElem_int Tryd.underlying3 (by decide)) ?_; intro w6 hown6 hg6; clear hown5)
    | (refine wpList_insert_own _ rfl (.tmp 1) (.const (.string { data := #[104, 105, 100, 100, 101, 110] })) (.const (.int .i64 64)) 54 rfl 9 3 law Tryd.underlying54 (plainElem Tryd.prog 3) _ 6 _ rfl hown6 (by unfold maxLen; omega) _ _ _ rfl rfl (key_at [104, 105, 100, 100, 101, 110] (by decide)) _ [] (plainElem_int Tryd.underlying3 (by decide)) ?_; intro w7 hown7 hg7; clear hown6)
    | (refine wpList_insert_own _ rfl (.tmp 1) (.const (.string { data := #[115, 116, 114, 105, 107, 101, 116, 104, 114, 111, 117, 103, 104] })) (.const (.int .i64 128)) 54 rfl 9 3 law Tryd.underlying54 (plainElem Tryd.prog 3) _ 7 _ rfl hown7 (by unfold maxLen; omega) _ _ _ rfl rfl (key_at [115, 116, 114, 105, 107, 101, 116, 104, 114, 111, 117, 103, 104] (by decide)) _ [] (plainElem_int Tryd.underlying3 (by decide)) ?_; intro w8 hown8 hg8; clear hown7))
  go_ret
  have e : w8.ownsMap Tryd.prog 9 (plainElem Tryd.prog 3) w.heap.size 8 attrD := hown8
  refine ⟨rfl, e, ?_⟩
  have hb0 : Below w.heap.size w (w.alloc (.map #[] 0)) := (Below.refl _ _).alloc (Nat.le_refl _) _
  have step : ∀ {a c : World}, Below w.heap.size w a → a.grownBy c (some w.heap.size) → Below w.heap.size w c := fun {a c} h k => h.grown k (Nat.le_trans (Nat.le_refl _) h.size) (fun j hj => by cases hj; exact Nat.le_refl _)
  exact step (step (step (step (step (step (step (step hb0 hg1) hg2) hg3) hg4) hg5) hg6) hg7) hg8

/-! ### What is looked up -/
theorem atKey_word : ∀ i, i < 8 → attrD.atKey (.string (words.getD i [])) (.lit (.int .i64 0)) = .lit (.int .i64 ((2 ^ i : Nat) : Int)) := by
  intro i hi
  match i, hi with
  | 0, _ => rfl
  | 1, _ => rfl
  | 2, _ => rfl
  | 3, _ => rfl
  | 4, _ => rfl
  | 5, _ => rfl
  | 6, _ => rfl
  | 7, _ => rfl
  | n + 8, hi => exact absurd hi (by omega)
theorem atKey_none (l : Tx) (h : ∀ i, i < 8 → l ≠ words.getD i []) (z : DataW Unit) : attrD.atKey (.string l) z = z := by
  unfold attrD DataW.atKey
  dsimp only
  rw [List.find?_eq_none.2]
  intro p hp
  have hf : p.1.sameKey (.string l) = false := by
    simp only [List.mem_cons, List.not_mem_nil, or_false] at hp
    rcases hp with rfl | rfl | rfl | rfl | rfl | rfl | rfl | rfl
    · exact Maps.sameKey_ne (fun e => h 4 (by omega) (by injection e with e; exact e.symm))
    · exact Maps.sameKey_ne (fun e => h 0 (by omega) (by injection e with e; exact e.symm))
    · exact Maps.sameKey_ne (fun e => h 1 (by omega) (by injection e with e; exact e.symm))
    · exact Maps.sameKey_ne (fun e => h 6 (by omega) (by injection e with e; exact e.symm))
    · exact Maps.sameKey_ne (fun e => h 2 (by omega) (by injection e with e; exact e.symm))
    · exact Maps.sameKey_ne (fun e => h 5 (by omega) (by injection e with e; exact e.symm))
    · exact Maps.sameKey_ne (fun e => h 7 (by omega) (by injection e with e; exact e.symm))
    · exact Maps.sameKey_ne (fun e => h 3 (by omega) (by injection e with e; exact e.symm))
  rw [hf]
  simp
theorem zeroInt (w : World) : (zeroValue 3).run Tryd.prog w = .ok (.int .i64 0) w := by kernel_rfl
theorem look_word {w : World} {g : Nat} (h : AttrMap w g) (i : Nat) (hi : i < 8) (l : Tx) (hl : l = words.getD i []) :
    (Instr.lookup 54 (.map (some g)) (.string (bs l)) true).run Tryd.prog w = .ok (.tuple #[.int .i64 ((2 ^ i : Nat) : Int), .bool true]) w := by
  obtain ⟨es, clock, hb, F, _, hD⟩ := h
  have hk := key_at l (by rw [hl]; exact Nat.le_trans (words_len i) (by unfold maxLen; omega))
  have ha := atKey_word i hi
  rw [← hl] at ha
  rcases Maps.fit_look true law Tryd.underlying54 (zeroInt w) hb F hk with ⟨_, _, hat⟩ | ⟨e0, y, _, _, hrun, hRv, hat, _⟩
  · have := hat (.lit (.int .i64 0))
    rw [← hD, ha] at this
    simp at this
    have h2 : (2 : Int) ^ i ≠ 0 := by exact_mod_cast Nat.ne_of_gt (Nat.two_pow_pos i)
    exact absurd this h2
  · have := hat (.lit (.int .i64 0))
    rw [← hD, ha] at this
    obtain ⟨c, hc, hd, _⟩ := plainElem_int_inv Tryd.underlying3 hRv
    rw [hd] at this
    simp only [DataW.lit.injEq, Lit.int.injEq, true_and] at this
    rw [hrun, hc, this]
    rfl
theorem look_none {w : World} {g : Nat} (h : AttrMap w g) (l : Tx) (hlen : l.length ≤ 140737488355328) (hl : ∀ i, i < 8 → l ≠ words.getD i []) :
    (Instr.lookup 54 (.map (some g)) (.string (bs l)) true).run Tryd.prog w = .ok (.tuple #[.int .i64 0, .bool false]) w := by
  obtain ⟨es, clock, hb, F, _, hD⟩ := h
  have hk := key_at l (Nat.le_trans hlen (by unfold maxLen; omega))
  have ha := atKey_none l hl
  rcases Maps.fit_look true law Tryd.underlying54 (zeroInt w) hb F hk with ⟨hrun, _, _⟩ | ⟨e0, y, _, _, _, _, hat, _⟩
  · exact hrun
  · have h1 := hat (.lit (.int .i64 0))
    have h2 := hat (.lit (.int .i64 1))
    rw [← hD, ha] at h1 h2
    rw [← h1] at h2
    simp at h2
end Go.Proofs.YtajnlbfhcbkopaaDoor.Sty
