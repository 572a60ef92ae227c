/- What is printed is parsed as it was. -/
import Derived.Test.YtdbkccffepfenaaDoorRit
namespace Go.Proofs.YtdbkccffepfenaaDoor.Sty
open Go.RowKit

/-! ### Items of texts that are joined by a comma -/
theorem itemsFrom_app (b : Tx) : ∀ (a cur : Tx), itemsFrom cur (a ++ 44 :: b) = itemsFrom cur a ++ items b
  | [], cur => by
    show itemsFrom cur (44 :: b) = itemsFrom cur [] ++ items b
    rw [itemsFrom, itemsFrom, if_pos (by decide)]
    by_cases h : cur = []
    · rw [if_pos h, if_pos h]; rfl
    · rw [if_neg h, if_neg h]; rfl
  | x :: a, cur => by
    rw [List.cons_append, itemsFrom, itemsFrom]
    by_cases hx : sepB x = true
    · rw [if_pos hx, if_pos hx]
      by_cases h : cur = []
      · rw [if_pos h, if_pos h, itemsFrom_app b a []]
      · rw [if_neg h, if_neg h, itemsFrom_app b a [], List.cons_append]
    · rw [if_neg hx, if_neg hx, itemsFrom_app b a (cur ++ [x])]
theorem items_app (a b : Tx) : items (a ++ 44 :: b) = items a ++ items b := itemsFrom_app b a []
theorem items_one {x : Tx} (h : ∀ b ∈ x, sepB b = false) (hn : x ≠ []) : items x = [x] := by
  unfold items
  rw [items_plain x.length [] x (Nat.le_refl _) (by rw [List.take_length]; exact h), List.take_length, List.drop_length, List.nil_append, itemsFrom, if_neg hn]
theorem items_none : items [] = [] := rfl
theorem low_app (a b : Tx) : low (a ++ b) = low a ++ low b := by unfold low; rw [List.map_append]
theorem low_cons (x : UInt8) (a : Tx) : low (x :: a) = lw x :: low a := rfl

/-! ### Texts of small letters with no comma and no blank -/
def Fine (l : Tx) : Prop := ∀ b ∈ l, lw b = b ∧ sepB b = false
theorem fine_low {l : Tx} (h : Fine l) : low l = l := by
  unfold low
  have : l.map lw = l.map id := List.map_congr_left fun b hb => (h b hb).1
  rw [this, List.map_id]
theorem fine_sep {l : Tx} (h : Fine l) : ∀ b ∈ l, sepB b = false := fun b hb => (h b hb).2
theorem fine_app {a b : Tx} (ha : Fine a) (hb : Fine b) : Fine (a ++ b) := fun x hx => by
  rcases List.mem_append.1 hx with h | h
  · exact ha x h
  · exact hb x h
def fineB (l : Tx) : Bool := l.all fun b => lw b == b && !sepB b
theorem fine_of {l : Tx} (h : fineB l = true) : Fine l := fun b hb => by
  have := List.all_eq_true.1 h b hb
  simpa using this
set_option maxRecDepth 100000 in
theorem fine_dec (n : Nat) (hn : n < 256) : Fine (dec n) := by
  have : ∀ n, n < 256 → fineB (dec n) = true := by decide
  exact fine_of (this n hn)
theorem fine_hex (k n : Nat) : Fine (hexk k n) := fun b hb => by
  obtain ⟨t, ht, rfl⟩ := hexk_mem k n b hb
  have : ∀ t, t < 16 → lw (hx t) = hx t ∧ sepB (hx t) = false := by decide
  exact this t ht
theorem fine_name (c : Int) : Fine (name c) := by
  cases h : isCol c
  · rw [name_no h]; exact fun b hb => by cases hb
  · rw [isCol_iff] at h
    by_cases h16 : c < 16
    · have : ∀ k : Nat, k < 17 → fineB (name ((k : Int) - 1)) = true := by decide
      have h2 := this (c + 1).toNat (by omega)
      have e : (((c + 1).toNat : Nat) : Int) - 1 = c := by omega
      rw [e] at h2
      exact fine_of h2
    · by_cases h255 : c ≤ 255
      · rw [name_num (by omega) h255]
        exact fine_app (fine_of (by decide)) (fine_dec _ (by omega))
      · rw [name_rgb (by omega) (by omega)]
        show Fine ([35] ++ hexk 6 _)
        exact fine_app (fine_of (by decide)) (fine_hex 6 _)
theorem low_name (c : Int) : low (name c) = name c := fine_low (fine_name c)
theorem colour_name {c : Int} (h : isCol c = true) : colourS (low (name c)) = some c := by rw [low_name]; exact colourS_some (names_name h)
theorem name_inj {c d : Int} (hc : isCol c = true) (hd : isCol d = true) : (name c = name d) ↔ c = d := by
  refine ⟨fun e => names_uniq (names_name hc) ?_, fun e => by rw [e]⟩
  rw [e]; exact names_name hd
theorem fine_word (i : Nat) (hi : i < 8) : Fine (words.getD i []) := by
  have : ∀ i, i < 8 → fineB (words.getD i []) = true := by decide
  exact fine_of (this i hi)

/-! ### The items of a printed look -/
theorem items_pieces : ∀ (L : List Tx), (∀ x ∈ L, ∀ b ∈ x, sepB b = false) → ∀ X : Tx, items (X ++ pieces L) = items X ++ L.filter (fun x => decide (x ≠ []))
  | [], _, X => by simp [pieces]
  | x :: r, h, X => by
    have ih := items_pieces r fun z hz => h z (by simp [hz])
    have e : pieces (x :: r) = piece x ++ pieces r := by simp [pieces]
    rw [e]
    by_cases hx : x = []
    · subst hx
      have e2 : piece [] = [] := rfl
      rw [e2, List.nil_append, ih]
      simp
    · have e2 : piece x = 44 :: x := by unfold piece; rw [if_neg hx]
      rw [e2, List.cons_append, items_app, ih, items_one (h x (by simp)) hx]
      simp [hx]
theorem low_pieces : ∀ (L : List Tx), (∀ x ∈ L, Fine x) → low (pieces L) = pieces L
  | [], _ => rfl
  | x :: r, h => by
    have ih := low_pieces r fun z hz => h z (by simp [hz])
    have e : pieces (x :: r) = piece x ++ pieces r := by simp [pieces]
    have hx := fine_low (h x (by simp))
    rw [e, low_app, ih]
    congr 1
    unfold piece
    split
    · rfl
    · rw [low_cons, hx]; rfl
theorem ordered_fine (a : Nat) : ∀ x ∈ ordered a, Fine x := fun x hx => by
  unfold ordered at hx
  obtain ⟨i, hi, rfl⟩ := List.mem_map.1 hx
  split
  · exact fine_word i (List.mem_range.1 hi)
  · exact fun b hb => by cases hb
theorem word_nn (j : Nat) (hj : j < 8) : words.getD j [] ≠ [] := by
  have : ∀ j, j < 8 → words.getD j [] ≠ [] := by decide
  exact this j hj
theorem ordered_on (a : Nat) : (ordered a).filter (fun x => decide (x ≠ [])) = ((List.range 8).filter (onN a)).map fun i => words.getD i [] := by
  unfold ordered
  have : ∀ l : List Nat, (∀ i ∈ l, i < 8) → (l.map fun i => if onN a i then words.getD i [] else []).filter (fun x => decide (x ≠ [])) = (l.filter (onN a)).map fun i => words.getD i [] := by
    intro l
    induction l with
    | nil => intro _; rfl
    | cons i r ih =>
      intro h
      have ih := ih fun j hj => h j (by simp [hj])
      have hne := word_nn i (h i (by simp))
      rw [List.map_cons, List.filter_cons, List.filter_cons, ih]
      cases ho : onN a i
      · simp
      · simp only [if_true, ne_eq, hne, not_false_eq_true, decide_true, List.map_cons]
  exact this _ fun i hi => List.mem_range.1 hi
theorem headS_items (fg bg : Int) : items (headS fg bg) = [tFg ++ name fg, tBg ++ name bg, tNone] := by
  have e : headS fg bg = (tFg ++ name fg) ++ 44 :: ((tBg ++ name bg) ++ 44 :: tNone) := by
    unfold headS
    have e1 : tBgIs = 44 :: tBg := rfl
    have e2 : tNoneIs = 44 :: tNone := rfl
    rw [e1, e2]
    simp [List.append_assoc]
  have f1 : Fine (tFg ++ name fg) := fine_app (fine_of (by decide)) (fine_name _)
  have f2 : Fine (tBg ++ name bg) := fine_app (fine_of (by decide)) (fine_name _)
  rw [e, items_app, items_app, items_one (fine_sep f1) (by simp [tFg]), items_one (fine_sep f2) (by simp [tBg]), items_one (fine_sep (fine_of (by decide))) (by decide)]
  rfl
theorem headS_low (fg bg : Int) : low (headS fg bg) = headS fg bg := by
  unfold headS
  rw [low_app, low_app, low_app, low_app, low_name, low_name]
  rfl
theorem printS_low {fg bg at_ : Int} (h : rightS fg bg at_ = true) : low (printS fg bg at_) = printS fg bg at_ := by
  unfold printS
  rw [if_pos h, low_app, headS_low, low_pieces _ (ordered_fine _)]
theorem printS_items {fg bg at_ : Int} (h : rightS fg bg at_ = true) : items (printS fg bg at_) = [tFg ++ name fg, tBg ++ name bg, tNone] ++ ((List.range 8).filter (onN at_.toNat)).map fun i => words.getD i [] := by
  unfold printS
  rw [if_pos h, items_pieces _ (fun x hx => fine_sep (ordered_fine _ x hx)), headS_items, ordered_on]
theorem printS_len (fg bg at_ : Int) : (printS fg bg at_).length ≤ 170 := by
  unfold printS
  split
  · have h1 := headS_len fg bg
    have h2 := pieces_len at_.toNat 8 (by omega)
    have hl := ordered_len at_.toNat
    rw [List.take_of_length_le (by omega)] at h2
    rw [List.length_append]
    omega
  · simp

/-! ### Turning by them -/
theorem pre_yes (p d : Tx) : Lib.hasPrefix (p ++ d) p = true := by
  unfold Lib.hasPrefix
  exact List.isPrefixOf_iff_prefix.2 ⟨d, rfl⟩
theorem turn_fg (s : St) {c : Int} (h : isCol c = true) : turnS s (tFg ++ name c) = some (c, s.2.1, s.2.2) := by
  unfold turnS
  rw [if_pos (pre_yes _ _)]
  have e : (tFg ++ name c).drop 3 = name c := rfl
  rw [e, colourS_some (names_name h)]
  rfl
theorem turn_bg (s : St) {c : Int} (h : isCol c = true) : turnS s (tBg ++ name c) = some (s.1, c, s.2.2) := by
  unfold turnS
  have e0 : Lib.hasPrefix (tBg ++ name c) tFg = false := rfl
  rw [if_neg (by rw [e0]; decide), if_pos (pre_yes _ _)]
  have e : (tBg ++ name c).drop 3 = name c := rfl
  rw [e, colourS_some (names_name h)]
  rfl
theorem turn_none (s : St) : turnS s tNone = some (s.1, s.2.1, 0) := by
  unfold turnS
  rw [if_neg (by decide), if_neg (by decide), if_pos rfl]
theorem turn_word (s : St) (i : Nat) (hi : i < 8) : turnS s (words.getD i []) = some (s.1, s.2.1, bits .or .i64 s.2.2 ((2 ^ i : Nat) : Int)) := by
  have h : ∀ i, i < 8 → Lib.hasPrefix (words.getD i []) tFg = false ∧ Lib.hasPrefix (words.getD i []) tBg = false ∧ words.getD i [] ≠ tNone ∧ Lib.hasPrefix (words.getD i []) tNo = false := by decide
  obtain ⟨h1, h2, h3, h4⟩ := h i hi
  unfold turnS
  rw [if_neg (by rw [h1]; decide), if_neg (by rw [h2]; decide), if_neg h3, if_neg (by rw [h4]; decide), wordOf_some hi rfl]
  rfl
theorem word_nd (i : Nat) (hi : i < 8) : words.getD i [] ≠ tDefault := by
  have : ∀ i, i < 8 → words.getD i [] ≠ tDefault := by decide
  exact this i hi
theorem fold_words (over : St) (r : List Tx) : ∀ (js : List Nat), (∀ i ∈ js, i < 8) → ∀ (f b x : Int), foldS over (f, b, x) (js.map (fun i => words.getD i []) ++ r) = foldS over (f, b, js.foldl (fun x i => bits .or .i64 x ((2 ^ i : Nat) : Int)) x) r
  | [], _, _, _, _ => rfl
  | i :: js, h, f, b, x => by
    have hi := h i (by simp)
    rw [List.map_cons, List.cons_append, foldS_some _ _ _ _ _ (word_nd i hi) (turn_word (f, b, x) i hi), fold_words over r js fun j hj => h j (by simp [hj])]
    rfl
def orBits : Bool := (List.range 256).all fun a => decide (((List.range 8).filter (onN a)).foldl (fun x i => bits .or .i64 x ((2 ^ i : Nat) : Int)) 0 = (a : Int))
theorem orBits_true : orBits = true := by kernel_rfl
theorem or_on (a : Nat) (ha : a < 256) : ((List.range 8).filter (onN a)).foldl (fun x i => bits .or .i64 x ((2 ^ i : Nat) : Int)) 0 = (a : Int) :=
  of_decide_eq_true (List.all_eq_true.1 orBits_true a (List.mem_range.2 ha))
theorem back_fold {fg bg at_ : Int} (h : rightS fg bg at_ = true) (over : St) : foldS over over (items (printS fg bg at_)) = some (fg, bg, at_) := by
  obtain ⟨h1, h2, h3, h4⟩ := rightS_parts h
  obtain ⟨a, rfl⟩ : ∃ a : Nat, at_ = a := ⟨at_.toNat, by omega⟩
  rw [printS_items h, Int.toNat_natCast]
  show foldS over over ((tFg ++ name fg) :: (tBg ++ name bg) :: tNone :: _) = _
  rw [foldS_some _ _ _ _ _ (by simp [tFg, tDefault]) (turn_fg over h1), foldS_some _ _ _ _ _ (by simp [tBg, tDefault]) (turn_bg _ h2), foldS_some _ _ _ _ _ (by decide) (turn_none _)]
  have := fold_words over [] ((List.range 8).filter (onN a)) (fun i hi => List.mem_range.1 (List.mem_filter.1 hi).1) fg bg 0
  rw [List.append_nil] at this
  show foldS over (fg, bg, 0) (((List.range 8).filter (onN a)).map fun i => words.getD i []) = _
  rw [this, or_on a (by omega)]
  rfl
theorem back_parse {fg bg at_ : Int} (h : rightS fg bg at_ = true) (over : St) : parseV (printS fg bg at_) over = .tuple #[styV (fg, bg, at_), .int .i64 0] := by
  have hl := printS_len fg bg at_
  refine parseV_some _ _ _ (by omega) ?_
  rw [printS_low h]
  exact back_fold h over
theorem back_parse2 {fg bg at_ : Int} (h : rightS fg bg at_ = true) (over : St) : parseV (printS fg bg at_ ++ [44, 32, 44]) over = .tuple #[styV (fg, bg, at_), .int .i64 0] := by
  have hl := printS_len fg bg at_
  refine parseV_some _ _ _ (by rw [List.length_append]; simp; omega) ?_
  rw [low_app, printS_low h]
  have e : low [44, 32, 44] = [44, 32, 44] := by decide
  have e2 : items [32, 44] = [] := by decide
  rw [e, items_app, e2, List.append_nil]
  exact back_fold h over
end Go.Proofs.YtdbkccffepfenaaDoor.Sty
