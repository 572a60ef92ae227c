/- A flow in plain words, in memory; begun, a cell put. -/
import Derived.Test.YtjklnnklgkihlaaGreatDoorPai
import Derived.Deep.LoopGhost
import Derived.Lib.AppendZeros
namespace Go.Proofs.YtjklnnklgkihlaaGreatDoor.Grd
open Go.RowKit

/-- The blocks of a flow. -/
def footF (f : Nat) (ft : List Nat) (L : FL) : List Nat := f :: (ft ++ L.rows.map MR.b)
/-- What a call may turn of blocks that were there: those in F; and what it holds behind it: those, and new ones. -/
structure Went (F F' : List Nat) (w w' : World) : Prop where
  foot : ∀ x ∈ F', x ∈ F ∨ w.heap.size ≤ x
  only : Only F w w'
theorem Went.trans {F G H : List Nat} {a b c : World} (h : Went F G a b) (k : Went G H b c) : Went F H a c :=
  ⟨fun x hx => by
    rcases k.foot x hx with y | y
    · exact h.foot x y
    · have := h.only.size; exact .inr (by omega), h.only.trans2 k.only h.foot⟩
theorem Went.refl (F : List Nat) (w : World) : Went F F w w := ⟨fun _ hx => .inl hx, Only.refl _ _⟩
end Go.Proofs.YtjklnnklgkihlaaGreatDoor.Grd
/- A cell flows on. -/
namespace Go.Proofs.YtjklnnklgkihlaaGreatDoor.Grd
open Go.RowKit

/-- A cell flows on. -/
def onF (P : PF) (c : Ce) : PF :=
  if P.cols = 1 ∧ c.2.1 = 0 then P
  else if P.cols = 1 ∧ c.2.1 = 2 then putF P (32, 1, c.2.2)
  else if P.next + 1 = P.cols ∧ c.2.1 = 2 then putF (putF P plainCe) c
  else putF P c
theorem Went.after {F F' : List Nat} {w V w' : World} (h : Only F w V) (k : Went F F' V w') : Went F F' w w' := ⟨fun x hx => (k.foot x hx).imp id (fun y => by have := h.size; omega), h.trans k.only⟩
theorem putF_rows (P : PF) (c : Ce) : (putF P c).rows.length ≤ P.rows.length + 1 ∧ (P.rows ≠ [] → (putF P c).rows ≠ []) := by
  have hs : ∀ (rs : List Ro) (g : Ro → Ro), (setLast rs g).length = rs.length := fun rs g => by
    rcases List.eq_nil_or_concat rs with rfl | ⟨rs, r, rfl⟩
    · rfl
    · rw [List.concat_eq_append, setLast_snoc]; simp
  have h1 : (roomF P).rows.length ≤ P.rows.length + 1 ∧ P.rows.length ≤ (roomF P).rows.length := by
    unfold roomF
    split
    · simp [beginF, hs]
    · simp
  have h2 : (putF P c).rows.length = (roomF P).rows.length := by simp [putF, hs]
  refine ⟨by omega, fun h e => ?_⟩
  have := List.length_pos_iff.2 h
  rw [e, List.length_nil] at h2
  omega

end Go.Proofs.YtjklnnklgkihlaaGreatDoor.Grd
/- How many of a line's cells are laid. -/
namespace Go.Proofs.YtjklnnklgkihlaaGreatDoor.Grd
open Go.RowKit

def usedN (l : List Ce) (place : Int) : Nat → Nat
  | 0 => 0
  | n + 1 => if place + 1 < (n : Int) + 1 ∧ l[n]? = some plainCe then usedN l place n else n + 1

end Go.Proofs.YtjklnnklgkihlaaGreatDoor.Grd
/- A line laid. -/
namespace Go.Proofs.YtjklnnklgkihlaaGreatDoor.Grd
open Go.RowKit

theorem usedN_le (l : List Ce) (place : Int) : ∀ n, usedN l place n ≤ n
  | 0 => Nat.le_refl _
  | n + 1 => by
    show (if _ then _ else _) ≤ _
    split
    · exact Nat.le_trans (usedN_le l place n) (Nat.le_succ n)
    · exact Nat.le_refl _
/-- A line's cell, and where the place is. -/
def stepF (place : Int) (P : PF) (i : Nat) (c : Ce) : PF := if (i : Int) = place then { onF P c with px := ((onF P c).next : Int) - 1, py := ((onF P c).rows.length : Int) - 1 } else onF P c
/-- The first n cells of a line. -/
def cellsF (place : Int) (l : List Ce) (P : PF) : Nat → PF
  | 0 => P
  | n + 1 => stepF place (cellsF place l P n) n (l.getD n default)
def layF (P : PF) (l : List Ce) (wr : Bool) (place : Int) : PF :=
  let Q := cellsF place l (beginF P) (usedN l place l.length)
  { Q with rows := setLast Q.rows fun r => (r.1, wr) }

theorem onF_rows (P : PF) (c : Ce) : (onF P c).rows.length ≤ P.rows.length + 2 ∧ (P.rows ≠ [] → (onF P c).rows ≠ []) := by
  unfold onF
  split
  · exact ⟨by omega, id⟩
  · split
    · exact ⟨by have := (putF_rows P (32, 1, c.2.2)).1; omega, (putF_rows P _).2⟩
    · split
      · exact ⟨by have := (putF_rows P plainCe).1; have := (putF_rows (putF P plainCe) c).1; omega, fun h => (putF_rows _ _).2 ((putF_rows P _).2 h)⟩
      · exact ⟨by have := (putF_rows P c).1; omega, (putF_rows P _).2⟩
theorem cellsF_rows (place : Int) (l : List Ce) (P : PF) : ∀ n, (cellsF place l P n).rows.length ≤ P.rows.length + 2 * n ∧ (P.rows ≠ [] → (cellsF place l P n).rows ≠ [])
  | 0 => ⟨by simp [cellsF], id⟩
  | n + 1 => by
    have ih := cellsF_rows place l P n
    have h1 := onF_rows (cellsF place l P n) (l.getD n default)
    have h2 : (cellsF place l P (n + 1)).rows = (onF (cellsF place l P n) (l.getD n default)).rows := by
      show (stepF _ _ _ _).rows = _
      unfold stepF
      split <;> rfl
    rw [h2]
    exact ⟨by omega, fun h => h1.2 (ih.2 h)⟩

end Go.Proofs.YtjklnnklgkihlaaGreatDoor.Grd
/- Which rows are whole; what turns them keeps them whole; rows laid anew, in plain words. -/
namespace Go.Proofs.YtjklnnklgkihlaaGreatDoor.Grd
open Go.RowKit

/-- Are a row's wide cells whole? -/
inductive Whole : List Ce → Prop
  | nil : Whole []
  | one (r : Int) (s : St) (l : List Ce) : Whole l → Whole ((r, 1, s) :: l)
  | two (r : Int) (s : St) (l : List Ce) : Whole l → Whole ((r, 2, s) :: (0, 0, s) :: l)
theorem Whole.app {a b : List Ce} (ha : Whole a) (hb : Whole b) : Whole (a ++ b) := by
  induction ha with
  | nil => exact hb
  | one r s l _ ih => exact .one r s _ ih
  | two r s l _ ih => exact .two r s _ ih
theorem Whole.blanks (n : Nat) (s : St) : Whole (List.replicate n (32, 1, s)) := by
  induction n with
  | zero => exact .nil
  | succ n ih => exact .one _ _ _ ih
/-- Where a row can be parted: both parts are whole. -/
def Parts (l : List Ce) (x : Nat) : Prop := Whole (l.take x) ∧ Whole (l.drop x)
theorem Parts.whole {l : List Ce} {x : Nat} (h : Parts l x) : Whole l := by
  have := h.1.app h.2
  rwa [List.take_append_drop] at this
/-- At each column a whole row can be parted, or a padding stands there and it can be parted ahead of its wide cell and behind it. -/
theorem Whole.part {l : List Ce} (h : Whole l) : ∀ x, Parts l x ∨ (1 ≤ x ∧ x < l.length ∧ (l.getD x default).2.1 = 0 ∧ Parts l (x - 1) ∧ Parts l (x + 1)) := by
  induction h with
  | nil => intro x; exact .inl ⟨by simp; exact .nil, by simp; exact .nil⟩
  | one r s l hl ih =>
    intro x
    cases x with
    | zero => exact .inl ⟨.nil, .one r s l hl⟩
    | succ x =>
      rcases ih x with h | ⟨h1, h2, h3, h4, h5⟩
      · exact .inl ⟨.one r s _ h.1, h.2⟩
      · refine .inr ⟨by omega, by simp; omega, ?_, ?_, ?_⟩
        · simpa using h3
        · obtain ⟨y, rfl⟩ : ∃ y, x = y + 1 := ⟨x - 1, by omega⟩
          exact ⟨.one r s _ h4.1, h4.2⟩
        · exact ⟨.one r s _ h5.1, h5.2⟩
  | two r s l hl ih =>
    intro x
    match x with
    | 0 => exact .inl ⟨.nil, .two r s l hl⟩
    | 1 => exact .inr ⟨by omega, by simp, rfl, ⟨.nil, .two r s l hl⟩, ⟨.two r s _ .nil, hl⟩⟩
    | x + 2 =>
      rcases ih x with h | ⟨h1, h2, h3, h4, h5⟩
      · exact .inl ⟨.two r s _ h.1, h.2⟩
      · refine .inr ⟨by omega, by simp; omega, ?_, ?_, ?_⟩
        · simpa using h3
        · obtain ⟨y, rfl⟩ : ∃ y, x = y + 1 := ⟨x - 1, by omega⟩
          exact ⟨.two r s _ h4.1, h4.2⟩
        · exact ⟨.two r s _ h5.1, h5.2⟩
theorem Parts.zero_of {l : List Ce} {x : Nat} (h : Parts l x) (hx : x < l.length) : (l.getD x default).2.1 ≠ 0 := by
  have h2 := h.2
  rw [List.drop_eq_getElem_cons hx] at h2
  rw [show l.getD x default = l[x] by simp [hx]]
  intro e
  generalize l[x] = c at *
  generalize l.drop (x + 1) = b at h2
  cases h2 <;> simp at e
theorem fillR_parts {l : List Ce} {a n : Nat} (s : St) (ha : Whole (l.take a)) (hb : Whole (l.drop (a + n))) : Whole (fillR l a n s) := by
  unfold fillR
  exact (ha.app (.blanks n s)).app hb
theorem fillR_take {l : List Ce} {a n x : Nat} (s : St) (hx : x ≤ a) (hl : a ≤ l.length) : (fillR l a n s).take x = l.take x := by
  unfold fillR
  rw [List.append_assoc, List.take_append_of_le_length (by simp; omega), List.take_take, Nat.min_eq_left hx]
theorem fillR_drop {l : List Ce} {a n x : Nat} (s : St) (hx : a + n ≤ x) (hl : a + n ≤ l.length) : (fillR l a n s).drop x = l.drop x := by
  unfold fillR
  have h1 : (l.take a ++ List.replicate n ((32, 1, s) : Ce)).length = a + n := by simp; omega
  rw [List.drop_append, h1, List.drop_of_length_le (l := l.take a ++ _) (by omega), List.nil_append, List.drop_drop, show a + n + (x - (a + n)) = x by omega]
/-- A cut lets a row be parted there; where it could be parted elsewhere, it still can. -/
theorem cutL_parts {l : List Ce} (h : Whole l) (x : Nat) : Parts (cutL l x) x ∧ ∀ y, Parts l y → Parts (cutL l x) y := by
  unfold cutL
  rcases h.part x with hp | ⟨h1, h2, h3, h4, h5⟩
  · by_cases hx : x < l.length
    · rw [if_neg (fun e => hp.zero_of hx e.2.2)]
      exact ⟨hp, fun _ h => h⟩
    · rw [if_neg (fun e => hx e.2.1)]
      exact ⟨hp, fun _ h => h⟩
  · rw [if_pos ⟨h1, h2, h3⟩]
    generalize (l.getD x default).2.2 = s
    obtain ⟨x, rfl⟩ : ∃ y, x = y + 1 := ⟨x - 1, by omega⟩
    rw [Nat.add_sub_cancel] at h4 ⊢
    have hw := fillR_parts (n := 2) s h4.1 (by rw [show x + 2 = x + 1 + 1 by omega]; exact h5.2)
    have e1 : (fillR l x 2 s) = l.take x ++ ((32, 1, s) :: (32, 1, s) :: l.drop (x + 2)) := by unfold fillR; simp [List.replicate]
    have hl : (l.take x).length = x := by rw [List.length_take]; omega
    refine ⟨?_, fun y hy => ?_⟩
    · have ex1 : (fillR l x 2 s).take (x + 1) = l.take x ++ [(32, 1, s)] := by
        rw [e1, List.take_append, hl, List.take_of_length_le (by omega), show x + 1 - x = 1 by omega]; rfl
      have ex2 : (fillR l x 2 s).drop (x + 1) = (32, 1, s) :: l.drop (x + 2) := by
        rw [e1, List.drop_append, hl, List.drop_of_length_le (l := l.take x) (by omega), show x + 1 - x = 1 by omega]; rfl
      exact ⟨by rw [ex1]; exact h4.1.app (.one _ _ _ .nil), by rw [ex2]; exact .one _ _ _ h5.2⟩
    · rcases Nat.lt_or_ge x y with hxy | hxy
      · rcases Nat.lt_or_ge (x + 1) y with hxy2 | hxy2
        · have ex : (fillR l x 2 s).drop y = l.drop y := fillR_drop s (by omega) (by omega)
          have et : (fillR l x 2 s).take y = l.take x ++ ((32, 1, s) :: (32, 1, s) :: (l.drop (x + 2)).take (y - (x + 2))) := by
            rw [e1, List.take_append, hl, List.take_of_length_le (by omega)]
            obtain ⟨d, rfl⟩ : ∃ d, y = x + 2 + d := ⟨y - (x + 2), by omega⟩
            rw [show x + 2 + d - x = d + 1 + 1 by omega, show x + 2 + d - (x + 2) = d by omega]
            rfl
          refine ⟨?_, by rw [ex]; exact hy.2⟩
          rw [et]
          refine h4.1.app (.one _ _ _ (.one _ _ _ ?_))
          have h6 := hy.1
          have e2 : l.take y = l.take (x + 2) ++ (l.drop (x + 2)).take (y - (x + 2)) := by
            rw [← List.take_append_drop (x + 2) (l.take y), List.take_take, Nat.min_eq_left (by omega), List.drop_take]
          rw [e2] at h6
          have h7 : Whole (l.take (x + 2)) := h5.1
          clear e2 et ex hy
          generalize (l.drop (x + 2)).take (y - (x + 2)) = b at h6 ⊢
          generalize l.take (x + 2) = a at h6 h7
          clear h hw h4 h5 h3 h2 h1 hl e1
          induction h7 with
          | nil => exact h6
          | one r s l _ ih => cases h6 with | one _ _ _ h => exact ih h
          | two r s l _ ih => cases h6 with | two _ _ _ h => exact ih h
        · obtain rfl : y = x + 1 := by omega
          exact absurd h3 (hy.zero_of h2)
      · have et : (fillR l x 2 s).take y = l.take y := fillR_take s hxy (by omega)
        refine ⟨by rw [et]; exact hy.1, ?_⟩
        have h6 := hy.2
        have e2 : (fillR l x 2 s).drop y = (l.take x).drop y ++ ((32, 1, s) :: (32, 1, s) :: l.drop (x + 2)) := by
          rw [e1, List.drop_append_of_le_length (by omega)]
        rw [e2]
        refine Whole.app ?_ (.one _ _ _ (.one _ _ _ h5.2))
        have h7 := h4.1
        have e3 : l.take x = l.take y ++ (l.take x).drop y := by
          rw [← List.take_append_drop y (l.take x), List.take_take, Nat.min_eq_left hxy, List.drop_append, List.length_take, List.drop_of_length_le (l := l.take y) (by rw [List.length_take]; omega), Nat.min_eq_left (by omega), Nat.sub_self, List.drop_zero, List.nil_append]
        rw [e3] at h7
        have h8 := hy.1
        clear e3 e2 et hy h6
        generalize (l.take x).drop y = b at h7 ⊢
        generalize l.take y = a at h7 h8
        clear h hw h4 h5 h3 h2 h1 hl e1
        induction h8 with
        | nil => exact h7
        | one r s l _ ih => cases h7 with | one _ _ _ h => exact ih h
        | two r s l _ ih => cases h7 with | two _ _ _ h => exact ih h
theorem Whole.cancel {a b : List Ce} (h : Whole (a ++ b)) (ha : Whole a) : Whole b := by
  induction ha with
  | nil => exact h
  | one r s l _ ih => cases h with | one _ _ _ h => exact ih h
  | two r s l _ ih => cases h with | two _ _ _ h => exact ih h
theorem parts_set_one {m : List Ce} {x : Nat} (hx : x + 1 ≤ m.length) (h1 : Parts m x) (h2 : Parts m (x + 1)) (r : Int) (s : St) : Whole (m.set x (r, 1, s)) := by
  rw [List.set_eq_take_append_cons_drop, if_pos (by omega)]
  exact h1.1.app (.one _ _ _ h2.2)
theorem parts_set_two {m : List Ce} {x : Nat} (hx : x + 2 ≤ m.length) (h1 : Parts m x) (h2 : Parts m (x + 2)) (r : Int) (s : St) : Whole ((m.set x (r, 2, s)).set (x + 1) (0, 0, s)) := by
  have e : (m.set x (r, 2, s)).set (x + 1) (0, 0, s) = m.take x ++ ((r, 2, s) :: (0, 0, s) :: m.drop (x + 2)) := by
    have e0 : m.set x (r, 2, s) = m.take x ++ (r, 2, s) :: m.drop (x + 1) := by rw [List.set_eq_take_append_cons_drop, if_pos (by omega)]
    rw [e0, List.set_append_right _ _ (by rw [List.length_take]; omega), List.length_take, Nat.min_eq_left (by omega), Nat.add_sub_cancel_left]
    rw [List.drop_eq_getElem_cons (show x + 1 < m.length by omega)]
    rfl
  rw [e]
  exact h1.1.app (.two _ _ _ h2.2)
theorem cutL_length (l : List Ce) (x : Nat) : (cutL l x).length = l.length := by
  unfold cutL
  split
  · unfold fillR; simp only [List.length_append, List.length_take, List.length_drop, List.length_replicate]; omega
  · rfl
theorem cut2_parts {l : List Ce} (h : Whole l) (x y : Nat) : Parts (cutL (cutL l x) y) x ∧ Parts (cutL (cutL l x) y) y := by
  have h1 := cutL_parts h x
  have h2 := cutL_parts h1.1.whole y
  exact ⟨h2.2 x h1.1, h2.1⟩
theorem putL_whole {l : List Ce} (h : Whole l) {x : Nat} {c : Ce} (hw : c.2.1 = 1 ∨ c.2.1 = 2) (hx : (x : Int) + c.2.1 ≤ (l.length : Int)) : Whole (putL l x c) := by
  obtain ⟨r, wd, s⟩ := c
  simp only at hw hx
  unfold putL
  rcases hw with rfl | rfl
  · rw [if_neg (fun e => absurd (show (1 : Int) = 2 from e) (by decide))]
    have := cut2_parts h x (x + 1)
    exact parts_set_one (by rw [cutL_length, cutL_length]; omega) this.1 this.2 r s
  · rw [if_pos rfl]
    have := cut2_parts h x (x + 2)
    exact parts_set_two (by rw [cutL_length, cutL_length]; omega) this.1 this.2 r s
/-- Columns made blank. -/
def eraseL (l : List Ce) (x n : Nat) (s : St) : List Ce := fillR (cutL (cutL l x) (x + n)) x n s
theorem eraseL_whole {l : List Ce} (h : Whole l) (x n : Nat) (s : St) : Whole (eraseL l x n s) := by
  have := cut2_parts h x (x + n)
  exact fillR_parts s this.1.1 this.2.2
/-- Blanks put between. -/
def insL (l : List Ce) (x n : Nat) (s : St) : List Ce := (cutL (cutL l x) (l.length - n)).take x ++ List.replicate n (32, 1, s) ++ ((cutL (cutL l x) (l.length - n)).take (l.length - n)).drop x
theorem insL_whole {l : List Ce} (h : Whole l) {x n : Nat} (s : St) (hx : x + n ≤ l.length) : Whole (insL l x n s) := by
  have h1 := cut2_parts h x (l.length - n)
  unfold insL
  generalize cutL (cutL l x) (l.length - n) = m at *
  refine (h1.1.1.app (.blanks n s)).app ?_
  have h2 := h1.2.1
  have e : m.take (l.length - n) = m.take x ++ (m.take (l.length - n)).drop x := by
    conv => lhs; rw [← List.take_append_drop x (m.take (l.length - n)), List.take_take, Nat.min_eq_left (by omega)]
  rw [e] at h2
  exact h2.cancel h1.1.1
/-- Columns taken out. -/
def delL (l : List Ce) (x n : Nat) (s : St) : List Ce := (cutL (cutL l x) (x + n)).take x ++ (cutL (cutL l x) (x + n)).drop (x + n) ++ List.replicate n (32, 1, s)
theorem delL_whole {l : List Ce} (h : Whole l) (x n : Nat) (s : St) : Whole (delL l x n s) := by
  have h1 := cut2_parts h x (x + n)
  exact (h1.1.1.app h1.2.2).app (.blanks n s)
/-- A row in another number of columns. -/
def cropL (l : List Ce) (cols : Nat) : List Ce := (cutL l cols).take cols ++ List.replicate (cols - l.length) plainCe
theorem cropL_whole {l : List Ce} (h : Whole l) (cols : Nat) : Whole (cropL l cols) := (cutL_parts h cols).1.1.app (.blanks _ _)

/-- The last tile of a whole row. -/
theorem Whole.last {l : List Ce} (h : Whole l) : l = [] ∨ (∃ a r s, Whole a ∧ l = a ++ [(r, 1, s)]) ∨ ∃ a r s, Whole a ∧ l = a ++ [(r, 2, s), (0, 0, s)] := by
  induction h with
  | nil => exact .inl rfl
  | one r s l hl ih =>
    rcases ih with rfl | ⟨a, r2, s2, ha, rfl⟩ | ⟨a, r2, s2, ha, rfl⟩
    · exact .inr (.inl ⟨[], r, s, .nil, rfl⟩)
    · exact .inr (.inl ⟨(r, 1, s) :: a, r2, s2, .one _ _ _ ha, rfl⟩)
    · exact .inr (.inr ⟨(r, 1, s) :: a, r2, s2, .one _ _ _ ha, rfl⟩)
  | two r s l hl ih =>
    rcases ih with rfl | ⟨a, r2, s2, ha, rfl⟩ | ⟨a, r2, s2, ha, rfl⟩
    · exact .inr (.inr ⟨[], r, s, .nil, rfl⟩)
    · exact .inr (.inl ⟨(r, 2, s) :: (0, 0, s) :: a, r2, s2, .two _ _ _ ha, rfl⟩)
    · exact .inr (.inr ⟨(r, 2, s) :: (0, 0, s) :: a, r2, s2, .two _ _ _ ha, rfl⟩)
theorem Whole.init {a : List Ce} {r : Int} {s : St} (h : Whole (a ++ [(r, 1, s)])) : Whole a := by
  rcases h.last with e | ⟨b, r2, s2, hb, e⟩ | ⟨b, r2, s2, hb, e⟩
  · simp at e
  · have := List.append_inj_left' e rfl
    rw [this]; exact hb
  · rw [show b ++ [((r2, 2, s2) : Ce), (0, 0, s2)] = (b ++ [(r2, 2, s2)]) ++ [(0, 0, s2)] by simp] at e
    have := List.append_inj_right' e rfl
    simp at this

/-- A flow's rows are whole; the last one ends in blanks. -/
structure FW (P : PF) : Prop where
  n : P.next ≤ P.cols
  rows : ∃ R l wr, P.rows = R ++ [(l ++ List.replicate (P.cols - P.next) plainCe, wr)] ∧ (∀ r ∈ R, Whole r.1 ∧ r.1.length = P.cols) ∧ Whole l ∧ l.length = P.next
theorem FW.room {P : PF} (h : FW P) (hc : 1 ≤ P.cols) : FW (roomF P) ∧ (roomF P).cols = P.cols ∧ (roomF P).next < P.cols ∧ (roomF P = P ∧ P.next < P.cols ∨ (roomF P).next = 0 ∧ P.next = P.cols) := by
  unfold roomF
  by_cases hn : P.next = P.cols
  · rw [if_pos hn]
    obtain ⟨R, l, wr, e, h1, h2, h3⟩ := h.rows
    refine ⟨⟨Nat.zero_le _, ?_⟩, rfl, by show 0 < P.cols; omega, .inr ⟨rfl, hn⟩⟩
    rw [hn, Nat.sub_self, List.replicate_zero, List.append_nil] at e
    refine ⟨R ++ [(l, true)], [], false, ?_, ?_, .nil, rfl⟩
    · show setLast P.rows _ ++ _ = _
      rw [e, setLast_snoc]
      rfl
    · intro r hr
      rcases List.mem_append.1 hr with hr | hr
      · exact h1 r hr
      · rw [List.mem_singleton] at hr
        rw [hr]
        exact ⟨h2, by rw [h3, hn]; rfl⟩
  · rw [if_neg hn]
    have := h.n
    exact ⟨h, rfl, by omega, .inl ⟨rfl, by omega⟩⟩
/-- What a row holds behind a cell that is put. -/
theorem FW.put_rows {P : PF} (h : FW P) (hc : 1 ≤ P.cols) (c : Ce) : (putF P c).cols = P.cols ∧ (putF P c).next = (roomF P).next + 1 ∧ (putF P c).next ≤ P.cols ∧
    ∃ R l wr, (putF P c).rows = R ++ [(l ++ [c] ++ List.replicate (P.cols - (putF P c).next) plainCe, wr)] ∧ (∀ r ∈ R, Whole r.1 ∧ r.1.length = P.cols) ∧ Whole l ∧ l.length = (roomF P).next := by
  obtain ⟨h1, h2, h3, _⟩ := h.room hc
  obtain ⟨R, l, wr, e, h4, h5, h6⟩ := h1.rows
  refine ⟨h2, rfl, by show (roomF P).next + 1 ≤ _; omega, R, l, wr, ?_, fun r hr => by rw [← h2]; exact h4 r hr, h5, h6⟩
  show setLast (roomF P).rows _ = _
  rw [e, setLast_snoc]
  have hs : (l ++ List.replicate ((roomF P).cols - (roomF P).next) plainCe).set (roomF P).next c = l ++ [c] ++ List.replicate (P.cols - (putF P c).next) plainCe := by
    rw [List.set_append_right _ _ (by omega), h6, Nat.sub_self, h2]
    obtain ⟨d, hd⟩ : ∃ d, P.cols - (roomF P).next = d + 1 := ⟨P.cols - (roomF P).next - 1, by omega⟩
    rw [hd, List.replicate_succ, List.set_cons_zero, show P.cols - (putF P c).next = d by show P.cols - ((roomF P).next + 1) = d; omega]
    simp
  rw [hs]
theorem FW.put_one {P : PF} (h : FW P) (hc : 1 ≤ P.cols) (r : Int) (s : St) : FW (putF P (r, 1, s)) ∧ (putF P (r, 1, s)).cols = P.cols := by
  obtain ⟨h1, h2, h3, R, l, wr, e, h4, h5, h6⟩ := h.put_rows hc (r, 1, s)
  refine ⟨⟨by omega, R, l ++ [(r, 1, s)], wr, by rw [e, h1], fun x hx => by rw [h1]; exact h4 x hx, h5.app (.one _ _ _ .nil), by simp; omega⟩, h1⟩
theorem FW.put_two {P : PF} (h : FW P) (hc : 2 ≤ P.cols) (hn : P.next + 1 ≠ P.cols) (r : Int) (s : St) : FW (putF (putF P (r, 2, s)) (0, 0, s)) ∧ (putF (putF P (r, 2, s)) (0, 0, s)).cols = P.cols := by
  obtain ⟨h1, h2, h3, R, l, wr, e, h4, h5, h6⟩ := h.put_rows (by omega) (r, 2, s)
  obtain ⟨_, _, h7, h8⟩ := h.room (by omega)
  have hlt : (roomF P).next + 1 < P.cols := by
    rcases h8 with ⟨e1, e2⟩ | ⟨e1, e2⟩
    · rw [e1]; omega
    · omega
  have hro : roomF (putF P (r, 2, s)) = putF P (r, 2, s) := by
    unfold roomF
    rw [if_neg (by rw [h1, h2]; omega)]
  have e3 : (putF (putF P (r, 2, s)) (0, 0, s)).rows = R ++ [(l ++ [(r, 2, s), (0, 0, s)] ++ List.replicate (P.cols - ((roomF P).next + 2)) plainCe, wr)] := by
    show setLast (roomF (putF P (r, 2, s))).rows _ = _
    rw [hro, e, setLast_snoc, h2]
    have hs : (l ++ [((r, 2, s) : Ce)] ++ List.replicate (P.cols - ((roomF P).next + 1)) plainCe).set ((roomF P).next + 1) (0, 0, s) = l ++ [(r, 2, s), (0, 0, s)] ++ List.replicate (P.cols - ((roomF P).next + 2)) plainCe := by
      rw [List.set_append_right _ _ (by simp; omega)]
      obtain ⟨d, hd⟩ : ∃ d, P.cols - ((roomF P).next + 1) = d + 1 := ⟨P.cols - ((roomF P).next + 1) - 1, by omega⟩
      rw [hd, List.replicate_succ, show (roomF P).next + 1 - (l ++ [((r, 2, s) : Ce)]).length = 0 by simp; omega, List.set_cons_zero, show P.cols - ((roomF P).next + 2) = d by omega]
      simp
    rw [hs]
  have hn2 : (putF (putF P (r, 2, s)) (0, 0, s)).next = (roomF P).next + 2 := by
    show (roomF (putF P (r, 2, s))).next + 1 = _
    rw [hro, h2]
  have hc2 : (putF (putF P (r, 2, s)) (0, 0, s)).cols = P.cols := by
    show (roomF (putF P (r, 2, s))).cols = _
    rw [hro, h1]
  refine ⟨⟨by rw [hn2, hc2]; omega, R, l ++ [(r, 2, s), (0, 0, s)], wr, by rw [e3, hn2, hc2], fun x hx => by rw [hc2]; exact h4 x hx, h5.app (.two _ _ _ .nil), by simp; omega⟩, hc2⟩
theorem onF_one {P : PF} (h : FW P) (hc : 1 ≤ P.cols) (r : Int) (s : St) : FW (onF P (r, 1, s)) ∧ (onF P (r, 1, s)).cols = P.cols := by
  have e : onF P (r, 1, s) = putF P (r, 1, s) := by unfold onF; simp
  rw [e]
  exact h.put_one hc r s
theorem FW.place {P : PF} (h : FW P) (x y : Int) : FW { P with px := x, py := y } := ⟨h.n, h.rows⟩
theorem stepF_one {P : PF} (h : FW P) (hc : 1 ≤ P.cols) (place : Int) (i : Nat) (r : Int) (s : St) : FW (stepF place P i (r, 1, s)) ∧ (stepF place P i (r, 1, s)).cols = P.cols := by
  unfold stepF
  have := onF_one h hc r s
  split
  · exact ⟨this.1.place _ _, this.2⟩
  · exact this
theorem onF_place (P : PF) (x y : Int) (c : Ce) : ∃ x' y', onF { P with px := x, py := y } c = { onF P c with px := x', py := y' } := by
  have hr : ∀ (P : PF) (x y : Int), roomF { P with px := x, py := y } = { roomF P with px := x, py := y } := fun P x y => by
    unfold roomF
    by_cases h : P.next = P.cols
    · rw [if_pos h, if_pos h]; rfl
    · rw [if_neg h, if_neg h]
  have hp : ∀ (P : PF) (x y : Int) (c : Ce), putF { P with px := x, py := y } c = { putF P c with px := x, py := y } := fun P x y c => by
    unfold putF
    rw [hr]
  unfold onF
  by_cases h1 : P.cols = 1 ∧ c.2.1 = 0
  · rw [if_pos h1, if_pos h1]; exact ⟨x, y, rfl⟩
  · rw [if_neg h1, if_neg h1]
    by_cases h2 : P.cols = 1 ∧ c.2.1 = 2
    · rw [if_pos h2, if_pos h2, hp]; exact ⟨x, y, rfl⟩
    · rw [if_neg h2, if_neg h2]
      by_cases h3 : P.next + 1 = P.cols ∧ c.2.1 = 2
      · rw [if_pos h3, if_pos h3, hp P x y plainCe, hp]; exact ⟨x, y, rfl⟩
      · rw [if_neg h3, if_neg h3, hp]; exact ⟨x, y, rfl⟩
theorem onF_two {P : PF} (h : FW P) (hc : 1 ≤ P.cols) (r : Int) (s : St) : FW (onF (onF P (r, 2, s)) (0, 0, s)) ∧ (onF (onF P (r, 2, s)) (0, 0, s)).cols = P.cols := by
  by_cases h1 : P.cols = 1
  · have e1 : onF P (r, 2, s) = putF P (32, 1, s) := by unfold onF; simp [h1]
    have h2 := h.put_one hc 32 s
    have e2 : onF (putF P (32, 1, s)) (0, 0, s) = putF P (32, 1, s) := by
      unfold onF
      rw [if_pos ⟨by rw [h2.2, h1], rfl⟩]
    rw [e1, e2]
    exact h2
  · have hpad : ∀ Q : PF, Q.cols = P.cols → onF Q (0, 0, s) = putF Q (0, 0, s) := fun Q hQ => by
      unfold onF
      rw [if_neg (fun e => h1 (hQ.symm.trans e.1)), if_neg (fun e => h1 (hQ.symm.trans e.1)), if_neg (fun e => absurd e.2 (by simp))]
    by_cases h2 : P.next + 1 = P.cols
    · have e1 : onF P (r, 2, s) = putF (putF P plainCe) (r, 2, s) := by
        unfold onF
        rw [if_neg (fun e => h1 e.1), if_neg (fun e => h1 e.1), if_pos ⟨h2, rfl⟩]
      have h3 := h.put_one hc 32 (-1, -1, 0)
      have hn : (putF P (32, 1, -1, -1, 0)).next = P.cols := by
        have hro : roomF P = P := by unfold roomF; rw [if_neg (by omega)]
        show (roomF P).next + 1 = _
        rw [hro]; exact h2
      have h4 := h3.1.put_two (by rw [h3.2]; omega) (by rw [h3.2, hn]; omega) r s
      rw [h3.2] at h4
      have hpc : plainCe = (32, 1, -1, -1, 0) := rfl
      rw [e1, hpc, hpad _ (((h3.1.put_rows (by rw [h3.2]; exact hc) (r, 2, s)).1).trans h3.2)]
      exact h4
    · have e1 : onF P (r, 2, s) = putF P (r, 2, s) := by
        unfold onF
        rw [if_neg (fun e => h1 e.1), if_neg (fun e => h1 e.1), if_neg (fun e => h2 e.1)]
      rw [e1, hpad _ (h.put_rows hc (r, 2, s)).1]
      exact h.put_two (by omega) h2 r s
theorem stepF_two {P : PF} (h : FW P) (hc : 1 ≤ P.cols) (place : Int) (i j : Nat) (r : Int) (s : St) : FW (stepF place (stepF place P i (r, 2, s)) j (0, 0, s)) ∧ (stepF place (stepF place P i (r, 2, s)) j (0, 0, s)).cols = P.cols := by
  have h2 := onF_two h hc r s
  have h3 : ∀ Q : PF, FW (onF Q (0, 0, s)) ∧ (onF Q (0, 0, s)).cols = P.cols → FW (stepF place Q j (0, 0, s)) ∧ (stepF place Q j (0, 0, s)).cols = P.cols := fun Q hQ => by
    unfold stepF
    split
    · exact ⟨hQ.1.place _ _, hQ.2⟩
    · exact hQ
  apply h3
  unfold stepF
  split
  · obtain ⟨x', y', e⟩ := onF_place (onF P (r, 2, s)) (((onF P (r, 2, s)).next : Int) - 1) (((onF P (r, 2, s)).rows.length : Int) - 1) (0, 0, s)
    rw [e]
    exact ⟨h2.1.place _ _, h2.2⟩
  · exact h2
theorem cellsF_whole {P : PF} (h : FW P) (hc : 1 ≤ P.cols) (place : Int) (l : List Ce) : ∀ n k, k ≤ n → k ≤ l.length → Whole (l.take k) → FW (cellsF place l P k) ∧ (cellsF place l P k).cols = P.cols := by
  intro n
  induction n with
  | zero => intro k hk _ _; obtain rfl : k = 0 := Nat.le_zero.1 hk; exact ⟨h, rfl⟩
  | succ n ih =>
    intro k hk hl hw
    rcases hw.last with e | ⟨a, r, s, ha, e⟩ | ⟨a, r, s, ha, e⟩
    · have : k = 0 := by have := congrArg List.length e; rw [List.length_take, List.length_nil] at this; omega
      subst this
      exact ⟨h, rfl⟩
    · have hk2 : k = a.length + 1 := by have := congrArg List.length e; rw [List.length_take] at this; simp at this; omega
      subst hk2
      have e1 : l.take a.length = a := by
        have := congrArg (List.take a.length) e
        rwa [List.take_take, Nat.min_eq_left (by omega), List.take_left] at this
      have e2 : l.getD a.length default = (r, 1, s) := by
        have := congrArg (fun x => x[a.length]?) e
        simp only [List.getElem?_take, show a.length < a.length + 1 by omega, if_true, List.getElem?_concat_length] at this
        simp [List.getD, this]
      have h1 := ih a.length (by omega) (by omega) (by rw [e1]; exact ha)
      have h2 := stepF_one h1.1 (by rw [h1.2]; exact hc) place a.length r s
      show FW (stepF _ _ _ _) ∧ (stepF _ _ _ _).cols = _
      rw [e2]
      exact ⟨h2.1, h2.2.trans h1.2⟩
    · have hk2 : k = a.length + 1 + 1 := by have := congrArg List.length e; rw [List.length_take] at this; simp at this; omega
      subst hk2
      have e1 : l.take a.length = a := by
        have := congrArg (List.take a.length) e
        rwa [List.take_take, Nat.min_eq_left (by omega), List.take_left] at this
      have e2 : l.getD a.length default = (r, 2, s) := by
        have := congrArg (fun x => x[a.length]?) e
        simp only [List.getElem?_take, show a.length < a.length + 1 + 1 by omega, if_true] at this
        rw [List.getElem?_append_right (by omega), Nat.sub_self] at this
        simp at this
        simp [List.getD, this]
      have e3 : l.getD (a.length + 1) default = (0, 0, s) := by
        have := congrArg (fun x => x[a.length + 1]?) e
        simp only [List.getElem?_take, show a.length + 1 < a.length + 1 + 1 by omega, if_true] at this
        rw [List.getElem?_append_right (by omega), show a.length + 1 - a.length = 1 by omega] at this
        simp at this
        simp [List.getD, this]
      have h1 := ih a.length (by omega) (by omega) (by rw [e1]; exact ha)
      have h2 := stepF_two h1.1 (by rw [h1.2]; exact hc) place a.length (a.length + 1) r s
      show FW (stepF _ (stepF _ _ _ _) _ _) ∧ (stepF _ (stepF _ _ _ _) _ _).cols = _
      rw [e2, e3]
      exact ⟨h2.1, h2.2.trans h1.2⟩
theorem usedN_whole {l : List Ce} (place : Int) : ∀ n, n ≤ l.length → Whole (l.take n) → Whole (l.take (usedN l place n)) ∧ usedN l place n ≤ n
  | 0, _, h => ⟨h, Nat.le_refl _⟩
  | n + 1, hn, h => by
    show Whole (l.take (if _ then _ else _)) ∧ (if _ then _ else _) ≤ _
    split
    · next hq =>
      have e : l.take (n + 1) = l.take n ++ [(32, 1, -1, -1, 0)] := by
        rw [List.take_add_one, hq.2]; rfl
      rw [e] at h
      have := usedN_whole place n (by omega) h.init
      exact ⟨this.1, by omega⟩
    · exact ⟨h, Nat.le_refl _⟩
/-- All of a flow's rows are whole. -/
def AllW (cols : Nat) (rs : List Ro) : Prop := ∀ r ∈ rs, Whole r.1 ∧ r.1.length = cols
theorem FW.all {P : PF} (h : FW P) : AllW P.cols P.rows := by
  obtain ⟨R, l, wr, e, h4, h5, h6⟩ := h.rows
  have := h.n
  rw [e]
  intro r hr
  rcases List.mem_append.1 hr with hr | hr
  · exact h4 r hr
  · rw [List.mem_singleton] at hr
    rw [hr]
    exact ⟨h5.app (.blanks _ _), by simp; omega⟩
theorem layF_whole {P : PF} (hc : 1 ≤ P.cols) (hA : AllW P.cols P.rows) {l : List Ce} (hl : Whole l) (wr : Bool) (place : Int) : AllW P.cols (layF P l wr place).rows ∧ (layF P l wr place).cols = P.cols := by
  have hb : FW (beginF P) := ⟨Nat.zero_le _, P.rows, [], false, rfl, hA, .nil, rfl⟩
  have hu := usedN_whole place l.length (Nat.le_refl _) (by rw [List.take_length]; exact hl)
  have h1 := cellsF_whole hb hc place l _ _ (Nat.le_refl _) hu.2 hu.1
  have h2 := h1.1.all
  rw [h1.2] at h2
  refine ⟨?_, h1.2⟩
  show AllW P.cols (setLast _ _)
  generalize (cellsF place l (beginF P) (usedN l place l.length)).rows = rs at *
  rcases List.eq_nil_or_concat rs with rfl | ⟨rs, r, rfl⟩
  · intro x hx; cases hx
  · rw [List.concat_eq_append, setLast_snoc]
    rw [List.concat_eq_append] at h2
    intro x hx
    rcases List.mem_append.1 hx with hx | hx
    · exact h2 x (by simp [hx])
    · rw [List.mem_singleton] at hx
      rw [hx]
      exact h2 r (by simp)
/-- What a cell of a whole row can be. -/
theorem Whole.at {l : List Ce} (h : Whole l) : ∀ x (hx : x < l.length), l[x].2.1 = 1 ∨ (l[x].2.1 = 2 ∧ l[x + 1]? = some (0, 0, l[x].2.2)) ∨ ∃ y s, x = y + 1 ∧ l[x] = (0, 0, s) ∧ ∃ r, l[y]? = some (r, 2, s) := by
  induction h with
  | nil => intro x hx; cases hx
  | one r s l hl ih =>
    intro x hx
    cases x with
    | zero => exact .inl rfl
    | succ x =>
      rw [List.length_cons] at hx
      rcases ih x (by omega) with h | ⟨h1, h2⟩ | ⟨y, s2, rfl, h1, r2, h2⟩
      · exact .inl h
      · exact .inr (.inl ⟨h1, h2⟩)
      · exact .inr (.inr ⟨y + 1, s2, rfl, h1, r2, h2⟩)
  | two r s l hl ih =>
    intro x hx
    match x, hx with
    | 0, hx => exact .inr (.inl ⟨rfl, rfl⟩)
    | 1, hx => exact .inr (.inr ⟨0, s, rfl, rfl, r, rfl⟩)
    | x + 2, hx =>
      simp only [List.length_cons] at hx
      rcases ih x (by omega) with h | ⟨h1, h2⟩ | ⟨y, s2, rfl, h1, r2, h2⟩
      · exact .inl h
      · exact .inr (.inl ⟨h1, h2⟩)
      · exact .inr (.inr ⟨y + 2, s2, rfl, h1, r2, h2⟩)

/-- A line in plain words: its cells, whether its last row goes on, which cell the place is at. -/
structure PL where
  l : List Ce
  wr : Bool
  place : Int
def setLastL (rs : List PL) (f : PL → PL) : List PL := rs.dropLast ++ (rs.getLast?.map f).toList
theorem setLastL_snoc (rs : List PL) (r : PL) (f : PL → PL) : setLastL (rs ++ [r]) f = rs ++ [f r] := by unfold setLastL; simp
def openL (acc : List PL × Bool) : List PL := if acc.2 then acc.1 else acc.1 ++ [⟨[], false, -1⟩]
/-- One more row. -/
def addL (tgt x : Int) (acc : List PL × Bool) (i : Nat) (r : Ro) : List PL × Bool :=
  (setLastL (openL acc) fun m => ⟨m.l ++ r.1, r.2, if (i : Int) = tgt then (m.l.length : Int) + x else m.place⟩, r.2)
/-- The lines of the first n rows; does the last one go on? -/
def linesN (rows : List Ro) (tgt x : Int) : Nat → List PL × Bool
  | 0 => ([], false)
  | n + 1 => addL tgt x (linesN rows tgt x n) n (rows.getD n default)
theorem linesN_on (rows : List Ro) (tgt x : Int) : ∀ n, (linesN rows tgt x n).2 = true → (linesN rows tgt x n).1 ≠ []
  | 0, h => by cases h
  | n + 1, _ => by
    show setLastL _ _ ≠ []
    have h1 : openL (linesN rows tgt x n) ≠ [] := by
      unfold openL
      split
      · next h => exact linesN_on rows tgt x n h
      · simp
    generalize openL (linesN rows tgt x n) = rs at *
    rcases List.eq_nil_or_concat rs with rfl | ⟨rs, r, rfl⟩
    · exact absurd rfl h1
    · rw [List.concat_eq_append, setLastL_snoc]; simp
/-- What is true of each line, if it is of the first n rows, and of rows behind one another. -/
theorem linesN_all (p : List Ce → Prop) (h0 : p []) (happ : ∀ a b, p a → p b → p (a ++ b)) (rows : List Ro) (tgt x : Int) : ∀ n, n ≤ rows.length → (∀ r ∈ rows, p r.1) → ∀ m ∈ (linesN rows tgt x n).1, p m.l
  | 0, _, _ => fun _ h => by cases h
  | n + 1, hn, hr => by
    have ih := linesN_all p h0 happ rows tgt x n (by omega) hr
    have h1 : ∀ m ∈ openL (linesN rows tgt x n), p m.l := by
      unfold openL
      split
      · exact ih
      · intro m hm
        rcases List.mem_append.1 hm with hm | hm
        · exact ih m hm
        · rw [List.mem_singleton] at hm; rw [hm]; exact h0
    have h2 : p (rows.getD n default).1 := by
      rw [show rows.getD n default = rows[n] by simp [show n < rows.length by omega]]
      exact hr _ (List.getElem_mem _)
    show ∀ m ∈ setLastL _ _, _
    generalize openL (linesN rows tgt x n) = rs at *
    rcases List.eq_nil_or_concat rs with rfl | ⟨rs, r, rfl⟩
    · intro m hm; cases hm
    · rw [List.concat_eq_append] at h1 ⊢
      rw [setLastL_snoc]
      intro m hm
      rcases List.mem_append.1 hm with hm | hm
      · exact h1 m (by simp [hm])
      · rw [List.mem_singleton] at hm
        rw [hm]
        exact happ _ _ (h1 r (by simp)) h2
/-- How many of n rows stay, if those at the end that are blank, and below the place, go. -/
def trimN (cols : Nat) (rows : List Ro) (py : Int) : Nat → Nat
  | 0 => 0
  | n + 1 => if py < (n : Int) ∧ rows.getD n default = ((List.replicate cols plainCe, false) : Ro) then trimN cols rows py n else n + 1
theorem trimN_le (cols : Nat) (rows : List Ro) (py : Int) : ∀ n, trimN cols rows py n ≤ n
  | 0 => Nat.le_refl _
  | n + 1 => by
    show (if _ then _ else _) ≤ _
    split
    · have := trimN_le cols rows py n; omega
    · exact Nat.le_refl _
theorem trimN_py (cols : Nat) (rows : List Ro) (py : Int) (h0 : 0 ≤ py) : ∀ n : Nat, py < (n : Int) → py < (trimN cols rows py n : Int)
  | 0, h => by omega
  | n + 1, h => by
    show _ < (((if _ then _ else _) : Nat) : Int)
    split
    · next hq => exact trimN_py cols rows py h0 n hq.1
    · exact h
def trimF (P : PF) : PF := { P with rows := P.rows.take (trimN P.cols P.rows P.py P.rows.length) }
def laysF (P : PF) (ls : List PL) : PF := ls.foldl (fun P l => layF P l.l l.wr l.place) P
/-- Rows laid anew in so many columns. -/
def flowOf (rows : List Ro) (tgt x : Int) (cols : Nat) : PF := trimF (laysF ⟨cols, [], 0, 0, 0⟩ (linesN rows tgt x rows.length).1)
/-- How many of them are not on the screen. -/
def firstOf (P : PF) (rows : Nat) : Nat := min (P.rows.length - rows) P.py.toNat
def filledR (rs : List Ro) (cols n : Nat) : List Ro := rs.take n ++ List.replicate (n - rs.length) (List.replicate cols plainCe, false)

/-- The place is in a row that there is. -/
structure Placed (P : PF) : Prop where
  p0 : 0 ≤ P.py
  p1 : P.py = 0 ∨ P.py < (P.rows.length : Int)
theorem setLast_len (rs : List Ro) (g : Ro → Ro) : (setLast rs g).length = rs.length := by
  rcases List.eq_nil_or_concat rs with rfl | ⟨rs, r, rfl⟩
  · rfl
  · rw [List.concat_eq_append, setLast_snoc]; simp
theorem putF_py (P : PF) (c : Ce) : (putF P c).py = P.py ∧ P.rows.length ≤ (putF P c).rows.length := by
  have hr : (roomF P).py = P.py ∧ P.rows.length ≤ (roomF P).rows.length := by
    unfold roomF
    split
    · exact ⟨rfl, by show _ ≤ (setLast P.rows _ ++ [_]).length; rw [List.length_append, setLast_len]; omega⟩
    · exact ⟨rfl, Nat.le_refl _⟩
  exact ⟨hr.1, by show _ ≤ (setLast (roomF P).rows _).length; rw [setLast_len]; exact hr.2⟩
theorem onF_py (P : PF) (c : Ce) : (onF P c).py = P.py ∧ P.rows.length ≤ (onF P c).rows.length := by
  unfold onF
  split
  · exact ⟨rfl, Nat.le_refl _⟩
  · split
    · exact putF_py P _
    · split
      · have h1 := putF_py P plainCe
        have h2 := putF_py (putF P plainCe) c
        exact ⟨h2.1.trans h1.1, Nat.le_trans h1.2 h2.2⟩
      · exact putF_py P c
theorem cellsF_placed {P : PF} (h : Placed P) (h0 : P.rows ≠ []) (place : Int) (l : List Ce) : ∀ n, Placed (cellsF place l P n) ∧ P.rows.length ≤ (cellsF place l P n).rows.length
  | 0 => ⟨h, Nat.le_refl _⟩
  | n + 1 => by
    have ih := cellsF_placed h h0 place l n
    have h1 := onF_py (cellsF place l P n) (l.getD n default)
    have hl : 0 < P.rows.length := List.length_pos_iff.2 h0
    show Placed (stepF _ _ _ _) ∧ _ ≤ (stepF _ _ _ _).rows.length
    have h3 := ih.1.p1
    have h4 := ih.1.p0
    unfold stepF
    split
    · refine ⟨⟨?_, .inr ?_⟩, by show _ ≤ (onF _ _).rows.length; omega⟩
      · show 0 ≤ ((onF _ _).rows.length : Int) - 1; omega
      · show ((onF _ _).rows.length : Int) - 1 < ((onF _ _).rows.length : Int); omega
    · exact ⟨⟨by rw [h1.1]; exact h4, by rw [h1.1]; omega⟩, by omega⟩
theorem layF_placed {P : PF} (h : Placed P) (l : List Ce) (wr : Bool) (place : Int) : Placed (layF P l wr place) ∧ (layF P l wr place).rows ≠ [] ∧ (layF P l wr place).rows.length ≤ P.rows.length + 1 + 2 * l.length := by
  have hb : Placed (beginF P) := ⟨h.p0, by
    have := h.p1
    show P.py = 0 ∨ P.py < ((P.rows ++ [_]).length : Int)
    rw [List.length_append]
    omega⟩
  have hbl : (beginF P).rows.length = P.rows.length + 1 := by show (P.rows ++ [_]).length = _; simp
  have h1 := cellsF_placed hb (by intro e; rw [e] at hbl; simp at hbl) place l (usedN l place l.length)
  have h2 := cellsF_rows place l (beginF P) (usedN l place l.length)
  have h3 := usedN_le l place l.length
  have e : (layF P l wr place).rows.length = (cellsF place l (beginF P) (usedN l place l.length)).rows.length := setLast_len _ _
  refine ⟨⟨h1.1.p0, ?_⟩, ?_, by omega⟩
  · rw [e]; exact h1.1.p1
  · intro e2; rw [e2] at e; simp at e; omega
theorem laysF_placed : ∀ (ls : List PL) (P : PF), Placed P → Placed (laysF P ls) ∧ (P.rows ≠ [] ∨ ls ≠ [] → (laysF P ls).rows ≠ []) ∧ (laysF P ls).rows.length ≤ P.rows.length + ls.length + 2 * (ls.map fun m => m.l.length).sum
  | [], P, h => ⟨h, fun e => e.resolve_right (fun e => e rfl), by simp [laysF]⟩
  | m :: ls, P, h => by
    have h1 := layF_placed h m.l m.wr m.place
    have h2 := laysF_placed ls _ h1.1
    refine ⟨h2.1, fun _ => h2.2.1 (.inl h1.2.1), ?_⟩
    have h3 := h2.2.2
    have h4 := h1.2.2
    show (laysF (layF P m.l m.wr m.place) ls).rows.length ≤ _
    simp only [List.map_cons, List.sum_cons, List.length_cons]
    omega
theorem laysF_whole : ∀ (ls : List PL) (P : PF), 1 ≤ P.cols → AllW P.cols P.rows → (∀ m ∈ ls, Whole m.l) → AllW P.cols (laysF P ls).rows ∧ (laysF P ls).cols = P.cols
  | [], P, _, h, _ => ⟨h, rfl⟩
  | m :: ls, P, hc, h, hl => by
    have h1 := layF_whole hc h (hl m (by simp)) m.wr m.place
    have h2 := laysF_whole ls (layF P m.l m.wr m.place) (by rw [h1.2]; exact hc) (by rw [h1.2]; exact h1.1) (fun x hx => hl x (by simp [hx]))
    rw [h1.2] at h2
    exact h2
theorem linesN_len (rows : List Ro) (tgt x : Int) : ∀ n, (linesN rows tgt x n).1.length ≤ n
  | 0 => Nat.le_refl _
  | n + 1 => by
    have ih := linesN_len rows tgt x n
    have h1 : (openL (linesN rows tgt x n)).length ≤ n + 1 := by
      unfold openL
      split
      · omega
      · rw [List.length_append]; simp; exact ih
    show (setLastL _ _).length ≤ _
    generalize openL (linesN rows tgt x n) = rs at *
    rcases List.eq_nil_or_concat rs with rfl | ⟨rs, r, rfl⟩
    · exact Nat.zero_le _
    · rw [List.concat_eq_append] at h1 ⊢
      rw [setLastL_snoc]
      simpa using h1
/-- As many cells in the lines as in the rows. -/
theorem linesN_sum (rows : List Ro) (tgt x : Int) (c : Nat) (hc : ∀ r ∈ rows, r.1.length = c) : ∀ n, n ≤ rows.length → ((linesN rows tgt x n).1.map fun m => m.l.length).sum = n * c
  | 0, _ => by simp [linesN]
  | n + 1, hn => by
    have ih := linesN_sum rows tgt x c hc n (by omega)
    have hon := linesN_on rows tgt x n
    have h1 : ((openL (linesN rows tgt x n)).map fun m => m.l.length).sum = n * c ∧ openL (linesN rows tgt x n) ≠ [] := by
      unfold openL
      split
      · next h => exact ⟨ih, hon h⟩
      · exact ⟨by rw [List.map_append, List.sum_append, ih]; simp, by simp⟩
    have h2 : (rows.getD n default).1.length = c := by
      rw [show rows.getD n default = rows[n] by simp [show n < rows.length by omega]]
      exact hc _ (List.getElem_mem _)
    show ((setLastL _ _).map _).sum = _
    generalize openL (linesN rows tgt x n) = rs at *
    rcases List.eq_nil_or_concat rs with rfl | ⟨rs, r, rfl⟩
    · exact absurd rfl h1.2
    · rw [List.concat_eq_append] at h1 ⊢
      rw [setLastL_snoc]
      have h3 := h1.1
      simp only [List.map_append, List.sum_append, List.map_cons, List.map_nil, List.sum_cons, List.sum_nil, List.length_append, h2] at h3 ⊢
      rw [Nat.succ_mul]
      omega
/-- What is known of rows laid anew. -/
theorem flowOf_placed (rows : List Ro) (tgt x : Int) (cols : Nat) (h0 : rows ≠ []) : 0 ≤ (flowOf rows tgt x cols).py ∧ (flowOf rows tgt x cols).py < ((flowOf rows tgt x cols).rows.length : Int) := by
  have hne : (linesN rows tgt x rows.length).1 ≠ [] := by
    obtain ⟨n, hn⟩ : ∃ n, rows.length = n + 1 := ⟨rows.length - 1, by have := List.length_pos_iff.2 h0; omega⟩
    rw [hn]
    show setLastL _ _ ≠ []
    have h1 : openL (linesN rows tgt x n) ≠ [] := by
      unfold openL
      split
      · next h => exact linesN_on rows tgt x n h
      · simp
    generalize openL (linesN rows tgt x n) = rs at *
    rcases List.eq_nil_or_concat rs with rfl | ⟨rs, r, rfl⟩
    · exact absurd rfl h1
    · rw [List.concat_eq_append, setLastL_snoc]; simp
  have h1 := laysF_placed (linesN rows tgt x rows.length).1 ⟨cols, [], 0, 0, 0⟩ ⟨Int.le_refl _, .inl rfl⟩
  unfold flowOf
  generalize laysF ⟨cols, [], 0, 0, 0⟩ (linesN rows tgt x rows.length).1 = P at *
  have h2 := List.length_pos_iff.2 (h1.2.1 (.inr hne))
  have h3 := h1.1.p1
  have h4 := trimN_py P.cols P.rows P.py h1.1.p0 P.rows.length (by omega)
  have h5 := trimN_le P.cols P.rows P.py P.rows.length
  refine ⟨h1.1.p0, ?_⟩
  show P.py < ((P.rows.take _).length : Int)
  rw [List.length_take]
  omega
theorem laysF_cols : ∀ (ls : List PL) (P : PF), (laysF P ls).cols = P.cols
  | [], _ => rfl
  | m :: ls, P => by
    show (laysF (layF P m.l m.wr m.place) ls).cols = _
    rw [laysF_cols ls]
    have hr : ∀ P : PF, (roomF P).cols = P.cols := fun P => by
      unfold roomF
      split <;> rfl
    have hp : ∀ (P : PF) (c : Ce), (putF P c).cols = P.cols := fun P c => hr P
    have ho : ∀ (P : PF) (c : Ce), (onF P c).cols = P.cols := fun P c => by
      unfold onF
      split
      · rfl
      · split
        · exact hp P _
        · split
          · exact (hp _ _).trans (hp _ _)
          · exact hp P _
    have hc : ∀ n, (cellsF m.place m.l (beginF P) n).cols = P.cols := fun n => by
      induction n with
      | zero => rfl
      | succ n ih =>
        show (stepF _ _ _ _).cols = _
        unfold stepF
        split
        · exact (ho _ _).trans ih
        · exact (ho _ _).trans ih
    exact hc _
theorem flowOf_cols (rows : List Ro) (tgt x : Int) (cols : Nat) : (flowOf rows tgt x cols).cols = cols := laysF_cols _ _
theorem flowOf_whole (rows : List Ro) (tgt x : Int) (cols : Nat) (hc : 1 ≤ cols) (hr : ∀ r ∈ rows, Whole r.1) : AllW cols (flowOf rows tgt x cols).rows := by
  have h1 := laysF_whole (linesN rows tgt x rows.length).1 ⟨cols, [], 0, 0, 0⟩ hc (fun _ h => by cases h) (linesN_all Whole .nil (fun _ _ ha hb => ha.app hb) rows tgt x _ (Nat.le_refl _) hr)
  intro r hr
  exact h1.1 r (List.mem_of_mem_take hr)
theorem filledR_whole {cols n : Nat} {rs : List Ro} (h : AllW cols rs) : AllW cols (filledR rs cols n) := by
  intro r hr
  rcases List.mem_append.1 hr with hr | hr
  · exact h r (List.mem_of_mem_take hr)
  · obtain ⟨_, rfl⟩ := List.mem_replicate.1 hr
    exact ⟨.blanks _ _, List.length_replicate⟩
end Go.Proofs.YtjklnnklgkihlaaGreatDoor.Grd
/- Cells compared; rows compared. -/
namespace Go.Proofs.YtjklnnklgkihlaaGreatDoor.Grd
open Go.RowKit

theorem take_eq_succ {l1 l2 : List Ce} {k : Nat} (h : l1.take k = l2.take k) (h1 : k < l1.length) (h2 : k < l2.length) (he : l1[k] = l2[k]) : l1.take (k + 1) = l2.take (k + 1) := by
  rw [List.take_succ_eq_append_getElem h1, List.take_succ_eq_append_getElem h2, h, he]
theorem ne_of_at {l1 l2 : List Ce} {k : Nat} (h1 : k < l1.length) (h2 : k < l2.length) (he : l1[k] ≠ l2[k]) : decide (l1 = l2) = false := by
  simp only [decide_eq_false_iff_not]
  rintro rfl
  exact he rfl

end Go.Proofs.YtjklnnklgkihlaaGreatDoor.Grd
/- A flow's blank rows at the end taken off. -/
namespace Go.Proofs.YtjklnnklgkihlaaGreatDoor.Grd
open Go.RowKit

end Go.Proofs.YtjklnnklgkihlaaGreatDoor.Grd
/- Two tables put behind one another in a new one. -/
namespace Go.Proofs.YtjklnnklgkihlaaGreatDoor.Grd
open Go.RowKit

theorem TabAt.src {w : World} {v : Value} {ms : List MR} {F : List Nat} (h : TabAt w v ms F) : Src Tryz.prog 2 70 v ms.length (rowsL ms) w := by
  rcases h with ⟨rfl, rfl, _⟩ | ⟨p, off, c, pre, tail, rfl, h2, h3, h4, h5, h6, _⟩
  · exact Src.ofNil w Tryz.underlying70 0
  · refine Src.ofSlice w Tryz.underlying70 _ _ _ _ (by rw [rowsL_len]; omega) (fun j u hj => ?_) (one_rows ms)
    have hj2 := (List.getElem?_eq_some_iff.1 hj).1
    rw [Addr.add_mid, h6.cell, List.append_assoc, List.getElem?_append_right (by omega), h4, show 2 * off + j - 2 * off = j by omega, List.getElem?_append_left hj2]
    exact hj
/-- A table appended where there is room. -/
theorem append_tab {w : World} {p c : Nat} {A ms : List MR} {tail : List Value} {v : Value} {F : List Nat} (hB : BL w p 78 (rowsL A ++ tail)) (hroom : A.length + ms.length ≤ c) (htl : 2 * (c - A.length) ≤ tail.length) (h : TabAt w v ms F) (ty : TypeId) :
    ∃ w', (Builtin.append_ #[70, 70] ty #[slV p 0 A.length c, v]).run Tryz.prog w = .ok (slV p 0 (A.length + ms.length) c) w' ∧ BL w' p 78 (rowsL (A ++ ms) ++ tail.drop (2 * ms.length)) ∧ Only [p] w w' ∧ w'.heap.size = w.heap.size := by
  have hi := info_row
  cases hq : Tryz.prog.info? 78 with
  | none => rw [hq] at hi; cases hi
  | some i =>
    rw [hq] at hi
    simp only [Option.map_some, Option.some.injEq, Prod.mk.injEq] at hi
    obtain ⟨hz, hsz, hby⟩ := hi
    have hA := rowsL_len A
    have hM := rowsL_len ms
    have hfit : A.length * 2 + (rowsL ms).length ≤ (rowsL A ++ tail).length := by simp only [List.length_append]; omega
    have hthere := hB.there (o := A.length * 2) (n := (rowsL ms).length) hfit
    have hs := h.src
    rw [← hsz] at hs
    have hr := run_append_room_src (P := Tryz.prog) w 70 70 ty 78 i Tryz.underlying70 hq p 0 A.length c v ms.length (rowsL ms) hs hroom (fun j hj => by rw [hsz, Nat.zero_add]; exact (hthere j hj).1) (fun j hj => by rw [hsz, Nat.zero_add]; exact (hthere j hj).2)
    rw [hsz, Nat.zero_add] at hr
    have hB2 := hB.setCells (rowsL ms) (A.length * 2) hfit
    have hsp : splice (rowsL A ++ tail) (A.length * 2) (rowsL ms) = rowsL (A ++ ms) ++ tail.drop (2 * ms.length) := by
      unfold splice
      rw [List.take_left' (by omega), List.drop_append, List.drop_of_length_le (l := rowsL A) (by omega), List.nil_append, hA, hM, show A.length * 2 + 2 * ms.length - 2 * A.length = 2 * ms.length by omega, rowsL_app]
    rw [hsp] at hB2
    exact ⟨_, hr, hB2, (Only.refl _ _).setCells p _ _ (.inl (by simp)), (setCells_far _ _ _ _).1⟩
section
variable {ops : Array Oper} {rest : List Oper} {op : Oper} {a : Act} {w : World} {Q : Exit → Act → World → Prop}
theorem wpList_append_tab (hgd : op.guard = none) (s x : Operand) (ho : op.op = .call { callee := .builtin .append, args := #[s, x], argTypes := #[70, 70] })
    (p c : Nat) (A ms : List MR) (tail : List Value) (v : Value) (F : List Nat) (hs : a.eval s = slV p 0 A.length c) (hx : a.eval x = v) (hB : BL w p 78 (rowsL A ++ tail)) (hroom : A.length + ms.length ≤ c) (htl : 2 * (c - A.length) ≤ tail.length) (ht : TabAt w v ms F)
    (h : ∀ w', BL w' p 78 (rowsL (A ++ ms) ++ tail.drop (2 * ms.length)) → Only [p] w w' → w'.heap.size = w.heap.size → wpList Tryz.prog ops Q rest (a.put op.dst (slV p 0 (A.length + ms.length) c)) w') : wpList Tryz.prog ops Q (op :: rest) a w := by
  refine wpList_plain hgd fun K hK => ?_
  obtain ⟨w', hrun, h1, h2, h3⟩ := append_tab hB hroom htl ht op.type
  have hk := hK _ _ (h w' h1 h2 h3)
  unfold slV at hrun hs
  unfold Oper.wp
  simp [execOp, ho, resolve, invoke, builtin, hs, hx, hrun, Result.andThen]
  exact hk
end

/-- What Grow leaves: a new table without rows, with room for n. -/
def Grown (n : Nat) (w : World) (e : Ending) (w' : World) : Prop := ∃ c tail, e = .returned (slV w.heap.size 0 0 c) ∧ n ≤ c ∧ c ≤ maxLen ∧ tail.length = 2 * c ∧ BL w' w.heap.size 78 tail ∧ Below w.heap.size w w' ∧ w.heap.size < w'.heap.size
theorem Grown.intro {n : Nat} {w w' : World} {e : Ending} (c : Nat) (tail : List Value) (h0 : e = .returned (slV w.heap.size 0 0 c)) (h1 : n ≤ c) (h2 : c ≤ maxLen) (h3 : tail.length = 2 * c) (h4 : BL w' w.heap.size 78 tail) (h5 : Below w.heap.size w w') (h6 : w.heap.size < w'.heap.size) : Grown n w e w' := ⟨c, tail, h0, h1, h2, h3, h4, h5, h6⟩
theorem TabAt.shape {w : World} {v : Value} {ms : List MR} {F : List Nat} (h : TabAt w v ms F) : ∃ bs c, v = .slice bs ms.length c := by
  rcases h with ⟨rfl, rfl, _⟩ | ⟨p, off, c, pre, tail, rfl, h2, h3, h4, h5, h6, _⟩
  · exact ⟨none, 0, rfl⟩
  · exact ⟨_, c, rfl⟩
theorem TabAt.fresh {w w' : World} {v : Value} {ms : List MR} {F : List Nat} (h : TabAt w v ms F) (ho : Only [] w w') : TabAt w' v ms F := h.only ho (by simp)

end Go.Proofs.YtjklnnklgkihlaaGreatDoor.Grd
