/- Lines in memory: a table of them, the cells of each. -/
import Derived.Test.YtgjlohplgpcghaaDoorGtr
namespace Go.Proofs.YtgjlohplgpcghaaDoor.Grd
open Go.RowKit

structure ML where
  v : Value
  l : List Ce
  wr : Bool
  place : Int
def mlL (m : ML) : List Value := [m.v, .bool m.wr, .int .i64 m.place]
def linesV (ms : List ML) : List Value := ms.flatMap mlL
theorem linesV_len (ms : List ML) : (linesV ms).length = ms.length * 3 := by
  induction ms with
  | nil => rfl
  | cons m r ih => unfold linesV at ih ⊢; rw [List.flatMap_cons, List.length_append, ih, List.length_cons]; unfold mlL; simp; omega
theorem linesV_app (a b : List ML) : linesV (a ++ b) = linesV a ++ linesV b := by unfold linesV; rw [List.flatMap_append]
theorem linesV_one (m : ML) : linesV [m] = mlL m := by unfold linesV; simp
def ML.pl (m : ML) : PL := ⟨m.l, m.wr, m.place⟩
theorem info_line : (Tryd.prog.info? 109).map (fun i => (i.zero, i.size, i.bytes)) = some (some (.agg #[.slice none 0 0, .bool false, .int .i64 0]), 3, 40) := by kernel_rfl

/-- A row of the call's own, as a block. -/
theorem own_bl {w : World} {base : Nat} {e : TypeId} {k g n cap : Nat} {xs : List Value} (h : w.ownsRow base e k (slV g 0 n cap) n xs) :
    ∃ tail, BL w g e (xs ++ tail) ∧ (xs ++ tail).length = cap * k ∧ base ≤ g ∧ n ≤ cap ∧ cap ≤ maxLen ∧ xs.length = n * k := by
  obtain ⟨h1, ⟨h2, _⟩ | ⟨g2, cap2, cur, h2, h3, h4, h5, h6, h7, h8⟩⟩ := h
  · cases h2
  · simp only [slV, Value.slice.injEq, Option.some.injEq, Addr.mk.injEq] at h2
    obtain ⟨⟨rfl, _⟩, _, rfl⟩ := h2
    have e : xs ++ cur.toList.drop (n * k) = cur.toList := by rw [← h8, List.take_append_drop]
    refine ⟨cur.toList.drop (n * k), ?_, ?_, h3, h5, h6, h1⟩
    · rw [e]; exact h4
    · rw [e, Array.length_toList]; exact h7
theorem own_of_bl {w : World} {base : Nat} {e : TypeId} {k g n cap : Nat} {xs tail : List Value} (h1 : BL w g e (xs ++ tail)) (h2 : (xs ++ tail).length = cap * k) (h3 : base ≤ g) (h4 : n ≤ cap) (h5 : cap ≤ maxLen) (h6 : xs.length = n * k) : w.ownsRow base e k (slV g 0 n cap) n xs := by
  refine ⟨h6, .inr ⟨g, cap, (xs ++ tail).toArray, rfl, h3, h1, h4, h5, ?_, ?_⟩⟩
  · rw [List.size_toArray]; exact h2
  · rw [← h6]; exact List.take_left
theorem own_keep {w w' : World} {base : Nat} {e : TypeId} {k n : Nat} {v : Value} {xs : List Value} (h : w.ownsRow base e k v n xs) (hk : ∀ g, v.ownBlock = some g → w'.heap[g]? = w.heap[g]?) : w'.ownsRow base e k v n xs := by
  obtain ⟨h1, h2 | ⟨g2, cap2, cur, rfl, h3, h4, h5⟩⟩ := h
  · exact ⟨h1, .inl h2⟩
  · exact ⟨h1, .inr ⟨g2, cap2, cur, rfl, h3, (hk g2 rfl).trans h4, h5⟩⟩
theorem own_ge {w : World} {base : Nat} {e : TypeId} {k n : Nat} {v : Value} {xs : List Value} (h : w.ownsRow base e k v n xs) : ∀ g, v.ownBlock = some g → base ≤ g ∧ g < w.heap.size := by
  obtain ⟨h1, ⟨rfl, _⟩ | ⟨g2, cap2, cur, rfl, h3, h4, h5⟩⟩ := h
  · intro g hg; cases hg
  · intro g hg
    simp only [Value.ownBlock, Option.some.injEq] at hg
    subst hg
    refine ⟨h3, ?_⟩
    rcases Nat.lt_or_ge g2 w.heap.size with h | h
    · exact h
    · rw [Array.getElem?_eq_none h] at h4; cases h4
theorem own_cells {w : World} {base b cap : Nat} {l : List Ce} (h : w.ownsRow base 35 5 (slV b 0 l.length cap) l.length (flat l)) : CellsAt w b l cap := by
  obtain ⟨tail, h1, h2, h3, h4, h5, h6⟩ := own_bl h
  refine ⟨h4, tail, ?_, h1⟩
  rw [List.length_append] at h2
  omega
/-- Lines in memory. -/
structure LinesAt (w : World) (base : Nat) (tv : Value) (ms : List ML) : Prop where
  tab : w.ownsRow base 109 3 tv ms.length (linesV ms)
  own : ∀ m ∈ ms, w.ownsRow base 35 5 m.v m.l.length (flat m.l)
  apart : (ms.map (·.v.ownBlock)).Nodup
  far : ∀ m ∈ ms, m.v.ownBlock = none ∨ m.v.ownBlock ≠ tv.ownBlock
theorem LinesAt.nil (w : World) (base : Nat) : LinesAt w base (.slice none 0 0) [] := ⟨⟨rfl, .inl ⟨rfl, rfl⟩⟩, (fun _ h => by cases h), List.nodup_nil, (fun _ h => by cases h)⟩
theorem LinesAt.below {w w' : World} {base : Nat} {tv : Value} {ms : List ML} (h : LinesAt w base tv ms) (ho : Below w.heap.size w w') : LinesAt w' base tv ms :=
  ⟨own_keep h.tab (fun g hg => ho.block g (own_ge h.tab g hg).2), fun m hm => own_keep (h.own m hm) (fun g hg => ho.block g (own_ge (h.own m hm) g hg).2), h.apart, h.far⟩
/-- A new line behind the others. -/
theorem LinesAt.more {w w' : World} {base : Nat} {tv tv' : Value} {ms : List ML} (h : LinesAt w base tv ms) (hfull : ∀ m ∈ ms, m.v.ownBlock ≠ none) (hg : w.grownBy w' tv.ownBlock) (ht : w'.ownsRow base 109 3 tv' (ms.length + 1) (linesV ms ++ [.slice none 0 0, .bool false, .int .i64 (-1)]))
    (htv : ∀ g, tv'.ownBlock = some g → tv.ownBlock = some g ∨ w.heap.size ≤ g) : LinesAt w' base tv' (ms ++ [⟨.slice none 0 0, [], false, -1⟩]) := by
  refine ⟨?_, ?_, ?_, ?_⟩
  · rw [List.length_append, linesV_app, linesV_one]; exact ht
  · intro m hm
    rcases List.mem_append.1 hm with hm | hm
    · refine own_keep (h.own m hm) fun g hgm => hg.block g (own_ge (h.own m hm) g hgm).2 fun e => ?_
      rcases h.far m hm with x | x
      · rw [x] at hgm; cases hgm
      · exact x (hgm.trans e)
    · rw [List.mem_singleton] at hm
      rw [hm]
      exact ⟨rfl, .inl ⟨rfl, rfl⟩⟩
  · rw [List.map_append, List.nodup_append]
    refine ⟨h.apart, by simp, fun x hx y hy => ?_⟩
    obtain ⟨m, hm, rfl⟩ := List.mem_map.1 hx
    simp only [List.map_cons, List.map_nil, List.mem_singleton] at hy
    rw [hy]
    exact hfull m hm
  · intro m hm
    rcases List.mem_append.1 hm with hm | hm
    · by_cases e : m.v.ownBlock = none
      · exact .inl e
      · refine .inr fun e2 => ?_
        obtain ⟨g, hgm⟩ : ∃ g, m.v.ownBlock = some g := Option.ne_none_iff_exists'.1 e
        rw [hgm] at e2
        rcases htv g e2.symm with x | x
        · rcases h.far m hm with y | y
          · exact e y
          · exact y (hgm.trans x.symm)
        · have := (own_ge (h.own m hm) g hgm).2; omega
    · rw [List.mem_singleton] at hm
      rw [hm]
      exact .inl rfl
/-- The last line's three values, where they lie. -/
theorem LinesAt.last {w : World} {base g cap : Nat} {R : List ML} {m : ML} (h : LinesAt w base (slV g 0 (R.length + 1) cap) (R ++ [m])) :
    w.cell? ⟨g, R.length * 3, none⟩ = some m.v ∧ w.cell? ⟨g, R.length * 3 + 1, none⟩ = some (.bool m.wr) ∧ w.cell? ⟨g, R.length * 3 + 2, none⟩ = some (.int .i64 m.place) ∧ (∀ j, w.frozen? ⟨g, j, none⟩ = false) ∧ base ≤ g ∧ g < w.heap.size := by
  have ht := h.tab
  rw [List.length_append] at ht
  obtain ⟨tail, h1, h2, h3, h4, h5, h6⟩ := own_bl ht
  have hl := linesV_len R
  have e : linesV (R ++ [m]) ++ tail = linesV R ++ (mlL m ++ tail) := by rw [linesV_app, linesV_one, List.append_assoc]
  rw [e] at h1
  refine ⟨?_, ?_, ?_, h1.frozen, h3, h1.lt⟩
  · rw [h1.cell, List.getElem?_append_right (by omega), hl, Nat.sub_self]; rfl
  · rw [h1.cell, List.getElem?_append_right (by omega), hl, show R.length * 3 + 1 - R.length * 3 = 1 by omega]; rfl
  · rw [h1.cell, List.getElem?_append_right (by omega), hl, show R.length * 3 + 2 - R.length * 3 = 2 by omega]; rfl
theorem linesV_set (R : List ML) (m m' : ML) (tail : List Value) (j : Nat) (x : Value) (hj : j < 3) (hm : (mlL m).set j x = mlL m') : (linesV (R ++ [m]) ++ tail).set (R.length * 3 + j) x = linesV (R ++ [m']) ++ tail := by
  have hl := linesV_len R
  rw [linesV_app, linesV_one, linesV_app, linesV_one, List.append_assoc, List.append_assoc, List.set_append_right _ _ (by omega), hl, show R.length * 3 + j - R.length * 3 = j by omega, List.set_append_left _ _ (by unfold mlL; simpa using hj), hm]
/-- One of its values turned: its mark, its place. -/
theorem LinesAt.turn {w : World} {base g cap : Nat} {R : List ML} {m m' : ML} (h : LinesAt w base (slV g 0 (R.length + 1) cap) (R ++ [m])) (j : Nat) (x : Value) (hj : j < 3) (hv : m'.v = m.v) (hl : m'.l = m.l) (hm : (mlL m).set j x = mlL m') :
    LinesAt (w.setCell ⟨g, R.length * 3 + j, none⟩ x) base (slV g 0 (R.length + 1) cap) (R ++ [m']) := by
  have ht := h.tab
  rw [List.length_append] at ht
  obtain ⟨tail, h1, h2, h3, h4, h5, h6⟩ := own_bl ht
  have h7 := h1.set_ (R.length * 3 + j) x
  rw [linesV_set R m m' tail j x hj hm] at h7
  have hk : ∀ q, q ≠ g → (w.setCell ⟨g, R.length * 3 + j, none⟩ x).heap[q]? = w.heap[q]? := fun q hq => Below.heap_setCell w ⟨g, R.length * 3 + j, none⟩ x q hq
  have hmv : (R ++ [m']).map (·.v.ownBlock) = (R ++ [m]).map (·.v.ownBlock) := by rw [List.map_append, List.map_append]; simp [hv]
  have hcase : ∀ q ∈ R ++ [m'], ∃ q2 ∈ R ++ [m], q.v = q2.v ∧ q.l = q2.l := fun q hq => by
    rcases List.mem_append.1 hq with hq | hq
    · exact ⟨q, by simp [hq], rfl, rfl⟩
    · rw [List.mem_singleton] at hq
      rw [hq]
      exact ⟨m, by simp, hv, hl⟩
  refine ⟨?_, fun q hq => ?_, by rw [hmv]; exact h.apart, fun q hq => ?_⟩
  · rw [List.length_append]
    refine own_of_bl h7 ?_ h3 h4 h5 ?_
    · simp only [List.length_append, linesV_len] at h2 ⊢; exact h2
    · rw [linesV_len, List.length_append]; rfl
  · obtain ⟨q2, hq2, e1, e2⟩ := hcase q hq
    rw [e1, e2]
    refine own_keep (h.own q2 hq2) fun b hb => hk b fun e => ?_
    rcases h.far q2 hq2 with x | x
    · rw [x] at hb; cases hb
    · exact x (by rw [hb, e]; rfl)
  · obtain ⟨q2, hq2, e1, e2⟩ := hcase q hq
    rw [e1]
    exact h.far q2 hq2
/-- Its cells: a longer row, in the block that it had or in a new one. -/
theorem LinesAt.longer {w w1 : World} {base g cap b c : Nat} {R : List ML} {m : ML} {l : List Ce} (h : LinesAt w base (slV g 0 (R.length + 1) cap) (R ++ [m])) (hg : w.grownBy w1 m.v.ownBlock) (hv : w1.ownsRow base 35 5 (slV b 0 l.length c) l.length (flat l)) (hb : m.v.ownBlock = some b ∨ w.heap.size ≤ b) :
    LinesAt (w1.setCell ⟨g, R.length * 3, none⟩ (slV b 0 l.length c)) base (slV g 0 (R.length + 1) cap) (R ++ [{ m with v := slV b 0 l.length c, l := l }]) ∧ (∀ j, w1.frozen? ⟨g, j, none⟩ = false) ∧ (w1.cell? ⟨g, R.length * 3, none⟩).isSome = true := by
  have ht := h.tab
  rw [List.length_append] at ht
  have hgl := (own_ge ht g rfl).2
  have hmf : m.v.ownBlock = none ∨ m.v.ownBlock ≠ some g := h.far m (by simp)
  have ht1 : w1.ownsRow base 109 3 (slV g 0 (R.length + 1) cap) (R.length + 1) (linesV (R ++ [m])) := own_keep ht fun q hq => by
    simp only [Value.ownBlock, Option.some.injEq] at hq
    subst hq
    exact hg.block g hgl fun e => by
      rcases hmf with x | x
      · rw [x] at e; cases e
      · exact x e.symm
  obtain ⟨tail, h1, h2, h3, h4, h5, h6⟩ := own_bl ht1
  have h7 := h1.set_ (R.length * 3 + 0) (slV b 0 l.length c)
  rw [linesV_set R m { m with v := slV b 0 l.length c, l := l } tail 0 _ (by omega) rfl, Nat.add_zero] at h7
  have hk : ∀ q, q ≠ g → (w1.setCell ⟨g, R.length * 3, none⟩ (slV b 0 l.length c)).heap[q]? = w1.heap[q]? := fun q hq => Below.heap_setCell w1 ⟨g, R.length * 3, none⟩ _ q hq
  have hRf : ∀ q ∈ R, ∀ x, q.v.ownBlock = some x → x ≠ b ∧ x ≠ g ∧ x < w.heap.size ∧ some x ≠ m.v.ownBlock := fun q hq x hx => by
    have h8 := own_ge (h.own q (by simp [hq])) x hx
    have h9 := h.apart
    rw [List.map_append] at h9
    have h10 := (List.nodup_append.1 h9).2.2 q.v.ownBlock (List.mem_map_of_mem hq) m.v.ownBlock (by simp)
    rw [hx] at h10
    refine ⟨fun e => ?_, fun e => ?_, h8.2, h10⟩
    · rcases hb with y | y
      · rw [y, e] at h10; exact h10 rfl
      · omega
    · rcases h.far q (by simp [hq]) with y | y
      · rw [y] at hx; cases hx
      · rw [hx] at y; exact y (by rw [e]; rfl)
  have hbg : b ≠ g := fun e => by
    rcases hb with y | y
    · rcases hmf with x | x
      · rw [x] at y; cases y
      · exact x (by rw [y, e])
    · omega
  refine ⟨⟨?_, fun q hq => ?_, ?_, fun q hq => ?_⟩, h1.frozen, ?_⟩
  · rw [List.length_append]
    refine own_of_bl h7 ?_ h3 h4 h5 ?_
    · simp only [List.length_append, linesV_len] at h2 ⊢; exact h2
    · rw [linesV_len, List.length_append]; rfl
  · rcases List.mem_append.1 hq with hq | hq
    · refine own_keep (h.own q (by simp [hq])) fun x hx => ?_
      obtain ⟨_, h9, h10, h11⟩ := hRf q hq x hx
      exact (hk x h9).trans (hg.block x h10 h11)
    · rw [List.mem_singleton] at hq
      rw [hq]
      refine own_keep hv fun x hx => hk x ?_
      simp only [Value.ownBlock, Option.some.injEq] at hx
      rw [← hx]
      exact hbg
  · have h9 := h.apart
    rw [List.map_append] at h9 ⊢
    rw [List.nodup_append] at h9 ⊢
    refine ⟨h9.1, by simp, fun x hx y hy => ?_⟩
    obtain ⟨q, hq, rfl⟩ := List.mem_map.1 hx
    simp only [List.map_cons, List.map_nil, List.mem_singleton, slV, Value.ownBlock] at hy
    rw [hy]
    intro e
    exact (hRf q hq b e).1 rfl
  · rcases List.mem_append.1 hq with hq | hq
    · exact h.far q (by simp [hq])
    · rw [List.mem_singleton] at hq
      rw [hq]
      refine .inr fun e => ?_
      simp only [Value.ownBlock, Option.some.injEq] at e
      exact hbg e
  · rw [h1.cell, List.getElem?_append_left (by rw [h6]; omega)]
    rw [List.getElem?_eq_getElem (by rw [h6]; omega)]
    rfl
end Go.Proofs.YtgjlohplgpcghaaDoor.Grd
/- A grid's rows as lines. -/
namespace Go.Proofs.YtgjlohplgpcghaaDoor.Grd
open Go.RowKit

/-- An append onto a slice that is none or the call's own: what comes lies in the same block, or in a new one. -/
theorem append_own {w : World} (t ty : TypeId) (base : Nat) (e : TypeId) (i : TypeInfo) (z : Value) (size bytes : Nat) (ht : Tryd.prog.underlying t = some (.slice e)) (hi : Tryd.prog.info? e = some i) (hz : i.zero = some z)
    (hsize : i.size = size) (hby : i.bytes = bytes) (hzs : z.cells.size = size) (hsz : 0 < size) (v : Value) (n : Nat) (xs : List Value) (hown : w.ownsRow base e size v n xs)
    (a : Addr) (m c : Nat) (news : List Value) (hl : news.length = m * size) (hnews : ∀ j u, news[j]? = some u → w.cell? (a.add j) = some u) (h1 : ∀ u ∈ news, u.oneCell' = true) (hm : 0 < m) (hb64 : bytes ≤ 64) (h20 : n + m ≤ 1000000) (hbase : base ≤ w.heap.size) :
    ∃ g cap' w', (Builtin.append_ #[t, t] ty #[v, .slice (some a) m c]).run Tryd.prog w = .ok (slV g 0 (n + m) cap') w' ∧ w'.ownsRow base e size (slV g 0 (n + m) cap') (n + m) (xs ++ news) ∧ w.grownBy w' v.ownBlock ∧ (v.ownBlock = some g ∨ w.heap.size ≤ g) := by
  have hmx : maxLen = 9223372036854775807 := rfl
  have hbig : ((n + m) + (n + m) / 4 + 192) * bytes ≤ 281474976710656 := by
    have : ((n + m) + (n + m) / 4 + 192) * bytes ≤ 1250192 * 64 := Nat.mul_le_mul (by omega) hb64
    omega
  obtain ⟨v', w', hr, h2, h3, _⟩ := run_append_own_wide (P := Tryd.prog) w base t ty e i z size bytes ht hi hz hsize hby hzs hsz v n xs hown a m c news hl hnews h1 (by omega) hbig hbase
  subst hsize
  subst hby
  have h48 : m * i.bytes ≤ 281474976710656 := Nat.le_trans (Nat.mul_le_mul_right _ (by omega)) hbig
  rcases hown.2 with ⟨rfl, rfl⟩ | ⟨g0, cap, cur, rfl, hbg, hg, hnc, hcm, hcs, htake⟩
  · have hr2 := run_append_nil (P := Tryd.prog) w t ty e i z ht hi hz a m c news hl hnews hm (by omega) h48
    rw [hr] at hr2
    injection hr2 with e1 e2
    subst e1
    rw [Nat.zero_add] at h2 ⊢
    exact ⟨_, _, w', hr, h2, h3, .inr (Nat.le_refl _)⟩
  · by_cases hroom : n + m ≤ cap
    · have hfit : n * i.size + news.length ≤ cur.size := by rw [hl, hcs, ← Nat.add_mul]; exact Nat.mul_le_mul_right _ hroom
      have hr2 := run_append_room (P := Tryd.prog) w t ty e i ht hi g0 n cap cur hg a m c news hl hnews h1 hroom hfit
      rw [hr] at hr2
      injection hr2 with e1 e2
      subst e1
      exact ⟨_, _, w', hr, h2, h3, .inl rfl⟩
    · have hr2 := run_append_grow (P := Tryd.prog) w t ty e i z ht hi hz ⟨g0, 0, none⟩ n cap xs hown.1 (hown.cells (g := g0) rfl) a m c news hl hnews (by omega) (by omega) (growslice_fits_wide (by omega) hbig)
      rw [hr] at hr2
      injection hr2 with e1 e2
      subst e1
      exact ⟨_, _, w', hr, h2, h3, .inr (Nat.le_refl _)⟩
theorem step_append_cells {ops : Array Oper} {o : Oper} {a : Act} {w : World} {K : Act → World → Prop} {Q : Exit → Act → World → Prop} {E : Prop} (hgd : o.guard = none) (s x : Operand) (ho : o.op = .call { callee := .builtin .append, args := #[s, x], argTypes := #[62, 62] })
    (base : Nat) (v : Value) (l1 : List Ce) (hs : a.eval s = v) (hown : w.ownsRow base 35 5 v l1.length (flat l1)) (b c cap : Nat) (l2 : List Ce) (hx : a.eval x = .slice (some ⟨b, 0, none⟩) l2.length c) (hc : CellsAt w b l2 cap) (h0 : 0 < l2.length) (hl : l1.length + l2.length ≤ 1000000) (hbase : base ≤ w.heap.size)
    (h : ∀ g cap' w', w'.ownsRow base 35 5 (slV g 0 (l1 ++ l2).length cap') (l1 ++ l2).length (flat (l1 ++ l2)) → (v.ownBlock = some g ∨ w.heap.size ≤ g) → w.grownBy w' v.ownBlock → K (a.put o.dst (slV g 0 (l1 ++ l2).length cap')) w') :
    if Region.wanted o (yielded ops a.tmps) = true then Oper.wp Tryd.prog o a w K Q else E := by
  have hw : Region.wanted o (yielded ops a.tmps) = true := by simp [Region.wanted, hgd]
  rw [if_pos hw]
  have hi := info_cell
  cases hq : Tryd.prog.info? 35 with
  | none => rw [hq] at hi; cases hi
  | some i =>
    rw [hq] at hi
    simp only [Option.map_some, Option.some.injEq, Prod.mk.injEq] at hi
    obtain ⟨hz, hsz, hby⟩ := hi
    obtain ⟨g, cap', w', hrun, h2, h3, h4⟩ := append_own (w := w) 62 o.type base 35 i _ 5 40 Tryd.underlying62 hq hz hsz hby rfl (by omega) v l1.length (flat l1) hown ⟨b, 0, none⟩ l2.length c (flat l2) (by rw [flat_len]; omega) hc.all (one_flat l2) h0 (by omega) hl hbase
    have hk := h g cap' w' (by rw [List.length_append, flat_app]; exact h2) h4 h3
    rw [List.length_append] at hk
    unfold Oper.wp
    simp [execOp, ho, resolve, invoke, builtin, hs, hx, hrun, Result.andThen]
    exact hk
section
variable {ops : Array Oper} {rest : List Oper} {op : Oper} {a : Act} {w : World} {Q : Exit → Act → World → Prop}
/-- A new line behind the others. -/
theorem wpList_append_line (hgd : op.guard = none) (s x : Operand) (ho : op.op = .call { callee := .builtin .append, args := #[s, x], argTypes := #[106, 106] })
    (base : Nat) (tv : Value) (ms : List ML) (hs : a.eval s = tv) (h : LinesAt w base tv ms) (hfull : ∀ m ∈ ms, m.v.ownBlock ≠ none) (q c : Nat) (hx : a.eval x = .slice (some ⟨q, 0, none⟩) 1 c) (hq : BL w q 109 [.slice none 0 0, .bool false, .int .i64 (-1)]) (hl : ms.length + 1 ≤ 1000000) (hbase : base ≤ w.heap.size)
    (hk : ∀ g cap w', LinesAt w' base (slV g 0 (ms.length + 1) cap) (ms ++ [⟨.slice none 0 0, [], false, -1⟩]) → w.grownBy w' tv.ownBlock → wpList Tryd.prog ops Q rest (a.put op.dst (slV g 0 (ms.length + 1) cap)) w') : wpList Tryd.prog ops Q (op :: rest) a w := by
  have hi := info_line
  cases hq2 : Tryd.prog.info? 109 with
  | none => rw [hq2] at hi; cases hi
  | some i =>
    rw [hq2] at hi
    simp only [Option.map_some, Option.some.injEq, Prod.mk.injEq] at hi
    obtain ⟨hz, hsz, hby⟩ := hi
    refine wpList_plain hgd fun K hK => ?_
    obtain ⟨g, cap', w', hrun, h2, h3, h4⟩ := append_own (w := w) 106 op.type base 109 i _ 3 40 Tryd.underlying106 hq2 hz hsz hby rfl (by omega) tv ms.length (linesV ms) h.tab ⟨q, 0, none⟩ 1 c [.slice none 0 0, .bool false, .int .i64 (-1)] rfl
      (fun j u hj => by rw [Addr.add_mid, hq.cell, Nat.zero_add]; exact hj) (by intro u hu; simp only [List.mem_cons, List.not_mem_nil, or_false] at hu; rcases hu with rfl | rfl | rfl <;> rfl) (by omega) (by omega) hl hbase
    have hLn := h.more hfull h3 h2 (fun x hx => by
      simp only [Value.ownBlock, Option.some.injEq] at hx
      rw [← hx]; exact h4)
    have hkk := hK _ _ (hk g cap' w' hLn h3)
    unfold Oper.wp
    simp [execOp, ho, resolve, invoke, builtin, hs, hx, hrun, Result.andThen]
    exact hkk
end
end Go.Proofs.YtgjlohplgpcghaaDoor.Grd
