/- Lines in memory: a table of them, the cells of each. -/
import Derived.Test.YtjklnnklgkihlaaGreatDoorPak
import Derived.Laws.IdiomStrings
import Derived.Laws.RangeAny
namespace Go.Proofs.YtjklnnklgkihlaaGreatDoor.Grd
open Go.RowKit

structure ML where
  v : Value
  l : List Ce
  wr : Bool
  place : Int
def mlL (m : ML) : List Value := [m.v, .bool m.wr, .int .i64 m.place]
def linesV (ms : List ML) : List Value := ms.flatMap mlL
theorem linesV_len (ms : List ML) : (linesV ms).length = ms.length * 3 := by
  induction ms with
  | nil => rfl
  | cons m r ih => unfold linesV at ih ⊢; rw [List.flatMap_cons, List.length_append, ih, List.length_cons]; unfold mlL; simp; omega
theorem linesV_app (a b : List ML) : linesV (a ++ b) = linesV a ++ linesV b := by unfold linesV; rw [List.flatMap_append]
theorem linesV_one (m : ML) : linesV [m] = mlL m := by unfold linesV; simp
def ML.pl (m : ML) : PL := ⟨m.l, m.wr, m.place⟩
/-- A row of the call's own, as a block. -/
theorem own_bl {w : World} {base : Nat} {e : TypeId} {k g n cap : Nat} {xs : List Value} (h : w.ownsRow base e k (slV g 0 n cap) n xs) :
    ∃ tail, BL w g e (xs ++ tail) ∧ (xs ++ tail).length = cap * k ∧ base ≤ g ∧ n ≤ cap ∧ cap ≤ maxLen ∧ xs.length = n * k := by
  obtain ⟨h1, ⟨h2, _⟩ | ⟨g2, cap2, cur, h2, h3, h4, h5, h6, h7, h8⟩⟩ := h
  · cases h2
  · simp only [slV, Value.slice.injEq, Option.some.injEq, Addr.mk.injEq] at h2
    obtain ⟨⟨rfl, _⟩, _, rfl⟩ := h2
    have e : xs ++ cur.toList.drop (n * k) = cur.toList := by rw [← h8, List.take_append_drop]
    refine ⟨cur.toList.drop (n * k), ?_, ?_, h3, h5, h6, h1⟩
    · rw [e]; exact h4
    · rw [e, Array.length_toList]; exact h7
theorem own_of_bl {w : World} {base : Nat} {e : TypeId} {k g n cap : Nat} {xs tail : List Value} (h1 : BL w g e (xs ++ tail)) (h2 : (xs ++ tail).length = cap * k) (h3 : base ≤ g) (h4 : n ≤ cap) (h5 : cap ≤ maxLen) (h6 : xs.length = n * k) : w.ownsRow base e k (slV g 0 n cap) n xs := by
  refine ⟨h6, .inr ⟨g, cap, (xs ++ tail).toArray, rfl, h3, h1, h4, h5, ?_, ?_⟩⟩
  · rw [List.size_toArray]; exact h2
  · rw [← h6]; exact List.take_left
theorem own_keep {w w' : World} {base : Nat} {e : TypeId} {k n : Nat} {v : Value} {xs : List Value} (h : w.ownsRow base e k v n xs) (hk : ∀ g, v.ownBlock = some g → w'.heap[g]? = w.heap[g]?) : w'.ownsRow base e k v n xs := by
  obtain ⟨h1, h2 | ⟨g2, cap2, cur, rfl, h3, h4, h5⟩⟩ := h
  · exact ⟨h1, .inl h2⟩
  · exact ⟨h1, .inr ⟨g2, cap2, cur, rfl, h3, (hk g2 rfl).trans h4, h5⟩⟩
theorem own_ge {w : World} {base : Nat} {e : TypeId} {k n : Nat} {v : Value} {xs : List Value} (h : w.ownsRow base e k v n xs) : ∀ g, v.ownBlock = some g → base ≤ g ∧ g < w.heap.size := by
  obtain ⟨h1, ⟨rfl, _⟩ | ⟨g2, cap2, cur, rfl, h3, h4, h5⟩⟩ := h
  · intro g hg; cases hg
  · intro g hg
    simp only [Value.ownBlock, Option.some.injEq] at hg
    subst hg
    refine ⟨h3, ?_⟩
    rcases Nat.lt_or_ge g2 w.heap.size with h | h
    · exact h
    · rw [Array.getElem?_eq_none h] at h4; cases h4
theorem own_cells {w : World} {base b cap : Nat} {l : List Ce} (h : w.ownsRow base 81 5 (slV b 0 l.length cap) l.length (flat l)) : CellsAt w b l cap := by
  obtain ⟨tail, h1, h2, h3, h4, h5, h6⟩ := own_bl h
  refine ⟨h4, tail, ?_, h1⟩
  rw [List.length_append] at h2
  omega
theorem linesV_set (R : List ML) (m m' : ML) (tail : List Value) (j : Nat) (x : Value) (hj : j < 3) (hm : (mlL m).set j x = mlL m') : (linesV (R ++ [m]) ++ tail).set (R.length * 3 + j) x = linesV (R ++ [m']) ++ tail := by
  have hl := linesV_len R
  rw [linesV_app, linesV_one, linesV_app, linesV_one, List.append_assoc, List.append_assoc, List.set_append_right _ _ (by omega), hl, show R.length * 3 + j - R.length * 3 = j by omega, List.set_append_left _ _ (by unfold mlL; simpa using hj), hm]
end Go.Proofs.YtjklnnklgkihlaaGreatDoor.Grd
/- A grid's rows as lines. -/
namespace Go.Proofs.YtjklnnklgkihlaaGreatDoor.Grd
open Go.RowKit

/-- An append onto a slice that is none or the call's own: what comes lies in the same block, or in a new one. -/
theorem append_own {w : World} (t ty : TypeId) (base : Nat) (e : TypeId) (i : TypeInfo) (z : Value) (size bytes : Nat) (ht : Tryz.prog.underlying t = some (.slice e)) (hi : Tryz.prog.info? e = some i) (hz : i.zero = some z)
    (hsize : i.size = size) (hby : i.bytes = bytes) (hzs : z.cells.size = size) (hsz : 0 < size) (v : Value) (n : Nat) (xs : List Value) (hown : w.ownsRow base e size v n xs)
    (a : Addr) (m c : Nat) (news : List Value) (hl : news.length = m * size) (hnews : ∀ j u, news[j]? = some u → w.cell? (a.add j) = some u) (h1 : ∀ u ∈ news, u.oneCell' = true) (hm : 0 < m) (hb64 : bytes ≤ 64) (h20 : n + m ≤ 1000000) (hbase : base ≤ w.heap.size) :
    ∃ g cap' w', (Builtin.append_ #[t, t] ty #[v, .slice (some a) m c]).run Tryz.prog w = .ok (slV g 0 (n + m) cap') w' ∧ w'.ownsRow base e size (slV g 0 (n + m) cap') (n + m) (xs ++ news) ∧ w.grownBy w' v.ownBlock ∧ (v.ownBlock = some g ∨ w.heap.size ≤ g) := by
  have hmx : maxLen = 9223372036854775807 := rfl
  have hbig : ((n + m) + (n + m) / 4 + 192) * bytes ≤ 281474976710656 := by
    have : ((n + m) + (n + m) / 4 + 192) * bytes ≤ 1250192 * 64 := Nat.mul_le_mul (by omega) hb64
    omega
  obtain ⟨v', w', hr, h2, h3, _⟩ := run_append_own_wide (P := Tryz.prog) w base t ty e i z size bytes ht hi hz hsize hby hzs hsz v n xs hown a m c news hl hnews h1 (by omega) hbig hbase
  subst hsize
  subst hby
  have h48 : m * i.bytes ≤ 281474976710656 := Nat.le_trans (Nat.mul_le_mul_right _ (by omega)) hbig
  rcases hown.2 with ⟨rfl, rfl⟩ | ⟨g0, cap, cur, rfl, hbg, hg, hnc, hcm, hcs, htake⟩
  · have hr2 := run_append_nil (P := Tryz.prog) w t ty e i z ht hi hz a m c news hl hnews hm (by omega) h48
    rw [hr] at hr2
    injection hr2 with e1 e2
    subst e1
    rw [Nat.zero_add] at h2 ⊢
    exact ⟨_, _, w', hr, h2, h3, .inr (Nat.le_refl _)⟩
  · by_cases hroom : n + m ≤ cap
    · have hfit : n * i.size + news.length ≤ cur.size := by rw [hl, hcs, ← Nat.add_mul]; exact Nat.mul_le_mul_right _ hroom
      have hr2 := run_append_room (P := Tryz.prog) w t ty e i ht hi g0 n cap cur hg a m c news hl hnews h1 hroom hfit
      rw [hr] at hr2
      injection hr2 with e1 e2
      subst e1
      exact ⟨_, _, w', hr, h2, h3, .inl rfl⟩
    · have hr2 := run_append_grow (P := Tryz.prog) w t ty e i z ht hi hz ⟨g0, 0, none⟩ n cap xs hown.1 (hown.cells (g := g0) rfl) a m c news hl hnews (by omega) (by omega) (growslice_fits_wide (by omega) hbig)
      rw [hr] at hr2
      injection hr2 with e1 e2
      subst e1
      exact ⟨_, _, w', hr, h2, h3, .inr (Nat.le_refl _)⟩
theorem step_append_cells {ops : Array Oper} {o : Oper} {a : Act} {w : World} {K : Act → World → Prop} {Q : Exit → Act → World → Prop} {E : Prop} (hgd : o.guard = none) (s x : Operand) (ho : o.op = .call { callee := .builtin .append, args := #[s, x], argTypes := #[76, 76] })
    (base : Nat) (v : Value) (l1 : List Ce) (hs : a.eval s = v) (hown : w.ownsRow base 81 5 v l1.length (flat l1)) (b c cap : Nat) (l2 : List Ce) (hx : a.eval x = .slice (some ⟨b, 0, none⟩) l2.length c) (hc : CellsAt w b l2 cap) (h0 : 0 < l2.length) (hl : l1.length + l2.length ≤ 1000000) (hbase : base ≤ w.heap.size)
    (h : ∀ g cap' w', w'.ownsRow base 81 5 (slV g 0 (l1 ++ l2).length cap') (l1 ++ l2).length (flat (l1 ++ l2)) → (v.ownBlock = some g ∨ w.heap.size ≤ g) → w.grownBy w' v.ownBlock → K (a.put o.dst (slV g 0 (l1 ++ l2).length cap')) w') :
    if Region.wanted o (yielded ops a.tmps) = true then Oper.wp Tryz.prog o a w K Q else E := by
  have hw : Region.wanted o (yielded ops a.tmps) = true := by simp [Region.wanted, hgd]
  rw [if_pos hw]
  have hi := info_cell
  cases hq : Tryz.prog.info? 81 with
  | none => rw [hq] at hi; cases hi
  | some i =>
    rw [hq] at hi
    simp only [Option.map_some, Option.some.injEq, Prod.mk.injEq] at hi
    obtain ⟨hz, hsz, hby⟩ := hi
    obtain ⟨g, cap', w', hrun, h2, h3, h4⟩ := append_own (w := w) 76 o.type base 81 i _ 5 40 Tryz.underlying76 hq hz hsz hby rfl (by omega) v l1.length (flat l1) hown ⟨b, 0, none⟩ l2.length c (flat l2) (by rw [flat_len]; omega) hc.all (one_flat l2) h0 (by omega) hl hbase
    have hk := h g cap' w' (by rw [List.length_append, flat_app]; exact h2) h4 h3
    rw [List.length_append] at hk
    unfold Oper.wp
    simp [execOp, ho, resolve, invoke, builtin, hs, hx, hrun, Result.andThen]
    exact hk
section
variable {ops : Array Oper} {rest : List Oper} {op : Oper} {a : Act} {w : World} {Q : Exit → Act → World → Prop}
end
end Go.Proofs.YtjklnnklgkihlaaGreatDoor.Grd
/- A grid's rows as lines: the walk. -/
namespace Go.Proofs.YtjklnnklgkihlaaGreatDoor.Grd
open Go.RowKit

theorem flat_ne {l : List Ce} (h : l ≠ []) : 0 < l.length := List.length_pos_iff.2 h
/-- A line with cells has a block of them. -/
theorem own_some {w : World} {base n : Nat} {v : Value} {l : List Ce} (h : w.ownsRow base 81 5 v n (flat l)) (hl : l ≠ []) : v.ownBlock ≠ none := by
  obtain ⟨h1, ⟨rfl, rfl⟩ | ⟨g, cap, cur, rfl, _⟩⟩ := h
  · rw [flat_len] at h1
    have := flat_ne hl
    omega
  · intro e; cases e
theorem own_shape {w : World} {base k n : Nat} {t : TypeId} {v : Value} {xs : List Value} (h : w.ownsRow base t k v n xs) : ∃ bs c, v = .slice bs n c := by
  obtain ⟨h1, ⟨rfl, rfl⟩ | ⟨g, cap, cur, rfl, _⟩⟩ := h
  · exact ⟨none, 0, rfl⟩
  · exact ⟨_, cap, rfl⟩

theorem own_ne {w : World} {base k n r : Nat} {t t' : TypeId} {v : Value} {xs ys : List Value} (h : w.ownsRow base t k v n xs) (hr : BL w r t' ys) (hne : t ≠ t') : v.ownBlock ≠ some r := by
  obtain ⟨h1, ⟨rfl, _⟩ | ⟨g, cap, cur, rfl, h3, h4, _⟩⟩ := h
  · intro e; cases e
  · intro e
    simp only [Value.ownBlock, Option.some.injEq] at e
    subst e
    unfold BL at hr
    rw [h4] at hr
    simp only [Option.some.injEq, Obj.cells.injEq] at hr
    exact hne hr.2.1
theorem getD_pl {l : List MR} {k : Nat} (h : k < l.length) : (l.map MR.pl).getD k default = (l[k].l, l[k].wr) := by simp [h, MR.pl]
theorem le_sum_mem : ∀ (l : List Nat) (x : Nat), x ∈ l → x ≤ l.sum
  | [], x, h => by cases h
  | a :: l, x, h => by
    rw [List.sum_cons]
    rcases List.mem_cons.1 h with rfl | h
    · omega
    · have := le_sum_mem l x h; omega
end Go.Proofs.YtjklnnklgkihlaaGreatDoor.Grd
/- Part of a table, copied; lines laid one behind the other. -/
namespace Go.Proofs.YtjklnnklgkihlaaGreatDoor.Grd
open Go.RowKit

/-- Rows of a table, read where they lie. -/
theorem tab_part {w : World} {p off : Nat} {pre tail : List Value} {ms : List MR} (hB : BL w p 78 (pre ++ rowsL ms ++ tail)) (hpre : pre.length = 2 * off) (a k : Nat) (j : Nat) (u : Value) (hj : (rowsL ((ms.drop a).take k))[j]? = some u) : w.cell? ((⟨p, 2 * off + a * 2, none⟩ : Addr).add j) = some u := by
  rw [rowsL_take, rowsL_drop, List.getElem?_take] at hj
  split at hj
  · rw [List.getElem?_drop] at hj
    rw [Addr.add_mid, hB.cell, List.append_assoc, List.getElem?_append_right (by omega), hpre, show 2 * off + a * 2 + j - 2 * off = 2 * a + j by omega, List.getElem?_append_left (List.getElem?_eq_some_iff.1 hj).1]
    exact hj
  · cases hj

def ClonedRows (w : World) (ms : List MR) (e : Ending) (w' : World) : Prop := ∃ v fp, e = .returned v ∧ TabAt w' v ms fp ∧ (∀ x ∈ fp, w.heap.size ≤ x) ∧ Below w.heap.size w w'
theorem ClonedRows.intro {w w' : World} {ms : List MR} {v : Value} (fp : List Nat) (h1 : TabAt w' v ms fp) (h2 : ∀ x ∈ fp, w.heap.size ≤ x) (h3 : Below w.heap.size w w') : ClonedRows w ms (.returned v) w' := ⟨v, fp, rfl, h1, h2, h3⟩
theorem laysF_snoc (P : PF) (ls : List PL) (m : PL) : laysF P (ls ++ [m]) = layF (laysF P ls) m.l m.wr m.place := by
  unfold laysF
  rw [List.foldl_append]
  rfl
/-- Where the place of a line is. -/
theorem linesN_place (rows : List Ro) (tgt x : Int) (hx : 0 ≤ x) : ∀ n, ∀ m ∈ (linesN rows tgt x n).1, -1 ≤ m.place ∧ m.place ≤ (m.l.length : Int) + x
  | 0 => fun _ h => by cases h
  | n + 1 => by
    have ih := linesN_place rows tgt x hx n
    have h1 : ∀ m ∈ openL (linesN rows tgt x n), -1 ≤ m.place ∧ m.place ≤ (m.l.length : Int) + x := by
      unfold openL
      split
      · exact ih
      · intro m hm
        rcases List.mem_append.1 hm with hm | hm
        · exact ih m hm
        · rw [List.mem_singleton] at hm; rw [hm]; simp; omega
    show ∀ m ∈ setLastL _ _, _
    generalize openL (linesN rows tgt x n) = rs at *
    rcases List.eq_nil_or_concat rs with rfl | ⟨rs, r, rfl⟩
    · intro m hm; cases hm
    · rw [List.concat_eq_append] at h1 ⊢
      rw [setLastL_snoc]
      intro m hm
      rcases List.mem_append.1 hm with hm | hm
      · exact h1 m (by simp [hm])
      · rw [List.mem_singleton] at hm
        rw [hm]
        have h2 := h1 r (by simp)
        simp only [List.length_append]
        split <;> omega
end Go.Proofs.YtjklnnklgkihlaaGreatDoor.Grd
/- Rows laid anew: the walk. -/
namespace Go.Proofs.YtjklnnklgkihlaaGreatDoor.Grd
open Go.RowKit

def Reflowed (w : World) (g : Nat) (G : GS) (rp : List Ro) (x y : Nat) (cols rows : Nat) (e : Ending) (w' : World) : Prop :=
  ∃ P s' pv' fp' past' scr', P = flowOf rp ((G.past.length : Int) + (y : Int)) (x : Int) cols ∧ e = .returned (.agg #[.int .i64 P.px, .int .i64 (P.py - (firstOf P rows : Int))]) ∧ GridAt w' g s' pv' fp' ⟨cols, G.limit, past', scr'⟩ ∧ past'.map MR.pl = (P.rows.take (firstOf P rows)).drop (firstOf P rows - G.limit) ∧ scr'.map MR.pl = filledR (P.rows.drop (firstOf P rows)) cols rows ∧ (∀ z ∈ foot g s' fp' ⟨cols, G.limit, past', scr'⟩, z = g ∨ w.heap.size ≤ z) ∧ Only [g] w w'
theorem sum_take : ∀ (ls : List Nat) (k : Nat) (hk : k < ls.length), (ls.take k).sum + ls[k] ≤ ls.sum
  | [], k, hk => by cases hk
  | a :: ls, 0, _ => by simp
  | a :: ls, k + 1, hk => by
    have := sum_take ls k (by simpa using hk)
    simp only [List.take_succ_cons, List.sum_cons, List.getElem_cons_succ]
    omega
end Go.Proofs.YtjklnnklgkihlaaGreatDoor.Grd
/- Another size, rows laid anew. -/
namespace Go.Proofs.YtjklnnklgkihlaaGreatDoor.Grd
open Go.RowKit

/-- A result that lies in memory, and one that doesn't. -/
theorem results_cell_tmp {P : Program} {fn : Func} {p q : Tmp} {ty : TypeId} (h : fn.results = #[.cell p ty, .tmp q]) (tmps : Array Value) (w : World) (g : Nat) (t : TypeId) (cs : Array Value) (fr : Nat × Nat) (d : TypeDesc)
    (hp : tmps.getD p undef = .pointer (some ⟨g, 0, none⟩)) (hg : w.heap[g]? = some (.cells cs t fr))
    (hu : P.underlying ty = some d) (hd : (match d with | .struct _ | .array _ _ => true | _ => false) = true) (hi : (P.info? ty).map (·.size) = some cs.size) :
    (results fn tmps).run P w = .ok (.tuple #[.agg cs, tmps.getD q undef]) w := by
  have hp' : tmps[p]?.getD undef = .pointer (some ⟨g, 0, none⟩) := by simpa using hp
  simp [results, h, hp', asAddr, run_loadVar_row w g t ty cs fr d hg hu hd hi]
/-- The number from 0 on, below a size, that is nearest. -/
def clampZ (n : Int) (size : Nat) : Nat := (max (min n ((size : Int) - 1)) 0).toNat
theorem clampZ_lt (n : Int) {size : Nat} (h : 1 ≤ size) : clampZ n size < size := by unfold clampZ; omega
def Resized (w : World) (g : Nat) (G : GS) (rp : List Ro) (x y : Nat) (cols rows : Nat) (e : Ending) (w' : World) : Prop :=
  ∃ v, e = .returned (.tuple #[v, .int .i64 0]) ∧ Reflowed w g G rp x y cols rows (.returned v) w'
theorem Resized.intro {w w' : World} {g : Nat} {G : GS} {rp : List Ro} {x y : Nat} {cols rows : Nat} {v : Value} (h : Reflowed w g G rp x y cols rows (.returned v) w') : Resized w g G rp x y cols rows (.returned (.tuple #[v, .int .i64 0])) w' := ⟨v, rfl, h⟩
theorem Reflowed.val {w w' : World} {g : Nat} {G : GS} {rp : List Ro} {x y cols rows : Nat} {e : Ending} (h : Reflowed w g G rp x y cols rows e w') : ∃ a b : Int, e = .returned (.agg #[.int .i64 a, .int .i64 b]) := by
  obtain ⟨P, s', pv', fp', past', scr', h1, h2, _⟩ := h
  exact ⟨_, _, h2⟩
theorem Reflowed.frame {w w' : World} {g : Nat} {G : GS} {rp : List Ro} {x y cols rows : Nat} {e : Ending} (h : Reflowed w g G rp x y cols rows e w') : Only [g] w w' := by
  obtain ⟨P, s', pv', fp', past', scr', h1, h2, h3, h4, h5, h6, h7⟩ := h
  exact h7
/-- Seen from a world ahead, in a world behind that lets the grid be. -/
theorem Reflowed.far {w W V V' : World} {g : Nat} {G : GS} {rp : List Ro} {x y cols rows : Nat} {e : Ending} {F : List Nat} (h : Reflowed W g G rp x y cols rows e V) (hw : Only [] w W) (ho : Only F V V') (hF : ∀ z ∈ F, w.heap.size ≤ z ∧ z < W.heap.size ∧ z ≠ g) : Reflowed w g G rp x y cols rows e V' := by
  obtain ⟨P, s', pv', fp', past', scr', h1, h2, h3, h4, h5, h6, h7⟩ := h
  refine ⟨P, s', pv', fp', past', scr', h1, h2, h3.only ho (fun z hz e => ?_), h4, h5, fun z hz => ?_, ?_⟩
  · have h8 := hF z e
    rcases h6 z hz with h9 | h9
    · exact h8.2.2 h9
    · omega
  · rcases h6 z hz with h9 | h9
    · exact .inl h9
    · have := hw.size; exact .inr (by omega)
  · exact ((hw.mono (G := [g]) (by simp)).trans h7).trans2 ho (fun z hz => .inr (hF z hz).1)

end Go.Proofs.YtjklnnklgkihlaaGreatDoor.Grd
/- A cell that is not laid; a cell laid, or not. -/
namespace Go.Proofs.YtjklnnklgkihlaaGreatDoor.Grd
open Go.RowKit Cel Sty

/-- A grid with a cell laid, if it may be, and has room. -/
def putG (G : GS) (x y : Int) (c : Ce) : GS :=
  if h : (0 ≤ y ∧ y.toNat < G.scr.length) ∧ mayS c.1 c.2.1 c.2.2.1 c.2.2.2.1 c.2.2.2.2 = true ∧ 0 ≤ x ∧ x + c.2.1 ≤ (G.cols : Int) then
    { G with scr := G.scr.set y.toNat { G.scr[y.toNat]'(h.1.2) with l := putL (G.scr[y.toNat]'(h.1.2)).l x.toNat c } } else G
theorem may_width {r wd s1 s2 s3 : Int} (h : mayS r wd s1 s2 s3 = true) : wd = 1 ∨ wd = 2 := by
  have h1 : 0 < wd ∧ wd = width r := by unfold mayS at h; simp at h; exact ⟨h.1, h.2.1⟩
  have := width_bd r
  omega
section
variable {P : Program} {ops : Array Oper} {Q : Exit → Act → World → Prop} {md : Region.Mode} {S : World → Prop}
/-- An operation that is taken first, its slot named. -/
theorem any_take {i : Nat} {d : Tmp} {oi : Oper} {v : Value} {fuel : Nat} {listed : Array Bool} {a : Act} {w : World} (hi : ops[i]? = some oi) (hd : oi.dst = some d)
    (hs : Region.noSelect ops = true) (hf : Region.free md ops listed i = true) (hr : (Region.ready md ops listed).contains i = true)
    (hQ : ∀ c a w, Q (.panic c) (a.put oi.dst v) w → Q (.panic c) a w) (hw : Region.wanted oi (yielded ops a.tmps) = true) (hy : ∀ w, S w → (execOp a.eval oi).run P w = .ok (.value v) w) (hS : S w)
    (h : wpAnyH P md ops Q S fuel (listed.setIfInBounds i true) (a.put (some d) v) w) : wpAnyH P md ops Q S (fuel + 1) listed a w :=
  wpAnyH_take hi hs hf hr hQ (.inl ⟨hw, hy⟩) hS (by rw [hd]; exact h)
/-- An operation that is not carried out. -/
theorem any_skip {i : Nat} {oi : Oper} {fuel : Nat} {listed : Array Bool} {a : Act} {w : World} (hi : ops[i]? = some oi)
    (hs : Region.noSelect ops = true) (hf : Region.free md ops listed i = true) (hr : (Region.ready md ops listed).contains i = true)
    (hQ : ∀ c a w, Q (.panic c) (a.put oi.dst undef) w → Q (.panic c) a w) (hw : Region.wanted oi (yielded ops a.tmps) = false) (hu : a.put oi.dst undef = a) (hS : S w)
    (h : wpAnyH P md ops Q S fuel (listed.setIfInBounds i true) a w) : wpAnyH P md ops Q S (fuel + 1) listed a w :=
  wpAnyH_take hi hs hf hr hQ (.inr ⟨hw, rfl⟩) hS (by rw [hu]; exact h)
end
set_option maxRecDepth 100000 in
set_option maxHeartbeats 2000000 in
/-- No such row. -/
theorem put_no_row {B : Nat} {w : World} {g s : Nat} {pv : Value} {fp : List Nat} {G : GS} (h : GridAt w g s pv fp G) (ht : Tabs B w) (hB : B ≤ w.heap.size) (x y : Int) (r wd s1 s2 s3 : Int) (hno : decide (0 ≤ y ∧ y < G.scr.length) = false) :
    Calls Tryz.prog 83 #[.pointer (some ⟨g, 0, none⟩), .int .i64 x, .int .i64 y, .agg #[.int .i32 r, .int .i64 wd, .int .i64 s1, .int .i64 s2, .int .i64 s3]] w fun e w' => e = .returned (.tuple #[]) ∧ Below w.heap.size w w' := by
  have hsh := fun w h => shows_any (w := w) (g := g) (s := s) (pv := pv) (fp := fp) (G := G) h y false hno
  have hgl := h.blk.lt
  have hA := BL.new w 81 [.int .i32 r, .int .i64 wd, .int .i64 s1, .int .i64 s2, .int .i64 s3]
  have hb0 : Below w.heap.size w (w.alloc (.cells #[.int .i32 r, .int .i64 wd, .int .i64 s1, .int .i64 s2, .int .i64 s3] 81)) := (Below.refl _ _).alloc (Nat.le_refl _) _
  have hs0 := hb0.size
  have HA := Lib.hid hA
  have HG := Lib.hid (h.below hb0)
  have HT := Lib.hid (ht.below hb0 hB)
  have hAl := hA.lt
  have HB0 := Lib.hid hb0
  clear hA h ht hb0 hno HT
  go_enter Tryz.func83, Tryz.ntmps83
  go_wp2_with fail
  generalize w.alloc (.cells #[.int .i32 r, .int .i64 wd, .int .i64 s1, .int .i64 s2, .int .i64 s3] 81) = W at *
  have hdr : Below W.heap.size W W.drew := (Below.refl _ _).drew
  go_cut [32] (fun s32 wx => s32 = .bool true ∧ Below W.heap.size W wx)
  case first =>
    have hq : ∀ n, Calls Tryz.prog 119 #[.pointer (some ⟨g, 0, none⟩), .int .i64 y] (W.drewN n) fun e w' => e = .returned (.bool false) ∧ w' = W.drewN n := fun n =>
      (hsh (W.drewN n) (HG.out.only (F := []) ⟨rfl, rfl, rfl, Nat.le_refl _, fun _ _ _ => rfl⟩ (by simp))).mono fun _ _ h => ⟨h.1, h.2.symm⟩
    clear HB0 HA HG
    go_quiet ((go_at_call 119; exact Calls.quiet_of_same (hq _)))
    all_goals go_wp2_with fail
    all_goals go_meet
    all_goals exact ⟨rfl, ⟨rfl, rfl, rfl, Nat.le_refl _, fun _ _ => rfl⟩⟩
  case rest =>
    obtain ⟨rfl, hb1⟩ := hcut
    have HF := Lib.hid (HB0.out.trans (hb1.mono hs0))
    go_wp2_with fail
    exact bodyPost_ret (results_none rfl _ _) rfl ⟨rfl, HF.out⟩
set_option maxRecDepth 100000 in
set_option maxHeartbeats 2000000 in
/-- No cell that may be put. -/
theorem put_no_may {B : Nat} {w : World} {g s : Nat} {pv : Value} {fp : List Nat} {G : GS} (h : GridAt w g s pv fp G) (ht : Tabs B w) (hB : B ≤ w.heap.size) (x y : Int) (r wd s1 s2 s3 : Int) (hr0 : -2147483648 ≤ r) (hr1 : r ≤ 2147483647) (hsh0 : decide (0 ≤ y ∧ y < G.scr.length) = true) (hmay : mayS r wd s1 s2 s3 = false) :
    Calls Tryz.prog 83 #[.pointer (some ⟨g, 0, none⟩), .int .i64 x, .int .i64 y, .agg #[.int .i32 r, .int .i64 wd, .int .i64 s1, .int .i64 s2, .int .i64 s3]] w fun e w' => e = .returned (.tuple #[]) ∧ Below w.heap.size w w' := by
  have hsh := fun w h => shows_any (w := w) (g := g) (s := s) (pv := pv) (fp := fp) (G := G) h y true hsh0
  have hmb := fun w ht hB => mayBePut_any (B := B) r wd s1 s2 s3 hr0 hr1 false hmay w ht hB
  have hgl := h.blk.lt
  have hA := BL.new w 81 [.int .i32 r, .int .i64 wd, .int .i64 s1, .int .i64 s2, .int .i64 s3]
  have hb0 : Below w.heap.size w (w.alloc (.cells #[.int .i32 r, .int .i64 wd, .int .i64 s1, .int .i64 s2, .int .i64 s3] 81)) := (Below.refl _ _).alloc (Nat.le_refl _) _
  have hs0 := hb0.size
  have HA := Lib.hid hA
  have HG := Lib.hid (h.below hb0)
  have HT := Lib.hid (ht.below hb0 hB)
  have hAl := hA.lt
  have HB0 := Lib.hid hb0
  clear hA h ht hb0 hsh0 hmay hr0 hr1
  go_enter Tryz.func83, Tryz.ntmps83
  go_wp2_with fail
  generalize w.alloc (.cells #[.int .i32 r, .int .i64 wd, .int .i64 s1, .int .i64 s2, .int .i64 s3] 81) = W at *
  have hdr : Below W.heap.size W W.drew := (Below.refl _ _).drew
  go_cut [32] (fun s32 wx => s32 = .bool true ∧ Below W.heap.size W wx)
  case first =>
    have SS : ∀ V, Below W.heap.size W V → (V.cell? ⟨w.heap.size, 0, none⟩ = some (.int .i32 r) ∧ V.cell? ⟨w.heap.size, 1, none⟩ = some (.int .i64 wd) ∧ V.cell? ⟨w.heap.size, 2, none⟩ = some (.int .i64 s1) ∧ V.cell? ⟨w.heap.size, 3, none⟩ = some (.int .i64 s2) ∧ V.cell? ⟨w.heap.size, 4, none⟩ = some (.int .i64 s3) ∧ GridAt V g s pv fp G ∧ Tabs B V ∧ Below W.heap.size W V) := fun V hkk => by
      have hA2 := HA.out.only (F := []) (Only.of_below hkk) (by simp)
      exact ⟨hA2.cell 0, hA2.cell 1, hA2.cell 2, hA2.cell 3, hA2.cell 4, HG.out.below hkk, HT.out.below hkk (by omega), hkk⟩
    clear HB0
    refine wp_region_held_drew (S := fun V => V.cell? ⟨w.heap.size, 0, none⟩ = some (.int .i32 r) ∧ V.cell? ⟨w.heap.size, 1, none⟩ = some (.int .i64 wd) ∧ V.cell? ⟨w.heap.size, 2, none⟩ = some (.int .i64 s1) ∧ V.cell? ⟨w.heap.size, 3, none⟩ = some (.int .i64 s2) ∧ V.cell? ⟨w.heap.size, 4, none⟩ = some (.int .i64 s3) ∧ GridAt V g s pv fp G ∧ Tabs B V ∧ Below W.heap.size W V) (by kernel_rfl) (SS _ hdr) (fun hHeld => ?_)
    refine any_take (i := 0) (d := 9) (v := .pointer (some ⟨g, 0, none⟩)) rfl rfl (by kernel_rfl) (by kernel_rfl) (by kernel_rfl) (fun _ _ _ h => h) rfl ?_ (by assumption) ?_
    · intro V hV
      obtain ⟨_, _, _, _, _, _, _, _⟩ := hV
      go_simp
    simp only [Act.put, List.setIfInBounds_toArray, List.set_cons_zero, List.set_cons_succ]
    refine any_take (i := 1) (d := 10) (v := .int .i64 y) rfl rfl (by kernel_rfl) (by kernel_rfl) (by kernel_rfl) (fun _ _ _ h => h) rfl ?_ (by assumption) ?_
    · intro V hV
      obtain ⟨_, _, _, _, _, _, _, _⟩ := hV
      go_simp
    simp only [Act.put, List.setIfInBounds_toArray, List.set_cons_zero, List.set_cons_succ]
    refine wpAnyH_ready (rs := [2]) (by kernel_rfl) (by simp) ?_
    refine AllReadyH.cons rfl (fun K hK => ?_) AllReadyH.nil
    go_simp
    obtain ⟨_, _, _, _, _, kg, _, _⟩ := hHeld
    refine (hsh _ kg).mono ?_
    rintro _ w2 ⟨rfl, rfl⟩
    go_wp2_with fail
    refine hK.out _ _ ?_ (fun hHeld => ?_)
    · exact SS _ hdr
    clear hK K
    refine any_take (i := 3) (d := 12) (v := .bool false) rfl rfl (by kernel_rfl) (by kernel_rfl) (by kernel_rfl) (fun _ _ _ h => h) rfl ?_ (by assumption) ?_
    · intro V hV
      obtain ⟨_, _, _, _, _, _, _, _⟩ := hV
      go_simp
    simp only [Act.put, List.setIfInBounds_toArray, List.set_cons_zero, List.set_cons_succ]
    refine any_take (i := 4) (d := 13) (v := .bool false) rfl rfl (by kernel_rfl) (by kernel_rfl) (by kernel_rfl) (fun _ _ _ h => h) rfl ?_ (by assumption) ?_
    · intro V hV
      obtain ⟨_, _, _, _, _, _, _, _⟩ := hV
      go_simp
    simp only [Act.put, List.setIfInBounds_toArray, List.set_cons_zero, List.set_cons_succ]
    refine any_take (i := 5) (d := 14) (v := .agg #[.int .i32 r, .int .i64 wd, .int .i64 s1, .int .i64 s2, .int .i64 s3]) rfl rfl (by kernel_rfl) (by kernel_rfl) (by kernel_rfl) (fun _ _ _ h => h) rfl ?_ (by assumption) ?_
    · intro V hV
      obtain ⟨_, _, _, _, _, _, _, _⟩ := hV
      go_simp
    simp only [Act.put, List.setIfInBounds_toArray, List.set_cons_zero, List.set_cons_succ]
    refine wpAnyH_ready (rs := [6]) (by kernel_rfl) (by simp) ?_
    refine AllReadyH.cons rfl (fun K hK => ?_) AllReadyH.nil
    go_simp
    obtain ⟨_, _, _, _, _, _, kt, k3⟩ := hHeld
    refine (hmb _ kt (by have := k3.size; omega)).mono ?_
    rintro _ w3 ⟨rfl, hb3⟩
    have hby := k3.trans (hb3.mono k3.size)
    go_wp2_with fail
    refine hK.out _ _ ?_ (fun hHeld => ?_)
    · exact SS _ hby
    clear hK K
    refine any_take (i := 7) (d := 16) (v := .bool true) rfl rfl (by kernel_rfl) (by kernel_rfl) (by kernel_rfl) (fun _ _ _ h => h) rfl ?_ (by assumption) ?_
    · intro V hV
      obtain ⟨_, _, _, _, _, _, _, _⟩ := hV
      go_simp
    simp only [Act.put, List.setIfInBounds_toArray, List.set_cons_zero, List.set_cons_succ]
    refine any_take (i := 8) (d := 17) (v := .bool true) rfl rfl (by kernel_rfl) (by kernel_rfl) (by kernel_rfl) (fun _ _ _ h => h) rfl ?_ (by assumption) ?_
    · intro V hV
      obtain ⟨_, _, _, _, _, _, _, _⟩ := hV
      go_simp
    simp only [Act.put, List.setIfInBounds_toArray, List.set_cons_zero, List.set_cons_succ]
    refine any_take (i := 9) (d := 18) (v := .bool true) rfl rfl (by kernel_rfl) (by kernel_rfl) (by kernel_rfl) (fun _ _ _ h => h) rfl ?_ (by assumption) ?_
    · intro V hV
      obtain ⟨_, _, _, _, _, _, _, _⟩ := hV
      go_simp
    simp only [Act.put, List.setIfInBounds_toArray, List.set_cons_zero, List.set_cons_succ]
    refine any_skip (i := 10) rfl (by kernel_rfl) (by kernel_rfl) (by kernel_rfl) (fun _ _ _ h => h) rfl rfl (by assumption) ?_
    refine any_skip (i := 11) rfl (by kernel_rfl) (by kernel_rfl) (by kernel_rfl) (fun _ _ _ h => h) rfl rfl (by assumption) ?_
    refine any_take (i := 12) (d := 21) (v := .bool true) rfl rfl (by kernel_rfl) (by kernel_rfl) (by kernel_rfl) (fun _ _ _ h => h) rfl ?_ (by assumption) ?_
    · intro V hV
      obtain ⟨_, _, _, _, _, _, _, _⟩ := hV
      go_simp
    simp only [Act.put, List.setIfInBounds_toArray, List.set_cons_zero, List.set_cons_succ]
    refine any_take (i := 13) (d := 22) (v := .bool true) rfl rfl (by kernel_rfl) (by kernel_rfl) (by kernel_rfl) (fun _ _ _ h => h) rfl ?_ (by assumption) ?_
    · intro V hV
      obtain ⟨_, _, _, _, _, _, _, _⟩ := hV
      go_simp
    simp only [Act.put, List.setIfInBounds_toArray, List.set_cons_zero, List.set_cons_succ]
    refine any_skip (i := 14) rfl (by kernel_rfl) (by kernel_rfl) (by kernel_rfl) (fun _ _ _ h => h) rfl rfl (by assumption) ?_
    refine any_skip (i := 15) rfl (by kernel_rfl) (by kernel_rfl) (by kernel_rfl) (fun _ _ _ h => h) rfl rfl (by assumption) ?_
    refine any_skip (i := 16) rfl (by kernel_rfl) (by kernel_rfl) (by kernel_rfl) (fun _ _ _ h => h) rfl rfl (by assumption) ?_
    refine any_skip (i := 17) rfl (by kernel_rfl) (by kernel_rfl) (by kernel_rfl) (fun _ _ _ h => h) rfl rfl (by assumption) ?_
    refine any_skip (i := 18) rfl (by kernel_rfl) (by kernel_rfl) (by kernel_rfl) (fun _ _ _ h => h) rfl rfl (by assumption) ?_
    refine any_skip (i := 19) rfl (by kernel_rfl) (by kernel_rfl) (by kernel_rfl) (fun _ _ _ h => h) rfl rfl (by assumption) ?_
    refine any_skip (i := 20) rfl (by kernel_rfl) (by kernel_rfl) (by kernel_rfl) (fun _ _ _ h => h) rfl rfl (by assumption) ?_
    refine any_skip (i := 21) rfl (by kernel_rfl) (by kernel_rfl) (by kernel_rfl) (fun _ _ _ h => h) rfl rfl (by assumption) ?_
    refine any_skip (i := 22) rfl (by kernel_rfl) (by kernel_rfl) (by kernel_rfl) (fun _ _ _ h => h) rfl rfl (by assumption) ?_
    refine any_take (i := 23) (d := 32) (v := .bool true) rfl rfl (by kernel_rfl) (by kernel_rfl) (by kernel_rfl) (fun _ _ _ h => h) rfl ?_ (by assumption) ?_
    · intro V hV
      obtain ⟨_, _, _, _, _, _, _, _⟩ := hV
      go_simp
    simp only [Act.put, List.setIfInBounds_toArray, List.set_cons_zero, List.set_cons_succ]
    refine wpAnyH_done (by kernel_rfl) ?_ _
    go_wp2_with fail
    go_meet
    exact ⟨rfl, hby⟩
  case rest =>
    obtain ⟨rfl, hb1⟩ := hcut
    have HF := Lib.hid (HB0.out.trans (hb1.mono hs0))
    go_wp2_with fail
    exact bodyPost_ret (results_none rfl _ _) rfl ⟨rfl, HF.out⟩
set_option maxRecDepth 100000 in
set_option maxHeartbeats 2000000 in
/-- No room. -/
theorem put_no_room {B : Nat} {w : World} {g s : Nat} {pv : Value} {fp : List Nat} {G : GS} (h : GridAt w g s pv fp G) (ht : Tabs B w) (hB : B ≤ w.heap.size) (x y : Int) (r wd s1 s2 s3 : Int) (hr0 : -2147483648 ≤ r) (hr1 : r ≤ 2147483647) (hsh0 : decide (0 ≤ y ∧ y < G.scr.length) = true) (hmay : mayS r wd s1 s2 s3 = true) (hx0 : 0 ≤ x) (hx1 : x ≤ 4611686018427387904) (hno : (G.cols : Int) < x + wd) :
    Calls Tryz.prog 83 #[.pointer (some ⟨g, 0, none⟩), .int .i64 x, .int .i64 y, .agg #[.int .i32 r, .int .i64 wd, .int .i64 s1, .int .i64 s2, .int .i64 s3]] w fun e w' => e = .returned (.tuple #[]) ∧ Below w.heap.size w w' := by
  have hsh := fun w h => shows_any (w := w) (g := g) (s := s) (pv := pv) (fp := fp) (G := G) h y true hsh0
  have hmb := fun w ht hB => mayBePut_any (B := B) r wd s1 s2 s3 hr0 hr1 true hmay w ht hB
  have hc1 := h.c1
  have hc2 := h.c2
  have hw := may_width hmay
  obtain ⟨n, hn⟩ : ∃ n, G.cols = n := ⟨_, rfl⟩
  have HCN := Lib.hid hn
  rw [hn] at hno hc1 hc2
  have d1 : decide (x < 0) = false := by simpa using hx0
  have d2 : decide ((n : Int) - wd < x) = true := by simp; omega
  have d3 : (n : Int) - wd < x := by omega
  have j1 : IntKind.i64.wrap ((n : Int) - wd) = (n : Int) - wd := IntWalk.i64_in _ ⟨by omega, by omega⟩
  have hgl := h.blk.lt
  have hA := BL.new w 81 [.int .i32 r, .int .i64 wd, .int .i64 s1, .int .i64 s2, .int .i64 s3]
  have hb0 : Below w.heap.size w (w.alloc (.cells #[.int .i32 r, .int .i64 wd, .int .i64 s1, .int .i64 s2, .int .i64 s3] 81)) := (Below.refl _ _).alloc (Nat.le_refl _) _
  have hs0 := hb0.size
  have HA := Lib.hid hA
  have HG := Lib.hid (h.below hb0)
  have HT := Lib.hid (ht.below hb0 hB)
  have hAl := hA.lt
  have HB0 := Lib.hid hb0
  clear hA h ht hb0 hsh0 hmay hr0 hr1 hn hw hno
  go_enter Tryz.func83, Tryz.ntmps83
  go_wp2_with fail
  generalize w.alloc (.cells #[.int .i32 r, .int .i64 wd, .int .i64 s1, .int .i64 s2, .int .i64 s3] 81) = W at *
  have hdr : Below W.heap.size W W.drew := (Below.refl _ _).drew
  go_cut [32] (fun s32 wx => s32 = .bool true ∧ Below W.heap.size W wx)
  case first =>
    have SS : ∀ V, Below W.heap.size W V → (V.cell? ⟨w.heap.size, 0, none⟩ = some (.int .i32 r) ∧ V.cell? ⟨w.heap.size, 1, none⟩ = some (.int .i64 wd) ∧ V.cell? ⟨w.heap.size, 2, none⟩ = some (.int .i64 s1) ∧ V.cell? ⟨w.heap.size, 3, none⟩ = some (.int .i64 s2) ∧ V.cell? ⟨w.heap.size, 4, none⟩ = some (.int .i64 s3) ∧ V.cell? ⟨g, 0, none⟩ = some (.int .i64 (n : Int)) ∧ GridAt V g s pv fp G ∧ Tabs B V ∧ Below W.heap.size W V) := fun V hkk => by
      have hA2 := HA.out.only (F := []) (Only.of_below hkk) (by simp)
      have hG2 := HG.out.below hkk
      exact ⟨hA2.cell 0, hA2.cell 1, hA2.cell 2, hA2.cell 3, hA2.cell 4, by rw [← HCN.out]; exact hG2.f0, hG2, HT.out.below hkk (by omega), hkk⟩
    clear HB0
    go_region_held3 (fun V => V.cell? ⟨w.heap.size, 0, none⟩ = some (.int .i32 r) ∧ V.cell? ⟨w.heap.size, 1, none⟩ = some (.int .i64 wd) ∧ V.cell? ⟨w.heap.size, 2, none⟩ = some (.int .i64 s1) ∧ V.cell? ⟨w.heap.size, 3, none⟩ = some (.int .i64 s2) ∧ V.cell? ⟨w.heap.size, 4, none⟩ = some (.int .i64 s3) ∧ V.cell? ⟨g, 0, none⟩ = some (.int .i64 (n : Int)) ∧ GridAt V g s pv fp G ∧ Tabs B V ∧ Below W.heap.size W V)
      (first
        | (refine SS _ ?_; assumption)
        | fail)
      (first
        | (go_at_call 119; obtain ⟨_, _, _, _, _, _, kg, _, k2⟩ := (by assumption : _ ∧ _ ∧ _ ∧ _ ∧ _ ∧ _ ∧ GridAt _ g s pv fp G ∧ Tabs B _ ∧ Below W.heap.size W _); refine (hsh _ kg).mono ?_; rintro _ w2 ⟨rfl, rfl⟩)
        | (go_at_call 120; obtain ⟨_, _, _, _, _, _, _, kt, k3⟩ := (by assumption : _ ∧ _ ∧ _ ∧ _ ∧ _ ∧ _ ∧ GridAt _ g s pv fp G ∧ Tabs B _ ∧ Below W.heap.size W _); refine (hmb _ kt (by have := k3.size; omega)).mono ?_; rintro _ w3 ⟨rfl, hb3⟩; have hby := k3.trans (hb3.mono k3.size)))
    all_goals go_wp2_with fail
    all_goals go_meet
    all_goals exact ⟨rfl, hby⟩
  case rest =>
    obtain ⟨rfl, hb1⟩ := hcut
    have HF := Lib.hid (HB0.out.trans (hb1.mono hs0))
    go_wp2_with fail
    exact bodyPost_ret (results_none rfl _ _) rfl ⟨rfl, HF.out⟩
theorem put_no {B : Nat} {w : World} {g s : Nat} {pv : Value} {fp : List Nat} {G : GS} (h : GridAt w g s pv fp G) (ht : Tabs B w) (hB : B ≤ w.heap.size) (x y : Int) (r wd s1 s2 s3 : Int) (hr0 : -2147483648 ≤ r) (hr1 : r ≤ 2147483647) (hx0 : 0 ≤ x) (hx1 : x ≤ 4611686018427387904)
    (hno : ¬ ((0 ≤ y ∧ y < G.scr.length) ∧ mayS r wd s1 s2 s3 = true ∧ 0 ≤ x ∧ x + wd ≤ (G.cols : Int))) :
    Calls Tryz.prog 83 #[.pointer (some ⟨g, 0, none⟩), .int .i64 x, .int .i64 y, .agg #[.int .i32 r, .int .i64 wd, .int .i64 s1, .int .i64 s2, .int .i64 s3]] w fun e w' => e = .returned (.tuple #[]) ∧ Below w.heap.size w w' := by
  cases hsh : decide (0 ≤ y ∧ y < G.scr.length) with
  | false => exact put_no_row h ht hB x y r wd s1 s2 s3 hsh
  | true =>
    cases hmay : mayS r wd s1 s2 s3 with
    | false => exact put_no_may h ht hB x y r wd s1 s2 s3 hr0 hr1 hsh hmay
    | true =>
      refine put_no_room h ht hB x y r wd s1 s2 s3 hr0 hr1 hsh hmay hx0 hx1 ?_
      have h1 : 0 ≤ y ∧ y < G.scr.length := by simpa using hsh
      rcases Int.lt_or_le (G.cols : Int) (x + wd) with h2 | h2
      · exact h2
      · exact absurd ⟨h1, hmay, hx0, h2⟩ hno
/-- A cell laid, or not. -/
theorem put_gen {B : Nat} {w : World} {g s : Nat} {pv : Value} {fp : List Nat} {G : GS} (h : GridAt w g s pv fp G) (ht : Tabs B w) (hB : B ≤ w.heap.size) (x y : Int) (r wd s1 s2 s3 : Int) (hr0 : -2147483648 ≤ r) (hr1 : r ≤ 2147483647) (hx0 : 0 ≤ x) (hx1 : x ≤ 4611686018427387904) :
    Calls Tryz.prog 83 #[.pointer (some ⟨g, 0, none⟩), .int .i64 x, .int .i64 y, .agg #[.int .i32 r, .int .i64 wd, .int .i64 s1, .int .i64 s2, .int .i64 s3]] w fun e w' => e = .returned (.tuple #[]) ∧ GridAt w' g s pv fp (putG G x y (r, wd, s1, s2, s3)) ∧ Only (G.scr.map MR.b) w w' := by
  by_cases hc : (0 ≤ y ∧ y.toNat < G.scr.length) ∧ mayS r wd s1 s2 s3 = true ∧ 0 ≤ x ∧ x + wd ≤ (G.cols : Int)
  · have e : putG G x y (r, wd, s1, s2, s3) = { G with scr := G.scr.set y.toNat { G.scr[y.toNat]'(hc.1.2) with l := putL (G.scr[y.toNat]'(hc.1.2)).l x.toNat (r, wd, s1, s2, s3) } } := by
      unfold putG
      rw [dif_pos hc]
    rw [e]
    have h1 := put_any h ht hB x.toNat y.toNat hc.1.2 r wd s1 s2 s3 hr0 hr1 hc.2.1 (by rw [Int.toNat_of_nonneg hc.2.2.1]; exact hc.2.2.2)
    rw [Int.toNat_of_nonneg hc.2.2.1, Int.toNat_of_nonneg hc.1.1] at h1
    refine h1.mono ?_
    rintro e w' ⟨he, hG, ho⟩
    exact ⟨he, hG, ho.mono (fun z hz => by rw [List.mem_singleton] at hz; rw [hz]; exact List.mem_map_of_mem (List.getElem_mem _))⟩
  · have e : putG G x y (r, wd, s1, s2, s3) = G := by unfold putG; rw [dif_neg hc]
    rw [e]
    refine (put_no h ht hB x y r wd s1 s2 s3 hr0 hr1 hx0 hx1 (fun h1 => hc ⟨⟨h1.1.1, by have := h1.1.2; have := h1.1.1; omega⟩, h1.2⟩)).mono ?_
    rintro e w' ⟨he, hb⟩
    exact ⟨he, h.below hb, Only.of_below hb⟩
end Go.Proofs.YtjklnnklgkihlaaGreatDoor.Grd
/- The law's sameCells. -/
namespace Go.Proofs.YtjklnnklgkihlaaGreatDoor.Grd
open Go.RowKit

end Go.Proofs.YtjklnnklgkihlaaGreatDoor.Grd
/- A text's runes, in memory. -/
namespace Go.Proofs.YtjklnnklgkihlaaGreatDoor.Grd
open Go.RowKit Cel Sty

def RuneV (v : Value) : Prop := ∃ r : Int, v = .int .i32 r ∧ 0 ≤ r ∧ r ≤ 2147483647
theorem runesFrom_is (s : ByteArray) : ∀ (bound i : Nat) (acc : Array Value), (∀ v ∈ acc, RuneV v) → ∀ v ∈ Conv.runesFrom s bound i acc, RuneV v
  | 0, _, acc, h => by simpa [Conv.runesFrom] using h
  | bound + 1, i, acc, h => by
    unfold Conv.runesFrom
    split
    · refine runesFrom_is s bound _ _ fun v hv => ?_
      rcases Array.mem_push.1 hv with hv | rfl
      · exact h v hv
      · exact ⟨Int.ofNat (Utf8.decode s i).1, rfl, Int.natCast_nonneg _, Int.ofNat_le.2 (decode_le s i)⟩
    · exact h
theorem runeVs (l : List Value) (h : ∀ v ∈ l, RuneV v) : ∃ rs : List Int, l = rs.map (Value.int .i32) ∧ ∀ r ∈ rs, 0 ≤ r ∧ r ≤ 2147483647 := by
  induction l with
  | nil => exact ⟨[], rfl, fun _ h => by cases h⟩
  | cons v l ih =>
    obtain ⟨rs, rfl, hr⟩ := ih fun v hv => h v (List.mem_cons_of_mem _ hv)
    obtain ⟨r, rfl, h1, h2⟩ := h v (List.mem_cons_self ..)
    exact ⟨r :: rs, rfl, fun x hx => by rcases List.mem_cons.1 hx with rfl | hx; exact ⟨h1, h2⟩; exact hr x hx⟩
/-- The runes of a text, as a new list. -/
theorem runes_conv (s : ByteArray) (w : World) (hs : s.size ≤ 70368744177664) : ∃ (rs : List Int) (c : Nat) (w1 : World), (convert 9 127 (.string s)).run Tryz.prog w = .ok (.slice (some ⟨w.heap.size, 0, none⟩) rs.length c) w1 ∧ Below w.heap.size w w1 ∧ w.heap.size < w1.heap.size ∧ rs.length ≤ s.size ∧ (∀ k (h : k < rs.length), w1.cell? ⟨w.heap.size, k, none⟩ = some (.int .i32 rs[k])) ∧ ∀ r ∈ rs, 0 ≤ r ∧ r ≤ 2147483647 := by
  have hsz : (Conv.runesFrom s s.size 0 #[]).size ≤ s.size := by simpa using size_runesFrom s s.size 0 #[]
  have hr := run_runes_of_string (P := Tryz.prog) w 9 127 21 s Tryz.underlying9 Tryz.underlying127 Tryz.underlying21 (by omega)
  obtain ⟨rs, hl, hb⟩ := runeVs (Conv.runesFrom s s.size 0 #[]).toList (fun v hv => runesFrom_is s s.size 0 #[] (fun _ h => by simp at h) v (Array.mem_toList_iff.1 hv))
  generalize Conv.runesFrom s s.size 0 #[] = cs at *
  have hn : cs.size = rs.length := by rw [← Array.length_toList, hl, List.length_map]
  rw [hn] at hr hsz
  refine ⟨rs, _, _, hr, ((Below.refl _ _).drew).alloc (Nat.le_refl _) _, by rw [size_alloc]; exact Nat.lt_succ_self _, hsz, fun k hk => ?_, hb⟩
  have h1 := World.cell?_alloc_mark w.drew (cs ++ Array.replicate (grownCap w rs.length 0 21 - rs.length) (.int .i32 0)) 21 (0, 0) k
  refine h1.trans ?_
  rw [Array.getElem?_append_left (by omega), ← Array.getElem?_toList, hl]
  simp [List.getElem?_eq_getElem hk]

end Go.Proofs.YtjklnnklgkihlaaGreatDoor.Grd
/- A grid in plain words: how many columns, its limit, its rows; what its calls make of them. -/
namespace Go.Proofs.YtjklnnklgkihlaaGreatDoor.Grd
open Go.RowKit Cel Sty

/-- The grid at g, in the blocks F. -/
def GA (w : World) (g : Nat) (F : List Nat) (c lim : Nat) (past rows : List Ro) : Prop :=
  ∃ s pv fp G, GridAt w g s pv fp G ∧ F = foot g s fp G ∧ G.cols = c ∧ G.limit = lim ∧ G.past.map MR.pl = past ∧ G.scr.map MR.pl = rows
/-- As many new blank rows. -/
def blankR (c : Nat) (s : St) : Ro := (List.replicate c (32, 1, s), false)
def plainR (c : Nat) : Ro := (List.replicate c plainCe, false)
/-- A cell laid, if it may be, and has room. -/
def putP (c : Nat) (rs : List Ro) (x y : Int) (cc : Ce) : List Ro :=
  if (0 ≤ y ∧ y.toNat < rs.length) ∧ mayS cc.1 cc.2.1 cc.2.2.1 cc.2.2.2.1 cc.2.2.2.2 = true ∧ 0 ≤ x ∧ x + cc.2.1 ≤ (c : Int) then
    rs.set y.toNat (putL (rs.getD y.toNat ([], false)).1 x.toNat cc, (rs.getD y.toNat ([], false)).2) else rs
def wrapP (rs : List Ro) (k : Nat) (is : Bool) : List Ro := rs.set k ((rs.getD k ([], false)).1, is)
def upP (rs : List Ro) (top len q : Nat) (b : Ro) : List Ro := rs.take top ++ ((rs.drop (top + q)).take (len - q) ++ (List.replicate q b ++ rs.drop (top + len)))
def downP (rs : List Ro) (top len q : Nat) (b : Ro) : List Ro := rs.take top ++ (List.replicate q b ++ ((rs.drop top).take (len - q) ++ rs.drop (top + len)))
theorem map_getD {ms : List MR} {k : Nat} (h : k < ms.length) : (ms.map MR.pl).getD k ([], false) = (ms[k].l, ms[k].wr) := by simp [h, MR.pl]
theorem putG_pl (G : GS) (x y : Int) (cc : Ce) : (putG G x y cc).scr.map MR.pl = putP G.cols (G.scr.map MR.pl) x y cc := by
  unfold putG putP
  rw [List.length_map]
  split
  · rename_i h
    rw [map_getD h.1.2, List.map_set]
    rfl
  · rfl
theorem putG_same (G : GS) (x y : Int) (cc : Ce) : (putG G x y cc).cols = G.cols ∧ (putG G x y cc).limit = G.limit ∧ (putG G x y cc).past = G.past := by
  unfold putG
  split <;> exact ⟨rfl, rfl, rfl⟩
theorem scr_put (G : GS) (x y : Int) (cc : Ce) : (putG G x y cc).scr.map MR.b = G.scr.map MR.b := by
  unfold putG
  split
  · rename_i h
    exact set_b h.1.2 (m := { G.scr[y.toNat]'(h.1.2) with l := putL (G.scr[y.toNat]'(h.1.2)).l x.toNat cc }) rfl
  · rfl
theorem alike_pl {B c : Nat} {s : St} : ∀ {ms : List MR}, Alike B (List.replicate c (32, 1, s)) ms → ms.map MR.pl = List.replicate ms.length (blankR c s)
  | [], _ => rfl
  | m :: ms, h => by
    have h1 := h m (List.mem_cons_self ..)
    rw [List.map_cons, List.length_cons, List.replicate_succ, alike_pl (ms := ms) fun x hx => h x (List.mem_cons_of_mem _ hx)]
    congr 1
    unfold MR.pl blankR
    rw [h1.1, h1.2.1]
theorem foot_same {g s : Nat} {fp : List Nat} {G H : GS} (hp : H.past = G.past) (hs : H.scr.map MR.b = G.scr.map MR.b) : foot g s fp H = foot g s fp G := by
  unfold foot
  rw [hp, List.map_append, List.map_append, hs]
section
variable {w w' : World} {g : Nat} {F : List Nat} {c lim : Nat} {past rows : List Ro}
theorem GA.of {s : Nat} {pv : Value} {fp : List Nat} {G : GS} (h : GridAt w g s pv fp G) : GA w g (foot g s fp G) G.cols G.limit (G.past.map MR.pl) (G.scr.map MR.pl) := ⟨s, pv, fp, G, h, rfl, rfl, rfl, rfl, rfl⟩
theorem GA.only (h : GA w g F c lim past rows) {K : List Nat} (ho : Only K w w') (hF : ∀ x ∈ F, x ∉ K) : GA w' g F c lim past rows := by
  obtain ⟨s, pv, fp, G, h1, rfl, h2⟩ := h
  exact ⟨s, pv, fp, G, h1.only ho hF, rfl, h2⟩
theorem GA.below (h : GA w g F c lim past rows) (ho : Below w.heap.size w w') : GA w' g F c lim past rows := h.only (K := []) (Only.of_below ho) (fun _ _ h => by cases h)
theorem GA.mem (h : GA w g F c lim past rows) : g ∈ F := by
  obtain ⟨s, pv, fp, G, h1, rfl, h2⟩ := h
  simp [foot]
theorem GA.lt (h : GA w g F c lim past rows) : ∀ x ∈ F, x < w.heap.size := by
  obtain ⟨s, pv, fp, G, h1, rfl, h2⟩ := h
  intro x hx
  unfold foot at hx
  rcases List.mem_append.1 hx with hx | hx
  · simp only [List.mem_cons] at hx
    rcases hx with rfl | rfl | hx
    · exact h1.blk.lt
    · exact h1.scr.lt
    · exact h1.tab.lt x hx
  · obtain ⟨m, hm, rfl⟩ := List.mem_map.1 hx
    exact h1.held.lt hm
structure GBd (c lim : Nat) (past rows : List Ro) : Prop where
  c1 : 1 ≤ c
  c2 : c ≤ 250
  r1 : 1 ≤ rows.length
  r2 : rows.length ≤ 120
  l2 : lim ≤ 2000
  p2 : past.length ≤ lim
  cells : ∀ r ∈ past ++ rows, r.1.length = c
theorem GA.bd (h : GA w g F c lim past rows) : GBd c lim past rows := by
  obtain ⟨s, pv, fp, G, h1, rfl, rfl, rfl, rfl, rfl⟩ := h
  refine ⟨h1.c1, h1.c2, by rw [List.length_map]; exact h1.r1, by rw [List.length_map]; exact h1.r2, h1.l2, by rw [List.length_map]; exact h1.p2, fun r hr => ?_⟩
  rw [← List.map_append] at hr
  obtain ⟨m, hm, rfl⟩ := List.mem_map.1 hr
  exact h1.cells m hm
/-- What a call left: an answer, the grid, its frame. -/
def Left (w : World) (g : Nat) (F : List Nat) (c lim : Nat) (past rows : List Ro) (v : Value) (e : Ending) (w' : World) : Prop :=
  e = .returned v ∧ ∃ F', GA w' g F' c lim past rows ∧ Went F F' w w'
theorem new_ga (c r h : Nat) (hc1 : 1 ≤ c) (hc2 : c ≤ 250) (hr1 : 1 ≤ r) (hr2 : r ≤ 120) (hh : h ≤ 2000) (w : World) :
    Calls Tryz.prog 38 #[.int .i64 (c : Int), .int .i64 (r : Int), .int .i64 (h : Int)] w fun e w' => ∃ g F, e = .returned (.tuple #[.pointer (some ⟨g, 0, none⟩), .int .i64 0]) ∧
      GA w' g F c h [] (List.replicate r (plainR c)) ∧ (∀ x ∈ F, w.heap.size ≤ x) ∧ Below w.heap.size w w' := by
  refine (new_any c r h hc1 hc2 hr1 hr2 hh w).mono ?_
  rintro e w' ⟨g, s, ms, rfl, hG, hl, hA, hg, hs, hb⟩
  have hp : ms.map MR.pl = List.replicate r (plainR c) := by rw [alike_pl hA, hl]; rfl
  have := GA.of hG
  simp only [List.map_nil, hp] at this
  refine ⟨g, _, rfl, this, fun x hx => ?_, hb⟩
  unfold foot at hx
  simp only [List.nil_append, List.cons_append, List.mem_cons, List.mem_map] at hx
  rcases hx with rfl | rfl | ⟨m, hm, rfl⟩
  · exact hg
  · exact hs
  · exact (hA m hm).2.2
theorem put_ga {B : Nat} (h : GA w g F c lim past rows) (ht : Tabs B w) (hB : B ≤ w.heap.size) (x y : Int) (r wd s1 s2 s3 : Int) (hr0 : -2147483648 ≤ r) (hr1 : r ≤ 2147483647) (hx0 : 0 ≤ x) (hx1 : x ≤ 4611686018427387904) :
    Calls Tryz.prog 83 #[.pointer (some ⟨g, 0, none⟩), .int .i64 x, .int .i64 y, .agg #[.int .i32 r, .int .i64 wd, .int .i64 s1, .int .i64 s2, .int .i64 s3]] w (fun e w' => e = .returned (.tuple #[]) ∧ GA w' g F c lim past (putP c rows x y (r, wd, s1, s2, s3)) ∧ Only F w w') := by
  obtain ⟨s, pv, fp, G, h1, rfl, rfl, rfl, rfl, rfl⟩ := h
  refine (put_gen h1 ht hB x y r wd s1 s2 s3 hr0 hr1 hx0 hx1).mono ?_
  rintro e w' ⟨rfl, hG, ho⟩
  obtain ⟨e1, e2, e3⟩ := putG_same G x y (r, wd, s1, s2, s3)
  refine ⟨rfl, ⟨s, pv, fp, _, hG, (foot_same e3 (scr_put G x y _)).symm, e1, e2, by rw [e3], putG_pl G x y _⟩, ho.mono fun z hz => ?_⟩
  obtain ⟨m, hm, rfl⟩ := List.mem_map.1 hz
  exact List.mem_append_right _ (List.mem_map_of_mem (List.mem_append_right _ hm))
theorem wrap_ga (h : GA w g F c lim past rows) (k : Nat) (hk : k < rows.length) (is : Bool) :
    Calls Tryz.prog 130 #[.pointer (some ⟨g, 0, none⟩), .int .i64 (k : Int), .bool is] w (fun e w' => e = .returned (.tuple #[]) ∧ GA w' g F c lim past (wrapP rows k is) ∧ Only F w w') := by
  obtain ⟨s, pv, fp, G, h1, rfl, rfl, rfl, rfl, rfl⟩ := h
  rw [List.length_map] at hk
  refine (wrap_any h1 k hk is).mono ?_
  rintro e w' ⟨rfl, hG, ho⟩
  have hf : foot g s fp { G with scr := G.scr.set k { G.scr[k] with wr := is } } = foot g s fp G := foot_same rfl (set_b hk rfl)
  refine ⟨rfl, ⟨s, pv, fp, _, hG, hf.symm, rfl, rfl, rfl, ?_⟩, ho.mono fun z hz => by rw [List.mem_singleton] at hz; rw [hz]; simp [foot]⟩
  unfold wrapP
  rw [map_getD hk, List.map_set]
  rfl
theorem upL_pl {scr : List MR} {top len q : Nat} {ms : List MR} {cc : Nat} {s : St} {B : Nat} (hms : ms.length = q) (hA : Alike B (List.replicate cc (32, 1, s)) ms) : (upL scr top len q ms).map MR.pl = upP (scr.map MR.pl) top len q (blankR cc s) := by
  unfold upL upP
  simp only [List.map_append, List.map_take, List.map_drop, alike_pl hA, hms]
theorem downL_pl {scr : List MR} {top len q : Nat} {ms : List MR} {cc : Nat} {s : St} {B : Nat} (hms : ms.length = q) (hA : Alike B (List.replicate cc (32, 1, s)) ms) : (downL scr top len q ms).map MR.pl = downP (scr.map MR.pl) top len q (blankR cc s) := by
  unfold downL downP
  simp only [List.map_append, List.map_take, List.map_drop, alike_pl hA, hms]
theorem upL_mem {scr : List MR} {top len q : Nat} {ms : List MR} {m : MR} (h : m ∈ upL scr top len q ms) : m ∈ scr ∨ m ∈ ms := by
  unfold upL at h
  simp only [List.mem_append] at h
  rcases h with h | h | h | h
  · exact .inl (List.mem_of_mem_take h)
  · exact .inl (List.mem_of_mem_drop (List.mem_of_mem_take h))
  · exact .inr h
  · exact .inl (List.mem_of_mem_drop h)
theorem downL_mem {scr : List MR} {top len q : Nat} {ms : List MR} {m : MR} (h : m ∈ downL scr top len q ms) : m ∈ scr ∨ m ∈ ms := by
  unfold downL at h
  simp only [List.mem_append] at h
  rcases h with h | h | h | h
  · exact .inl (List.mem_of_mem_take h)
  · exact .inr h
  · exact .inl (List.mem_of_mem_drop (List.mem_of_mem_take h))
  · exact .inl (List.mem_of_mem_drop h)
/-- The blocks of a grid whose rows were its own, or are new. -/
theorem foot_new {g s : Nat} {fp fp' : List Nat} {G H : GS} {B : Nat} {ms : List MR} {l : List Ce} (hA : Alike B l ms) (hm : ∀ m ∈ H.past ++ H.scr, m ∈ G.past ++ G.scr ∨ m ∈ ms) (hfp : ∀ x ∈ fp', x ∈ fp ∨ B ≤ x) : ∀ x ∈ foot g s fp' H, x ∈ foot g s fp G ∨ B ≤ x := by
  intro x hx
  unfold foot at hx ⊢
  rcases List.mem_append.1 hx with hx | hx
  · simp only [List.mem_cons] at hx
    rcases hx with rfl | rfl | hx
    · exact .inl (by simp)
    · exact .inl (by simp)
    · exact (hfp x hx).imp (fun h => by simp [h]) id
  · obtain ⟨m, h1, rfl⟩ := List.mem_map.1 hx
    rcases hm m h1 with h2 | h2
    · exact .inl (List.mem_append_right _ (List.mem_map_of_mem h2))
    · exact .inr (hA m h2).2.2
theorem up_ga (h : GA w g F c lim past rows) (top bottom q : Nat) (htb : top ≤ bottom) (hbr : bottom < rows.length) (n : Int) (hn : 1 ≤ n) (hq : (q : Int) = min n ((bottom : Int) + 1 - (top : Int)))
    (s1 s2 s3 : Int) (hst : rightS s1 s2 s3 = true) (kp : Bool) (hkp : kp = false ∨ 0 < top) :
    Calls Tryz.prog 157 #[.pointer (some ⟨g, 0, none⟩), .int .i64 (top : Int), .int .i64 (bottom : Int), .int .i64 n, .agg #[.int .i64 s1, .int .i64 s2, .int .i64 s3], .bool kp] w
      (Left w g F c lim past (upP rows top (bottom + 1 - top) q (blankR c (s1, s2, s3))) (.tuple #[])) := by
  obtain ⟨s, pv, fp, G, h1, rfl, rfl, rfl, rfl, rfl⟩ := h
  rw [List.length_map] at hbr
  refine (up_plain h1 top bottom q htb hbr n hn hq s1 s2 s3 hst kp hkp).mono ?_
  rintro e w' ⟨rfl, ms, hms, hA, hG, ho⟩
  refine ⟨rfl, _, ⟨s, pv, fp, _, hG, rfl, rfl, rfl, rfl, upL_pl hms hA⟩, ⟨foot_new hA (fun m hm => ?_) (fun x hx => .inl hx), ho.mono fun z hz => by rw [List.mem_singleton] at hz; rw [hz]; simp [foot]⟩⟩
  rcases List.mem_append.1 hm with hm | hm
  · exact .inl (List.mem_append_left _ hm)
  · exact (upL_mem hm).imp (List.mem_append_right _) id
theorem keep_ga (h : GA w g F c lim past rows) (bottom q : Nat) (hbr : bottom < rows.length) (n : Int) (hn : 1 ≤ n) (hq : (q : Int) = min n ((bottom : Int) + 1))
    (s1 s2 s3 : Int) (hst : rightS s1 s2 s3 = true) :
    Calls Tryz.prog 157 #[.pointer (some ⟨g, 0, none⟩), .int .i64 0, .int .i64 (bottom : Int), .int .i64 n, .agg #[.int .i64 s1, .int .i64 s2, .int .i64 s3], .bool true] w
      (Left w g F c lim ((past ++ rows.take q).drop (past.length + q - lim)) (upP rows 0 (bottom + 1) q (blankR c (s1, s2, s3))) (.tuple #[])) := by
  obtain ⟨s, pv, fp, G, h1, rfl, rfl, rfl, rfl, rfl⟩ := h
  rw [List.length_map] at hbr
  refine (up_keep h1 bottom q hbr n hn hq s1 s2 s3 hst).mono ?_
  rintro e w' ⟨rfl, pv', fp', ms, hms, hA, hG, hfp, ho⟩
  refine ⟨rfl, _, ⟨s, pv', fp', _, hG, rfl, rfl, rfl, ?_, upL_pl hms hA⟩, ⟨foot_new hA (fun m hm => ?_) hfp, ho.mono fun z hz => ?_⟩⟩
  · simp only [List.map_drop, List.map_append, List.map_take, List.length_map]
  · rcases List.mem_append.1 hm with hm | hm
    · rcases List.mem_append.1 (List.mem_of_mem_drop hm) with hm | hm
      · exact .inl (List.mem_append_left _ hm)
      · exact .inl (List.mem_append_right _ (List.mem_of_mem_take hm))
    · exact (upL_mem hm).imp (List.mem_append_right _) id
  · exact List.mem_append_left _ hz
theorem down_ga (h : GA w g F c lim past rows) (top bottom q : Nat) (htb : top ≤ bottom) (hbr : bottom < rows.length) (n : Int) (hn : 1 ≤ n) (hq : (q : Int) = min n ((bottom : Int) + 1 - (top : Int)))
    (s1 s2 s3 : Int) (hst : rightS s1 s2 s3 = true) :
    Calls Tryz.prog 204 #[.pointer (some ⟨g, 0, none⟩), .int .i64 (top : Int), .int .i64 (bottom : Int), .int .i64 n, .agg #[.int .i64 s1, .int .i64 s2, .int .i64 s3]] w
      (Left w g F c lim past (downP rows top (bottom + 1 - top) q (blankR c (s1, s2, s3))) (.tuple #[])) := by
  obtain ⟨s, pv, fp, G, h1, rfl, rfl, rfl, rfl, rfl⟩ := h
  rw [List.length_map] at hbr
  refine (down_any h1 top bottom q htb hbr n hn hq s1 s2 s3 hst).mono ?_
  rintro e w' ⟨rfl, ms, hms, hA, hG, ho⟩
  refine ⟨rfl, _, ⟨s, pv, fp, _, hG, rfl, rfl, rfl, rfl, downL_pl hms hA⟩, ⟨foot_new hA (fun m hm => ?_) (fun x hx => .inl hx), ho.mono fun z hz => by rw [List.mem_singleton] at hz; rw [hz]; simp [foot]⟩⟩
  rcases List.mem_append.1 hm with hm | hm
  · exact .inl (List.mem_append_left _ hm)
  · exact (downL_mem hm).imp (List.mem_append_right _) id
theorem clone_ga (h : GA w g F c lim past rows) :
    Calls Tryz.prog 30 #[.pointer (some ⟨g, 0, none⟩)] w fun e w' => ∃ g2 F2, e = .returned (.pointer (some ⟨g2, 0, none⟩)) ∧ GA w' g2 F2 c lim past rows ∧ (∀ x ∈ F2, w.heap.size ≤ x) ∧ Below w.heap.size w w' := by
  obtain ⟨s, pv, fp, G, h1, rfl, rfl, rfl, rfl, rfl⟩ := h
  refine (clone_grid h1).mono ?_
  rintro e w' ⟨g2, s2, p2, np, ns, rfl, hG, hp, hs, hF, hb⟩
  exact ⟨g2, _, rfl, ⟨s2, _, _, _, hG, rfl, rfl, rfl, hp, hs⟩, hF, hb⟩
/-! ### What is asked of it -/
theorem rows_ga (h : GA w g F c lim past rows) : Calls Tryz.prog 15 #[.pointer (some ⟨g, 0, none⟩)] w fun e w' => e = .returned (.int .i64 (rows.length : Int)) ∧ w = w' := by
  obtain ⟨s, pv, fp, G, h1, rfl, rfl, rfl, rfl, rfl⟩ := h
  rw [List.length_map]
  exact rows_any h1
theorem cols_ga (h : GA w g F c lim past rows) : Calls Tryz.prog 14 #[.pointer (some ⟨g, 0, none⟩)] w fun e w' => e = .returned (.int .i64 (c : Int)) ∧ w = w' := by
  obtain ⟨s, pv, fp, G, h1, rfl, rfl, rfl, rfl, rfl⟩ := h
  exact cols_any h1
theorem limit_ga (h : GA w g F c lim past rows) : Calls Tryz.prog 17 #[.pointer (some ⟨g, 0, none⟩)] w fun e w' => e = .returned (.int .i64 (lim : Int)) ∧ w = w' := by
  obtain ⟨s, pv, fp, G, h1, rfl, rfl, rfl, rfl, rfl⟩ := h
  exact limit_any h1
theorem history_ga (h : GA w g F c lim past rows) : Calls Tryz.prog 16 #[.pointer (some ⟨g, 0, none⟩)] w fun e w' => e = .returned (.int .i64 (past.length : Int)) ∧ w = w' := by
  obtain ⟨s, pv, fp, G, h1, rfl, rfl, rfl, rfl, rfl⟩ := h
  rw [List.length_map]
  exact history_any h1
/-- A row that there is: which one, and that it can be asked for in each world that has the grid. -/
def RowOf (w : World) (g : Nat) (y : Int) (r : Ro) : Prop := ∃ m : MR, m.l = r.1 ∧ m.wr = r.2 ∧ CellsAt w m.b m.l m.cap ∧ 0 < m.l.length ∧ m.l.length ≤ 250 ∧ ∀ w', Below w.heap.size w w' → RowIs w' g y m
theorem GA.scr_row (h : GA w g F c lim past rows) (k : Nat) (hk : k < rows.length) : RowOf w g (k : Int) rows[k] := by
  obtain ⟨s, pv, fp, G, h1, rfl, rfl, rfl, rfl, rfl⟩ := h
  rw [List.length_map] at hk
  have hm : G.scr[k] ∈ G.past ++ G.scr := List.mem_append_right _ (List.getElem_mem hk)
  have hl := h1.cells _ hm
  refine ⟨G.scr[k], by simp [MR.pl], by simp [MR.pl], h1.held.at_ _ hm, by rw [hl]; exact h1.c1, by rw [hl]; exact h1.c2, fun w' hb => row_scr (h1.below hb) k hk⟩
theorem GA.past_row (h : GA w g F c lim past rows) (k : Nat) (hk : k < past.length) : RowOf w g ((k : Int) - (past.length : Int)) past[k] := by
  obtain ⟨s, pv, fp, G, h1, rfl, rfl, rfl, rfl, rfl⟩ := h
  rw [List.length_map] at hk ⊢
  have hm : G.past[k] ∈ G.past ++ G.scr := List.mem_append_left _ (List.getElem_mem hk)
  have hl := h1.cells _ hm
  refine ⟨G.past[k], by simp [MR.pl], by simp [MR.pl], h1.held.at_ _ hm, by rw [hl]; exact h1.c1, by rw [hl]; exact h1.c2, fun w' hb => row_past (h1.below hb) k hk⟩
theorem line_ga {y : Int} {r : Ro} (h : RowOf w g y r) :
    Calls Tryz.prog 37 #[.pointer (some ⟨g, 0, none⟩), .int .i64 y] w fun e w' => ∃ b cap, e = .returned (.slice (some ⟨b, 0, none⟩) r.1.length cap) ∧ CellsAt w' b r.1 cap ∧ w.heap.size ≤ b ∧ Below w.heap.size w w' := by
  obtain ⟨m, h1, h2, h3, h4, h5, h6⟩ := h
  rw [← h1]
  exact line_of (h6 w (Below.refl _ _)) h3 h4 (by omega)
theorem wrapped_ga {y : Int} {r : Ro} (h : RowOf w g y r) :
    Calls Tryz.prog 19 #[.pointer (some ⟨g, 0, none⟩), .int .i64 y] w fun e w' => e = .returned (.bool r.2) ∧ Below w.heap.size w w' := by
  obtain ⟨m, h1, h2, h3, h4, h5, h6⟩ := h
  rw [← h2]
  exact wrapped_of (h6 w (Below.refl _ _))
theorem text_ga {y : Int} {r : Ro} (h : RowOf w g y r) (ha : ∀ c ∈ r.1, c.2.1 ≠ 0 → 0 ≤ c.1 ∧ c.1 < 128) :
    Calls Tryz.prog 18 #[.pointer (some ⟨g, 0, none⟩), .int .i64 y] w fun e w' => e = .returned (.string ⟨(Lib.trimRightB (lettersL r.1) 32).toArray⟩) ∧ Below w.heap.size w w' := by
  obtain ⟨m, h1, h2, h3, h4, h5, h6⟩ := h
  rw [← h1] at ha ⊢
  exact text_of h6 h3 (by omega) ha
/-! ### Laid anew -/
end
end Go.Proofs.YtjklnnklgkihlaaGreatDoor.Grd
