/- Laid anew, no rune but blanks is lost; the place's cell: in plain words. -/
import Derived.Test.YtgjlohplgpcghaaDoorGbw
namespace Go.Proofs.YtgjlohplgpcghaaDoor.Grd
open Go.RowKit Cel Sty

/-- The runes that are seen. -/
def visC (c : Ce) : Bool := decide (0 < c.2.1) && (c.1 != 32)
def vis (l : List Ce) : List Int := (l.filter visC).map (·.1)
def visR (rs : List Ro) : List Int := rs.flatMap fun r => vis r.1
theorem vis_app (a b : List Ce) : vis (a ++ b) = vis a ++ vis b := by unfold vis; rw [List.filter_append, List.map_append]
theorem vis_plain (n : Nat) : vis (List.replicate n plainCe) = [] := by
  unfold vis
  rw [List.filter_replicate_of_neg (by decide)]
  rfl
theorem visR_app (a b : List Ro) : visR (a ++ b) = visR a ++ visR b := by unfold visR; rw [List.flatMap_append]
theorem visR_one (r : Ro) : visR [r] = vis r.1 := by unfold visR; simp
theorem visR_plain (n c : Nat) : visR (List.replicate n (plainR c)) = [] := by
  induction n with
  | zero => rfl
  | succ n ih => rw [List.replicate_succ, show plainR c :: List.replicate n (plainR c) = [plainR c] ++ List.replicate n (plainR c) from rfl, visR_app, ih, visR_one]; exact (List.append_nil _).trans (vis_plain c)
/-- The last row is as many cells as next says, then plain blanks. -/
def Tl (P : PF) : Prop := ∃ R l wr, P.rows = R ++ [(l ++ List.replicate (P.cols - P.next) plainCe, wr)] ∧ l.length = P.next ∧ P.next ≤ P.cols
/-- .. and c is the last of them. -/
def LastIs (P : PF) (c : Ce) : Prop := ∃ R l wr, P.rows = R ++ [((l ++ [c]) ++ List.replicate (P.cols - P.next) plainCe, wr)] ∧ l.length + 1 = P.next ∧ P.next ≤ P.cols
theorem LastIs.tl {P : PF} {c : Ce} (h : LastIs P c) : Tl P := by
  obtain ⟨R, l, wr, h1, h2, h3⟩ := h
  exact ⟨R, l ++ [c], wr, h1, by simpa using h2, h3⟩
theorem tl_begin (P : PF) : Tl (beginF P) ∧ visR (beginF P).rows = visR P.rows ∧ (beginF P).cols = P.cols := by
  refine ⟨⟨P.rows, [], false, rfl, rfl, Nat.zero_le _⟩, ?_, rfl⟩
  show visR (P.rows ++ [_]) = _
  rw [visR_app, visR_one]
  simp only
  rw [vis_plain, List.append_nil]
theorem tl_room {P : PF} (h : Tl P) (hc : 1 ≤ P.cols) : Tl (roomF P) ∧ (roomF P).next < P.cols ∧ visR (roomF P).rows = visR P.rows ∧ (roomF P).cols = P.cols := by
  obtain ⟨R, l, wr, h1, h2, h3⟩ := h
  unfold roomF
  split
  · rename_i hn
    obtain ⟨b1, b2, b3⟩ := tl_begin { P with rows := setLast P.rows fun r => (r.1, true) }
    refine ⟨b1, by show 0 < P.cols; omega, b2.trans ?_, b3⟩
    show visR (setLast P.rows _) = _
    rw [h1, setLast_snoc, visR_app, visR_app, visR_one, visR_one]
  · rename_i hn
    exact ⟨⟨R, l, wr, h1, h2, h3⟩, by omega, rfl, rfl⟩
theorem tl_put {P : PF} (h : Tl P) (hc : 1 ≤ P.cols) (c : Ce) : LastIs (putF P c) c ∧ visR (putF P c).rows = visR P.rows ++ vis [c] ∧ (putF P c).cols = P.cols := by
  obtain ⟨⟨R, l, wr, h1, h2, h3⟩, hn, hv, hcc⟩ := tl_room h hc
  have hs : (l ++ List.replicate ((roomF P).cols - (roomF P).next) plainCe).set (roomF P).next c = (l ++ [c]) ++ List.replicate ((roomF P).cols - ((roomF P).next + 1)) plainCe := by
    rw [List.set_append_right _ _ (by omega), h2, Nat.sub_self]
    obtain ⟨d, hd⟩ : ∃ d, (roomF P).cols - (roomF P).next = d + 1 := ⟨(roomF P).cols - (roomF P).next - 1, by omega⟩
    rw [hd, List.replicate_succ, List.set_cons_zero, show (roomF P).cols - ((roomF P).next + 1) = d by omega]
    simp
  have hr : (putF P c).rows = R ++ [((l ++ [c]) ++ List.replicate ((roomF P).cols - ((roomF P).next + 1)) plainCe, wr)] := by
    show setLast (roomF P).rows _ = _
    rw [h1, setLast_snoc]
    simp only [hs]
  refine ⟨⟨R, l, wr, hr, by show l.length + 1 = (roomF P).next + 1; omega, by show (roomF P).next + 1 ≤ (roomF P).cols; omega⟩, ?_, hcc⟩
  rw [hr, ← hv, h1, visR_app, visR_app, visR_one, visR_one]
  simp only [vis_app, vis_plain, List.append_nil, List.append_assoc]
theorem tl_on {P : PF} (h : Tl P) (hc : 2 ≤ P.cols) (c : Ce) : LastIs (onF P c) c ∧ visR (onF P c).rows = visR P.rows ++ vis [c] ∧ (onF P c).cols = P.cols := by
  unfold onF
  rw [if_neg (by omega), if_neg (by omega)]
  split
  · obtain ⟨a1, a2, a3⟩ := tl_put h (by omega) plainCe
    obtain ⟨b1, b2, b3⟩ := tl_put a1.tl (by omega) c
    refine ⟨b1, ?_, b3.trans a3⟩
    rw [b2, a2, show vis [plainCe] = [] from rfl, List.append_nil]
  · exact tl_put h (by omega) c
theorem stepF_same (place : Int) (P : PF) (i : Nat) (c : Ce) : (stepF place P i c).rows = (onF P c).rows ∧ (stepF place P i c).cols = (onF P c).cols ∧ (stepF place P i c).next = (onF P c).next := by
  unfold stepF
  split <;> exact ⟨rfl, rfl, rfl⟩
theorem tl_cells {P : PF} (h : Tl P) (hc : 2 ≤ P.cols) (place : Int) (l : List Ce) : ∀ n, n ≤ l.length → Tl (cellsF place l P n) ∧ visR (cellsF place l P n).rows = visR P.rows ++ vis (l.take n) ∧ (cellsF place l P n).cols = P.cols
  | 0, _ => ⟨h, by simp [cellsF, vis], rfl⟩
  | n + 1, hn => by
    obtain ⟨a1, a2, a3⟩ := tl_cells h hc place l n (by omega)
    have hg : l.getD n default = l[n] := by simp [show n < l.length by omega]
    obtain ⟨b1, b2, b3⟩ := tl_on a1 (by omega) l[n]
    obtain ⟨s1, s2, s3⟩ := stepF_same place (cellsF place l P n) n l[n]
    unfold cellsF
    rw [hg]
    refine ⟨?_, by rw [s1, b2, a2, List.take_succ_eq_append_getElem (by omega), vis_app, List.append_assoc], by rw [s2, b3, a3]⟩
    obtain ⟨R, q, wr, h1, h2, h3⟩ := b1.tl
    exact ⟨R, q, wr, by rw [s1, s2, s3]; exact h1, by rw [s3]; exact h2, by rw [s2, s3]; exact h3⟩
theorem vis_used (l : List Ce) (place : Int) : vis (l.take (usedN l place l.length)) = vis l := by
  have h := used_rest l place l.length (Nat.le_refl _)
  rw [List.take_length] at h
  conv => rhs; rw [h]
  rw [vis_app, vis_plain, List.append_nil]
theorem tl_lay (P : PF) (hc : 2 ≤ P.cols) (l : List Ce) (wr : Bool) (place : Int) : visR (layF P l wr place).rows = visR P.rows ++ vis l ∧ (layF P l wr place).cols = P.cols := by
  obtain ⟨b1, b2, b3⟩ := tl_begin P
  obtain ⟨⟨R, q, w0, c1, _, _⟩, c2, c3⟩ := tl_cells b1 (by omega) place l (usedN l place l.length) (usedN_le _ _ _)
  unfold layF
  simp only
  refine ⟨?_, by rw [c3, b3]⟩
  rw [vis_used, b2] at c2
  rw [← c2, c1, setLast_snoc, visR_app, visR_app, visR_one, visR_one]
theorem tl_lays : ∀ (ls : List PL) (P : PF), 2 ≤ P.cols → visR (laysF P ls).rows = visR P.rows ++ (ls.flatMap fun m => vis m.l) ∧ (laysF P ls).cols = P.cols
  | [], P, _ => ⟨by simp [laysF], rfl⟩
  | m :: ls, P, hc => by
    obtain ⟨a1, a2⟩ := tl_lay P hc m.l m.wr m.place
    obtain ⟨b1, b2⟩ := tl_lays ls (layF P m.l m.wr m.place) (by omega)
    show visR (laysF (layF P m.l m.wr m.place) ls).rows = _ ∧ (laysF (layF P m.l m.wr m.place) ls).cols = _
    exact ⟨by rw [b1, a1, List.flatMap_cons, List.append_assoc], by rw [b2, a2]⟩
/-- A line whose last cell is the place. -/
theorem lay_last (P : PF) (hc : 2 ≤ P.cols) (l : List Ce) (c : Ce) (wr : Bool) : ∃ R q, (layF P (l ++ [c]) wr (l.length : Int)).rows = R ++ [((q ++ [c]) ++ List.replicate (P.cols - (q.length + 1)) plainCe, wr)] ∧ q.length + 1 ≤ P.cols ∧ (layF P (l ++ [c]) wr (l.length : Int)).px = (q.length : Int) ∧ (layF P (l ++ [c]) wr (l.length : Int)).py = (R.length : Int) := by
  have hlen : (l ++ [c]).length = l.length + 1 := by simp
  have hu : usedN (l ++ [c]) (l.length : Int) (l ++ [c]).length = l.length + 1 := by
    have h1 := used_ge (l ++ [c]) (l.length : Int) (l ++ [c]).length (by rw [hlen]; omega)
    have h2 := usedN_le (l ++ [c]) (l.length : Int) (l ++ [c]).length
    omega
  obtain ⟨b1, _, b3⟩ := tl_begin P
  obtain ⟨a1, _, a3⟩ := tl_cells b1 (by omega) (l.length : Int) (l ++ [c]) l.length (by omega)
  obtain ⟨⟨R, q, w0, c1, c2, c3⟩, _, c5⟩ := tl_on a1 (by omega) c
  have hg : (l ++ [c]).getD l.length default = c := by simp
  unfold layF
  rw [hu]
  unfold cellsF
  rw [hg]
  unfold stepF
  rw [if_pos rfl]
  simp only
  have hcols : (onF (cellsF (l.length : Int) (l ++ [c]) (beginF P) l.length) c).cols = P.cols := by rw [c5, a3, b3]
  rw [hcols, ← c2] at c1
  rw [hcols, ← c2] at c3
  refine ⟨R, q, ?_, c3, ?_, ?_⟩
  · rw [c1, setLast_snoc]
  · rw [← c2]; omega
  · rw [c1]; simp
theorem lines_vis (rows : List Ro) (tgt x : Int) : ∀ n, n ≤ rows.length → ((linesN rows tgt x n).1.flatMap fun m => vis m.l) = visR (rows.take n)
  | 0, _ => by simp [linesN, visR]
  | n + 1, hn => by
    have ih := lines_vis rows tgt x n (by omega)
    have hon := linesN_on rows tgt x n
    have hop : ((openL (linesN rows tgt x n)).flatMap fun m => vis m.l) = visR (rows.take n) ∧ openL (linesN rows tgt x n) ≠ [] := by
      unfold openL
      split
      · next h => exact ⟨ih, hon h⟩
      · exact ⟨by rw [List.flatMap_append, ih]; simp [vis], by simp⟩
    obtain ⟨h1, h2⟩ := hop
    show ((setLastL (openL (linesN rows tgt x n)) _).flatMap fun m => vis m.l) = _
    obtain ⟨A, m, hA⟩ : ∃ A m, openL (linesN rows tgt x n) = A ++ [m] := ⟨_, _, (List.dropLast_concat_getLast h2).symm⟩
    rw [hA] at h1 ⊢
    rw [setLastL_snoc, List.flatMap_append]
    rw [List.flatMap_append] at h1
    have hg : rows.getD n default = rows[n] := by simp [show n < rows.length by omega]
    rw [List.take_succ_eq_append_getElem (by omega), visR_app, ← h1, visR_one, hg]
    simp [vis_app]
theorem lines_end (rows : List Ro) (x : Nat) {n : Nat} (hn : n < rows.length) : ∃ A m wr, (linesN rows (n : Int) (x : Int) (n + 1)).1 = A ++ [⟨m ++ rows[n].1, wr, (m.length : Int) + (x : Int)⟩] := by
  have hon := linesN_on rows (n : Int) (x : Int) n
  have h2 : openL (linesN rows (n : Int) (x : Int) n) ≠ [] := by
    unfold openL
    split
    · next h => exact hon h
    · simp
  obtain ⟨A, m, hA⟩ : ∃ A m, openL (linesN rows (n : Int) (x : Int) n) = A ++ [m] := ⟨_, _, (List.dropLast_concat_getLast h2).symm⟩
  have hg : rows.getD n default = rows[n] := by simp [hn]
  refine ⟨A, m.l, rows[n].2, ?_⟩
  show setLastL (openL (linesN rows (n : Int) (x : Int) n)) _ = _
  rw [hA, setLastL_snoc, hg, if_pos rfl]
/-- Laid anew in two columns and more, the place being the last cell: what is seen, and the place's cell. -/
theorem flow_keeps {past rows : List Ro} {c lim : Nat} (bd : GBd c lim past rows) {cols n : Nat} (hcols : 2 ≤ cols) (hn : 1 ≤ n) (hlim : (past.length + rows.length) * (1 + 2 * c) ≤ lim) {last : Ro} {cl : Ce} {l' : List Ce} (hlast : rows[rows.length - 1]? = some last) (hcl : last.1 = l' ++ [cl]) :
    ∃ (px py : Nat) (past1 rows1 : List Ro) (rr : Ro), FlowTo past rows c lim ((c : Int) - 1) ((rows.length : Int) - 1) cols n (px : Int) (py : Int) past1 rows1 ∧ visR (past1 ++ rows1) = visR (past ++ rows) ∧ px < cols ∧ py < n ∧ rows1[py]? = some rr ∧ rr.1[px]? = some cl := by
  have hc1 := bd.c1
  have hr1 := bd.r1
  obtain ⟨N, hN⟩ : ∃ N, past.length + rows.length = N := ⟨_, rfl⟩
  have hRl : (past ++ rows).length = N := by rw [List.length_append]; exact hN
  have hlen : last.1.length = c := bd.cells _ (List.mem_append_right _ (List.mem_of_getElem? hlast))
  have hl' : l'.length + 1 = c := by rw [← hlen, hcl]; simp
  have hNl : N - 1 < (past ++ rows).length := by omega
  have hget : (past ++ rows)[N - 1] = last := by
    have h1 : (past ++ rows)[N - 1]? = some last := by
      rw [List.getElem?_append_right (by omega), ← hlast]
      congr 1; omega
    rw [List.getElem?_eq_getElem hNl] at h1
    exact Option.some.inj h1
  obtain ⟨A, m, wr, hA⟩ := lines_end (past ++ rows) (c - 1) hNl
  rw [hget, hcl, ← List.append_assoc, show N - 1 + 1 = N by omega, show (m.length : Int) + ((c - 1 : Nat) : Int) = ((m ++ l').length : Int) by rw [List.length_append]; omega] at hA
  have hvis := lines_vis (past ++ rows) ((N - 1 : Nat) : Int) ((c - 1 : Nat) : Int) N (by omega)
  rw [List.take_of_length_le (by omega), hA] at hvis
  obtain ⟨v1, v2⟩ := tl_lays (A ++ [⟨m ++ l' ++ [cl], wr, ((m ++ l').length : Int)⟩]) ⟨cols, [], 0, 0, 0⟩ hcols
  rw [hvis] at v1
  have hnil : visR ([] : List Ro) = [] := rfl
  simp only [hnil, List.nil_append] at v1 v2
  obtain ⟨_, v0⟩ := tl_lays A ⟨cols, [], 0, 0, 0⟩ hcols
  simp only at v0
  obtain ⟨_, _, hb⟩ := laysF_placed (A ++ [⟨m ++ l' ++ [cl], wr, ((m ++ l').length : Int)⟩]) ⟨cols, [], 0, 0, 0⟩ ⟨Int.le_refl _, .inl rfl⟩
  have hll := linesN_len (past ++ rows) ((N - 1 : Nat) : Int) ((c - 1 : Nat) : Int) N
  have hls := linesN_sum (past ++ rows) ((N - 1 : Nat) : Int) ((c - 1 : Nat) : Int) c bd.cells N (by omega)
  rw [hA] at hll hls
  rw [hls] at hb
  simp only [List.length_nil, Nat.zero_add] at hb
  have hlim' : N + 2 * (N * c) ≤ lim := by
    rw [hN] at hlim
    have : N * (1 + 2 * c) = N + 2 * (N * c) := by rw [Nat.mul_add, Nat.mul_one, Nat.mul_left_comm]
    omega
  rw [laysF_snoc] at v1 v2 hb
  obtain ⟨R, q, w1, w2, w3, w4⟩ := lay_last (laysF ⟨cols, [], 0, 0, 0⟩ A) (by rw [v0]; exact hcols) (m ++ l') cl wr
  rw [v0] at w1 w2
  have hQ : flowOf (past ++ rows) ((N - 1 : Nat) : Int) ((c - 1 : Nat) : Int) cols = layF (laysF ⟨cols, [], 0, 0, 0⟩ A) (m ++ l' ++ [cl]) wr ((m ++ l').length : Int) := by
    unfold flowOf
    rw [hRl, hA, laysF_snoc]
    unfold trimF
    have ht : trimN (layF (laysF ⟨cols, [], 0, 0, 0⟩ A) (m ++ l' ++ [cl]) wr ((m ++ l').length : Int)).cols (layF (laysF ⟨cols, [], 0, 0, 0⟩ A) (m ++ l' ++ [cl]) wr ((m ++ l').length : Int)).rows (layF (laysF ⟨cols, [], 0, 0, 0⟩ A) (m ++ l' ++ [cl]) wr ((m ++ l').length : Int)).py (layF (laysF ⟨cols, [], 0, 0, 0⟩ A) (m ++ l' ++ [cl]) wr ((m ++ l').length : Int)).rows.length = (layF (laysF ⟨cols, [], 0, 0, 0⟩ A) (m ++ l' ++ [cl]) wr ((m ++ l').length : Int)).rows.length := by
      rw [w4]
      have hl9 : (layF (laysF ⟨cols, [], 0, 0, 0⟩ A) (m ++ l' ++ [cl]) wr ((m ++ l').length : Int)).rows.length = R.length + 1 := by rw [w1]; simp
      rw [hl9]
      unfold trimN
      rw [if_neg (by omega)]
    simp only
    rw [ht, List.take_length]
  generalize layF (laysF ⟨cols, [], 0, 0, 0⟩ A) (m ++ l' ++ [cl]) wr ((m ++ l').length : Int) = Q at *
  have hQl : Q.rows.length = R.length + 1 := by rw [w1]; simp
  obtain ⟨f, hf⟩ : ∃ f, R.length + 1 - n = f := ⟨_, rfl⟩
  have hfi : firstOf Q n = f := by
    unfold firstOf
    rw [hQl, w4, Int.toNat_natCast]
    omega
  have hfl : f - lim = 0 := by omega
  have e1 : (past.length : Int) + (clampZ ((rows.length : Int) - 1) rows.length : Int) = ((N - 1 : Nat) : Int) := by rw [clamp_last _ hr1]; omega
  have e2 : (clampZ ((c : Int) - 1) c : Int) = ((c - 1 : Nat) : Int) := by rw [clamp_last _ hc1]
  have hfill : filledR (Q.rows.drop f) cols n = Q.rows.drop f ++ List.replicate (n - (Q.rows.drop f).length) (plainR cols) := by
    unfold filledR
    rw [List.take_of_length_le (by rw [List.length_drop]; omega)]
    rfl
  refine ⟨q.length, R.length - f, Q.rows.take f, filledR (Q.rows.drop f) cols n, (q ++ [cl] ++ List.replicate (cols - (q.length + 1)) plainCe, wr), FlowTo.of (P := Q) (by rw [e1, e2]; exact hQ) w3 (by rw [w4, hfi]; omega) (by rw [hfi, hfl, List.drop_zero]) (by rw [hfi]), ?_, by omega, by omega, ?_, ?_⟩
  · rw [hfill, ← List.append_assoc, List.take_append_drop, visR_app, visR_plain, List.append_nil, v1]
  · rw [hfill, List.getElem?_append_left (by rw [List.length_drop]; omega), List.getElem?_drop, show f + (R.length - f) = R.length by omega, w1, List.getElem?_append_right (Nat.le_refl _), Nat.sub_self]
    rfl
  · rw [List.getElem?_append_left (by simp), List.getElem?_append_right (Nat.le_refl _), Nat.sub_self]
    rfl
end Go.Proofs.YtgjlohplgpcghaaDoor.Grd
