/- Tables of rows: made, copied, laid with blank rows. -/
import Derived.Test.YtgjlohplgpcghaaDoorGsp
import Derived.Laws.CopyRow
import Derived.Laws.MakeOwn
namespace Go.Proofs.YtgjlohplgpcghaaDoor.Grd
open Go.RowKit

/-- A row as it lies in a table: its cells' block, its room, its cells, whether it is wrapped. -/
structure MR where
  b : Nat
  cap : Nat
  l : List Ce
  wr : Bool
def mrL (m : MR) : List Value := [slV m.b 0 m.l.length m.cap, .bool m.wr]
def rowsL (ms : List MR) : List Value := ms.flatMap mrL
theorem rowsL_len (ms : List MR) : (rowsL ms).length = 2 * ms.length := by
  induction ms with
  | nil => rfl
  | cons m r ih => unfold rowsL at ih ⊢; rw [List.flatMap_cons, List.length_append, ih, List.length_cons]; unfold mrL; simp; omega
theorem rowsL_app (a b : List MR) : rowsL (a ++ b) = rowsL a ++ rowsL b := by unfold rowsL; rw [List.flatMap_append]
theorem rowsL_one (m : MR) : rowsL [m] = mrL m := by unfold rowsL; simp
theorem mrL_len (m : MR) : (mrL m).length = 2 := rfl

section
variable {P : Program}
theorem Wrote.setRow {w : World} {g : Nat} {t : TypeId} {cur : List Value} (_ : BL w g t cur) (cs : Array Value) : Wrote g w (w.setRow g cs) :=
  ⟨by simp [World.setRow], fun F a ha hb => ⟨ha.os, ha.tape, ha.output, by simp [World.setRow]; exact ha.size, fun k hk hn => by
    rw [setRow_other w g k cs (fun e => by subst e; rcases hb with x | x; exact hn x; omega)]; exact ha.block k hk hn⟩⟩
/-- A copy of elements of several values each. -/
theorem run_copy_wide (w : World) (dT sT ty elem : TypeId) (size g o dLen dCap : Nat) (a : Addr) (sLen sCap : Nat) (cur : Array Value) (t : TypeId) (cs : List Value)
    (hu : P.underlying dT = some (.slice elem)) (hs : (P.info? elem).map (·.size) = some size)
    (hg : w.heap[g]? = some (.cells cur t (0, 0))) (hn : cs.length = Nat.min sLen dLen * size)
    (hsrc : ∀ j v, cs[j]? = some v → w.cell? (a.add j) = some v) (hfit : o + cs.length ≤ cur.size) (h1 : ∀ v ∈ cs, v.oneCell' = true) :
    (Builtin.copy_ #[dT, sT] ty #[.slice (some ⟨g, o, none⟩) dLen dCap, .slice (some a) sLen sCap]).run P w =
      .ok (goInt (Nat.min sLen dLen)) (w.setRow g (cur.toList.take o ++ cs ++ cur.toList.drop (o + cs.length)).toArray) := by
  have hl := run_loadCells_list (P := P) w a cs hsrc
  have hst := run_storeCells_at P g o t cs 0 cur w hg (by simpa using hfit) h1
  cases hq : P.info? elem with
  | none => simp [hq] at hs
  | some i =>
    have hi : i.size = size := by simpa [hq] using hs
    simp [Builtin.copy_, run_underlying hu, Builtin.lenOf, Builtin.firstCells, sizeOf, typeInfo, hq, hi, ← hn, hl, hst]
variable {ops : Array Oper} {rest : List Oper} {op : Oper} {a : Act} {w : World} {Q : Exit → Act → World → Prop}
theorem wpList_copy_wide (hgd : op.guard = none) (d s : Operand) (dT sT : TypeId)
    (ho : op.op = .call { callee := .builtin .copy, args := #[d, s], argTypes := #[dT, sT] }) (elem : TypeId) (size : Nat) (hu : P.underlying dT = some (.slice elem)) (hsz : (P.info? elem).map (·.size) = some size)
    (g off dLen dCap : Nat) (ad : Addr) (sLen sCap : Nat) (hd : a.eval d = .slice (some ⟨g, off, none⟩) dLen dCap) (hs : a.eval s = .slice (some ad) sLen sCap)
    (cur : List Value) (t : TypeId) (hg : BL w g t cur) (cs : List Value) (hn : cs.length = Nat.min sLen dLen * size)
    (hsrc : ∀ j v, cs[j]? = some v → w.cell? (ad.add j) = some v) (hfit : off + cs.length ≤ cur.length) (h1 : ∀ v ∈ cs, v.oneCell' = true)
    (h : ∀ w1, BL w1 g t (splice cur off cs) → Wrote g w w1 → wpList P ops Q rest (a.put op.dst (goInt (Nat.min sLen dLen))) w1) : wpList P ops Q (op :: rest) a w := by
  refine wpList_plain hgd fun K hK => ?_
  have hrun := run_copy_wide (P := P) w dT sT op.type elem size g off dLen dCap ad sLen sCap cur.toArray t cs hu hsz hg hn hsrc (by simpa using hfit) h1
  have hw := Wrote.setRow hg (cur.take off ++ cs ++ cur.drop (off + cs.length)).toArray
  have hb : BL (w.setRow g (cur.take off ++ cs ++ cur.drop (off + cs.length)).toArray) g t (splice cur off cs) :=
    setRow_heap w g cur.toArray (cur.take off ++ cs ++ cur.drop (off + cs.length)).toArray t _ hg
  have hk := hK _ _ (h _ hb hw)
  have hrun' : (Builtin.copy_ #[dT, sT] op.type #[.slice (some ⟨g, off, none⟩) dLen dCap, .slice (some ad) sLen sCap]).run P w = .ok (goInt (Nat.min sLen dLen)) (w.setRow g (cur.take off ++ cs ++ cur.drop (off + cs.length)).toArray) := hrun
  generalize w.setRow g (cur.take off ++ cs ++ cur.drop (off + cs.length)).toArray = w2 at hk hrun'
  unfold Oper.wp
  simp [execOp, ho, resolve, invoke, builtin, hd, hs, hrun', Result.andThen]
  exact hk
end

theorem madeCells_rep (z : List Value) (n : Nat) : (madeCells z.toArray (n * z.length)).toList = (List.replicate n z).flatten := by
  induction n with
  | zero => simp [madeCells]
  | succ n ih =>
    rw [List.replicate_succ', List.flatten_append, ← ih]
    unfold madeCells
    rw [Nat.succ_mul]
    apply List.ext_getElem?
    intro j
    simp only [Array.toList_map, List.getElem?_map, List.flatten_cons, List.flatten_nil, List.append_nil, Array.toList_range, List.size_toArray]
    by_cases h : j < n * z.length
    · rw [List.getElem?_append_left (by simpa using h)]
      simp [h, show j < n * z.length + z.length by omega]
    · rw [List.getElem?_append_right (by simpa using h)]
      simp only [List.length_map, List.length_range]
      by_cases h2 : j < n * z.length + z.length
      · have hz : 0 < z.length := by omega
        have e : j % z.length = j - n * z.length := by
          have hj : j = (j - n * z.length) + z.length * n := by rw [Nat.mul_comm z.length n]; omega
          rw [hj, Nat.add_mul_mod_self_left, Nat.mod_eq_of_lt (by omega)]
          rw [Nat.mul_comm z.length n]
          omega
        rw [List.getElem?_range h2]
        simp only [Option.map_some, e]
        rw [List.getElem?_eq_getElem (by omega)]
        simp [show j - n * z.length < z.length by omega]
      · rw [List.getElem?_eq_none (by simp; omega), List.getElem?_eq_none (by omega)]
        rfl
def zeroCe : Ce := (0, 0, 0, 0, 0)
theorem flat_rep (n : Nat) (c : Ce) : flat (List.replicate n c) = (List.replicate n (ceL c)).flatten := by
  unfold flat
  rw [List.flatMap_replicate]
theorem info_cell : (Tryd.prog.info? 35).map (fun i => (i.zero, i.size, i.bytes)) = some (some (.agg #[.int .i32 0, .int .i64 0, .int .i64 0, .int .i64 0, .int .i64 0]), 5, 40) := by kernel_rfl
theorem info_row : (Tryd.prog.info? 73).map (fun i => (i.zero, i.size, i.bytes)) = some (some (.agg #[.slice none 0 0, .bool false]), 2, 32) := by kernel_rfl
section
variable {P : Program} {ops : Array Oper} {rest : List Oper} {op : Oper} {a : Act} {w : World} {Q : Exit → Act → World → Prop}
/-- A store of several values into a block. -/
theorem wpList_store_bl (hgd : op.guard = none) (ty : TypeId) (x y : Operand) (ho : op.op = .store ty x y) (g o : Nat) (vs : List Value) (hx : a.eval x = .pointer (some ⟨g, o, none⟩)) (hy : a.eval y = .agg vs.toArray)
    (t : TypeId) (cur : List Value) (hg : BL w g t cur) (hi : (P.info? ty).map (·.size) = some vs.length) (hfit : o + vs.length ≤ cur.length) (h1 : vs.toArray.all (·.oneCell') = true)
    (h : ∀ w1, BL w1 g t (splice cur o vs) → Wrote g w w1 → wpList P ops Q rest (a.put op.dst undef) w1) : wpList P ops Q (op :: rest) a w := by
  refine wpList_store_mid hgd ty x y ho g o vs.toArray hx hy (hg.there (by simpa using hfit)) (by simpa using hi) h1 ?_
  exact h _ (hg.setCells vs o hfit) (Wrote.setCells _ _ _ _)
/-- A load of several values out of a block. -/
theorem wpList_load_bl (hgd : op.guard = none) (ty : TypeId) (x : Operand) (ho : op.op = .load ty x) (g o : Nat) (vs : List Value) (hx : a.eval x = .pointer (some ⟨g, o, none⟩))
    (t : TypeId) (cur : List Value) (hg : BL w g t cur) (d : TypeDesc) (hu : P.underlying ty = some d) (hd : d.isRow = true) (hi : (P.info? ty).map (·.size) = some vs.length) (hv : ∀ j v, vs[j]? = some v → cur[o + j]? = some v)
    (h : wpList P ops Q rest (a.put op.dst (.agg vs.toArray)) w) : wpList P ops Q (op :: rest) a w :=
  wpList_load_mid hgd ty x ho g o hx vs d (hg.range hv) hu hd hi h
/-- A slice made of zero elements. -/
theorem wpList_make_rep (hgd : op.guard = none) (x y : Operand) (t e : TypeId) (ho : op.op = .makeSlice t x y) (hu : P.underlying t = some (.slice e)) (z : List Value) (size bytes : Nat)
    (hi : (P.info? e).map (fun i => (i.zero, i.size, i.bytes)) = some (some (.agg z.toArray), size, bytes)) (hsz : size = z.length) (n : Nat) (hx : a.eval x = .int .i64 (n : Int)) (hy : a.eval y = .int .i64 (n : Int))
    (hb : bytes * n ≤ 281474976710656) (hn : n ≤ 1000000000)
    (h : ∀ w1, BL w1 w.heap.size e (List.replicate n z).flatten → Below w.heap.size w w1 → w1.heap.size = w.heap.size + 1 → wpList P ops Q rest (a.put op.dst (.slice (some ⟨w.heap.size, 0, none⟩) n n)) w1) : wpList P ops Q (op :: rest) a w := by
  subst hsz
  cases hq : P.info? e with
  | none => simp [hq] at hi
  | some i =>
    simp only [hq, Option.map_some, Option.some.injEq, Prod.mk.injEq] at hi
    obtain ⟨hz, hs, hby⟩ := hi
    refine wpList_plain hgd fun K hK => ?_
    have hrun := run_make (P := P) w t e i _ hu hq hz .i64 .i64 (n : Int) (n : Int) (Int.natCast_nonneg _) (Int.le_refl _) (by rw [hby, ← Int.natCast_mul]; omega) (by omega)
    have hl : (madeCells (Value.cells (.agg z.toArray)) ((n : Int).toNat * i.size)) = (List.replicate n z).flatten.toArray := by
      rw [hs, Int.toNat_natCast]
      have := madeCells_rep z n
      rw [← this]
      rfl
    rw [hl, Int.toNat_natCast] at hrun
    have hk := hK _ _ (h _ (BL.new w e _) ((Below.refl _ _).alloc (Nat.le_refl _) _) (size_alloc _ _))
    generalize w.alloc (.cells (List.replicate n z).flatten.toArray e) = w2 at hk hrun
    unfold Oper.wp
    simp [execOp, ho, hx, hy, hrun, Result.andThen]
    exact hk
end
theorem CellsAt.of_zero {w : World} {g n : Nat} (h : BL w g 35 (List.replicate n [.int .i32 0, .int .i64 0, .int .i64 0, .int .i64 0, .int .i64 0]).flatten) : CellsAt w g (List.replicate n zeroCe) n := by
  refine ⟨by simp, [], by simp, ?_⟩
  rw [flat_rep, List.append_nil]
  exact h
theorem fillR_all (n : Nat) (c : Ce) (s : St) : fillR (List.replicate n c) 0 n s = List.replicate n (32, 1, s) := by
  unfold fillR
  simp

set_option maxRecDepth 100000 in
set_option maxHeartbeats 1000000 in
theorem blankRow_any (n : Nat) (fg bg at_ : Int) (w : World) (hn : n ≤ 1000000) :
    Calls Tryd.prog 61 #[.int .i64 (n : Int), .agg #[.int .i64 fg, .int .i64 bg, .int .i64 at_]] w fun e w' => ∃ b, e = .returned (.agg #[slV b 0 n n, .bool false]) ∧ w.heap.size ≤ b ∧ CellsAt w' b (List.replicate n (32, 1, fg, bg, at_)) n ∧ Below w.heap.size w w' := by
  have hA := (BL.new w 33 [.int .i64 fg, .int .i64 bg, .int .i64 at_]).alloc (.cells #[.slice none 0 0, .bool false] 73)
  have hR := BL.new (w.alloc (.cells #[.int .i64 fg, .int .i64 bg, .int .i64 at_] 33)) 73 [.slice none 0 0, .bool false]
  have hb : Below w.heap.size w ((w.alloc (.cells #[.int .i64 fg, .int .i64 bg, .int .i64 at_] 33)).alloc (.cells #[.slice none 0 0, .bool false] 73)) := ((Below.refl _ _).alloc (Nat.le_refl _) _).alloc (by simp) _
  rw [size_alloc] at hR
  go_enter Tryd.func61, Tryd.ntmps61
  go_wp2_with (first
    | (refine wpList_make_rep rfl (.tmp 6) (.tmp 6) 62 35 rfl Tryd.underlying62 _ 5 40 info_cell rfl n rfl rfl (by omega) (by omega) ?_; intro w1 hm hb1 hs1; have hA1 := hA.only (F := []) (Only.of_below hb1) (by simp); have hR1 := hR.only (F := []) (Only.of_below hb1) (by simp); have hm1 := CellsAt.of_zero hm; rw [size_alloc, size_alloc] at hm1; have hw1 := hb.trans (hb1.mono hb.size))
    | (refine wpList_load_row rfl 33 _ rfl w.heap.size rfl _ _ _ _ hA1 Tryd.underlying33 rfl (by kernel_rfl) ?_)
    | (go_at_call 40; refine (fill_any (w.heap.size + 1 + 1) n 0 n n (List.replicate n zeroCe) fg bg at_ _ hm1 (by simp) (by simpa using hn)).mono ?_; rintro _ w2 ⟨rfl, hc2, ho2⟩; have hR2 := hR1.only ho2 (by simp); rw [fillR_all] at hc2; have hb2 := ho2.below (B := w.heap.size) (by have := hw1.size; omega) (by simp; omega))
    | (refine wpList_store_bl rfl 73 (.tmp 4) (.tmp 12) rfl (w.heap.size + 1) 0 [.slice (some ⟨w.heap.size + 1 + 1, 0, none⟩) n n, .bool false] rfl rfl _ _ hR2 (by kernel_rfl) (by simp) (by kernel_rfl) ?_; intro w3 hR3 hw3))
  exact bodyPost_ret (v := .agg #[slV (w.heap.size + 1 + 1) 0 n n, .bool false]) (results_cell (p := 4) (by kernel_rfl) _ w3 (w.heap.size + 1) _ _ _ _ rfl hR3 Tryd.underlying73 rfl (by kernel_rfl)) rfl
    ⟨_, rfl, by omega, hc2.only hw3.only (by simp), (hw1.trans hb2).trans (hw3.only.below (by have := hw1.size; have := hb2.size; omega) (by simp))⟩
end Go.Proofs.YtgjlohplgpcghaaDoor.Grd
/- Rows of a table made blank. -/
namespace Go.Proofs.YtgjlohplgpcghaaDoor.Grd
open Go.RowKit

theorem splice_app {xs us vs : List Value} {o : Nat} (h : o + us.length + vs.length ≤ xs.length) : splice (splice xs o us) (o + us.length) vs = splice xs o (us ++ vs) := by
  unfold splice
  have h1 : (xs.take o ++ us).length = o + us.length := by rw [List.length_append, List.length_take]; omega
  rw [List.take_append_of_le_length (by omega), List.take_of_length_le (by omega)]
  rw [List.drop_append, h1, show o + us.length + vs.length - (o + us.length) = vs.length by omega, List.drop_of_length_le (l := xs.take o ++ us) (by omega), List.drop_drop]
  simp only [List.length_append, List.append_assoc, List.nil_append]
  rw [show o + us.length + vs.length = o + (us.length + vs.length) by omega]
/-- Rows whose cells are in memory, each in a block of its own. -/
structure Held (w : World) (ms : List MR) : Prop where
  at_ : ∀ m ∈ ms, CellsAt w m.b m.l m.cap
  apart : (ms.map MR.b).Nodup
theorem Held.nil (w : World) : Held w [] := ⟨(fun _ h => by cases h), List.nodup_nil⟩
theorem Held.only {w w' : World} {ms : List MR} {F : List Nat} (h : Held w ms) (ho : Only F w w') (hF : ∀ m ∈ ms, m.b ∉ F) : Held w' ms := ⟨fun m hm => (h.at_ m hm).only ho (hF m hm), h.apart⟩
theorem Held.snoc {w : World} {ms : List MR} {m : MR} (h : Held w ms) (hm : CellsAt w m.b m.l m.cap) (hn : ∀ x ∈ ms, x.b ≠ m.b) : Held w (ms ++ [m]) := by
  refine ⟨fun x hx => ?_, ?_⟩
  · rcases List.mem_append.1 hx with hx | hx
    · exact h.at_ x hx
    · rw [List.mem_singleton] at hx; rw [hx]; exact hm
  · rw [List.map_append, List.nodup_append]
    refine ⟨h.apart, by simp, ?_⟩
    intro x hx y hy
    simp only [List.map_cons, List.map_nil, List.mem_singleton] at hy
    obtain ⟨z, hz, rfl⟩ := List.mem_map.1 hx
    rw [hy]
    exact hn z hz
theorem Held.lt {w : World} {ms : List MR} (h : Held w ms) {m : MR} (hm : m ∈ ms) : m.b < w.heap.size := (h.at_ m hm).lt
/-- Rows that are all alike, and new. -/
def Alike (B : Nat) (l : List Ce) (ms : List MR) : Prop := ∀ m ∈ ms, m.l = l ∧ m.wr = false ∧ B ≤ m.b

set_option maxRecDepth 100000 in
set_option maxHeartbeats 1000000 in
theorem lay_any (p a n c cols : Nat) (xs : List Value) (fg bg at_ : Int) (w : World) (hx : BL w p 73 xs) (hn : 2 * (a + n) ≤ xs.length) (hl : xs.length ≤ 1000000) (hc : cols ≤ 1000000) :
    Calls Tryd.prog 43 #[slV p (2 * a) n c, .int .i64 (cols : Int), .agg #[.int .i64 fg, .int .i64 bg, .int .i64 at_]] w fun e w' => e = .returned (.tuple #[]) ∧
      ∃ ms : List MR, ms.length = n ∧ BL w' p 73 (splice xs (2 * a) (rowsL ms)) ∧ Held w' ms ∧ Alike w.heap.size (List.replicate cols (32, 1, fg, bg, at_)) ms ∧ Only [p] w w' := by
  unfold slV
  have hpl := hx.lt
  have hA := BL.new w 33 [.int .i64 fg, .int .i64 bg, .int .i64 at_]
  have h0 := hx.alloc (.cells #[.int .i64 fg, .int .i64 bg, .int .i64 at_] 33)
  have ho : Only [p] w (w.alloc (.cells #[.int .i64 fg, .int .i64 bg, .int .i64 at_] 33)) := (Only.refl _ _).alloc _
  go_enter Tryd.func43, Tryd.ntmps43
  go_wp2_with fail
  go_loopw [6, 9] (fun _ i wr => ∃ ms : List MR, ms.length ≤ n ∧ i = .int .i64 (ms.length : Int) ∧ BL wr p 73 (splice xs (2 * a) (rowsL ms)) ∧ Held wr ms ∧ Alike (w.heap.size + 1) (List.replicate cols (32, 1, fg, bg, at_)) ms ∧ BL wr w.heap.size 33 [.int .i64 fg, .int .i64 bg, .int .i64 at_] ∧ Only [p] w wr) (fun _ i _ => n - (intOf i).toNat)
  case atStart => exact ⟨[], Nat.zero_le _, rfl, by rw [show rowsL [] = [] from rfl, splice_nil]; exact h0, Held.nil _, (fun _ h => by cases h), hA, ho⟩
  case round =>
    obtain ⟨ms, hk, rfl, hB, hH, hK, hA, ho⟩ := hrel
    clear hx h0
    by_cases hlt : ms.length < n
    · have hAl := hA.lt
      have hrl := rowsL_len ms
      have hsl : (splice xs (2 * a) (rowsL ms)).length = xs.length := splice_len (by omega)
      go_wp2_with (first
        | (refine wpList_load_row rfl 33 _ rfl w.heap.size rfl _ _ _ _ hA Tryd.underlying33 rfl (by kernel_rfl) ?_)
        | (go_at_call 61; refine (blankRow_any cols _ _ _ _ hc).mono ?_; rintro _ w1 ⟨b, rfl, hbb, hcb, hb1⟩; have ho1 := ho.trans (Only.of_below hb1); have hB1 := hB.only (F := []) (Only.of_below hb1) (by simp); have hA1 := hA.only (F := []) (Only.of_below hb1) (by simp); have hH1 := hH.only (F := []) (Only.of_below hb1) (by simp))
        | (refine wpList_store_bl rfl 73 (.tmp 17) (.tmp 16) rfl p (2 * a + ms.length * 2) [slV b 0 cols cols, .bool false] rfl rfl _ _ hB1 (by kernel_rfl) (by rw [hsl]; simp; omega) (by kernel_rfl) ?_; intro w2 hB2 hw2))
      have hml : mrL ⟨b, cols, List.replicate cols (32, 1, fg, bg, at_), false⟩ = [slV b 0 cols cols, .bool false] := by unfold mrL; simp
      have hsp : splice (splice xs (2 * a) (rowsL ms)) (2 * a + ms.length * 2) [slV b 0 cols cols, .bool false] = splice xs (2 * a) (rowsL (ms ++ [⟨b, cols, List.replicate cols (32, 1, fg, bg, at_), false⟩])) := by
        rw [rowsL_app, rowsL_one, hml, ← splice_app (by rw [hrl]; simp; omega), hrl, Nat.mul_comm 2 ms.length]
      rw [hsp] at hB2
      have hpb : ∀ m ∈ ms, m.b ≠ p := fun m hm e => by have := (hK m hm).2.2; omega
      have hsz := ho.size
      have hH2 := hH1.only hw2.only (fun m hm => by simpa using hpb m hm)
      have hc2 := hcb.only hw2.only (by simp; omega)
      have hH3 := hH2.snoc (m := ⟨b, cols, List.replicate cols (32, 1, fg, bg, at_), false⟩) hc2 (fun x hx => by have := hH.lt hx; show x.b ≠ b; omega)
      have hK3 : Alike (w.heap.size + 1) (List.replicate cols (32, 1, fg, bg, at_)) (ms ++ [⟨b, cols, List.replicate cols (32, 1, fg, bg, at_), false⟩]) := fun m hm => by
        rcases List.mem_append.1 hm with hm | hm
        · exact hK m hm
        · rw [List.mem_singleton] at hm; rw [hm]; exact ⟨rfl, rfl, by show w.heap.size + 1 ≤ b; omega⟩
      go_roundw
      case rel => exact ⟨_, by rw [List.length_append]; simp; omega, by rw [List.length_append]; simp, hB2, hH3, hK3, hA1.only hw2.only (by simp; omega), hw2.2 _ _ ho1 (.inl (by simp))⟩
      case measure => simp [intOf]; omega
    · obtain hk : ms.length = n := by omega
      subst hk
      go_wp2_with fail
      exact body_end rfl rfl ⟨rfl, ms, rfl, hB, hH, (fun m hm => ⟨(hK m hm).1, (hK m hm).2.1, by have := (hK m hm).2.2; omega⟩), ho⟩
end Go.Proofs.YtgjlohplgpcghaaDoor.Grd
/- So many rows: those that there are, blank ones behind. -/
namespace Go.Proofs.YtgjlohplgpcghaaDoor.Grd
open Go.RowKit

set_option maxRecDepth 100000 in
theorem plain_any (w : World) :
    Calls Tryd.prog 67 #[] w fun e w' => e = .returned (.agg #[.int .i64 (-1), .int .i64 (-1), .int .i64 0]) ∧ Below w.heap.size w w' := by
  go_enter Tryd.func67, Tryd.ntmps67
  go_wp2
  exact bodyPost_ret (v := .agg #[.int .i64 (-1), .int .i64 (-1), .int .i64 0]) (by simp [results, Tryd.results67, go_sem]) rfl ⟨rfl, (Below.refl _ _).alloc (Nat.le_refl _) _⟩

/-- A plain blank; a row of them. -/
def plainCe : Ce := (32, 1, -1, -1, 0)
def rowV0 : List Value := [.slice none 0 0, .bool false]
theorem rowV0_len (n : Nat) : (List.replicate n rowV0).flatten.length = 2 * n := by simp [rowV0]; omega
theorem splice_full {xs us vs : List Value} (h : xs.length = us.length + vs.length) : splice (splice xs 0 us) us.length vs = us ++ vs := by
  have h2 := splice_app (xs := xs) (us := us) (vs := vs) (o := 0) (by omega)
  rw [Nat.zero_add] at h2
  rw [h2]
  unfold splice
  rw [List.take_zero, List.nil_append, List.drop_of_length_le (by rw [List.length_append]; omega), List.append_nil]
section
variable {P : Program} {ops : Array Oper} {rest : List Oper} {op : Oper} {a : Act} {w : World} {Q : Exit → Act → World → Prop}
theorem wpList_copy_nil (hgd : op.guard = none) (d s : Operand) (dT sT : TypeId)
    (ho : op.op = .call { callee := .builtin .copy, args := #[d, s], argTypes := #[dT, sT] }) (elem : TypeId) (hu : P.underlying dT = some (.slice elem)) (hsz : ((P.info? elem).map (·.size)).isSome = true)
    (ad : Addr) (dLen dCap : Nat) (hd : a.eval d = .slice (some ad) dLen dCap) (hs : a.eval s = .slice none 0 0)
    (h : wpList P ops Q rest (a.put op.dst (goInt 0)) w) : wpList P ops Q (op :: rest) a w := by
  refine wpList_plain hgd fun K hK => ?_
  have hrun := run_copy_nil (P := P) w dT sT op.type elem ad dLen dCap hu hsz
  unfold Oper.wp
  simp [execOp, ho, resolve, invoke, builtin, hd, hs, hrun, Result.andThen]
  exact hK _ _ h
end
set_option maxRecDepth 100000 in
set_option maxHeartbeats 1000000 in
theorem filled_nil (cols n : Nat) (w : World) (hn1 : 1 ≤ n) (hn : n ≤ 1000) (hc : cols ≤ 1000000) :
    Calls Tryd.prog 48 #[.slice none 0 0, .int .i64 (cols : Int), .int .i64 (n : Int)] w fun e w' => ∃ g, e = .returned (slV g 0 n n) ∧ w.heap.size ≤ g ∧
      ∃ ms : List MR, ms.length = n ∧ BL w' g 73 (rowsL ms) ∧ Held w' ms ∧ Alike (g + 1) (List.replicate cols plainCe) ms ∧ Below w.heap.size w w' := by
  go_enter Tryd.func48, Tryd.ntmps48
  go_wp2_with (first
    | (refine wpList_make_rep rfl (.tmp 9) (.tmp 9) 68 73 rfl Tryd.underlying68 _ 2 32 info_row rfl n rfl rfl (by omega) (by omega) ?_; intro w1 hm hb1 hs1)
    | (refine wpList_copy_nil rfl (.tmp 11) (.tmp 12) 68 68 rfl 73 Tryd.underlying68 (by kernel_rfl) _ _ _ rfl rfl ?_))
  have hmd : BL w1.drew w.heap.size 73 (List.replicate n rowV0).flatten := hm
  have hbd : Below w.heap.size w w1.drew := hb1.drew
  have hzl := rowV0_len n
  have hsd : w1.drew.heap.size = w.heap.size + 1 := hs1
  clear hm hb1 hs1
  go_region_with (first
    | (go_at_call 67; refine (plain_any _).mono ?_; rintro _ w2 ⟨rfl, hb2⟩; have hm2 := hmd.only (F := []) (Only.of_below hb2) (by simp); have hw2 := hbd.trans (hb2.mono hbd.size); have hs2 := hb2.size)
    | (go_at_call 43; refine (lay_any w.heap.size 0 n n cols _ _ _ _ _ hm2 (by omega) (by omega) hc).mono ?_; rintro _ w3 ⟨rfl, ms, hms, hB3, hH3, hK3, ho3⟩))
  all_goals go_wp2_with fail
  have hrl := rowsL_len ms
  have hf : splice (List.replicate n rowV0).flatten (2 * 0) (rowsL ms) = rowsL ms := by
    unfold splice
    rw [List.take_zero, List.nil_append, List.drop_of_length_le (by omega), List.append_nil]
  rw [hf] at hB3
  go_ret
  exact ⟨_, rfl, Nat.le_refl _, ms, hms, hB3, hH3, (fun m hm => ⟨(hK3 m hm).1, (hK3 m hm).2.1, by have := (hK3 m hm).2.2; omega⟩), hw2.trans (ho3.below (by omega) (by simp))⟩
end Go.Proofs.YtgjlohplgpcghaaDoor.Grd
