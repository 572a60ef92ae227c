/- What the laws' walks stand on: Reset, texts as bytes, two parsers side by side. -/
import Derived.Test.YtmhmbeofcedjjaaDoorVsh
namespace Go.Proofs.YtmhmbeofcedjjaaDoor.Vt
open Go.RowKit
open Cel (Blk Kept Tabs low Owns At good enc)

section
variable {ops : Array Oper} {rest : List Oper} {op : Oper} {a : Act} {w : World} {Q : Exit → Act → World → Prop}
theorem wpList_store_par (hgd : op.guard = none) (x y : Operand) (ho : op.op = .store 47 x y) {pb db db' : Nat} {pv tv : Value} {S : Ps} (hx : a.eval x = .pointer (some ⟨pb, 0, none⟩)) (hy : a.eval y = .agg (parL ps0 nilV nilV db').toArray)
    (hb : Blk w pb 47 (parL S pv tv db).toArray)
    (h : ∀ w', Blk w' pb 47 (parL ps0 nilV nilV db').toArray → Kept w w' (fun i => i = pb) → wpList Tryd.prog ops Q rest (a.put op.dst undef) w') :
    wpList Tryd.prog ops Q (op :: rest) a w := by
  have ht : w.there pb 0 10 := fun j hj => by
    refine ⟨?_, hb.frozen _⟩
    rw [hb.cell]
    simp [parL]
    omega
  have hi : (Tryd.prog.info? 47).map (·.size) = some (parL ps0 nilV nilV db').toArray.size := by show _ = some 10; kernel_rfl
  have h1 : (parL ps0 nilV nilV db').toArray.all (·.oneCell') = true := by simp [parL, Value.oneCell']
  have e : ((parL ps0 nilV nilV db').toArray.toList.zipIdx 0).foldl (fun c p => c.setIfInBounds p.2 p.1) (parL S pv tv db).toArray = (parL ps0 nilV nilV db').toArray := by
    unfold parL
    generalize nm S.s = z
    simp
  have hb' := Blk.setCells (parL ps0 nilV nilV db').toArray.toList 0 hb
  rw [e] at hb'
  refine wpList_store_mid hgd 47 x y ho pb 0 (parL ps0 nilV nilV db').toArray hx hy ht hi h1 ?_
  exact h _ hb' (kept_setCells pb _ 0 w)
end
def ResetL (w : World) (B pb : Nat) (e : Ending) (w' : World) : Prop := ∃ db', e = .returned (.tuple #[]) ∧ PAt w' B pb db' nilV nilV ps0 ∧ Kept w w' (fun i => i = pb)
theorem reset_any {w : World} {B pb db : Nat} {pv tv : Value} {S : Ps} (P : PAt w B pb db pv tv S) :
    Calls Tryd.prog 15 #[ptr pb] w (ResetL w B pb) := by
  have hB := P.lt pb (.inl rfl)
  have hn := new_any w w.heap.size (Nat.le_refl _)
  go_enter Tryd.func15, Tryd.ntmps15
  go_wp2_with fail
  refine hn.mono ?_
  rintro e w1 ⟨rfl, P1, hb1, hz1⟩
  have hp1 := P.par.below hb1 hB.2
  have HZ1 := Lib.hid hz1
  have c0 : w1.cell? ⟨w.heap.size + 1, 0, none⟩ = some (.string (nm 0)) := P1.par.cell 0
  have c1 : w1.cell? ⟨w.heap.size + 1, 1, none⟩ = some (ptr w.heap.size) := P1.par.cell 1
  have c2 : w1.cell? ⟨w.heap.size + 1, 2, none⟩ = some (.int .i64 0) := P1.par.cell 2
  have c3 : w1.cell? ⟨w.heap.size + 1, 3, none⟩ = some (.int .i32 0) := P1.par.cell 3
  have c4 : w1.cell? ⟨w.heap.size + 1, 4, none⟩ = some (.int .u8 0) := P1.par.cell 4
  have c5 : w1.cell? ⟨w.heap.size + 1, 5, none⟩ = some nilV := P1.par.cell 5
  have c6 : w1.cell? ⟨w.heap.size + 1, 6, none⟩ = some (.string (bs [])) := P1.par.cell 6
  have c7 : w1.cell? ⟨w.heap.size + 1, 7, none⟩ = some (.string (bs [])) := P1.par.cell 7
  have c8 : w1.cell? ⟨w.heap.size + 1, 8, none⟩ = some nilV := P1.par.cell 8
  have c9 : w1.cell? ⟨w.heap.size + 1, 9, none⟩ = some (.bool false) := P1.par.cell 9
  clear hz1
  go_wp2_with (refine wpList_store_par rfl (.tmp 6) (.tmp 5) rfl (db' := w.heap.size) rfl rfl hp1 ?_; intro w2 hb2 hk2)
  go_end0
  have hne : w.heap.size ≠ pb := by omega
  refine ⟨w.heap.size, rfl, ⟨hb2, hk2.blk P1.dec hne, ints_nil _ _, fun _ => rfl, byts_nil _ _, bd0, P.pB, by omega⟩, ?_⟩
  exact (Cel.below_kept hb1 _).trans hk2 fun _ _ h => h
/-- A text's bytes, in a new block. -/
theorem to_bytes (w : World) (l : Tx) : ∃ A c w1, (convert 9 24 (.string (bs l))).run Tryd.prog w = .ok (.slice A l.length c) w1 ∧ Kept w w1 (fun _ => False) ∧ InB w1 A l ∧ (∀ g o, A = some ⟨g, o, none⟩ → w.heap.size ≤ g) := by
  have h := run_bytes_of_string (P := Tryd.prog) w 9 24 5 (bs l) Tryd.underlying9 Tryd.underlying24 Tryd.underlying5
  rw [bs_size] at h
  refine ⟨_, _, _, h, ((Kept.refl w _).drew).alloc _, fun i hi => ⟨w.heap.size, 0, _, _, rfl, heap_alloc_new w.drew _, ?_⟩, fun g o e => by injection e with e; injection e with e; omega⟩
  unfold bytesRow
  rw [Nat.zero_add, Array.getElem?_append_left (by simp [bs]; exact hi)]
  simp [bs, List.getElem?_eq_getElem hi, List.getD_eq_getElem?_getD]
section
variable {w w' : World} {B B' pb db qb eb : Nat} {pv tv pv' tv' qv uv : Value} {S R : Ps}
/-- Two parsers have no block in common. -/
def Dis (pb db : Nat) (pv tv : Value) (qb eb : Nat) (qv uv : Value) : Prop := ∀ k, mine pb db pv tv k → ¬ mine qb eb qv uv k
theorem Dis.symm (h : Dis pb db pv tv qb eb qv uv) : Dis qb eb qv uv pb db pv tv := fun k h1 h2 => h k h2 h1
theorem Dis.feed (h : Dis pb db pv tv qb eb qv uv) (Q : PAt w B qb eb qv uv R) (hm : ∀ k, mine pb db pv' tv' k → mine pb db pv tv k ∨ w.heap.size ≤ k) : Dis pb db pv' tv' qb eb qv uv := fun k h1 h2 => by
  rcases hm k h1 with q | q
  · exact h k q h2
  · have := (Q.lt k h2).2; omega
theorem PAt.other (Q : PAt w B qb eb qv uv R) (h : Dis pb db pv tv qb eb qv uv) (k : Kept w w' (mine pb db pv tv)) : PAt w' B qb eb qv uv R := Q.keep k fun i hi hp => h i hp hi
theorem PAt.later (Q : PAt w B qb eb qv uv R) (hb : Below w.heap.size w w') : PAt w' B qb eb qv uv R := Q.keep (Cel.below_kept hb fun _ => False) fun _ _ h => h
theorem PAt.lower (Q : PAt w B qb eb qv uv R) (hB : B' ≤ B) : PAt w B' qb eb qv uv R :=
  ⟨Q.par, Q.dec, own_raise Q.prm fun k hk => Nat.le_trans hB (Q.prm.lt k hk).1, Q.pnil, own_raise Q.txt fun k hk => Nat.le_trans hB (Q.txt.lt k hk).1, Q.bd, Nat.le_trans hB Q.pB, Nat.le_trans hB Q.dB⟩
end
/-- A list behind a Feed of a parser that was there before it. -/
theorem Lst.side {w w' w'' : World} {B Bq qb eb : Nat} {qv uv ov : Value} {R : Ps} {out : List To} (h : Lst w' B ov out) (Q : PAt w Bq qb eb qv uv R) (hB : w.heap.size ≤ B) (k : Kept w' w'' (mine qb eb qv uv)) : Lst w'' B ov out :=
  h.keep k (fun i hi hm => by have := (Q.lt i hm).2; have := (h.1.lt i hi).1; omega) fun t ht i hi hm => by have := (Q.lt i hm).2; have := ((h.2 t ht).lt i hi).1; omega
theorem can_ps {a : Ac} (h : Can a) : a.ps.length ≤ 32 := by
  have hc := h.c
  by_cases h4 : a.k = 4 ∨ a.k = 6
  · have hh : headOf a = true := by
      rcases h4 with h4 | h4
      · unfold cbt at hc
        rw [if_neg (by omega), if_neg (by omega), if_neg (by omega), if_pos h4] at hc
        exact hc
      · unfold cbt at hc
        rw [if_neg (by omega), if_neg (by omega), if_neg (by omega), if_neg (by omega), if_neg (by omega), if_pos h4, Bool.and_eq_true] at hc
        exact hc.1
    unfold headOf at hh
    simp only [Bool.and_eq_true] at hh
    exact (num_bd hh.2.2).2.1
  · rcases cbt_k a hc with hk | hk | hk | hk | hk | hk
    · rw [h.ps (.inl hk)]; simp
    · rw [h.ps (.inr (.inl hk))]; simp
    · rw [h.ps (.inr (.inr (.inl hk)))]; simp
    · omega
    · rw [h.ps (.inr (.inr (.inr hk)))]; simp
    · omega
end Go.Proofs.YtmhmbeofcedjjaaDoor.Vt
