/- The walks of a parser's own small methods: New, State, Reset, begin, drop. -/
import Derived.Test.YtmhmbeofcedjjaaDoorVwa
namespace Go.Proofs.YtmhmbeofcedjjaaDoor.Vt
open Go.RowKit
open Cel (Blk Kept Tabs low Owns At)

theorem blk_of {w : World} {g : Nat} {t : TypeId} {cs ds : Array Value} (h : Blk w g t cs) (e : cs = ds) : Blk w g t ds := e ▸ h
theorem blk_new1 (w : World) (o : Obj) (t : TypeId) (cs : Array Value) : Blk ((w.alloc o).alloc (.cells cs t)) (w.heap.size + 1) t cs := heap_alloc2_new w o _
theorem new_any (w : World) (B : Nat) (hB : B ≤ w.heap.size) : Calls Tryd.prog 11 #[] w fun e w' => e = .returned (ptr (w.heap.size + 1)) ∧ PAt w' B (w.heap.size + 1) w.heap.size nilV nilV ps0 ∧ Below w.heap.size w w' ∧ w'.heap.size = w.heap.size + 2 := by
  go_enter Tryd.func11, Tryd.ntmps11
  go_wp2_with (go_at_call 19; refine (Cel.new_any _).mono ?_; rintro e w1 ⟨rfl, rfl⟩)
  go_ret
  have h1 : At (w.alloc (.cells Cel.zero.cells 62)) w.heap.size Cel.zero := Blk.new _ _ _
  refine ⟨by simp, ⟨blk_of (t := 47) (blk_new1 w _ _ _) rfl, Blk.alloc h1 _, ints_nil _ _, fun _ => rfl, byts_nil _ _, bd0, by omega, hB⟩, ((Below.refl _ _).alloc (Nat.le_refl _) _).alloc (by simp) _, by simp⟩
theorem state_any {w : World} {B pb db : Nat} {pv tv : Value} {S : Ps} (h : PAt w B pb db pv tv S) : Calls Tryd.prog 14 #[ptr pb] w fun e w' => e = .returned (.string (nm S.s)) ∧ w = w' := by
  have c0 : w.cell? ⟨pb, 0, none⟩ = some (.string (nm S.s)) := h.par.cell 0
  go_enter Tryd.func14, Tryd.ntmps14
  go_wp2
  go_ret
  exact ⟨rfl, rfl⟩
/-- What a parser has begun, as cells. -/
abbrev seqC (k : Int) : Array Value := #[.int .i64 k, .int .i32 0, .int .u8 0, nilV, .string { data := #[] }, .string { data := #[] }, nilV, .bool false]
section
variable {ops : Array Oper} {rest : List Oper} {op : Oper} {a : Act} {w : World} {Q : Exit → Act → World → Prop}
theorem wpList_store_seq (hgd : op.guard = none) (x y : Operand) (ho : op.op = .store 45 x y) {pb db : Nat} {pv tv : Value} {S : Ps} (k : Int) (hx : a.eval x = .pointer (some ⟨pb, 2, none⟩)) (hy : a.eval y = .agg (seqC k))
    (hb : Blk w pb 47 (parL S pv tv db).toArray)
    (h : ∀ w', Blk w' pb 47 (parL { S with k := k, b := 0, ps := [], it := [], tx := [], af := false } nilV nilV db).toArray → Kept w w' (fun i => i = pb) → wpList Tryd.prog ops Q rest (a.put op.dst undef) w') :
    wpList Tryd.prog ops Q (op :: rest) a w := by
  have ht : w.there pb 2 8 := fun j hj => by
    refine ⟨?_, hb.frozen _⟩
    rw [hb.cell]
    simp [parL]
    omega
  have hi : (Tryd.prog.info? 45).map (·.size) = some (seqC k).size := by show _ = some 8; kernel_rfl
  have h1 : (seqC k).all (·.oneCell') = true := by simp [Value.oneCell']
  have e : ((seqC k).toList.zipIdx 2).foldl (fun c p => c.setIfInBounds p.2 p.1) (parL S pv tv db).toArray = (parL { S with k := k, b := 0, ps := [], it := [], tx := [], af := false } nilV nilV db).toArray := by
    unfold parL
    generalize nm S.s = z
    simp [bs]
  have hb' := Blk.setCells (seqC k).toList 2 hb
  rw [e] at hb'
  refine wpList_store_mid hgd 45 x y ho pb 2 (seqC k) hx hy ht hi h1 ?_
  exact h _ hb' (kept_setCells pb _ 2 w)
end
theorem begin_any {w : World} {pb db : Nat} {pv tv : Value} {S : Ps} (h : Blk w pb 47 (parL S pv tv db).toArray) (k : Int) :
    Calls Tryd.prog 39 #[ptr pb, .int .i64 k] w fun e w' => e = .returned (.tuple #[]) ∧ Blk w' pb 47 (parL { S with k := k, b := 0, ps := [], it := [], tx := [], af := false } nilV nilV db).toArray ∧ Kept w w' (fun i => i = pb) := by
  go_enter Tryd.func39, Tryd.ntmps39
  go_wp2_with (refine wpList_store_seq rfl (.tmp 9) (.tmp 7) rfl k rfl rfl h ?_; intro w1 hb1 hk1)
  go_end0
  exact ⟨rfl, hb1, hk1⟩
theorem drop_any {w : World} {pb db : Nat} {pv tv : Value} {S : Ps} (h : Blk w pb 47 (parL S pv tv db).toArray) (hd : At w db S.d) (hi : Cel.Inv S.d) :
    Calls Tryd.prog 56 #[ptr pb] w fun e w' => e = .returned (.tuple #[]) ∧ Blk w' pb 47 (parL ps0 nilV nilV db).toArray ∧ At w' db Cel.zero ∧ Kept w w' (fun i => i = pb ∨ i = db) := by
  have hne : pb ≠ db := Blk.far' h hd (by decide)
  have c0 : w.cell? ⟨pb, 0, none⟩ = some (.string (nm S.s)) := h.cell 0
  have f0 := h.frozen 0
  have h1 : Blk (w.setCell ⟨pb, 0, none⟩ (.string { data := #[103, 114, 111, 117, 110, 100] })) pb 47 (parL { S with s := 0 } pv tv db).toArray := h.set_ 0 _
  have k1 : Kept w (w.setCell ⟨pb, 0, none⟩ (.string { data := #[103, 114, 111, 117, 110, 100] })) (fun i => i = pb) := Kept.setCell (p := fun i => i = pb) (Kept.refl w _) (a := ⟨pb, 0, none⟩) rfl _
  go_enter Tryd.func56, Tryd.ntmps56
  go_wp2_with (refine wpList_store_seq rfl (.tmp 8) (.tmp 6) rfl 0 rfl rfl h1 ?_; intro w2 hb2 hk2; have c1 : w2.cell? ⟨pb, 1, none⟩ = some (ptr db) := hb2.cell 1)
  refine (Cel.end_any S.d hi db _ (hk2.blk (k1.blk hd fun e => hne e.symm) fun e => hne e.symm)).mono ?_
  rintro e w3 ⟨v, rfl, hz, _, hk3⟩
  go_wp2
  go_end0
  exact ⟨rfl, hk3.blk hb2 hne, hz, ((k1.more fun _ e => .inl e).trans hk2 fun _ _ e => .inl e).trans hk3 fun _ _ e => .inr e⟩
end Go.Proofs.YtmhmbeofcedjjaaDoor.Vt
