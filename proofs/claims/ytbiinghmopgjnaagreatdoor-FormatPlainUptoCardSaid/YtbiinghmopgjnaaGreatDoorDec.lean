/- The walks of the program's decoder: a byte taken, a byte begun, a byte gone on with, what is pending dropped. -/
import Derived.Test.YtbiinghmopgjnaaGreatDoorWid
import Derived.BigQuiet
import Derived.Deep.QuietTactic
import Derived.StillTailTactics
import Derived.Deep.DeepCutAuto
namespace Go.Proofs.YtbiinghmopgjnaaGreatDoor.Cel
open Go.RowKit

def Dec.cells (d : Dec) : Array Value := #[.int .i64 d.p, .int .i64 d.m, .int .i32 d.r, .int .u8 d.lo, .int .u8 d.hi]
/-- The decoder d lies in block g. -/
abbrev At (w : World) (g : Nat) (d : Dec) : Prop := Blk w g 222 d.cells
/-- Runes as cells. -/
def zs (l : List Int) : List Value := l.map (Value.int .i32)
theorem zs_append (l k : List Int) : zs (l ++ k) = zs l ++ zs k := by simp [zs]
theorem zs_length (l : List Int) : (zs l).length = l.length := by simp [zs]
/-- The slice v holds just these runes, in a row of the call's own. -/
abbrev Owns (w : World) (base : Nat) (v : Value) (l : List Int) : Prop := w.ownsRow base 21 1 v l.length (zs l)
theorem owns_nil (w : World) (base : Nat) : Owns w base (.slice none 0 0) [] := World.ownsRow_nil _ _ _ _

/-- What a method of the decoder leaves: its new state, the list with what was told behind it, and all else as it was. -/
def Fed (db base : Nat) (v : Value) (l : List Int) (w : World) (d : Dec) (out : List Int) (e : Ending) (w' : World) : Prop :=
  ∃ v', e = .returned v' ∧ At w' db d ∧ Owns w' base v' (l ++ out) ∧ Kept w w' (fun k => k = db ∨ v.ownBlock = some k) ∧ (v'.ownBlock = v.ownBlock ∨ ∃ k, v'.ownBlock = some k ∧ w.heap.size ≤ k)

theorem new_any (w : World) : Calls Tryz.prog 140 #[] w fun e w' => e = .returned (.pointer (some ⟨w.heap.size, 0, none⟩)) ∧ w.alloc (.cells zero.cells 222) = w' := by
  go_enter Tryz.func140, Tryz.ntmps140
  go_wp2
  go_ret
  exact ⟨rfl, rfl⟩

section
variable {ops : Array Oper} {rest : List Oper} {op : Oper} {a : Act} {w : World} {Q : Exit → Act → World → Prop}
/-- A store of all the decoder's fields. -/
theorem wpList_store_dec (hgd : op.guard = none) (x y : Operand) (ho : op.op = .store 222 x y) (g : Nat) (d0 d : Dec) (hx : a.eval x = .pointer (some ⟨g, 0, none⟩)) (hy : a.eval y = .agg d.cells)
    (h0 : At w g d0) (h : ∀ w1, At w1 g d → Kept w w1 (fun k => k = g) → wpList Tryz.prog ops Q rest (a.put op.dst undef) w1) : wpList Tryz.prog ops Q (op :: rest) a w :=
  wpList_store_row hgd 222 x y ho g d.cells hx hy 222 d0.cells h0 (by show _ = some 5; kernel_rfl) rfl (by simp [Dec.cells, Value.oneCell'])
    (h _ (setRow_heap w g d0.cells d.cells _ _ h0) ⟨rfl, rfl, rfl, by simp, fun k _ hk => setRow_other w g k _ hk⟩)
/-- One rune appended to a list of the call's own. -/
theorem wpList_append_rune (hgd : op.guard = none) (s x : Operand) (ho : op.op = .call { callee := .builtin .append, args := #[s, x], argTypes := #[160, 160] })
    (base : Nat) (v : Value) (l : List Int) (r : Int) (c : Nat) (hs : a.eval s = v) (hown : Owns w base v l) (hx : a.eval x = .slice (some ⟨w.heap.size, 0, none⟩) 1 c) (hbase : base ≤ w.heap.size) (hn : l.length ≤ 1099511627776)
    (h : ∀ v' w', Owns w' base v' (l ++ [r]) → Kept w w' (fun k => v.ownBlock = some k) → (v'.ownBlock = v.ownBlock ∨ ∃ k, v'.ownBlock = some k ∧ w.heap.size ≤ k) → wpList Tryz.prog ops Q rest (a.put op.dst v') w') :
    wpList Tryz.prog ops Q (op :: rest) a (w.alloc (.cells #[.int .i32 r] 21)) := by
  obtain ⟨i0, hi0, hz0, hz1, hz2⟩ := info_parts info_rune
  refine wpList_append_own_at _ hgd s x 160 ho base 21 i0 (.int .i32 0) 1 4 Tryz.underlying160 hi0 hz0 hz1 hz2 rfl (by decide) v l.length (zs l) hs (hown.alloc _) ⟨w.heap.size, 0, none⟩ 1 c [.int .i32 r] hx rfl (cell_one_new _ _ _)
    (by intro u hu; simp at hu; subst hu; rfl) (by unfold maxLen; omega) (by omega) (by simp; omega) ?_
  intro v' w' h1 h2 _ h4
  refine h v' w' ?_ ?_ ?_
  · show w'.ownsRow base 21 1 v' (l ++ [r]).length (zs (l ++ [r]))
    rw [zs_append, List.length_append]
    exact h1
  · exact ((Kept.refl w _).alloc _).grown h2 fun k hk _ => hk
  · rcases h4 with h4 | h4
    · exact .inl h4
    · exact .inr ⟨_, h4, by simp⟩
end

set_option maxRecDepth 100000 in
theorem drop_any (d : Dec) (hi : Inv d) (db base : Nat) (v : Value) (l : List Int) (w : World) (hd : At w db d) (hown : Owns w base v l) (hbase : base ≤ w.heap.size) (hne : v.ownBlock ≠ some db) (hn : l.length ≤ 1099511627776) :
    Calls Tryz.prog 142 #[.pointer (some ⟨db, 0, none⟩), v] w (Fed db base v l w zero (lost d)) := by
  have c0 : w.cell? ⟨db, 0, none⟩ = some (.int .i64 d.p) := hd.cell 0
  by_cases hp : d.p = 0
  · have hpb : (d.p == 0) = true := by simp [hp]
    have HP := Lib.hid hp
    clear hp
    go_enter Tryz.func142, Tryz.ntmps142
    go_wp2
    go_ret
    refine ⟨v, rfl, ?_, ?_, Kept.refl _ _, .inl rfl⟩
    · rw [← hi.zero_of HP.out]; exact hd
    · unfold lost; rw [if_pos HP.out, List.append_nil]; exact hown
  · have hpb : (d.p == 0) = false := by simp [hp]
    have HL : Hid (lost d = [65533]) := by show _ = _; unfold lost; rw [if_neg hp]
    go_enter Tryz.func142, Tryz.ntmps142
    go_wp2_with (first
      | (refine wpList_store_dec rfl (.tmp 13) (.tmp 12) rfl db d zero rfl rfl hd ?_; intro w1 hd1 hk1; have hs1 := hk1.size)
      | (at_builtin; refine wpList_append_rune rfl (.tmp 14) (.tmp 15) rfl base v l 65533 1 rfl (hk1.owns hown fun k hk e => hne (by rw [hk, e])) rfl (by omega) hn ?_; intro v' w2 hown2 hk2 hat2))
    go_ret
    refine ⟨v', rfl, hk2.blk hd1 hne, by rw [HL.out]; exact hown2, (hk1.more fun _ h => .inl h).trans hk2 fun _ _ h => .inr h, ?_⟩
    rcases hat2 with h | ⟨k, h, hk⟩
    · exact .inl h
    · exact .inr ⟨k, h, by omega⟩

set_option maxRecDepth 100000 in
set_option maxHeartbeats 400000 in
theorem goOn_any (d : Dec) (hi : Inv d) (db base : Nat) (v : Value) (l : List Int) (b : Int) (w : World) (hd : At w db d) (hown : Owns w base v l) (hbase : base ≤ w.heap.size) (hne : v.ownBlock ≠ some db) (hn : l.length ≤ 1099511627776)
    (hp : 0 < d.p) (hb0 : 0 ≤ b) (hb1 : b ≤ 255) :
    Calls Tryz.prog 176 #[.pointer (some ⟨db, 0, none⟩), v, .int .u8 b] w (Fed db base v l w (next d b).1 (next d b).2) := by
  have hbd := hi.bd
  have b1 := hbd.p1
  have b2 := hbd.m0
  have b3 := hbd.m1
  have b4 := hbd.r0
  have b5 := hbd.r1
  have c0 : w.cell? ⟨db, 0, none⟩ = some (.int .i64 d.p) := hd.cell 0
  have c1 : w.cell? ⟨db, 1, none⟩ = some (.int .i64 d.m) := hd.cell 1
  have c2 : w.cell? ⟨db, 2, none⟩ = some (.int .i32 d.r) := hd.cell 2
  have e1 : bits BinOp.and IntKind.i32 b 63 = b % 64 := bits_mask .i32 31 (by decide) wraps_i32 6 (by decide) b hb0 (by omega)
  have e2 : bits BinOp.or IntKind.i32 (d.r * 64) (b % 64) = d.r * 64 + b % 64 := i32_or6 _ _ (by omega) (by omega) (by omega) (by omega) (by omega)
  by_cases hm : d.m = 1
  · have hmb : (d.m == 1) = true := by simp [hm]
    have HN : Hid (next d b = (zero, [d.r * 64 + b % 64])) := next_one hm
    clear hm
    go_enter Tryz.func176, Tryz.ntmps176
    go_wp2_with (first
      | (refine wpList_store_dec rfl (.tmp 24) (.tmp 23) rfl db d zero rfl rfl hd ?_; intro w1 hd1 hk1; have hs1 := hk1.size)
      | (at_builtin; refine wpList_append_rune rfl (.tmp 25) (.tmp 27) rfl base v l (d.r * 64 + b % 64) 1 rfl (hk1.owns hown fun k hk e => hne (by rw [hk, e])) rfl (by omega) hn ?_; intro v' w2 hown2 hk2 hat2))
    go_ret
    refine ⟨v', rfl, by rw [HN.out]; exact hk2.blk hd1 hne, by rw [HN.out]; exact hown2, (hk1.more fun _ h => .inl h).trans hk2 fun _ _ h => .inr h, ?_⟩
    rcases hat2 with h | ⟨k, h, hk⟩
    · exact .inl h
    · exact .inr ⟨k, h, by omega⟩
  · have hmb : (d.m == 1) = false := by simp [hm]
    have HN : Hid (next d b = (⟨d.p + 1, d.m - 1, d.r * 64 + b % 64, 128, 191⟩, [])) := next_more hm
    clear hm
    have e3 : IntKind.i64.wrap (d.p + 1) = d.p + 1 := IntWalk.i64_in _ (by omega)
    have e4 : IntKind.i64.wrap (d.m - 1) = d.m - 1 := IntWalk.i64_in _ (by omega)
    go_enter Tryz.func176, Tryz.ntmps176
    go_wp2
    go_still_tail 14, (by kernel_rfl)
    change wpList _ _ _ _ _ w.drew
    have hd' : At w.drew db d := hd
    have hk' : Kept w w.drew (fun k => k = db ∨ v.ownBlock = some k) := (Kept.refl w _).drew
    have hown' : Owns w.drew base v l := hown.drew
    generalize w.drew = w2 at *
    refine wpList_store_dec rfl (.tmp 42) (.tmp 41) rfl db d ⟨d.p + 1, d.m - 1, d.r * 64 + b % 64, 128, 191⟩ rfl rfl hd' ?_
    intro w1 hd1 hk1
    go_wp2
    go_ret
    refine ⟨v, rfl, by rw [HN.out]; exact hd1, ?_, hk'.trans hk1 fun _ _ h => .inl h, .inl rfl⟩
    rw [HN.out, List.append_nil]
    exact hk1.owns hown' fun k hk e => hne (by rw [hk, e])
end Go.Proofs.YtbiinghmopgjnaaGreatDoor.Cel
