/- strconv's last step of writing a float: two texts of the chapter's examples. -/
import Derived.Test.YtbiinghmopgjnaaGreatDoorIsk
import Derived.OwnWalk
import Derived.Laws.IdiomStrings
namespace Go.Proofs.YtbiinghmopgjnaaGreatDoor.Cal
open Go.RowKit

def us (l : List UInt8) : List Value := l.map fun c => Value.int .u8 (c.toNat : Int)
/-- Block g holds a row of 24 bytes, the first of them these. -/
def OwnU (w : World) (g : Nat) (l : List UInt8) : Prop := w.ownsRow g 5 1 (.slice (some ⟨g, 0, none⟩) l.length 24) l.length (us l)
theorem info_byte : (Tryz.prog.info? 5).map (fun i => (i.zero, i.size, i.bytes)) = some (some (.int .u8 0), 1, 1) := by kernel_rfl
section
variable {ops : Array Oper} {rest : List Oper} {op : Oper} {a : Act} {w : World} {Q : Exit → Act → World → Prop}
theorem app_u8 (hgd : op.guard = none) (s x : Operand) (ho : op.op = .call { callee := .builtin .append, args := #[s, x], argTypes := #[27, 27] })
    (g : Nat) (l : List UInt8) (b : UInt8) (n : Int) (hn : n = b.toNat) (k k1 : Nat) (hk : k = l.length) (hk1 : k1 = k + 1) (c : Nat) (hs : a.eval s = .slice (some ⟨g, 0, none⟩) k 24) (hown : OwnU w g l) (hx : a.eval x = .slice (some ⟨w.heap.size, 0, none⟩) 1 c) (hroom : l.length < 24)
    (h : ∀ w', OwnU w' g (l ++ [b]) → w.grownBy w' (some g) → wpList Tryz.prog ops Q rest (a.put op.dst (.slice (some ⟨g, 0, none⟩) k1 24)) w') :
    wpList Tryz.prog ops Q (op :: rest) a (w.alloc (.cells #[.int .u8 n] 5)) := by
  subst hn hk hk1
  obtain ⟨i0, hi0, hz0, hz1, hz2⟩ := info_parts info_byte
  refine wpList_append_fits _ hgd s x 27 ho g 5 i0 1 Tryz.underlying27 hi0 hz1 g l.length 24 (us l) hs (hown.alloc _) ⟨w.heap.size, 0, none⟩ 1 c [.int .u8 b.toNat] hx rfl (cell_one_new _ _ _)
    (by intro u hu; simp at hu; subst hu; rfl) (by omega) ?_
  intro w' h1 h2
  refine h w' ?_ ?_
  · unfold OwnU us at *
    rw [List.length_append, List.map_append]
    exact h1
  · exact ⟨h2.os, h2.tape, h2.output, Nat.le_trans (by simp) h2.size, fun k hk hne => (h2.block k (by simp; omega) hne).trans (Below.heap_alloc _ _ _ hk)⟩
end
theorem grown_trans {w w' w'' : World} {r : Option Nat} (h : w.grownBy w' r) (h' : w'.grownBy w'' r) : w.grownBy w'' r :=
  ⟨h'.os.trans h.os, h'.tape.trans h.tape, h'.output.trans h.output, Nat.le_trans h.size h'.size, fun k hk hne => (h'.block k (Nat.lt_of_lt_of_le hk h.size) hne).trans (h.block k hk hne)⟩
theorem grown_blk {w w' : World} {g gb : Nat} {t : TypeId} {cs : Array Value} (h : w.grownBy w' (some g)) (hb : Blk w gb t cs) (hne : gb ≠ g) : Blk w' gb t cs := (h.block gb hb.lt fun e => hne (Option.some.inj e)).trans hb

set_option maxRecDepth 100000 in
set_option maxHeartbeats 2000000 in
theorem efg_350 (w : World) (g gb : Nat) (cs : Array Value) (hown : OwnU w g []) (hb : Blk w gb 178 cs) (h0 : cs[0]? = some (.int .u8 51)) (h1 : cs[1]? = some (.int .u8 53)) (hne : gb ≠ g) :
    Calls Tryz.prog 159 #[.slice (some ⟨g, 0, none⟩) 0 24, .bool false, .slice (some ⟨gb, 0, none⟩) 24 24, .int .i64 1, .int .i64 2, .int .i64 2, .int .u8 102, .bool false] w fun e w' => e = .returned (.slice (some ⟨g, 0, none⟩) 4 24) ∧ OwnU w' g [51, 46, 53, 48] ∧ w.grownBy w' (some g) := by
  go_enter Tryz.func159, Tryz.ntmps159
  have c0 := (hb.cell 0).trans h0
  go_wp2
  refine wp_loop_rounds 2 ?_
  rw [rounds_succ]
  go_wp2_with (at_builtin; refine app_u8 rfl _ _ rfl g [] 51 _ rfl 0 1 rfl rfl 1 rfl hown rfl (by decide) ?_; intro w1 ho1 hg1)
  rw [rounds_succ]
  go_wp2
  refine wp_loop_rounds 1 ?_
  rw [rounds_succ]
  go_wp2_with (at_builtin; refine app_u8 rfl _ _ rfl g [51] 46 _ rfl 1 2 rfl rfl 1 rfl ho1 rfl (by decide) ?_; intro w2 ho2 hg2)
  refine wp_loop_rounds 1 ?_
  rw [rounds_succ]
  have hg12 := grown_trans hg1 hg2
  have hb2 := grown_blk hg12 hb hne
  have c1 := (hb2.cell 1).trans h1
  go_wp2
  refine wp_loop_rounds 2 ?_
  rw [rounds_succ]
  go_wp2_with (at_builtin; refine app_u8 rfl _ _ rfl g [51, 46] 53 _ rfl 2 3 rfl rfl 1 rfl ho2 rfl (by decide) ?_; intro w3 ho3 hg3)
  rw [rounds_succ]
  go_wp2
  refine wp_loop_rounds 2 ?_
  rw [rounds_succ]
  go_wp2_with (at_builtin; refine app_u8 rfl _ _ rfl g [51, 46, 53] 48 _ rfl 3 4 rfl rfl 1 rfl ho3 rfl (by decide) ?_; intro w4 ho4 hg4)
  rw [rounds_succ]
  go_wp2
  go_ret
  exact ⟨rfl, ho4, grown_trans hg12 (grown_trans hg3 hg4)⟩
set_option maxRecDepth 100000 in
set_option maxHeartbeats 2000000 in
theorem efg_012 (w : World) (g gb : Nat) (cs : Array Value) (hown : OwnU w g []) (hb : Blk w gb 178 cs) (h0 : cs[0]? = some (.int .u8 49)) (h1 : cs[1]? = some (.int .u8 50)) (hne : gb ≠ g) :
    Calls Tryz.prog 159 #[.slice (some ⟨g, 0, none⟩) 0 24, .bool false, .slice (some ⟨gb, 0, none⟩) 24 24, .int .i64 0, .int .i64 2, .int .i64 2, .int .u8 102, .bool false] w fun e w' => e = .returned (.slice (some ⟨g, 0, none⟩) 4 24) ∧ OwnU w' g [48, 46, 49, 50] ∧ w.grownBy w' (some g) := by
  go_enter Tryz.func159, Tryz.ntmps159
  go_wp2_with (first | (at_builtin; refine app_u8 rfl _ _ rfl g [] 48 _ rfl 0 1 rfl rfl 1 rfl hown rfl (by decide) ?_; intro w1 ho1 hg1) | (at_builtin; refine app_u8 rfl _ _ rfl g [48] 46 _ rfl 1 2 rfl rfl 1 rfl ho1 rfl (by decide) ?_; intro w2 ho2 hg2))
  refine wp_loop_rounds 1 ?_
  rw [rounds_succ]
  have hg12 := grown_trans hg1 hg2
  have hb2 := grown_blk hg12 hb hne
  have c0 := (hb2.cell 0).trans h0
  go_wp2
  refine wp_loop_rounds 3 ?_
  rw [rounds_succ]
  go_wp2_with (at_builtin; refine app_u8 rfl _ _ rfl g [48, 46] 49 _ rfl 2 3 rfl rfl 1 rfl ho2 rfl (by decide) ?_; intro w3 ho3 hg3)
  rw [rounds_succ]
  have hb3 := grown_blk hg3 hb2 hne
  have c1 := (hb3.cell 1).trans h1
  go_wp2_with (at_builtin; refine app_u8 rfl _ _ rfl g [48, 46, 49] 50 _ rfl 3 4 rfl rfl 1 rfl ho3 rfl (by decide) ?_; intro w4 ho4 hg4)
  rw [rounds_succ]
  go_wp2
  refine wp_loop_rounds 1 ?_
  rw [rounds_succ]
  go_wp2
  go_ret
  exact ⟨rfl, ho4, grown_trans hg12 (grown_trans hg3 hg4)⟩
end Go.Proofs.YtbiinghmopgjnaaGreatDoor.Cal
