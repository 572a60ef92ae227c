/- The tables of strconv that the reading and the writing of floats look into. -/
import Derived.Test.YtbiinghmopgjnaaGreatDoorRdf
import GoSem.PinnedTables
namespace Go.Proofs.YtbiinghmopgjnaaGreatDoor.Cal
open Go.RowKit

def tens : List Nat := [4607182418800017408, 4621819117588971520, 4636737291354636288, 4652007308841189376, 4666723172467343360, 4681608360884174848, 4696837146684686336, 4711630319722168320, 4726483295884279808, 4741671816366391296, 4756540486875873280, 4771362005757984768, 4786511204640096256, 4801453603149578240, 4816244402031689728]
def u10Cells : Array Value := ((List.range 20).map fun k => Value.int .u64 ((10 ^ k : Nat) : Int)).toArray
def p10Cells : Array Value := (Go.Pinned.pow10Rows.flatMap fun x => [Value.int .u64 (x.1 : Int), Value.int .u64 (x.2 : Int)]).toArray
/-- Where strconv's tables lie, and what of them is read: all below block B. -/
structure Tabs (B : Nat) (w : World) : Prop where
  low : 12 < B ∧ 18 < B ∧ 4 < B ∧ 11 < B ∧ 3 < B
  opt : ∃ t fr, w.heap[3]? = some (.cells #[.bool true] t fr)
  info : ∃ t fr, w.heap[11]? = some (.cells #[.int .u64 52, .int .u64 11, .int .i64 (-1023)] t fr)
  u10 : ∃ t fr, w.heap[4]? = some (.cells u10Cells t fr)
  p10 : ∃ t fr, w.heap[12]? = some (.cells p10Cells t fr)
  f10 : ∃ (a : Addr) (c : Nat) (t : TypeId) (fr : Nat × Nat), w.heap[18]? = some (.cells #[.slice (some a) 23 c] t fr) ∧ a.block < B ∧ ∀ (i x : Nat), tens[i]? = some x → w.cell? (a.add i) = some (.float .f64 x)
theorem Tabs.below {B : Nat} {w w' : World} (h : Tabs B w) (hb : Below B w w') : Tabs B w' := by
  obtain ⟨l, ⟨t1, f1, h1⟩, ⟨t2, f2, h2⟩, ⟨t3, f3, h3⟩, ⟨t4, f4, h4⟩, ⟨a, c, t5, f5, h5, h6, h7⟩⟩ := h
  refine ⟨l, ⟨t1, f1, ?_⟩, ⟨t2, f2, ?_⟩, ⟨t3, f3, ?_⟩, ⟨t4, f4, ?_⟩, ⟨a, c, t5, f5, ?_, h6, fun i x hx => ?_⟩⟩
  · exact (hb.block _ l.2.2.2.2).trans h1
  · exact (hb.block _ l.2.2.2.1).trans h2
  · exact (hb.block _ l.2.2.1).trans h3
  · exact (hb.block _ l.1).trans h4
  · exact (hb.block _ l.2.1).trans h5
  · have : (a.add i).block < B := by unfold Addr.add; split <;> exact h6
    exact (hb.cell this).trans (h7 i x hx)

set_option maxRecDepth 100000 in
theorem exact_7 {B : Nat} (w : World) (ht : Tabs B w) :
    Calls Tryz.prog 222 #[.int .u64 7, .int .i64 0, .bool false] w fun e w' => e = .returned (.tuple #[.float .f64 4619567317775286272, .bool true]) ∧ w = w' := by
  have hf : floatOfInt .f64 7 = 4619567317775286272 := by decide +kernel
  obtain ⟨t, fr, hg⟩ := ht.info
  have hc : w.cell? ⟨11, 0, none⟩ = some (.int .u64 52) := cell_of_row w _ 0 _ _ _ hg
  clear hg ht
  go_enter Tryz.func222, Tryz.ntmps222
  go_wp2
  go_ret2
  exact ⟨rfl, rfl⟩
end Go.Proofs.YtbiinghmopgjnaaGreatDoor.Cal
