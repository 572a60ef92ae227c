/- Set, out of what it calls. -/
import Derived.Test.YtgnlfikkmomghaaGreatDoorOpu
namespace Go.Proofs.YtgnlfikkmomghaaGreatDoor.Opt
open Go.RowKit Go.Maps

set_option maxRecDepth 100000 in
set_option maxHeartbeats 4000000 in
theorem open_ok {B : Nat} (b : Nat) (sc : Int) (own : Value) (q : Option Addr) (l t : Tx) (o : Op8) (i : Int) (hl : l.length ≤ 140737488355328) (htl : t.length ≤ 1024) (w : World) (ht : Tabs B w) (hB : B ≤ w.heap.size)
    (hs : SetB w b sc own q) (hn : namedP l = some (o, i)) (hsc : sc ≤ o.scope) :
    Calls Tryz.prog 53 #[.pointer (some ⟨b, 0, none⟩), .string (bs l), .string (bs t)] w fun e w' => e = .returned (.tuple #[placeV o i, .int .i64 0]) ∧ Below w.heap.size w w' := by
  obtain ⟨nm, sc2, kd, fi, le, mo, ch⟩ := o
  dsimp only at hsc
  have H1 := Lib.hid (fun w' (hb : Below w.heap.size w w') => named_any l hl w' (ht.below (hb.mono hB)) (Nat.le_trans hB hb.size))
  rw [hn] at H1
  have hsz : (bs t).size = t.length := bs_size t
  have d1 : decide (sc2 < sc) = false := decide_eq_false (by omega)
  have hsc' : ¬ sc2 < sc := by omega
  have HZ := Lib.hid (BL.new w 95 (placeL noOpt 0))
  have HS := Lib.hid hs
  clear ht hn hs
  go_enter Tryz.func53, Tryz.ntmps53
  go_wp2_with fail
  refine (H1.out _ ((Below.refl _ w).alloc (Nat.le_refl _) _)).mono ?_
  rintro e w1 ⟨rfl, hb1⟩
  have hz1 := (HZ.out.keep (hb1.block _ HZ.out.lt)).alloc (.cells (placeL ⟨nm, sc2, kd, fi, le, mo, ch⟩ i).toArray 95)
  have hb0 := ((Below.refl _ w).alloc (Nat.le_refl _) (.cells (placeL noOpt 0).toArray 95)).trans (hb1.mono (by simp))
  have HB1 := Lib.hid (hb0.alloc hb0.size (.cells (placeL ⟨nm, sc2, kd, fi, le, mo, ch⟩ i).toArray 95))
  have hs1 : w.heap.size + 1 ≤ w1.heap.size := by have := hb1.size; rw [size_alloc] at this; exact this
  have HZ1 := Lib.hid hz1
  have c0 : (w1.alloc (.cells #[.string (bs nm), .int .i64 sc2, .string (bs kd), .string (bs fi), .int .i64 le, .int .i64 mo, .string (bs ch), .int .i64 i] 95)).cell? ⟨b, 0, none⟩ = some (.int .i64 sc) := ((hb0.alloc hb0.size _).cell (p := ⟨b, 0, none⟩) (BL.lt HS.out)).trans (BL.cell HS.out 0)
  have hA := BL.new w1 95 [.string (bs nm), .int .i64 sc2, .string (bs kd), .string (bs fi), .int .i64 le, .int .i64 mo, .string (bs ch), .int .i64 i]
  have p1 : (w1.alloc (.cells #[.string (bs nm), .int .i64 sc2, .string (bs kd), .string (bs fi), .int .i64 le, .int .i64 mo, .string (bs ch), .int .i64 i] 95)).cell? ⟨w1.heap.size, 1, none⟩ = some (.int .i64 sc2) := hA.cell 1
  have HAR := Lib.hid ((hA.range (o := 0) (vs := [.string (bs nm), .int .i64 sc2, .string (bs kd), .string (bs fi), .int .i64 le, .int .i64 mo, .string (bs ch), .int .i64 i]) (fun j v hj => by rw [Nat.zero_add]; exact hj)))
  clear hb1 hz1 hb0 H1 HZ HS hA
  dsimp only [namedV, placeV, placeL]
  go_wp2_with fail
  go_region
  go_wp2_with (first
    | (refine wpList_load_mid rfl 95 _ rfl w1.heap.size 0 rfl [.string (bs nm), .int .i64 sc2, .string (bs kd), .string (bs fi), .int .i64 le, .int .i64 mo, .string (bs ch), .int .i64 i] _ HAR.out Tryz.underlying95 rfl (by kernel_rfl) ?_)
    | (refine wpList_store_all rfl 95 _ _ rfl w.heap.size (placeL ⟨nm, sc2, kd, fi, le, mo, ch⟩ i) rfl rfl 95 _ HZ1.out rfl (by kernel_rfl) (placeL_one _ _) ?_; intro w4 h0 ho hs4; have H0 := Lib.hid h0; have HO := Lib.hid ho; clear h0 ho))
  refine bodyPost_ret (results_ct (p := 6) (u := 7) (by kernel_rfl) _ _ w.heap.size _ _ _ rfl H0.out Tryz.underlying95 rfl (by kernel_rfl)) rfl ⟨rfl, ?_⟩
  exact HB1.out.drew.trans (HO.out.below (by have := HB1.out.size; simpa using this) (by simp))
end Go.Proofs.YtgnlfikkmomghaaGreatDoor.Opt
