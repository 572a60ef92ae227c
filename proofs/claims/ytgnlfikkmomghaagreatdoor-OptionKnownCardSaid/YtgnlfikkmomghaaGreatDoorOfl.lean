/- fill and Set, out of what they call. -/
import Derived.Test.YtgnlfikkmomghaaGreatDoorOop
namespace Go.Proofs.YtgnlfikkmomghaaGreatDoor.Opt
open Go.RowKit Go.Maps

set_option maxRecDepth 100000 in
set_option maxHeartbeats 4000000 in
theorem fill_of (b : Nat) (nm : Tx) (sc : Int) (kd fi : Tx) (le mo : Int) (ch : Tx) (i : Int) (t : Tx) (m : ByteArray) (A : Option Addr) (k c : Nat) (w : World) (Φ : World → World → Prop)
    (hv : ∀ w', Below w.heap.size w w' → Calls Tryz.prog 94 #[.pointer (some ⟨b, 0, none⟩), placeV ⟨nm, sc, kd, fi, le, mo, ch⟩ i, .string (bs t)] w' fun e w'' => e = .returned (.tuple #[.agg #[.string m, .slice A k c], .int .i64 0]) ∧ Below w'.heap.size w' w'')
    (hr : ∀ w', Below w.heap.size w w' → Calls Tryz.prog 95 #[.pointer (some ⟨b, 0, none⟩), .string (bs nm), .agg #[.string m, .slice A k c]] w' fun e w'' => e = .returned (.bool true) ∧ Below w'.heap.size w' w'')
    (hp : ∀ w', Below w.heap.size w w' → Calls Tryz.prog 96 #[.pointer (some ⟨b, 1, none⟩), .string (bs nm), .agg #[.string m, .slice A k c]] w' fun e w'' => e = .returned (.tuple #[]) ∧ Φ w' w'') :
    Calls Tryz.prog 54 #[.pointer (some ⟨b, 0, none⟩), placeV ⟨nm, sc, kd, fi, le, mo, ch⟩ i, .string (bs t)] w fun e w' => e = .returned (.int .i64 0) ∧ ∃ w1, Below w.heap.size w w1 ∧ Φ w1 w' := by
  have HV := Lib.hid hv
  have HR := Lib.hid hr
  have HP := Lib.hid hp
  have hA := BL.new w 95 [.string (bs nm), .int .i64 sc, .string (bs kd), .string (bs fi), .int .i64 le, .int .i64 mo, .string (bs ch), .int .i64 i]
  have HA := Lib.hid hA
  have HAR := Lib.hid ((hA.range (o := 0) (vs := [.string (bs nm), .int .i64 sc, .string (bs kd), .string (bs fi), .int .i64 le, .int .i64 mo, .string (bs ch), .int .i64 i]) (fun j v hj => by rw [Nat.zero_add]; exact hj)))
  have HB0 := Lib.hid ((Below.refl _ w).alloc (Nat.le_refl _) (.cells #[.string (bs nm), .int .i64 sc, .string (bs kd), .string (bs fi), .int .i64 le, .int .i64 mo, .string (bs ch), .int .i64 i] 95))
  clear hv hr hp hA
  dsimp only [placeV, placeL] at HV ⊢
  go_enter Tryz.func54, Tryz.ntmps54
  go_wp2_with (refine wpList_load_mid rfl 95 _ rfl w.heap.size 0 rfl [.string (bs nm), .int .i64 sc, .string (bs kd), .string (bs fi), .int .i64 le, .int .i64 mo, .string (bs ch), .int .i64 i] _ HAR.out Tryz.underlying95 rfl (by kernel_rfl) ?_)
  refine (HV.out _ HB0.out).mono ?_
  rintro e w1 ⟨rfl, hb1⟩
  have hA1 := (HA.out.keep (hb1.block _ HA.out.lt)).alloc (.cells #[.string m, .slice A k c] 78)
  have hb1w := HB0.out.trans (hb1.mono HB0.out.size)
  have hb2w := hb1w.alloc hb1w.size (.cells #[.string m, .slice A k c] 78)
  have hH := BL.new w1 78 [.string m, .slice A k c]
  have n0 : (w1.alloc (.cells #[.string m, .slice A k c] 78)).cell? ⟨w.heap.size, 0, none⟩ = some (.string (bs nm)) := hA1.cell 0
  clear HV HAR HB0 HA hb1 hb1w
  go_wp2_with fail
  refine (HR.out _ hb2w).mono ?_
  rintro e w3 ⟨rfl, hb3⟩
  have hA3 := hA1.keep (hb3.block _ hA1.lt)
  have hH3 := hH.keep (hb3.block _ hH.lt)
  have hb3w := hb2w.trans (hb3.mono hb2w.size)
  have HB3 := Lib.hid hb3w
  have n3 : w3.cell? ⟨w.heap.size, 0, none⟩ = some (.string (bs nm)) := hA3.cell 0
  have h30 : w3.cell? ⟨w1.heap.size, 0, none⟩ = some (.string m) := hH3.cell 0
  have h31 : w3.cell? ⟨w1.heap.size, 1, none⟩ = some (.slice A k c) := hH3.cell 1
  clear HR hb3 hA1 hH hb2w hb3w n0 hA3 hH3
  go_wp2_with fail
  have hd3 : Below w.heap.size w w3.drew := HB3.out.drew
  go_region_with (go_at_call 96; refine (HP.out _ hd3).mono ?_; rintro _ w5 ⟨rfl, hphi⟩; have HPHI := Lib.hid hphi; clear hphi)
  all_goals go_wp2_with fail
  all_goals go_ret
  all_goals exact ⟨rfl, _, hd3, HPHI.out⟩

set_option maxRecDepth 100000 in
set_option maxHeartbeats 4000000 in
theorem set_of (b : Nat) (l t : Tx) (o : Op8) (i : Int) (w : World) (Φ : World → World → Prop)
    (ho : Calls Tryz.prog 53 #[.pointer (some ⟨b, 0, none⟩), .string (bs l), .string (bs t)] w fun e w' => e = .returned (.tuple #[placeV o i, .int .i64 0]) ∧ Below w.heap.size w w')
    (hf : ∀ w', Below w.heap.size w w' → Calls Tryz.prog 54 #[.pointer (some ⟨b, 0, none⟩), placeV o i, .string (bs t)] w' fun e w'' => e = .returned (.int .i64 0) ∧ ∃ w1, Below w'.heap.size w' w1 ∧ Φ w1 w'') :
    Calls Tryz.prog 18 #[.pointer (some ⟨b, 0, none⟩), .string (bs l), .string (bs t)] w fun e w' => e = .returned (.int .i64 0) ∧ ∃ w1, Below w.heap.size w w1 ∧ Φ w1 w' := by
  obtain ⟨nm, sc, kd, fi, le, mo, ch⟩ := o
  dsimp only [placeV, placeL] at ho hf
  have HO := Lib.hid ho
  have HF := Lib.hid hf
  clear ho hf
  go_enter Tryz.func18, Tryz.ntmps18
  go_wp2_with fail
  refine HO.out.mono ?_
  rintro e w1 ⟨rfl, hb1⟩
  have hb1w := hb1.alloc hb1.size (.cells #[.string (bs nm), .int .i64 sc, .string (bs kd), .string (bs fi), .int .i64 le, .int .i64 mo, .string (bs ch), .int .i64 i] 95)
  have hA := BL.new w1 95 [.string (bs nm), .int .i64 sc, .string (bs kd), .string (bs fi), .int .i64 le, .int .i64 mo, .string (bs ch), .int .i64 i]
  have HAR := Lib.hid ((hA.range (o := 0) (vs := [.string (bs nm), .int .i64 sc, .string (bs kd), .string (bs fi), .int .i64 le, .int .i64 mo, .string (bs ch), .int .i64 i]) (fun j v hj => by rw [Nat.zero_add]; exact hj)))
  clear hA HO hb1
  go_wp2_with (refine wpList_load_mid rfl 95 _ rfl w1.heap.size 0 rfl [.string (bs nm), .int .i64 sc, .string (bs kd), .string (bs fi), .int .i64 le, .int .i64 mo, .string (bs ch), .int .i64 i] _ HAR.out Tryz.underlying95 rfl (by kernel_rfl) ?_)
  refine (HF.out _ hb1w).mono ?_
  rintro e w2 ⟨rfl, w3, h3, hphi⟩
  have HPHI := Lib.hid hphi
  have HB3 := Lib.hid (hb1w.trans (h3.mono hb1w.size))
  clear hphi h3 hb1w
  go_wp2_with fail
  go_ret
  exact ⟨rfl, w3, HB3.out, HPHI.out⟩

/-- A name that is none's is refused. -/
theorem open_no {B : Nat} (b : Nat) (l t : Tx) (hl : l.length ≤ 140737488355328) (w : World) (ht : Tabs B w) (hB : B ≤ w.heap.size) (hn : namedP l = none) :
    Calls Tryz.prog 53 #[.pointer (some ⟨b, 0, none⟩), .string (bs l), .string (bs t)] w fun e w' => e = .returned (.tuple #[placeV noOpt 0, .int .i64 6]) ∧ Below w.heap.size w w' := by
  have H1 := Lib.hid (fun w' (hb : Below w.heap.size w w') => named_any l hl w' (ht.below (hb.mono hB)) (Nat.le_trans hB hb.size))
  rw [hn] at H1
  have HZ := Lib.hid (BL.new w 95 (placeL noOpt 0))
  clear ht hn
  go_enter Tryz.func53, Tryz.ntmps53
  go_wp2_with fail
  refine (H1.out _ ((Below.refl _ w).alloc (Nat.le_refl _) _)).mono ?_
  rintro e w1 ⟨rfl, hb1⟩
  have HZ1 := Lib.hid ((HZ.out.keep (hb1.block _ HZ.out.lt)).alloc (.cells (placeL noOpt 0).toArray 95))
  have hb0 := ((Below.refl _ w).alloc (Nat.le_refl _) (.cells (placeL noOpt 0).toArray 95)).trans (hb1.mono (by simp))
  have HB1 := Lib.hid (hb0.alloc hb0.size (.cells (placeL noOpt 0).toArray 95))
  clear hb1 hb0 H1 HZ
  dsimp only [namedV, placeV, placeL, noOpt]
  go_wp2_with (refine wpList_store_all rfl 95 _ _ rfl w.heap.size (placeL noOpt 0) rfl rfl 95 _ HZ1.out rfl (by kernel_rfl) (placeL_one _ _) ?_; intro w4 h0 ho hs4; have H0 := Lib.hid h0; have HO := Lib.hid ho; clear h0 ho)
  refine bodyPost_ret (results_ct (p := 6) (u := 7) (by kernel_rfl) _ _ w.heap.size _ _ _ rfl H0.out Tryz.underlying95 rfl (by kernel_rfl)) rfl ⟨rfl, ?_⟩
  exact HB1.out.trans (HO.out.below HB1.out.size (by simp))
theorem set_no (b : Nat) (l t : Tx) (er : Int) (h0 : er ≠ 0) (w : World)
    (ho : Calls Tryz.prog 53 #[.pointer (some ⟨b, 0, none⟩), .string (bs l), .string (bs t)] w fun e w' => e = .returned (.tuple #[placeV noOpt 0, .int .i64 er]) ∧ Below w.heap.size w w') :
    Calls Tryz.prog 18 #[.pointer (some ⟨b, 0, none⟩), .string (bs l), .string (bs t)] w fun e w' => e = .returned (.int .i64 er) ∧ Below w.heap.size w w' := by
  dsimp only [placeV, placeL, noOpt] at ho
  have HO := Lib.hid ho
  have d0 : (er != 0) = true := by simp [h0]
  clear ho
  go_enter Tryz.func18, Tryz.ntmps18
  go_wp2_with fail
  refine HO.out.mono ?_
  rintro e w1 ⟨rfl, hb1⟩
  have HB1 := Lib.hid (hb1.alloc hb1.size (.cells #[.string (bs []), .int .i64 0, .string (bs []), .string (bs []), .int .i64 0, .int .i64 0, .string (bs []), .int .i64 0] 95))
  clear hb1 HO
  go_wp2_with fail
  go_ret
  exact ⟨rfl, HB1.out⟩
end Go.Proofs.YtgnlfikkmomghaaGreatDoor.Opt
