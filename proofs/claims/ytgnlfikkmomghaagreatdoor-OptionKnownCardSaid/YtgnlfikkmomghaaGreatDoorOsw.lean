/- The examples: they hold. -/
import Derived.Test.YtgnlfikkmomghaaGreatDoorOx2
namespace Go.Proofs.YtgnlfikkmomghaaGreatDoor.Opt
open Go.RowKit Go.Maps
theorem _root_.Go.World.ownsMap.later {H : Type} {P : Program} {k : TypeId} {R : Value → Option (DataW H × List MemPlace)} {w w' : World} {b n : Nat} {D : DataW H} (h : w.ownsMap P k R b n D) (hb : Below w.heap.size w w') : w'.ownsMap P k R b n D := by
  obtain ⟨es, cl, h1, h2⟩ := h
  exact ⟨es, cl, (hb.block _ (Array.getElem?_eq_some_iff.1 h1).1).trans h1, h2⟩

set_option maxRecDepth 100000 in
set_option maxHeartbeats 8000000 in
theorem shown_any {B : Nat} (w : World) (ht : Tabs B w) (hB : B ≤ w.heap.size) :
    Calls Tryz.prog 9 #[] w fun e w' => e = .returned (.bool true) ∧ Below w.heap.size w w' := by
  have HT := Lib.hid ht
  clear ht
  go_enter Tryz.func9, Tryz.ntmps9
  go_wp2_with fail
  refine (new_nil 1 (by omega) (by omega) w).mono ?_
  rintro e w1 ⟨rfl, hA, hb1⟩
  have HA := Lib.hid hA
  have HB1 := Lib.hid hb1
  have hs1 : w.heap.size + 1 ≤ w1.heap.size := BL.lt hA
  clear hA hb1
  go_wp2_with fail
  refine (new_over 2 (by omega) (by omega) w.heap.size 1 (.map none) none w1 HA.out (by omega)).mono ?_
  rintro e w2 ⟨rfl, hBb, hb2⟩
  have hst : St w w2 w.heap.size w1.heap.size (.map none) := ⟨BL.keep HA.out (hb2.block _ (BL.lt HA.out)), hBb, Nat.le_refl _, by omega, by omega, HB1.out.trans (hb2.mono (by omega))⟩
  have ST := Lib.hid hst
  clear hst hBb hb2 HA HB1
  go_wp2_with fail
  refine (s_get0 HT.out hB ST.out).mono ?_
  rintro e w3 ⟨rfl, hb3⟩
  have ST3 := Lib.hid (ST.out.below hb3)
  clear hb3 ST
  go_wp2_with fail
  refine (s_set1 HT.out hB ST3.out).mono ?_
  rintro e w4 ⟨rfl, m, hmb, hm0, hst4, ho4⟩
  have ST4 := Lib.hid hst4
  have O4 := Lib.hid ho4
  clear hst4 ho4 ST3
  go_wp2_with fail
  refine (s_get1 HT.out hB ST4.out O4.out).mono ?_
  rintro e w5 ⟨rfl, hb5⟩
  have ST5 := Lib.hid (ST4.out.below hb5)
  have O5 := Lib.hid (O4.out.later hb5)
  clear hb5 ST4 O4
  go_wp2_with fail
  refine (s_set2 HT.out hB hmb hm0 ST5.out O5.out).mono ?_
  rintro e w6 ⟨rfl, hst6, ho6⟩
  have ST6 := Lib.hid hst6
  have O6 := Lib.hid ho6
  clear hst6 ho6 ST5 O5
  go_wp2_with fail
  refine (s_num HT.out hB ST6.out O6.out).mono ?_
  rintro e w7 ⟨rfl, hb7⟩
  have ST7 := Lib.hid (ST6.out.below hb7)
  have O7 := Lib.hid (O6.out.later hb7)
  clear hb7 ST6 O6
  go_wp2_with fail
  refine (s_known (ST7.out.tabs HT.out hB).1 (ST7.out.tabs HT.out hB).2).mono ?_
  rintro e w8 ⟨rfl, hb8⟩
  have ST8 := Lib.hid (ST7.out.below hb8)
  have O8 := Lib.hid (O7.out.later hb8)
  clear hb8 ST7 O7
  have e1 : ((bs onT).toList == [111, 110]) = true := by rw [bs_tl]; rfl
  have e2 : ((bs offT).toList == [111, 102, 102]) = true := by rw [bs_tl]; rfl
  have e3 : ((bs [104, 105, 115, 116, 111, 114, 121, 45, 108, 105, 109, 105, 116]).toList == [104, 105, 115, 116, 111, 114, 121, 45, 108, 105, 109, 105, 116]) = true := by rw [bs_tl]; rfl
  have e4 : ((bs numK).toList == [110, 117, 109, 98, 101, 114]) = true := by rw [bs_tl]; rfl
  generalize onT = x1 at *
  generalize offT = x2 at *
  generalize numK = x3 at *
  go_wp2_with fail
  refine (s_stat HT.out hB ST8.out [111, 110]).mono ?_
  rintro e w9 ⟨rfl, hb9⟩
  have ST9 := Lib.hid (ST8.out.below hb9)
  have O9 := Lib.hid (O8.out.later hb9)
  clear hb9 ST8 O8
  go_wp2_with fail
  refine (s_names ST9.out O9.out).mono ?_
  rintro e w10 ⟨⟨A, c, rfl⟩, hb10⟩
  have ST10 := Lib.hid (ST9.out.below hb10).kept
  clear hb10 ST9 O9
  go_wp2_with fail
  go_ret
  exact ⟨rfl, ST10.out⟩
end Go.Proofs.YtgnlfikkmomghaaGreatDoor.Opt
