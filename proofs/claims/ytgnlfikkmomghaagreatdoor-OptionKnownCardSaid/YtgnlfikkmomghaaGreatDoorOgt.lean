/- Get and Number, of what find tells. -/
import Derived.Test.YtgnlfikkmomghaaGreatDoorOfj
namespace Go.Proofs.YtgnlfikkmomghaaGreatDoor.Opt
open Go.RowKit Go.Maps

set_option maxRecDepth 100000 in
set_option maxHeartbeats 2000000 in
theorem get_of (b : Nat) (l : Tx) (o : Op8) (i : Int) (t : ByteArray) (er : Int) (w : World)
    (hf : Calls Tryz.prog 76 #[.pointer (some ⟨b, 0, none⟩), .string (bs l)] w fun e w' => e = .returned (findV o i t er) ∧ Below w.heap.size w w') :
    Calls Tryz.prog 37 #[.pointer (some ⟨b, 0, none⟩), .string (bs l)] w fun e w' => e = .returned (.tuple #[.string t, .int .i64 er]) ∧ Below w.heap.size w w' := by
  have HF := Lib.hid hf
  clear hf
  go_enter Tryz.func37, Tryz.ntmps37
  go_wp2_with fail
  refine HF.out.mono ?_
  rintro e w1 ⟨rfl, hb⟩
  have HB := Lib.hid hb
  clear hb HF
  dsimp only [findV, placeV, placeL]
  go_wp2_with fail
  go_ret2
  exact ⟨rfl, HB.out.alloc HB.out.size _⟩
def numK : Tx := [110, 117, 109, 98, 101, 114]
def flagK : Tx := [102, 108, 97, 103]
set_option maxRecDepth 100000 in
set_option maxHeartbeats 2000000 in
theorem getOf_of (kd : Tx) (b : Nat) (l : Tx) (o : Op8) (i : Int) (t : ByteArray) (w : World) (hk : o.kind = kd)
    (hf : Calls Tryz.prog 76 #[.pointer (some ⟨b, 0, none⟩), .string (bs l)] w fun e w' => e = .returned (findV o i t 0) ∧ Below w.heap.size w w') :
    Calls Tryz.prog 77 #[.pointer (some ⟨b, 0, none⟩), .string (bs kd), .string (bs l)] w fun e w' => e = .returned (.tuple #[.string t, .int .i64 0]) ∧ Below w.heap.size w w' := by
  have HF := Lib.hid hf
  obtain ⟨nm, sc, kd2, fi, le, mo, ch⟩ := o
  dsimp only at hk
  subst hk
  clear hf
  go_enter Tryz.func77, Tryz.ntmps77
  go_wp2_with fail
  refine HF.out.mono ?_
  rintro e w1 ⟨rfl, hb⟩
  have HB := Lib.hid hb
  clear hb HF
  dsimp only [findV, placeV, placeL]
  go_wp2_with fail
  go_ret2
  exact ⟨rfl, HB.out.alloc HB.out.size _⟩
set_option maxRecDepth 100000 in
set_option maxHeartbeats 2000000 in
theorem number_of {B : Nat} (b : Nat) (l : Tx) (o : Op8) (i : Int) (t : Tx) (v : Int) (w : World) (ht : Tabs B w) (hB : B ≤ w.heap.size) (htl : t.length ≤ 281474976710656) (hk : o.kind = numK) (hp : atoiP t = (v, false))
    (hf : Calls Tryz.prog 76 #[.pointer (some ⟨b, 0, none⟩), .string (bs l)] w fun e w' => e = .returned (findV o i (bs t) 0) ∧ Below w.heap.size w w') :
    Calls Tryz.prog 39 #[.pointer (some ⟨b, 0, none⟩), .string (bs l)] w fun e w' => e = .returned (.tuple #[.int .i64 v, .int .i64 0]) ∧ Below w.heap.size w w' := by
  have H1 := Lib.hid (getOf_of numK b l o i (bs t) w hk hf)
  have H2 := Lib.hid (fun w' (hb : Below w.heap.size w w') => atoi_any t htl w' (ht.below (hb.mono hB)))
  rw [hp] at H2
  clear hf ht hk hp
  go_enter Tryz.func39, Tryz.ntmps39
  go_wp2_with fail
  refine H1.out.mono ?_
  rintro e w1 ⟨rfl, hb⟩
  have HB := Lib.hid hb
  clear H1
  go_wp2_with fail
  refine (H2.out w1 hb).mono ?_
  rintro e w2 ⟨⟨ev, rfl, hev⟩, hb2⟩
  have HB2 := Lib.hid (HB.out.trans (hb2.mono hb.size))
  clear hb hb2 H2 hev
  go_wp2_with fail
  go_ret2
  exact ⟨rfl, HB2.out⟩
/-! ### What a kind makes of a text -/
set_option maxRecDepth 100000 in
set_option maxHeartbeats 2000000 in
theorem flag_no (w : World) : Calls Tryz.prog 180 #[.string ⟨#[110, 111]⟩] w fun e w' => e = .returned (.tuple #[.string ⟨#[111, 102, 102]⟩, .bool true]) ∧ w' = w := by
  go_enter Tryz.func180, Tryz.ntmps180
  go_wp2_with fail
  go_ret2
  exact ⟨rfl, rfl⟩
theorem made_flag (nm : Tx) (sc : Int) (fi : Tx) (le mo : Int) (ch : Tx) (w : World) : Calls Tryz.prog 140 #[optV ⟨nm, sc, flagK, fi, le, mo, ch⟩, .string ⟨#[110, 111]⟩] w fun e w' => e = .returned (.tuple #[.string ⟨#[111, 102, 102]⟩, .bool true]) ∧ Below w.heap.size w w' := by
  have e1 : ((bs flagK).toList == [110, 117, 109, 98, 101, 114]) = false := by rw [bs_tl]; rfl
  have e2 : ((bs flagK).toList == [102, 108, 97, 103]) = true := by rw [bs_tl]; rfl
  dsimp only [optV, optL]
  generalize flagK = kd at *
  go_enter Tryz.func140, Tryz.ntmps140
  go_wp2_with fail
  refine (flag_no _).mono ?_
  rintro e w2 ⟨rfl, rfl⟩
  go_wp2_with fail
  go_ret2
  exact ⟨rfl, (Below.refl _ w).alloc (Nat.le_refl _) _⟩
end Go.Proofs.YtgnlfikkmomghaaGreatDoor.Opt
