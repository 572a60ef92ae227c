/- An environment's Get; NewEnv. -/
import Derived.Test.YthmadnadaakjaaaGreatDoorPOnb
import Derived.Shelf.SlIter.Nil
import Derived.Shelf.SortM.Plain
import Derived.Shelf.SortM.SortNone
import Derived.Ground.GgzProg
import Derived.Ground.SlgmProg
import Derived.Test.YthmadnadaakjaaaGreatDoorProg
import Derived.Shelf.Strings.Builder1
import Derived.Shelf.Strings.Builder2
import Derived.Shelf.Strings.OnBuilder
import Derived.Shelf.Strings.Trim
import Derived.Shelf.Small.Utf8
import Derived.Shelf.Small.Bits
import Derived.Shelf.Small.Strs
import Derived.Shelf.Small.Wraps
import Derived.Shelf.Strconv.Atoi
import Derived.Shelf.Strconv.Itoa0
import Derived.Shelf.Strconv.Itoa1
import Derived.Shelf.LaysM
import Derived.Shelf.Strconv.Itoa2
import Derived.Shelf.Strconv.Itoa3
import Derived.Shelf.Strconv.AtoiErrFast
import Derived.Shelf.Strconv.ParseIntEmpty
import Derived.Shelf.Strconv.AtoiFail
import Derived.Shelf.Strconv.Clone
import Derived.Shelf.Strconv.SyntaxError
import Derived.Shelf.LaysC
import Derived.Shelf.Strconv.ToError
import Derived.Shelf.Strconv.Lower
import Derived.Shelf.Strconv.ParseUint10
import Derived.Shelf.Strconv.ParseUint10Empty
import Derived.Shelf.Strconv.ParseUint10Any
import Derived.Shelf.Strconv.ParseInt10
import Derived.Shelf.Strconv.AtoiLong
import Derived.Shelf.Strconv.AtoiInnerAll
import Derived.Shelf.Strconv.RangeError
import Derived.Shelf.Strconv.ToErrorRange
import Derived.Shelf.Strconv.AtoiAll
import Derived.Shelf.Strconv.ErrVarAll
import Derived.Shelf.Strings.Search1
import Derived.Shelf.Strings.Search2
import Derived.Shelf.Strings.Search3
import Derived.Shelf.Strings.Cut
import Derived.Shelf.Strings.Count
import Derived.Shelf.Strings.Shaped
import Derived.Shelf.Strings.Prefix
import Derived.Shelf.Strings.Split
import Derived.Shelf.Strings.Runes
import Derived.Shelf.Strings.AsciiSet
import Derived.Shelf.Bits.Mul64
import Derived.Shelf.Unicode.DecodeSlow
import Derived.Shelf.Slices.Turned
import Derived.Test.YthmadnadaakjaaaGreatDoorPShelf
namespace Go.Proofs.YthmadnadaakjaaaGreatDoor.Opt.Ev
open Go.RowKit Go.Maps Go.Proofs.YthmadnadaakjaaaGreatDoor.Opt

set_option maxRecDepth 100000 in
set_option maxHeartbeats 4000000 in
theorem get_some (b : Nat) (ls : List (DataW Value)) (nm : Tx) (hl : nm.length ≤ maxLen) (s : ByteArray) (h : Bool) (w : World) (hs : LvAt w (some ⟨b, 0, none⟩) ls) (hv : lookP ls nm = some (.agg #[.string s, .bool h])) :
    Calls Tryz.prog 27 #[.pointer (some ⟨b, 0, none⟩), .string (bs nm)] w fun e w' => e = .returned (.tuple #[.string s, .bool (!h)]) ∧ Below w.heap.size w w' := by
  have H1 := Lib.hid (lookUp_any (some ⟨b, 0, none⟩) ls nm hl w hs)
  rw [hv] at H1
  clear hs hv
  go_enter Tryz.func27, Tryz.ntmps27
  go_wp2_with fail
  refine H1.out.mono ?_
  rintro e w1 ⟨rfl, hb1⟩
  have HB := Lib.hid (hb1.alloc hb1.size (.cells #[.string s, .bool h] 123))
  clear hb1 H1
  dsimp only [lookV]
  go_wp2_with fail
  go_region
  go_wp2_with fail
  go_ret2
  exact ⟨rfl, HB.out.drew⟩
set_option maxRecDepth 100000 in
set_option maxHeartbeats 4000000 in
theorem get_none (b : Nat) (ls : List (DataW Value)) (nm : Tx) (hl : nm.length ≤ maxLen) (w : World) (hs : LvAt w (some ⟨b, 0, none⟩) ls) (hv : lookP ls nm = none) :
    Calls Tryz.prog 27 #[.pointer (some ⟨b, 0, none⟩), .string (bs nm)] w fun e w' => e = .returned (.tuple #[.string ⟨#[]⟩, .bool false]) ∧ Below w.heap.size w w' := by
  have H1 := Lib.hid (lookUp_any (some ⟨b, 0, none⟩) ls nm hl w hs)
  rw [hv] at H1
  clear hs hv
  go_enter Tryz.func27, Tryz.ntmps27
  go_wp2_with fail
  refine H1.out.mono ?_
  rintro e w1 ⟨rfl, hb1⟩
  have HB := Lib.hid (hb1.alloc hb1.size (.cells #[.string ⟨#[]⟩, .bool false] 123))
  clear hb1 H1
  dsimp only [lookV, zeroH]
  go_wp2_with fail
  go_region
  go_wp2_with fail
  go_ret2
  exact ⟨rfl, HB.out.drew⟩
set_option maxRecDepth 100000 in
set_option maxHeartbeats 4000000 in
theorem new_nil (w : World) :
    Calls Tryz.prog 21 #[.pointer none] w fun e w' => e = .returned (.pointer (some ⟨w.heap.size, 0, none⟩)) ∧ EnvA w' w.heap.size (.map none) none (.map []) 0 ∧ Below w.heap.size w w' := by
  have HN := Lib.hid (BL.new w 117 [.map none, .pointer none])
  have HB := Lib.hid ((Below.refl w.heap.size w).alloc (Nat.le_refl _) (.cells #[.map none, .pointer none] 117))
  go_enter Tryz.func21, Tryz.ntmps21
  go_wp2_with fail
  go_ret
  exact ⟨rfl, ⟨HN.out, .inl ⟨rfl, rfl⟩⟩, HB.out⟩
set_option maxRecDepth 100000 in
set_option maxHeartbeats 4000000 in
theorem new_over (b : Nat) (w : World) :
    Calls Tryz.prog 21 #[.pointer (some ⟨b, 0, none⟩)] w fun e w' => e = .returned (.pointer (some ⟨w.heap.size, 0, none⟩)) ∧ EnvA w' w.heap.size (.map none) (some ⟨b, 0, none⟩) (.map []) 0 ∧ Below w.heap.size w w' := by
  have HN := Lib.hid (BL.new w 117 [.map none, .pointer (some ⟨b, 0, none⟩)])
  have HB := Lib.hid ((Below.refl w.heap.size w).alloc (Nat.le_refl _) (.cells #[.map none, .pointer (some ⟨b, 0, none⟩)] 117))
  go_enter Tryz.func21, Tryz.ntmps21
  go_wp2_with fail
  go_ret
  exact ⟨rfl, ⟨HN.out, .inl ⟨rfl, rfl⟩⟩, HB.out⟩
end Go.Proofs.YthmadnadaakjaaaGreatDoor.Opt.Ev
/- Set, out of what it calls. -/
namespace Go.Proofs.YthmadnadaakjaaaGreatDoor.Opt
open Go.RowKit Go.Maps

set_option maxRecDepth 100000 in
set_option maxHeartbeats 4000000 in
theorem open_ok {B : Nat} (b : Nat) (sc : Int) (own : Value) (q : Option Addr) (l t : Tx) (o : Op8) (i : Int) (hl : l.length ≤ 140737488355328) (htl : t.length ≤ 1024) (w : World) (ht : Tabs B w) (hB : B ≤ w.heap.size)
    (hs : SetB w b sc own q) (hn : namedP l = some (o, i)) (hsc : sc ≤ o.scope) :
    Calls Tryz.prog 37 #[.pointer (some ⟨b, 0, none⟩), .string (bs l), .string (bs t)] w fun e w' => e = .returned (.tuple #[placeV o i, .int .i64 0]) ∧ Below w.heap.size w w' := by
  obtain ⟨nm, sc2, kd, fi, le, mo, ch⟩ := o
  dsimp only at hsc
  have H1 := Lib.hid (fun w' (hb : Below w.heap.size w w') => named_any l hl w' (ht.below (hb.mono hB)) (Nat.le_trans hB hb.size))
  rw [hn] at H1
  have hsz : (bs t).size = t.length := bs_size t
  have d1 : decide (sc2 < sc) = false := decide_eq_false (by omega)
  have hsc' : ¬ sc2 < sc := by omega
  have HZ := Lib.hid (BL.new w 75 (placeL noOpt 0))
  have HS := Lib.hid hs
  clear ht hn hs
  go_enter Tryz.func37, Tryz.ntmps37
  go_wp2_with fail
  refine (H1.out _ ((Below.refl _ w).alloc (Nat.le_refl _) _)).mono ?_
  rintro e w1 ⟨rfl, hb1⟩
  have hz1 := (HZ.out.keep (hb1.block _ HZ.out.lt)).alloc (.cells (placeL ⟨nm, sc2, kd, fi, le, mo, ch⟩ i).toArray 75)
  have hb0 := ((Below.refl _ w).alloc (Nat.le_refl _) (.cells (placeL noOpt 0).toArray 75)).trans (hb1.mono (by simp))
  have HB1 := Lib.hid (hb0.alloc hb0.size (.cells (placeL ⟨nm, sc2, kd, fi, le, mo, ch⟩ i).toArray 75))
  have hs1 : w.heap.size + 1 ≤ w1.heap.size := by have := hb1.size; rw [size_alloc] at this; exact this
  have HZ1 := Lib.hid hz1
  have c0 : (w1.alloc (.cells #[.string (bs nm), .int .i64 sc2, .string (bs kd), .string (bs fi), .int .i64 le, .int .i64 mo, .string (bs ch), .int .i64 i] 75)).cell? ⟨b, 0, none⟩ = some (.int .i64 sc) := ((hb0.alloc hb0.size _).cell (p := ⟨b, 0, none⟩) (BL.lt HS.out)).trans (BL.cell HS.out 0)
  have hA := BL.new w1 75 [.string (bs nm), .int .i64 sc2, .string (bs kd), .string (bs fi), .int .i64 le, .int .i64 mo, .string (bs ch), .int .i64 i]
  have p1 : (w1.alloc (.cells #[.string (bs nm), .int .i64 sc2, .string (bs kd), .string (bs fi), .int .i64 le, .int .i64 mo, .string (bs ch), .int .i64 i] 75)).cell? ⟨w1.heap.size, 1, none⟩ = some (.int .i64 sc2) := hA.cell 1
  have HAR := Lib.hid ((hA.range (o := 0) (vs := [.string (bs nm), .int .i64 sc2, .string (bs kd), .string (bs fi), .int .i64 le, .int .i64 mo, .string (bs ch), .int .i64 i]) (fun j v hj => by rw [Nat.zero_add]; exact hj)))
  clear hb1 hz1 hb0 H1 HZ HS hA
  dsimp only [namedV, placeV, placeL]
  go_wp2_with fail
  go_region
  go_wp2_with (first
    | (refine wpList_load_mid rfl 75 _ rfl w1.heap.size 0 rfl [.string (bs nm), .int .i64 sc2, .string (bs kd), .string (bs fi), .int .i64 le, .int .i64 mo, .string (bs ch), .int .i64 i] _ HAR.out Tryz.underlying75 rfl (by kernel_rfl) ?_)
    | (refine wpList_store_all rfl 75 _ _ rfl w.heap.size (placeL ⟨nm, sc2, kd, fi, le, mo, ch⟩ i) rfl rfl 75 _ HZ1.out rfl (by kernel_rfl) (placeL_one _ _) ?_; intro w4 h0 ho hs4; have H0 := Lib.hid h0; have HO := Lib.hid ho; clear h0 ho))
  refine bodyPost_ret (results_ct (p := 6) (u := 7) (by kernel_rfl) _ _ w.heap.size _ _ _ rfl H0.out Tryz.underlying75 rfl (by kernel_rfl)) rfl ⟨rfl, ?_⟩
  exact HB1.out.drew.trans (HO.out.below (by have := HB1.out.size; simpa using this) (by simp))
end Go.Proofs.YthmadnadaakjaaaGreatDoor.Opt
/- fill and Set, out of what they call. -/
namespace Go.Proofs.YthmadnadaakjaaaGreatDoor.Opt
open Go.RowKit Go.Maps

set_option maxRecDepth 100000 in
set_option maxHeartbeats 4000000 in
theorem fill_of (b : Nat) (nm : Tx) (sc : Int) (kd fi : Tx) (le mo : Int) (ch : Tx) (i : Int) (t : Tx) (m : ByteArray) (A : Option Addr) (k c : Nat) (w : World) (Φ : World → World → Prop)
    (hv : ∀ w', Below w.heap.size w w' → Calls Tryz.prog 74 #[.pointer (some ⟨b, 0, none⟩), placeV ⟨nm, sc, kd, fi, le, mo, ch⟩ i, .string (bs t)] w' fun e w'' => e = .returned (.tuple #[.agg #[.string m, .slice A k c], .int .i64 0]) ∧ Below w'.heap.size w' w'')
    (hr : ∀ w', Below w.heap.size w w' → Calls Tryz.prog 75 #[.pointer (some ⟨b, 0, none⟩), .string (bs nm), .agg #[.string m, .slice A k c]] w' fun e w'' => e = .returned (.bool true) ∧ Below w'.heap.size w' w'')
    (hp : ∀ w', Below w.heap.size w w' → Calls Tryz.prog 76 #[.pointer (some ⟨b, 1, none⟩), .string (bs nm), .agg #[.string m, .slice A k c]] w' fun e w'' => e = .returned (.tuple #[]) ∧ Φ w' w'') :
    Calls Tryz.prog 38 #[.pointer (some ⟨b, 0, none⟩), placeV ⟨nm, sc, kd, fi, le, mo, ch⟩ i, .string (bs t)] w fun e w' => e = .returned (.int .i64 0) ∧ ∃ w1, Below w.heap.size w w1 ∧ Φ w1 w' := by
  have HV := Lib.hid hv
  have HR := Lib.hid hr
  have HP := Lib.hid hp
  have hA := BL.new w 75 [.string (bs nm), .int .i64 sc, .string (bs kd), .string (bs fi), .int .i64 le, .int .i64 mo, .string (bs ch), .int .i64 i]
  have HA := Lib.hid hA
  have HAR := Lib.hid ((hA.range (o := 0) (vs := [.string (bs nm), .int .i64 sc, .string (bs kd), .string (bs fi), .int .i64 le, .int .i64 mo, .string (bs ch), .int .i64 i]) (fun j v hj => by rw [Nat.zero_add]; exact hj)))
  have HB0 := Lib.hid ((Below.refl _ w).alloc (Nat.le_refl _) (.cells #[.string (bs nm), .int .i64 sc, .string (bs kd), .string (bs fi), .int .i64 le, .int .i64 mo, .string (bs ch), .int .i64 i] 75))
  clear hv hr hp hA
  dsimp only [placeV, placeL] at HV ⊢
  go_enter Tryz.func38, Tryz.ntmps38
  go_wp2_with (refine wpList_load_mid rfl 75 _ rfl w.heap.size 0 rfl [.string (bs nm), .int .i64 sc, .string (bs kd), .string (bs fi), .int .i64 le, .int .i64 mo, .string (bs ch), .int .i64 i] _ HAR.out Tryz.underlying75 rfl (by kernel_rfl) ?_)
  refine (HV.out _ HB0.out).mono ?_
  rintro e w1 ⟨rfl, hb1⟩
  have hA1 := (HA.out.keep (hb1.block _ HA.out.lt)).alloc (.cells #[.string m, .slice A k c] 90)
  have hb1w := HB0.out.trans (hb1.mono HB0.out.size)
  have hb2w := hb1w.alloc hb1w.size (.cells #[.string m, .slice A k c] 90)
  have hH := BL.new w1 90 [.string m, .slice A k c]
  have n0 : (w1.alloc (.cells #[.string m, .slice A k c] 90)).cell? ⟨w.heap.size, 0, none⟩ = some (.string (bs nm)) := hA1.cell 0
  clear HV HAR HB0 HA hb1 hb1w
  go_wp2_with fail
  refine (HR.out _ hb2w).mono ?_
  rintro e w3 ⟨rfl, hb3⟩
  have hA3 := hA1.keep (hb3.block _ hA1.lt)
  have hH3 := hH.keep (hb3.block _ hH.lt)
  have hb3w := hb2w.trans (hb3.mono hb2w.size)
  have HB3 := Lib.hid hb3w
  have n3 : w3.cell? ⟨w.heap.size, 0, none⟩ = some (.string (bs nm)) := hA3.cell 0
  have h30 : w3.cell? ⟨w1.heap.size, 0, none⟩ = some (.string m) := hH3.cell 0
  have h31 : w3.cell? ⟨w1.heap.size, 1, none⟩ = some (.slice A k c) := hH3.cell 1
  clear HR hb3 hA1 hH hb2w hb3w n0 hA3 hH3
  go_wp2_with fail
  have hd3 : Below w.heap.size w w3.drew := HB3.out.drew
  go_region_with (go_at_call 76; refine (HP.out _ hd3).mono ?_; rintro _ w5 ⟨rfl, hphi⟩; have HPHI := Lib.hid hphi; clear hphi)
  all_goals go_wp2_with fail
  all_goals go_ret
  all_goals exact ⟨rfl, _, hd3, HPHI.out⟩

set_option maxRecDepth 100000 in
set_option maxHeartbeats 4000000 in
theorem set_of (b : Nat) (l t : Tx) (o : Op8) (i : Int) (w : World) (Φ : World → World → Prop)
    (ho : Calls Tryz.prog 37 #[.pointer (some ⟨b, 0, none⟩), .string (bs l), .string (bs t)] w fun e w' => e = .returned (.tuple #[placeV o i, .int .i64 0]) ∧ Below w.heap.size w w')
    (hf : ∀ w', Below w.heap.size w w' → Calls Tryz.prog 38 #[.pointer (some ⟨b, 0, none⟩), placeV o i, .string (bs t)] w' fun e w'' => e = .returned (.int .i64 0) ∧ ∃ w1, Below w'.heap.size w' w1 ∧ Φ w1 w'') :
    Calls Tryz.prog 12 #[.pointer (some ⟨b, 0, none⟩), .string (bs l), .string (bs t)] w fun e w' => e = .returned (.int .i64 0) ∧ ∃ w1, Below w.heap.size w w1 ∧ Φ w1 w' := by
  obtain ⟨nm, sc, kd, fi, le, mo, ch⟩ := o
  dsimp only [placeV, placeL] at ho hf
  have HO := Lib.hid ho
  have HF := Lib.hid hf
  clear ho hf
  go_enter Tryz.func12, Tryz.ntmps12
  go_wp2_with fail
  refine HO.out.mono ?_
  rintro e w1 ⟨rfl, hb1⟩
  have hb1w := hb1.alloc hb1.size (.cells #[.string (bs nm), .int .i64 sc, .string (bs kd), .string (bs fi), .int .i64 le, .int .i64 mo, .string (bs ch), .int .i64 i] 75)
  have hA := BL.new w1 75 [.string (bs nm), .int .i64 sc, .string (bs kd), .string (bs fi), .int .i64 le, .int .i64 mo, .string (bs ch), .int .i64 i]
  have HAR := Lib.hid ((hA.range (o := 0) (vs := [.string (bs nm), .int .i64 sc, .string (bs kd), .string (bs fi), .int .i64 le, .int .i64 mo, .string (bs ch), .int .i64 i]) (fun j v hj => by rw [Nat.zero_add]; exact hj)))
  clear hA HO hb1
  go_wp2_with (refine wpList_load_mid rfl 75 _ rfl w1.heap.size 0 rfl [.string (bs nm), .int .i64 sc, .string (bs kd), .string (bs fi), .int .i64 le, .int .i64 mo, .string (bs ch), .int .i64 i] _ HAR.out Tryz.underlying75 rfl (by kernel_rfl) ?_)
  refine (HF.out _ hb1w).mono ?_
  rintro e w2 ⟨rfl, w3, h3, hphi⟩
  have HPHI := Lib.hid hphi
  have HB3 := Lib.hid (hb1w.trans (h3.mono hb1w.size))
  clear hphi h3 hb1w
  go_wp2_with fail
  go_ret
  exact ⟨rfl, w3, HB3.out, HPHI.out⟩

/-- A name that is none's is refused. -/
theorem open_no {B : Nat} (b : Nat) (l t : Tx) (hl : l.length ≤ 140737488355328) (w : World) (ht : Tabs B w) (hB : B ≤ w.heap.size) (hn : namedP l = none) :
    Calls Tryz.prog 37 #[.pointer (some ⟨b, 0, none⟩), .string (bs l), .string (bs t)] w fun e w' => e = .returned (.tuple #[placeV noOpt 0, .int .i64 6]) ∧ Below w.heap.size w w' := by
  have H1 := Lib.hid (fun w' (hb : Below w.heap.size w w') => named_any l hl w' (ht.below (hb.mono hB)) (Nat.le_trans hB hb.size))
  rw [hn] at H1
  have HZ := Lib.hid (BL.new w 75 (placeL noOpt 0))
  clear ht hn
  go_enter Tryz.func37, Tryz.ntmps37
  go_wp2_with fail
  refine (H1.out _ ((Below.refl _ w).alloc (Nat.le_refl _) _)).mono ?_
  rintro e w1 ⟨rfl, hb1⟩
  have HZ1 := Lib.hid ((HZ.out.keep (hb1.block _ HZ.out.lt)).alloc (.cells (placeL noOpt 0).toArray 75))
  have hb0 := ((Below.refl _ w).alloc (Nat.le_refl _) (.cells (placeL noOpt 0).toArray 75)).trans (hb1.mono (by simp))
  have HB1 := Lib.hid (hb0.alloc hb0.size (.cells (placeL noOpt 0).toArray 75))
  clear hb1 hb0 H1 HZ
  dsimp only [namedV, placeV, placeL, noOpt]
  go_wp2_with (refine wpList_store_all rfl 75 _ _ rfl w.heap.size (placeL noOpt 0) rfl rfl 75 _ HZ1.out rfl (by kernel_rfl) (placeL_one _ _) ?_; intro w4 h0 ho hs4; have H0 := Lib.hid h0; have HO := Lib.hid ho; clear h0 ho)
  refine bodyPost_ret (results_ct (p := 6) (u := 7) (by kernel_rfl) _ _ w.heap.size _ _ _ rfl H0.out Tryz.underlying75 rfl (by kernel_rfl)) rfl ⟨rfl, ?_⟩
  exact HB1.out.trans (HO.out.below HB1.out.size (by simp))
theorem set_no (b : Nat) (l t : Tx) (er : Int) (h0 : er ≠ 0) (w : World)
    (ho : Calls Tryz.prog 37 #[.pointer (some ⟨b, 0, none⟩), .string (bs l), .string (bs t)] w fun e w' => e = .returned (.tuple #[placeV noOpt 0, .int .i64 er]) ∧ Below w.heap.size w w') :
    Calls Tryz.prog 12 #[.pointer (some ⟨b, 0, none⟩), .string (bs l), .string (bs t)] w fun e w' => e = .returned (.int .i64 er) ∧ Below w.heap.size w w' := by
  dsimp only [placeV, placeL, noOpt] at ho
  have HO := Lib.hid ho
  have d0 : (er != 0) = true := by simp [h0]
  clear ho
  go_enter Tryz.func12, Tryz.ntmps12
  go_wp2_with fail
  refine HO.out.mono ?_
  rintro e w1 ⟨rfl, hb1⟩
  have HB1 := Lib.hid (hb1.alloc hb1.size (.cells #[.string (bs []), .int .i64 0, .string (bs []), .string (bs []), .int .i64 0, .int .i64 0, .string (bs []), .int .i64 0] 75))
  clear hb1 HO
  go_wp2_with fail
  go_ret
  exact ⟨rfl, HB1.out⟩
end Go.Proofs.YthmadnadaakjaaaGreatDoor.Opt
/- The library's own contracts on sorted keys that this proof calls on, laid at this translation. -/
namespace Go.Proofs
open Go.RowKit Go.Maps Go.Sort Go.Shelf
def Tryz.keys49_ren : Go.Shelf.Ren := ⟨fun | 7 => 49 | 10 => 90 | n => n, fun | 23 => 62 | 26 => 9 | 3 => 90 | 28 => 96 | 0 => 0 | 27 => 95 | 33 => 55 | 4 => 4 | n => n, fun | n => n⟩
theorem Tryz.keys49 : Go.Proofs.SlLaysZ.n7 Tryz.prog Tryz.keys49_ren := {
  mixed := by kernel_rfl
  f7 := ⟨Tryz.f49.name, by decide, Tryz.func49.trans (congrArg some (by kernel_rfl))⟩
  f10 := ⟨Tryz.f90.name, by decide, Tryz.func90.trans (congrArg some (by kernel_rfl))⟩
  t0 := Tryz.underlying0
  a0 := Tryz.isAgg0
  z0 := Tryz.sizeOf0
  v0 := Tryz.zeroValue0
  t4 := Tryz.underlying4
  a4 := Tryz.isAgg4
  z4 := Tryz.sizeOf4
  v4 := Tryz.zeroValue4
  t23 := Tryz.underlying62
  a23 := Tryz.isAgg62
  z23 := Tryz.sizeOf62
  v23 := Tryz.zeroValue62
  t26 := Tryz.underlying9
  a26 := Tryz.isAgg9
  z26 := Tryz.sizeOf9
  v26 := Tryz.zeroValue9
  t27 := Tryz.underlying95
  a27 := Tryz.isAgg95
  z27 := Tryz.sizeOf95
  v27 := Tryz.zeroValue95
  t28 := Tryz.underlying96
  a28 := Tryz.isAgg96
  z28 := Tryz.sizeOf96
  v28 := Tryz.zeroValue96
  t33 := Tryz.underlying55
  a33 := Tryz.isAgg55
  z33 := Tryz.sizeOf55
  v33 := Tryz.zeroValue55 }
def Tryz.sorted48_ren : Go.Shelf.Ren := ⟨fun | 6 => 48 | 8 => 89 | 9 => 65 | 11 => 126 | 13 => 100 | 12 => 99 | 23 => 147 | 24 => 148 | 14 => 138 | 15 => 139 | 16 => 140 | 17 => 141 | 18 => 142 | 19 => 143 | 20 => 144 | 21 => 145 | 22 => 146 | 25 => 182 | 26 => 183 | 27 => 184 | 28 => 185 | 29 => 186 | 30 => 187 | 31 => 220 | n => n, fun | 26 => 9 | 28 => 96 | 24 => 34 | 0 => 0 | 3 => 3 | 37 => 166 | 48 => 204 | 50 => 206 | 4 => 4 | 40 => 198 | 39 => 197 | 45 => 150 | 5 => 5 | 9 => 9 | 51 => 225 | 55 => 229 | 57 => 254 | 58 => 255 | 33 => 55 | n => n, fun | n => n⟩
theorem Tryz.sorted48 : Go.Proofs.SlLaysZ.n6 Tryz.prog Tryz.sorted48_ren := {
  mixed := by kernel_rfl
  f6 := ⟨Tryz.f48.name, by decide, Tryz.func48.trans (congrArg some (by kernel_rfl))⟩
  f8 := ⟨Tryz.f89.name, by decide, Tryz.func89.trans (congrArg some (by kernel_rfl))⟩
  f11 := ⟨Tryz.f126.name, by decide, Tryz.func126.trans (congrArg some (by kernel_rfl))⟩
  t0 := Tryz.underlying0
  a0 := Tryz.isAgg0
  z0 := Tryz.sizeOf0
  v0 := Tryz.zeroValue0
  t24 := Tryz.underlying34
  a24 := Tryz.isAgg34
  z24 := Tryz.sizeOf34
  v24 := Tryz.zeroValue34
  t26 := Tryz.underlying9
  a26 := Tryz.isAgg9
  z26 := Tryz.sizeOf9
  v26 := Tryz.zeroValue9
  t28 := Tryz.underlying96
  a28 := Tryz.isAgg96
  z28 := Tryz.sizeOf96
  v28 := Tryz.zeroValue96
  i26 := by kernel_rfl }
def Tryz.sort65_ren : Go.Shelf.Ren := ⟨fun | 6 => 65 | 8 => 100 | 9 => 99 | 19 => 147 | 20 => 148 | 21 => 138 | 22 => 139 | 23 => 140 | 24 => 141 | 25 => 142 | 26 => 143 | 27 => 144 | 28 => 145 | 29 => 146 | 36 => 182 | 31 => 183 | 32 => 184 | 37 => 185 | 38 => 186 | 39 => 187 | 41 => 220 | n => n, fun | 27 => 34 | 29 => 9 | 3 => 3 | 32 => 166 | 26 => 34 | 0 => 0 | 44 => 204 | 46 => 206 | 4 => 4 | 36 => 198 | 35 => 197 | 41 => 150 | 5 => 5 | 9 => 9 | 53 => 225 | 57 => 229 | 63 => 254 | 64 => 255 | n => n, fun | n => n⟩
theorem Tryz.sort65 : Go.Proofs.SlLaysM.n6 Tryz.prog Tryz.sort65_ren := {
  mixed := by kernel_rfl
  f6 := ⟨Tryz.f65.name, by decide, Tryz.func65.trans (congrArg some (by kernel_rfl))⟩
  f8 := Tryz.func100.trans (congrArg some (by kernel_rfl))
  f9 := ⟨Tryz.f99.name, by decide, Tryz.func99.trans (congrArg some (by kernel_rfl))⟩
  f19 := Tryz.func147.trans (congrArg some (by kernel_rfl))
  f20 := Tryz.func148.trans (congrArg some (by kernel_rfl))
  f21 := ⟨Tryz.f138.name, by decide, Tryz.func138.trans (congrArg some (by kernel_rfl))⟩
  f22 := ⟨Tryz.f139.name, by decide, Tryz.func139.trans (congrArg some (by kernel_rfl))⟩
  f23 := ⟨Tryz.f140.name, by decide, Tryz.func140.trans (congrArg some (by kernel_rfl))⟩
  f24 := ⟨Tryz.f141.name, by decide, Tryz.func141.trans (congrArg some (by kernel_rfl))⟩
  f25 := ⟨Tryz.f142.name, by decide, Tryz.func142.trans (congrArg some (by kernel_rfl))⟩
  f26 := ⟨Tryz.f143.name, by decide, Tryz.func143.trans (congrArg some (by kernel_rfl))⟩
  f27 := ⟨Tryz.f144.name, by decide, Tryz.func144.trans (congrArg some (by kernel_rfl))⟩
  f28 := ⟨Tryz.f145.name, by decide, Tryz.func145.trans (congrArg some (by kernel_rfl))⟩
  f29 := ⟨Tryz.f146.name, by decide, Tryz.func146.trans (congrArg some (by kernel_rfl))⟩
  f31 := Tryz.func183.trans (congrArg some (by kernel_rfl))
  f32 := Tryz.func184.trans (congrArg some (by kernel_rfl))
  f36 := ⟨Tryz.f182.name, by decide, Tryz.func182.trans (congrArg some (by kernel_rfl))⟩
  f37 := ⟨Tryz.f185.name, by decide, Tryz.func185.trans (congrArg some (by kernel_rfl))⟩
  f38 := ⟨Tryz.f186.name, by decide, Tryz.func186.trans (congrArg some (by kernel_rfl))⟩
  f39 := ⟨Tryz.f187.name, by decide, Tryz.func187.trans (congrArg some (by kernel_rfl))⟩
  f41 := ⟨Tryz.f220.name, by decide, Tryz.func220.trans (congrArg some (by kernel_rfl))⟩
  t0 := Tryz.underlying0
  a0 := Tryz.isAgg0
  z0 := Tryz.sizeOf0
  v0 := Tryz.zeroValue0
  t3 := Tryz.underlying3
  a3 := Tryz.isAgg3
  z3 := Tryz.sizeOf3
  v3 := Tryz.zeroValue3
  t4 := Tryz.underlying4
  a4 := Tryz.isAgg4
  z4 := Tryz.sizeOf4
  v4 := Tryz.zeroValue4
  t5 := Tryz.underlying5
  a5 := Tryz.isAgg5
  z5 := Tryz.sizeOf5
  v5 := Tryz.zeroValue5
  t9 := Tryz.underlying9
  a9 := Tryz.isAgg9
  z9 := Tryz.sizeOf9
  v9 := Tryz.zeroValue9
  t26 := Tryz.underlying34
  a26 := Tryz.isAgg34
  z26 := Tryz.sizeOf34
  v26 := Tryz.zeroValue34
  t27 := Tryz.underlying34
  a27 := Tryz.isAgg34
  z27 := Tryz.sizeOf34
  v27 := Tryz.zeroValue34
  t29 := Tryz.underlying9
  a29 := Tryz.isAgg9
  z29 := Tryz.sizeOf9
  v29 := Tryz.zeroValue9
  t32 := Tryz.underlying166
  a32 := Tryz.isAgg166
  z32 := Tryz.sizeOf166
  v32 := Tryz.zeroValue166
  t35 := Tryz.underlying197
  a35 := Tryz.isAgg197
  z35 := Tryz.sizeOf197
  v35 := Tryz.zeroValue197
  t36 := Tryz.underlying198
  a36 := Tryz.isAgg198
  z36 := Tryz.sizeOf198
  v36 := Tryz.zeroValue198
  t41 := Tryz.underlying150
  a41 := Tryz.isAgg150
  z41 := Tryz.sizeOf150
  v41 := Tryz.zeroValue150
  t44 := Tryz.underlying204
  a44 := Tryz.isAgg204
  z44 := Tryz.sizeOf204
  v44 := Tryz.zeroValue204
  t46 := Tryz.underlying206
  a46 := Tryz.isAgg206
  z46 := Tryz.sizeOf206
  v46 := Tryz.zeroValue206
  t53 := Tryz.underlying225
  a53 := Tryz.isAgg225
  z53 := Tryz.sizeOf225
  v53 := Tryz.zeroValue225
  t57 := Tryz.underlying229
  a57 := Tryz.isAgg229
  z57 := Tryz.sizeOf229
  v57 := Tryz.zeroValue229
  t63 := Tryz.underlying254
  a63 := Tryz.isAgg254
  z63 := Tryz.sizeOf254
  v63 := Tryz.zeroValue254
  t64 := Tryz.underlying255
  a64 := Tryz.isAgg255
  z64 := Tryz.sizeOf255
  v64 := Tryz.zeroValue255 }


theorem Tryz.sorts48 (m : Nat) : AnyZ.SortsIn Tryz.prog Tryz.sorted48_ren Fence.wide m :=
  ⟨fun blk off cap ss W hH hblk hsz => callsIn_wide.2 (AnyM.slices_Sort_string Tryz.sort65 blk off cap ss W hH hblk hsz),
   fun p cap W => callsIn_wide.2 (AnyM.slices_Sort_string_none Tryz.sort65 p cap W)⟩

theorem Tryz.maps_Keys_49 (mb : Option Nat) (W : World) : CallsIn Fence.wide 5 Tryz.prog 49 #[.map mb] W fun e w' => e = .returned (.func (.func 90) #[] #[.pointer (some ⟨W.heap.size, 0, none⟩)]) ∧ w' = W.alloc (.cells #[.map mb] 62) :=
  AnyZ.keys_in Tryz.keys49 Fence.wide 5 trivial rfl mb W

set_option maxHeartbeats 1000000 in
theorem Tryz.slices_Sorted_keys_48_49 {H : Type} (b nn : Nat) (D0 : DataW H) (R : Value → Option (DataW H × List MemPlace)) (w : World) (hown : w.ownsMap Tryz.prog 9 R b nn D0) (hmax : Maps.size D0 ≤ maxLen) (hbytes : Maps.size D0 * 16 ≤ 140737488355328) :
    CallsIn Fence.wide 5 Tryz.prog 48 #[.func (.func 90) #[] #[.pointer (some ⟨w.heap.size, 0, none⟩)]] (w.alloc (.cells #[.map (some b)] 62)) fun e w' => ∃ (v : Value) (ss : List (List UInt8)), e = .returned v ∧ ss.Perm (strKeys D0) ∧
      w'.ownsRow (w.alloc (.cells #[.map (some b)] 62)).heap.size 9 1 v ss.length ((ss.mergeSort (fun x y => decide (x ≤ y))).map encStr) ∧ (v = .slice none 0 0 ↔ ss = []) ∧ Below (w.alloc (.cells #[.map (some b)] 62)).heap.size (w.alloc (.cells #[.map (some b)] 62)) w' := by
  have hbl := hown.lt
  have hseq : SeqGives Fence.wide 2 Tryz.prog 90 #[.pointer (some ⟨w.heap.size, 0, none⟩)] encStr (fun ss => ss.Perm (strKeys D0)) (Maps.size D0) (w.alloc (.cells #[.map (some b)] 62)) :=
    AnyZ.keys_gives (ρ := Tryz.keys49_ren) { Tryz.keys49 with } Fence.wide _ trivial rfl (by omega) w.heap.size b nn D0 _ (by simp) (by simp) (by
      obtain ⟨es, clock, hb, Ft, hs, hD⟩ := hown
      exact ⟨es, clock, (Below.heap_alloc _ _ b hbl).trans hb, Ft, hs, hD⟩)
  exact AnyZ.sorted_in Tryz.sorted48 Fence.wide 5 trivial trivial trivial trivial rfl (by omega) (Tryz.sorts48 _) (enters_of Tryz.func65 (by kernel_rfl) rfl) 90 #[.pointer (some ⟨w.heap.size, 0, none⟩)] trivial (enters_of Tryz.func90 (by kernel_rfl) rfl) _ _ hmax hbytes _ hseq

set_option maxHeartbeats 1000000 in
theorem Tryz.slices_Sorted_keys_nil_48_49 (w : World) :
    CallsIn Fence.wide 5 Tryz.prog 48 #[.func (.func 90) #[] #[.pointer (some ⟨w.heap.size, 0, none⟩)]] (w.alloc (.cells #[.map none] 62)) fun e w' => ∃ (v : Value) (ss : List (List UInt8)), e = .returned v ∧ ss = [] ∧
      w'.ownsRow (w.alloc (.cells #[.map none] 62)).heap.size 9 1 v ss.length ((ss.mergeSort (fun x y => decide (x ≤ y))).map encStr) ∧ (v = .slice none 0 0 ↔ ss = []) ∧ Below (w.alloc (.cells #[.map none] 62)).heap.size (w.alloc (.cells #[.map none] 62)) w' := by
  have hseq : SeqGives Fence.wide 2 Tryz.prog 90 #[.pointer (some ⟨w.heap.size, 0, none⟩)] encStr (fun ss : List (List UInt8) => ss = []) 0 (w.alloc (.cells #[.map none] 62)) :=
    AnyZ.keys_gives_nil (ρ := Tryz.keys49_ren) { Tryz.keys49 with } Fence.wide _ trivial rfl w.heap.size _ (by simp) (by simp)
  exact AnyZ.sorted_in Tryz.sorted48 Fence.wide 5 trivial trivial trivial trivial rfl (by omega) (Tryz.sorts48 _) (enters_of Tryz.func65 (by kernel_rfl) rfl) 90 #[.pointer (some ⟨w.heap.size, 0, none⟩)] trivial (enters_of Tryz.func90 (by kernel_rfl) rfl) _ 0 (Nat.zero_le _) (by omega) _ hseq

end Go.Proofs
/- The names of a set. -/
namespace Go.Proofs.YthmadnadaakjaaaGreatDoor.Opt
open Go.RowKit Go.Maps Go.Sort

theorem owns_base {w : World} {B B' : Nat} {e : TypeId} {size : Nat} {v : Value} {n : Nat} {xs : List Value} (h : w.ownsRow B e size v n xs) (hb : B' ≤ B) : w.ownsRow B' e size v n xs := by
  refine ⟨h.1, ?_⟩
  rcases h.2 with h | ⟨g, cap, cur, h1, h2, h3⟩
  · exact .inl h
  · exact .inr ⟨g, cap, cur, h1, Nat.le_trans hb h2, h3⟩
set_option maxRecDepth 100000 in
set_option maxHeartbeats 4000000 in
theorem names_map (b : Nat) (sc : Int) (q : Option Addr) (m n : Nat) (D : DataW Value) (w : World) (hs : SetB w b sc (.map (some m)) q) (hown : w.ownsMap Tryz.prog 9 heldR m n D) (hsz : Maps.size D ≤ 1000) :
    Calls Tryz.prog 17 #[.pointer (some ⟨b, 0, none⟩)] w fun e w' => ∃ v ss, e = .returned v ∧ ss.Perm (strKeys D) ∧ w'.ownsRow w.heap.size 9 1 v ss.length ((ss.mergeSort (fun x y => decide (x ≤ y))).map encStr) ∧ (v = .slice none 0 0 ↔ ss = []) ∧ Below w.heap.size w w' := by
  have c1 : w.cell? ⟨b, 1, none⟩ = some (.map (some m)) := BL.cell hs 1
  have HO := Lib.hid hown
  have HK := Lib.hid (callsIn_wide.1 (Tryz.maps_Keys_49 (some m) w))
  have HS := Lib.hid (callsIn_wide.1 (Tryz.slices_Sorted_keys_48_49 m n D heldR w hown (by unfold maxLen; omega) (by omega)))
  clear hs hown
  go_enter Tryz.func17, Tryz.ntmps17
  go_wp2_with fail
  refine HK.out.mono ?_
  rintro e w1 ⟨rfl, hw1⟩
  subst hw1
  clear HK
  go_wp2_with fail
  refine HS.out.mono ?_
  rintro e w2 ⟨v, ss, rfl, hp, hrow, hnil, hb⟩
  have HR := Lib.hid (And.intro hp (And.intro hrow (And.intro hnil hb)))
  clear hp hrow hnil hb HS
  go_wp2_with fail
  go_ret
  obtain ⟨hp, hrow, hnil, hb⟩ := HR.out
  exact ⟨v, ss, rfl, hp, owns_base hrow (by simp), hnil, ((Below.refl _ w).alloc (Nat.le_refl _) _).trans (hb.mono (by simp))⟩
set_option maxRecDepth 100000 in
set_option maxHeartbeats 4000000 in
theorem names_nil (b : Nat) (sc : Int) (q : Option Addr) (w : World) (hs : SetB w b sc (.map none) q) :
    Calls Tryz.prog 17 #[.pointer (some ⟨b, 0, none⟩)] w fun e w' => e = .returned (.slice none 0 0) ∧ Below w.heap.size w w' := by
  have c1 : w.cell? ⟨b, 1, none⟩ = some (.map none) := BL.cell hs 1
  have HK := Lib.hid (callsIn_wide.1 (Tryz.maps_Keys_49 none w))
  have HS := Lib.hid (callsIn_wide.1 (Tryz.slices_Sorted_keys_nil_48_49 w))
  clear hs
  go_enter Tryz.func17, Tryz.ntmps17
  go_wp2_with fail
  refine HK.out.mono ?_
  rintro e w1 ⟨rfl, hw1⟩
  subst hw1
  clear HK
  go_wp2_with fail
  refine HS.out.mono ?_
  rintro e w2 ⟨v, ss, rfl, hp, hrow, hnil, hb⟩
  obtain rfl := hnil.2 hp
  have HB := Lib.hid hb
  clear hp hrow hnil hb HS
  go_wp2_with fail
  go_ret
  exact ⟨rfl, ((Below.refl _ w).alloc (Nat.le_refl _) _).trans (HB.out.mono (by simp))⟩
end Go.Proofs.YthmadnadaakjaaaGreatDoor.Opt
/- Library contracts that this proof calls on besides, laid at this translation. -/
namespace Go.Proofs
open Go.Shelf
def Tryz.lays169_ren : Go.Shelf.Ren := ⟨fun | 169 => 55 | n => n, fun | 70 => 99 | 9 => 9 | 0 => 0 | 72 => 101 | 37 => 71 | 127 => 162 | 3 => 3 | 5 => 5 | n => n, fun | n => n⟩
theorem Tryz.lays169 : Go.Proofs.Lays.n169 Tryz.prog Tryz.lays169_ren := {
  mixed := by kernel_rfl
  f169 := Tryz.func55.trans (congrArg some (by kernel_rfl))
  t0 := Tryz.underlying0
  a0 := Tryz.isAgg0
  z0 := Tryz.sizeOf0
  v0 := Tryz.zeroValue0
  t3 := Tryz.underlying3
  a3 := Tryz.isAgg3
  z3 := Tryz.sizeOf3
  v3 := Tryz.zeroValue3
  t9 := Tryz.underlying9
  a9 := Tryz.isAgg9
  z9 := Tryz.sizeOf9
  v9 := Tryz.zeroValue9
  t37 := Tryz.underlying71
  a37 := Tryz.isAgg71
  z37 := Tryz.sizeOf71
  v37 := Tryz.zeroValue71
  t70 := Tryz.underlying99
  a70 := Tryz.isAgg99
  z70 := Tryz.sizeOf99
  v70 := Tryz.zeroValue99
  t72 := Tryz.underlying101
  a72 := Tryz.isAgg101
  z72 := Tryz.sizeOf101
  v72 := Tryz.zeroValue101
  t127 := Tryz.underlying162
  a127 := Tryz.isAgg162
  z127 := Tryz.sizeOf162
  v127 := Tryz.zeroValue162 }
theorem Tryz.Builder_Extra_169 : Builder.Extra Tryz.prog Tryz.lays169_ren := {
  sizeBuilder := by kernel_rfl
  liesBuilder := by kernel_rfl
  t5 := Tryz.underlying5
  a5 := Tryz.isAgg5
  z5 := Tryz.sizeOf5
  v5 := Tryz.zeroValue5
  infoByte := by kernel_rfl
  cellsByte := by kernel_rfl
  sizeByte := by kernel_rfl
  neB5 := by decide }
open Go.RowKit in
/-- (*strings.Builder).String OF A BUILDER THAT HOLDS NO BYTE: the empty string. (Its buffer is nil, or a row of which it has taken nothing yet; where that row has NO capacity the model lays one new block for unsafe.SliceData's 'some address'.) One draw. (LAID: no walk: one application.) -/
theorem Tryz.Builder_String_empty (B b : Nat) (w : World) (h : Lib.IsBuilder 101 5 B b [] w) (hBw : B ≤ w.heap.size) :
    Calls Tryz.prog 55 #[.pointer (some ⟨b, 0, none⟩)] w fun e w' => e = .returned (.string ⟨#[]⟩) ∧ Below B w w' := Any.Builder_String_empty Tryz.lays169 Tryz.Builder_Extra_169 B b w h hBw
open Go.RowKit in
/-- (*strings.Builder).String: "String returns the accumulated string.": WHATEVER THE BUILDER HOLDS. (LAID: no walk: one application.) -/
theorem Tryz.Builder_String_any (B b : Nat) (l : List UInt8) (w : World) (h : Lib.IsBuilder 101 5 B b (Lib.byteCells l) w) (hBw : B ≤ w.heap.size) :
    Calls Tryz.prog 55 #[.pointer (some ⟨b, 0, none⟩)] w fun e w' => e = .returned (.string ⟨l.toArray⟩) ∧ Below B w w' := Any.Builder_String_any Tryz.lays169 Tryz.Builder_Extra_169 B b l w h hBw
end Go.Proofs
/- A set without values, printed; the document's own New. -/
namespace Go.Proofs.YthmadnadaakjaaaGreatDoor.Opt
open Go.RowKit Go.Maps

set_option maxRecDepth 100000 in
set_option maxHeartbeats 4000000 in
theorem print_nil (b : Nat) (sc : Int) (q : Option Addr) (w : World) (hs : SetB w b sc (.map none) q) :
    Calls Tryz.prog 19 #[.pointer (some ⟨b, 0, none⟩), .string ⟨#[]⟩] w fun e w' => e = .returned (.string ⟨#[]⟩) ∧ Below w.heap.size w w' := by
  have HN := Lib.hid (fun w' (hb : Below w.heap.size w w') => names_nil b sc q w' (BL.keep hs (hb.block _ (BL.lt hs))))
  have hbd := BL.new (w.alloc (.cells #[.string ⟨#[115, 101, 116, 45, 111, 112, 116, 105, 111, 110, 32]⟩] 9)) 101 [.pointer none, .slice none 0 0]
  rw [size_alloc] at hbd
  have HB := Lib.hid hbd
  have HS := Lib.hid (fun w' (h : Lib.IsBuilder 101 5 (w.heap.size + 1) (w.heap.size + 1) [] w') (hb : w.heap.size + 1 ≤ w'.heap.size) => Tryz.Builder_String_empty (w.heap.size + 1) (w.heap.size + 1) w' h hb)
  have hb0 : Below w.heap.size w ((w.alloc (.cells #[.string ⟨#[115, 101, 116, 45, 111, 112, 116, 105, 111, 110, 32]⟩] 9)).alloc (.cells #[.pointer none, .slice none 0 0] 101)) := ((Below.refl _ w).alloc (Nat.le_refl _) _).alloc (by simp) _
  have HB0 := Lib.hid hb0
  clear hs hb0 hbd
  go_enter Tryz.func19, Tryz.ntmps19
  go_wp2_with fail
  refine (HN.out _ HB0.out).mono ?_
  rintro e w1 ⟨rfl, hb1⟩
  have hbw := HB0.out.trans (hb1.mono HB0.out.size)
  have hbb : Lib.IsBuilder 101 5 (w.heap.size + 1) (w.heap.size + 1) [] w1 :=
    .inl ⟨Nat.le_refl _, .slice none 0 0, HB.out.keep (hb1.block _ HB.out.lt), ⟨rfl, .inl ⟨rfl, rfl⟩⟩, by simp [Value.ownBlock]⟩
  have hsz : w.heap.size + 1 ≤ w1.heap.size := by have := hb1.size; rw [size_alloc, size_alloc] at this; omega
  have HW := Lib.hid hbw
  clear hb1 hbw HN HB0 HB
  go_wp2_with fail
  refine wp_loop_rounds 1 ?_
  rw [rounds_succ]
  go_wp2_with fail
  refine (HS.out _ hbb hsz).mono ?_
  rintro e w2 ⟨rfl, hb2⟩
  have HW2 := Lib.hid (HW.out.trans (hb2.mono (by omega)))
  clear hb2 hbb HS
  go_wp2_with fail
  go_ret
  exact ⟨rfl, HW2.out⟩
/-! ### The document's own New -/
set_option maxRecDepth 100000 in
set_option maxHeartbeats 2000000 in
theorem rnew_no (sc : Int) (hs : sc < 1 ∨ 4 < sc) (p : Option Addr) (w : World) :
    Calls Tryz.prog 9 #[.int .i64 sc, .pointer p] w fun e w' => e = .returned (.tuple #[.pointer none, .bool false]) ∧ w' = w := by
  rcases hs with h | h
  · go_enter Tryz.func9, Tryz.ntmps9
    go_wp2_with fail
    go_ret2
    exact ⟨rfl, rfl⟩
  · have h2 : ¬ sc < 1 := by omega
    have h3 : sc > 4 := h
    go_enter Tryz.func9, Tryz.ntmps9
    go_wp2_with fail
    go_ret2
    exact ⟨rfl, rfl⟩
set_option maxRecDepth 100000 in
set_option maxHeartbeats 2000000 in
theorem rnew_nil (sc : Int) (h1 : 1 ≤ sc) (h2 : sc ≤ 4) (w : World) :
    Calls Tryz.prog 9 #[.int .i64 sc, .pointer none] w fun e w' => e = .returned (.tuple #[.pointer (some ⟨w.heap.size, 0, none⟩), .bool true]) ∧ BL w' w.heap.size 70 [.int .i64 sc, .pointer none, .slice none 0 0] ∧ Below w.heap.size w w' := by
  have d3 : decide (sc < 1) = false := decide_eq_false (by omega)
  have d4 : decide (4 < sc) = false := decide_eq_false (by omega)
  have HB := Lib.hid (BL.new w 70 [.int .i64 sc, .pointer none, .slice none 0 0])
  go_enter Tryz.func9, Tryz.ntmps9
  go_wp2_with fail
  go_ret2
  exact ⟨rfl, HB.out, (Below.refl _ w).alloc (Nat.le_refl _) _⟩
set_option maxRecDepth 100000 in
set_option maxHeartbeats 2000000 in
theorem rnew_over (sc : Int) (h1 : 1 ≤ sc) (h2 : sc ≤ 4) (pb : Nat) (ps : Int) (x y : Value) (w : World) (hp : BL w pb 70 [.int .i64 ps, x, y]) :
    Calls Tryz.prog 9 #[.int .i64 sc, .pointer (some ⟨pb, 0, none⟩)] w fun e w' => (∃ r, e = .returned (.tuple #[.pointer r, .bool (decide (ps ≤ sc))])) ∧ Below w.heap.size w w' := by
  have d3 : decide (sc < 1) = false := decide_eq_false (by omega)
  have d4 : decide (4 < sc) = false := decide_eq_false (by omega)
  have c0 : w.cell? ⟨pb, 0, none⟩ = some (.int .i64 ps) := hp.cell 0
  clear hp
  by_cases hle : ps ≤ sc
  · have d5 : decide (sc < ps) = false := decide_eq_false (by omega)
    have d6 : decide (ps ≤ sc) = true := decide_eq_true hle
    rw [d6]
    clear d6
    go_enter Tryz.func9, Tryz.ntmps9
    go_wp2_with fail
    go_ret2
    exact ⟨⟨_, rfl⟩, (Below.refl _ w).alloc (Nat.le_refl _) _⟩
  · have d5 : decide (sc < ps) = true := decide_eq_true (by omega)
    have d6 : decide (ps ≤ sc) = false := decide_eq_false hle
    rw [d6]
    clear d6
    go_enter Tryz.func9, Tryz.ntmps9
    go_wp2_with fail
    go_ret2
    exact ⟨⟨_, rfl⟩, Below.refl _ w⟩
end Go.Proofs.YthmadnadaakjaaaGreatDoor.Opt
/- The examples' facts in plain words. -/
namespace Go.Proofs.YthmadnadaakjaaaGreatDoor.Opt
open Go.RowKit Go.Maps

def statusT : Tx := [115, 116, 97, 116, 117, 115]
def baseT : Tx := [98, 97, 115, 101, 45, 105, 110, 100, 101, 120]
def statT : Tx := [115, 116, 97, 116]
def histT : Tx := [104, 105, 115, 116]
def onT : Tx := [111, 110]
def noT : Tx := [110, 111]
def offT : Tx := [111, 102, 102]
def o7T : Tx := [48, 48, 55]
def o1 : Op8 := ⟨statusT, 2, flagK, onT, 0, 0, []⟩
def o2 : Op8 := ⟨baseT, 2, numK, [48], 0, 9999, []⟩
def v1 : Value := .agg #[.string (bs offT), .slice none 0 0]
def v2 : Value := .agg #[.string (bs [55]), .slice none 0 0]
def D0 : DataW Value := .map []
def D1 : DataW Value := putD D0 statusT v1
def D2 : DataW Value := putD D1 baseT v2
theorem n1 : namedP statusT = some (o1, -1) := by kernel_rfl
theorem n2 : namedP baseT = some (o2, -1) := by kernel_rfl
theorem n3 : namedP statT = none := by kernel_rfl
theorem u1 : userP o1.name = false := by kernel_rfl
theorem k1 : knownP histT = ([104, 105, 115, 116, 111, 114, 121, 45, 108, 105, 109, 105, 116], numK, 0) := by kernel_rfl
theorem lk0 : lookP [D0, D0] o1.name = none := by kernel_rfl
theorem lk1 : lookP [D1, D0] o1.name = some v1 := by kernel_rfl
theorem lk2 : lookP [D2, D0] o2.name = some v2 := by kernel_rfl
theorem sz1 : Maps.size D1 = 1 := by kernel_rfl
theorem sz2 : Maps.size D2 = 2 := by kernel_rfl
theorem sl1 : ∀ s, slenV (valP D1 s) ≤ 1000 := fun s => by
  have h : valP D1 s = v1 ∨ valP D1 s = zeroH := by
    unfold valP
    by_cases hs : s = statusT
    · subst hs; exact .inl (by kernel_rfl)
    · right
      have h1 : D1.atKey (.string s) (.held zeroH) = D0.atKey (.string s) (.held zeroH) := atKey_put_other (D := D0) (k := .string statusT) (k' := .string s) (fun e => hs (by injection e)) (.held v1) (.held zeroH)
      rw [h1]; rfl
  rcases h with h | h <;> rw [h] <;> decide
theorem rm1 : roomN D1 baseT (strKeys D1) = 1 := by kernel_rfl
theorem nb1 : Lib.trimPrefix o7T [45] = o7T := by kernel_rfl
theorem nb2 : (Lib.trimS o7T digCs).isEmpty = true := by kernel_rfl
theorem nb3 : atoiP o7T = (7, false) := by kernel_rfl
theorem nb4 : Lib.itoa 7 = [55] := by kernel_rfl
theorem nb5 : atoiP [55] = (7, false) := by kernel_rfl
end Go.Proofs.YthmadnadaakjaaaGreatDoor.Opt
/- The examples' steps. -/
namespace Go.Proofs.YthmadnadaakjaaaGreatDoor.Opt
open Go.RowKit Go.Maps

/-- What the examples have made: a server's set, a session's over it; all of it the call's own. -/
structure St (w0 w : World) (a b : Nat) (own : Value) : Prop where
  A : SetB w a 1 (.map none) none
  B : SetB w b 2 own (some ⟨a, 1, none⟩)
  la : w0.heap.size ≤ a
  lb : w0.heap.size ≤ b
  ne : a ≠ b
  kept : Below w0.heap.size w0 w
theorem St.below {w0 w w' : World} {a b : Nat} {own : Value} (h : St w0 w a b own) (hb : Below w.heap.size w w') : St w0 w' a b own :=
  ⟨BL.keep h.A (hb.block _ (BL.lt h.A)), BL.keep h.B (hb.block _ (BL.lt h.B)), h.la, h.lb, h.ne, h.kept.trans (hb.mono h.kept.size)⟩
theorem St.tabs {B : Nat} {w0 w : World} {a b : Nat} {own : Value} (h : St w0 w a b own) (ht : Tabs B w0) (hB : B ≤ w0.heap.size) : Tabs B w ∧ B ≤ w.heap.size := ⟨ht.below (h.kept.mono hB), Nat.le_trans hB h.kept.size⟩
theorem St.lv {w0 w : World} {a b : Nat} {own : Value} {D : DataW Value} {n : Nat} (h : St w0 w a b own) (ho : OwnAt w own D n) : LvAt w (some ⟨b, 1, none⟩) [D, D0] :=
  ⟨b, own, _, n, rfl, BL.cell h.B 1, BL.cell h.B 2, ho, a, .map none, none, 0, rfl, BL.cell h.A 1, BL.cell h.A 2, .inl ⟨rfl, rfl⟩, rfl⟩
section
variable {B : Nat} {w0 w : World} {a b : Nat}
theorem s_get0 (ht : Tabs B w0) (hB : B ≤ w0.heap.size) (h : St w0 w a b (.map none)) :
    Calls Tryz.prog 33 #[.pointer (some ⟨b, 0, none⟩), .string (bs statusT)] w fun e w' => e = .returned (.tuple #[.string (bs onT), .int .i64 0]) ∧ Below w.heap.size w w' := by
  obtain ⟨t1, t2⟩ := h.tabs ht hB
  exact get_of b statusT o1 (-1) _ 0 w (find_first b 2 _ _ [D0, D0] statusT o1 (by decide) w t1 t2 h.B (h.lv (n := 0) (.inl ⟨rfl, rfl⟩)) n1 (by decide) (by decide) lk0 u1)
theorem s_set1 (ht : Tabs B w0) (hB : B ≤ w0.heap.size) (h : St w0 w a b (.map none)) :
    Calls Tryz.prog 12 #[.pointer (some ⟨b, 0, none⟩), .string (bs statusT), .string (bs noT)] w fun e w' => e = .returned (.int .i64 0) ∧ ∃ m, m ≠ b ∧ w0.heap.size ≤ m ∧ St w0 w' a b (.map (some m)) ∧ w'.ownsMap Tryz.prog 9 heldR m 1 D1 := by
  obtain ⟨t1, t2⟩ := h.tabs ht hB
  have hs := set_of b statusT noT o1 (-1) w (fun w1 w' => St w0 w1 a b (.map none) ∧ ∃ m, w1.heap.size ≤ m ∧ SetB w' b 2 (.map (some m)) (some ⟨a, 1, none⟩) ∧ w'.ownsMap Tryz.prog 9 heldR m 1 D1 ∧ Only [b] w1 w')
    (open_ok b 2 _ _ statusT noT o1 (-1) (by decide) (by decide) w t1 t2 h.B n1 (by decide))
    (fun w1 hb1 => fill_of b statusT 2 flagK onT 0 0 [] (-1) noT (bs offT) none 0 0 w1 _
      (fun w2 hb2 => value_ok _ statusT 2 flagK onT 0 0 [] noT (bs offT) (by decide) (by decide) w2 (fun w3 _ => made_flag statusT 2 onT 0 0 [] w3))
      (fun w2 hb2 => (hasRoom_nil b 2 _ statusT (bs offT) none 0 0 (by omega) w2 ((h.below hb1).below hb2).B).mono (fun e w' h => h))
      (fun w2 hb2 => (put_nil b 2 _ statusT (by decide) (bs offT) none 0 0 w2 ((h.below hb1).below hb2).B).mono (fun e w' ⟨he, hm⟩ => ⟨he, (h.below hb1).below hb2, hm⟩)))
  refine hs.mono ?_
  rintro e w' ⟨rfl, w1, _, hst, m, hm, hset, hown, hon⟩
  have hbl : b < w1.heap.size := BL.lt hst.B
  refine ⟨rfl, m, by omega, Nat.le_trans hst.kept.size hm, ⟨BL.only hst.A hon (by simp; exact hst.ne), hset, hst.la, hst.lb, hst.ne, hst.kept.trans (hon.below hst.kept.size (by simp; exact hst.lb))⟩, hown⟩
theorem s_get1 (ht : Tabs B w0) (hB : B ≤ w0.heap.size) {m n : Nat} (h : St w0 w a b (.map (some m))) (ho : w.ownsMap Tryz.prog 9 heldR m n D1) :
    Calls Tryz.prog 33 #[.pointer (some ⟨b, 0, none⟩), .string (bs statusT)] w fun e w' => e = .returned (.tuple #[.string (bs offT), .int .i64 0]) ∧ Below w.heap.size w w' := by
  obtain ⟨t1, t2⟩ := h.tabs ht hB
  exact get_of b statusT o1 (-1) _ 0 w (find_has b 2 _ _ [D1, D0] statusT o1 (bs offT) none 0 0 (by decide) w t1 t2 h.B (h.lv (.inr ⟨m, rfl, ho⟩)) n1 (by decide) (by decide) lk1)
theorem s_set2 (ht : Tabs B w0) (hB : B ≤ w0.heap.size) {m : Nat} (hmb : m ≠ b) (hm0 : w0.heap.size ≤ m) (h : St w0 w a b (.map (some m))) (ho : w.ownsMap Tryz.prog 9 heldR m 1 D1) :
    Calls Tryz.prog 12 #[.pointer (some ⟨b, 0, none⟩), .string (bs baseT), .string (bs o7T)] w fun e w' => e = .returned (.int .i64 0) ∧ St w0 w' a b (.map (some m)) ∧ w'.ownsMap Tryz.prog 9 heldR m 2 D2 := by
  obtain ⟨t1, t2⟩ := h.tabs ht hB
  have hk : ∀ {w1 : World}, Below w.heap.size w w1 → w1.ownsMap Tryz.prog 9 heldR m 1 D1 := fun {w1} hb => by
    obtain ⟨es, cl, h1, h2⟩ := ho
    exact ⟨es, cl, (hb.block _ (Array.getElem?_eq_some_iff.1 h1).1).trans h1, h2⟩
  have hs := set_of b baseT o7T o2 (-1) w (fun w1 w' => (St w0 w1 a b (.map (some m)) ∧ w1.ownsMap Tryz.prog 9 heldR m 1 D1) ∧ SetB w' b 2 (.map (some m)) (some ⟨a, 1, none⟩) ∧ w'.ownsMap Tryz.prog 9 heldR m 2 D2 ∧ Only [m] w1 w')
    (open_ok b 2 _ _ baseT o7T o2 (-1) (by decide) (by decide) w t1 t2 h.B n2 (by decide))
    (fun w1 hb1 => fill_of b baseT 2 numK [48] 0 9999 [] (-1) o7T (bs [55]) none 0 0 w1 _
      (fun w2 hb2 => value_ok _ baseT 2 numK [48] 0 9999 [] o7T (bs [55]) (by decide) (by decide) w2 (fun w3 hb3 => made_number baseT 2 [48] 0 9999 [] o7T [55] w3
        (fun w4 hb4 => by
          have hst := (((h.below hb1).below hb2).below hb3).below hb4
          obtain ⟨t3, t4⟩ := hst.tabs ht hB
          have := number_ok baseT 2 numK [48] 0 9999 [] o7T o7T 7 (by decide) nb1 (by decide) (by decide) nb2 nb3 (by decide) (by decide) (by decide) (by decide) w4 t3 t4
          rw [nb4] at this
          exact this)))
      (fun w2 hb2 => (hasRoom_map b 2 _ m 1 D1 baseT (bs [55]) none 0 0 (by omega) w2 ((h.below hb1).below hb2).B (hk (hb1.trans (hb2.mono hb1.size))) (by rw [sz1]; omega) sl1).mono (fun e w' ⟨he, hb⟩ => ⟨by rw [he, rm1]; rfl, hb⟩))
      (fun w2 hb2 => (put_map b 2 _ m 1 D1 baseT (by decide) (bs [55]) none 0 0 w2 ((h.below hb1).below hb2).B (hk (hb1.trans (hb2.mono hb1.size))) (by omega)).mono (fun e w' ⟨he, hm⟩ => ⟨he, ⟨(h.below hb1).below hb2, hk (hb1.trans (hb2.mono hb1.size))⟩, hm⟩)))
  refine hs.mono ?_
  rintro e w' ⟨rfl, w1, _, ⟨hst, hown1⟩, hset, hown, hon⟩
  have ham : a ≠ m := fun e => by
    obtain ⟨es, cl, h1, _⟩ := hown1
    have := hst.A; subst e; unfold SetB BL at this; rw [this] at h1; cases h1
  refine ⟨rfl, ⟨BL.only hst.A hon (by simp; exact ham), hset, hst.la, hst.lb, hst.ne, hst.kept.trans (hon.below hst.kept.size (by simp; exact hm0))⟩, hown⟩
theorem s_num (ht : Tabs B w0) (hB : B ≤ w0.heap.size) {m n : Nat} (h : St w0 w a b (.map (some m))) (ho : w.ownsMap Tryz.prog 9 heldR m n D2) :
    Calls Tryz.prog 35 #[.pointer (some ⟨b, 0, none⟩), .string (bs baseT)] w fun e w' => e = .returned (.tuple #[.int .i64 7, .int .i64 0]) ∧ Below w.heap.size w w' := by
  obtain ⟨t1, t2⟩ := h.tabs ht hB
  exact number_of b baseT o2 (-1) [55] 7 w t1 t2 (by decide) rfl nb5 (find_has b 2 _ _ [D2, D0] baseT o2 (bs [55]) none 0 0 (by decide) w t1 t2 h.B (h.lv (.inr ⟨m, rfl, ho⟩)) n2 (by decide) (by decide) lk2)
theorem s_known (ht : Tabs B w) (hB : B ≤ w.heap.size) :
    Calls Tryz.prog 36 #[.string (bs histT)] w fun e w' => e = .returned (.tuple #[.string (bs [104, 105, 115, 116, 111, 114, 121, 45, 108, 105, 109, 105, 116]), .string (bs numK), .int .i64 0]) ∧ Below w.heap.size w w' := by
  have := known_any histT (by decide) w ht hB
  rw [k1] at this
  exact this
theorem s_stat (ht : Tabs B w0) (hB : B ≤ w0.heap.size) {own : Value} (h : St w0 w a b own) (t : Tx) :
    Calls Tryz.prog 12 #[.pointer (some ⟨b, 0, none⟩), .string (bs statT), .string (bs t)] w fun e w' => e = .returned (.int .i64 6) ∧ Below w.heap.size w w' := by
  obtain ⟨t1, t2⟩ := h.tabs ht hB
  exact set_no b statT t 6 (by decide) w (open_no b statT t (by decide) w t1 t2 n3)
theorem s_names {m n : Nat} (h : St w0 w a b (.map (some m))) (ho : w.ownsMap Tryz.prog 9 heldR m n D2) :
    Calls Tryz.prog 17 #[.pointer (some ⟨b, 0, none⟩)] w fun e w' => (∃ A c, e = .returned (.slice A 2 c)) ∧ Below w.heap.size w w' := by
  refine (names_map b 2 _ m n D2 w h.B ho (by rw [sz2]; omega)).mono ?_
  rintro e w' ⟨v, ss, rfl, hp, hrow, hnil, hb⟩
  have hl : ss.length = 2 := by rw [hp.length_eq, size_keys, sz2]
  rcases hrow.2 with ⟨_, hz⟩ | ⟨g, cap, cur, rfl, _⟩
  · omega
  · rw [hl]; exact ⟨⟨_, _, rfl⟩, hb⟩
end
end Go.Proofs.YthmadnadaakjaaaGreatDoor.Opt
/- The examples: they hold. -/
namespace Go.Proofs.YthmadnadaakjaaaGreatDoor.Opt
open Go.RowKit Go.Maps
theorem _root_.Go.World.ownsMap.later {H : Type} {P : Program} {k : TypeId} {R : Value → Option (DataW H × List MemPlace)} {w w' : World} {b n : Nat} {D : DataW H} (h : w.ownsMap P k R b n D) (hb : Below w.heap.size w w') : w'.ownsMap P k R b n D := by
  obtain ⟨es, cl, h1, h2⟩ := h
  exact ⟨es, cl, (hb.block _ (Array.getElem?_eq_some_iff.1 h1).1).trans h1, h2⟩

set_option maxRecDepth 100000 in
set_option maxHeartbeats 8000000 in
theorem shown_any {B : Nat} (w : World) (ht : Tabs B w) (hB : B ≤ w.heap.size) :
    Calls Tryz.prog 7 #[] w fun e w' => e = .returned (.bool true) ∧ Below w.heap.size w w' := by
  have HT := Lib.hid ht
  clear ht
  go_enter Tryz.func7, Tryz.ntmps7
  go_wp2_with fail
  refine (new_nil 1 (by omega) (by omega) w).mono ?_
  rintro e w1 ⟨rfl, hA, hb1⟩
  have HA := Lib.hid hA
  have HB1 := Lib.hid hb1
  have hs1 : w.heap.size + 1 ≤ w1.heap.size := BL.lt hA
  clear hA hb1
  go_wp2_with fail
  refine (new_over 2 (by omega) (by omega) w.heap.size 1 (.map none) none w1 HA.out (by omega)).mono ?_
  rintro e w2 ⟨rfl, hBb, hb2⟩
  have hst : St w w2 w.heap.size w1.heap.size (.map none) := ⟨BL.keep HA.out (hb2.block _ (BL.lt HA.out)), hBb, Nat.le_refl _, by omega, by omega, HB1.out.trans (hb2.mono (by omega))⟩
  have ST := Lib.hid hst
  clear hst hBb hb2 HA HB1
  go_wp2_with fail
  refine (s_get0 HT.out hB ST.out).mono ?_
  rintro e w3 ⟨rfl, hb3⟩
  have ST3 := Lib.hid (ST.out.below hb3)
  clear hb3 ST
  go_wp2_with fail
  refine (s_set1 HT.out hB ST3.out).mono ?_
  rintro e w4 ⟨rfl, m, hmb, hm0, hst4, ho4⟩
  have ST4 := Lib.hid hst4
  have O4 := Lib.hid ho4
  clear hst4 ho4 ST3
  go_wp2_with fail
  refine (s_get1 HT.out hB ST4.out O4.out).mono ?_
  rintro e w5 ⟨rfl, hb5⟩
  have ST5 := Lib.hid (ST4.out.below hb5)
  have O5 := Lib.hid (O4.out.later hb5)
  clear hb5 ST4 O4
  go_wp2_with fail
  refine (s_set2 HT.out hB hmb hm0 ST5.out O5.out).mono ?_
  rintro e w6 ⟨rfl, hst6, ho6⟩
  have ST6 := Lib.hid hst6
  have O6 := Lib.hid ho6
  clear hst6 ho6 ST5 O5
  go_wp2_with fail
  refine (s_num HT.out hB ST6.out O6.out).mono ?_
  rintro e w7 ⟨rfl, hb7⟩
  have ST7 := Lib.hid (ST6.out.below hb7)
  have O7 := Lib.hid (O6.out.later hb7)
  clear hb7 ST6 O6
  go_wp2_with fail
  refine (s_known (ST7.out.tabs HT.out hB).1 (ST7.out.tabs HT.out hB).2).mono ?_
  rintro e w8 ⟨rfl, hb8⟩
  have ST8 := Lib.hid (ST7.out.below hb8)
  have O8 := Lib.hid (O7.out.later hb8)
  clear hb8 ST7 O7
  have e1 : ((bs onT).toList == [111, 110]) = true := by rw [bs_tl]; rfl
  have e2 : ((bs offT).toList == [111, 102, 102]) = true := by rw [bs_tl]; rfl
  have e3 : ((bs [104, 105, 115, 116, 111, 114, 121, 45, 108, 105, 109, 105, 116]).toList == [104, 105, 115, 116, 111, 114, 121, 45, 108, 105, 109, 105, 116]) = true := by rw [bs_tl]; rfl
  have e4 : ((bs numK).toList == [110, 117, 109, 98, 101, 114]) = true := by rw [bs_tl]; rfl
  generalize onT = x1 at *
  generalize offT = x2 at *
  generalize numK = x3 at *
  go_wp2_with fail
  refine (s_stat HT.out hB ST8.out [111, 110]).mono ?_
  rintro e w9 ⟨rfl, hb9⟩
  have ST9 := Lib.hid (ST8.out.below hb9)
  have O9 := Lib.hid (O8.out.later hb9)
  clear hb9 ST8 O8
  go_wp2_with fail
  refine (s_names ST9.out O9.out).mono ?_
  rintro e w10 ⟨⟨A, c, rfl⟩, hb10⟩
  have ST10 := Lib.hid (ST9.out.below hb10).kept
  clear hb10 ST9 O9
  go_wp2_with fail
  go_ret
  exact ⟨rfl, ST10.out⟩
end Go.Proofs.YthmadnadaakjaaaGreatDoor.Opt
