/- What a screen tells of itself: Region, Bells, Style, Grid, its modes. -/
import Derived.Test.YtjklnnklgkihlaaGreatDoorPad
import Derived.Shelf.Strings.Builder1
import Derived.Shelf.Strings.OnBuilder
import Derived.Shelf.LaysM
import Derived.Test.YtjklnnklgkihlaaGreatDoorProg
import Derived.Test.YtjklnnklgkihlaaGreatDoorPaj
namespace Go.Proofs.YtjklnnklgkihlaaGreatDoor.Scr
open Go.RowKit Cel Sty Grd

section
variable {w : World} {sb g : Nat} {pp tv : Value} {o : Option Nat} {S : ScP}
set_option maxRecDepth 100000 in
theorem style_at (h : scB w sb pp g o tv S) : Calls Tryz.prog 11 #[ptrV sb] w fun e w' => e = .returned (.agg #[.int .i64 S.now.pen.1, .int .i64 S.now.pen.2.1, .int .i64 S.now.pen.2.2]) ∧ Below w.heap.size w w' := by
  have hlt := h.lt
  have hb0 : Below w.heap.size w (w.alloc (.cells #[.int .i64 0, .int .i64 0, .int .i64 0] 23)) := (Below.refl _ _).alloc (Nat.le_refl _) _
  have e6 : (w.alloc (.cells #[.int .i64 0, .int .i64 0, .int .i64 0] 23)).cell? ⟨sb, 6, none⟩ = some (.int .i64 S.now.pen.1) := (hb0.cell (p := ⟨sb, 6, none⟩) hlt).trans (h.cell 6)
  have e7 : (w.alloc (.cells #[.int .i64 0, .int .i64 0, .int .i64 0] 23)).cell? ⟨sb, 7, none⟩ = some (.int .i64 S.now.pen.2.1) := (hb0.cell (p := ⟨sb, 7, none⟩) hlt).trans (h.cell 7)
  have e8 : (w.alloc (.cells #[.int .i64 0, .int .i64 0, .int .i64 0] 23)).cell? ⟨sb, 8, none⟩ = some (.int .i64 S.now.pen.2.2) := (hb0.cell (p := ⟨sb, 8, none⟩) hlt).trans (h.cell 8)
  generalize S.now.pen.1 = p1 at *
  generalize S.now.pen.2.1 = p2 at *
  generalize S.now.pen.2.2 = p3 at *
  have hb1 : Below w.heap.size w (w.alloc (.cells #[.int .i64 p1, .int .i64 p2, .int .i64 p3] 23)) := (Below.refl _ _).alloc (Nat.le_refl _) _
  clear h
  unfold ptrV
  go_enter Tryz.func11, Tryz.ntmps11
  go_wp2_with fail
  exact bodyPost_ret (v := .agg #[.int .i64 p1, .int .i64 p2, .int .i64 p3]) (results_cell (p := 2) (by kernel_rfl) _ _ w.heap.size _ _ _ _ rfl (BL.new w 23 [.int .i64 p1, .int .i64 p2, .int .i64 p3]) Tryz.underlying23 rfl (by kernel_rfl)) rfl ⟨rfl, hb1⟩
/-- The modes that are told. -/
def modesP (o : Option Nat) (S : ScP) : Int :=
  let m := if S.now.origin then bits .or .i64 S.modes 4 else S.modes
  match o with
  | none => m
  | some _ => bits .or .i64 m 256
set_option maxRecDepth 100000 in
theorem modes_at (h : scB w sb pp g o tv S) : Calls Tryz.prog 36 #[ptrV sb] w fun e w' => e = .returned (.int .i64 (modesP o S)) ∧ w = w' := by
  have e1 : w.cell? ⟨sb, 33, none⟩ = some (.int .i64 S.modes) := h.cell 33
  have e2 : w.cell? ⟨sb, 9, none⟩ = some (.bool S.now.origin) := h.cell 9
  have e3 : w.cell? ⟨sb, 2, none⟩ = some (optV o) := h.cell 2
  clear h
  unfold modesP
  generalize S.modes = m at *
  generalize S.now.origin = b at *
  unfold ptrV
  cases b <;> cases o <;> simp only [optV, ptrV] at e3
  all_goals go_enter Tryz.func36, Tryz.ntmps36
  all_goals go_wp2_with fail
  all_goals go_ret
  all_goals exact ⟨rfl, rfl⟩
/-- The grid that is seen, as a copy. -/
theorem grid_at {F : List Nat} {c lim : Nat} {past rows : List Ro} (h : SG w sb g F c lim past rows pp tv S) :
    Calls Tryz.prog 12 #[ptrV sb] w fun e w' => ∃ g2 F2, e = .returned (ptrV g2) ∧ GA w' g2 F2 c lim past rows ∧ (∀ x ∈ F2, w.heap.size ≤ x) ∧ Below w.heap.size w w' := by
  have hs := Lib.hid (shown_at h.blk)
  have hc := Lib.hid (clone_ga h.grd)
  clear h
  unfold seen ptrV at hs
  unfold ptrV
  go_enter Tryz.func12, Tryz.ntmps12
  go_wp2_with fail
  refine hs.out.mono ?_
  rintro _ w1 ⟨rfl, rfl⟩
  go_wp2_with fail
  refine hc.out.mono ?_
  rintro _ w2 ⟨g2, F2, rfl, hG, hF, hb⟩
  go_wp2_with fail
  go_ret
  exact ⟨g2, F2, rfl, hG, hF, hb⟩
end
end Go.Proofs.YtjklnnklgkihlaaGreatDoor.Scr
/- Library contracts that this proof calls on besides, laid at this translation. -/
namespace Go.Proofs
open Go.Shelf
def Tryz.lays156_ren : Go.Shelf.Ren := ⟨fun | 156 => 28 | 165 => 51 | 166 => 52 | 169 => 35 | 240 => 54 | 241 => 97 | 276 => 98 | 277 => 144 | n => n, fun | 31 => 49 | 9 => 9 | 3 => 3 | 4 => 4 | 0 => 0 | 20 => 20 | 72 => 75 | 76 => 85 | 70 => 73 | 37 => 28 | 75 => 84 | 127 => 117 | 164 => 140 | 5 => 5 | 80 => 88 | n => n, fun | n => n⟩
theorem Tryz.lays156 : Go.Proofs.Lays.n156 Tryz.prog Tryz.lays156_ren := {
  mixed := by kernel_rfl
  f156 := Tryz.func28.trans (congrArg some (by kernel_rfl))
  f165 := Tryz.func51.trans (congrArg some (by kernel_rfl))
  f166 := Tryz.func52.trans (congrArg some (by kernel_rfl))
  f169 := Tryz.func35.trans (congrArg some (by kernel_rfl))
  f240 := Tryz.func54.trans (congrArg some (by kernel_rfl))
  f241 := Tryz.func97.trans (congrArg some (by kernel_rfl))
  f276 := Tryz.func98.trans (congrArg some (by kernel_rfl))
  f277 := Tryz.func144.trans (congrArg some (by kernel_rfl))
  t0 := Tryz.underlying0
  a0 := Tryz.isAgg0
  z0 := Tryz.sizeOf0
  v0 := Tryz.zeroValue0
  t3 := Tryz.underlying3
  a3 := Tryz.isAgg3
  z3 := Tryz.sizeOf3
  v3 := Tryz.zeroValue3
  t4 := Tryz.underlying4
  a4 := Tryz.isAgg4
  z4 := Tryz.sizeOf4
  v4 := Tryz.zeroValue4
  t9 := Tryz.underlying9
  a9 := Tryz.isAgg9
  z9 := Tryz.sizeOf9
  v9 := Tryz.zeroValue9
  t20 := Tryz.underlying20
  a20 := Tryz.isAgg20
  z20 := Tryz.sizeOf20
  v20 := Tryz.zeroValue20
  t31 := Tryz.underlying49
  a31 := Tryz.isAgg49
  z31 := Tryz.sizeOf49
  v31 := Tryz.zeroValue49
  t37 := Tryz.underlying28
  a37 := Tryz.isAgg28
  z37 := Tryz.sizeOf28
  v37 := Tryz.zeroValue28
  t70 := Tryz.underlying73
  a70 := Tryz.isAgg73
  z70 := Tryz.sizeOf73
  v70 := Tryz.zeroValue73
  t72 := Tryz.underlying75
  a72 := Tryz.isAgg75
  z72 := Tryz.sizeOf75
  v72 := Tryz.zeroValue75
  t75 := Tryz.underlying84
  a75 := Tryz.isAgg84
  z75 := Tryz.sizeOf84
  v75 := Tryz.zeroValue84
  t76 := Tryz.underlying85
  a76 := Tryz.isAgg85
  z76 := Tryz.sizeOf85
  v76 := Tryz.zeroValue85
  t127 := Tryz.underlying117
  a127 := Tryz.isAgg117
  z127 := Tryz.sizeOf117
  v127 := Tryz.zeroValue117
  t164 := Tryz.underlying140
  a164 := Tryz.isAgg140
  z164 := Tryz.sizeOf140
  v164 := Tryz.zeroValue140 }
theorem Tryz.Builder_Extra_156 : Builder.Extra Tryz.prog Tryz.lays156_ren := {
  sizeBuilder := by kernel_rfl
  liesBuilder := by kernel_rfl
  t5 := Tryz.underlying5
  a5 := Tryz.isAgg5
  z5 := Tryz.sizeOf5
  v5 := Tryz.zeroValue5
  infoByte := by kernel_rfl
  cellsByte := by kernel_rfl
  sizeByte := by kernel_rfl
  neB5 := by decide }
open Go.RowKit in
/-- No element: the empty string; the world is as it was. (Whatever the slice's address and capacity: a nil slice too.) (LAID: no walk: one application.) -/
theorem Tryz.strings_Join_none (a : Option Addr) (c : Nat) (sep : ByteArray) (w : World) :
    Calls Tryz.prog 28 #[.slice a 0 c, .string sep] w fun e w' => e = .returned (.string ⟨#[]⟩) ∧ w' = w := Any.strings_Join_none Tryz.lays156 Tryz.Builder_Extra_156 a c sep w
open Go.RowKit in
/-- strings.Join: "Join concatenates the elements of its first argument to create a single string. The separator string sep is placed between elements in the resulting string.": HOWEVER MANY ELEMENTS. Below the heap's end the world is as it was. (LAID: no walk: one application.) -/
theorem Tryz.strings_Join (bk o c : Nat) (xs : List ByteArray) (sep : ByteArray) (w : World) (hcells : ∀ (j : Nat) x, xs[j]? = some x → w.cell? ⟨bk, o + j, none⟩ = some (.string x)) (hbk : bk < w.heap.size) (hN : xs.length ≤ 140737488355328) (hcap : xs.length ≤ c) (hlen : (Lib.join (xs.map (·.data.toList)) sep.data.toList).length ≤ 140737488355328) :
    Calls Tryz.prog 28 #[.slice (some ⟨bk, o, none⟩) xs.length c, .string sep] w fun e w' => e = .returned (.string ⟨(Lib.join (xs.map (·.data.toList)) sep.data.toList).toArray⟩) ∧ Below w.heap.size w w' := Any.strings_Join Tryz.lays156 Tryz.Builder_Extra_156 bk o c xs sep w hcells hbk hN hcap hlen
end Go.Proofs
