/- What a colour is, what a right look is, the plain one: the program's answers and the document's. -/
import Derived.Test.YtjklnnklgkihlaaGreatDoorProg
import Derived.Test.YtjklnnklgkihlaaGreatDoorPac
import Derived.Test.YtjklnnklgkihlaaGreatDoorPaj
import Derived.Test.YtjklnnklgkihlaaGreatDoorPbd
import Derived.WalkKit
import Derived.WalkLawsBesides
import Derived.WalkSpells
import Derived.WalkSmall
import Derived.Lib.Hide
import Derived.Outline
import Derived.Maps.AppendAt
import Derived.Deep.AppendLies
import Derived.Deep.Draws
import Derived.Deep.QuietTactic
import Derived.BigQuiet
import Derived.Lib.AppendIntMem
import Derived.Laws.BitsLemmas
import Derived.Laws.Bits64
import Derived.Maps.OwnOps
import Derived.Maps.RangeWalk
import Derived.Maps.Views
import Derived.Lib.IndexBytes
import Derived.Lib.TrimUEq
import Derived.Lib.TrimU
import Derived.Lib.FieldsP
import Derived.Deep.RegionHeld3
import Derived.Deep.DeepCutAuto
import Derived.Deep.CutRange
namespace Go.Proofs.YtjklnnklgkihlaaGreatDoor.Sty
open Go.RowKit
theorem col_cases (c : Int) : c < -1 ∨ (-1 ≤ c ∧ c ≤ 255) ∨ (255 < c ∧ c < 16777216) ∨ (16777216 ≤ c ∧ c ≤ 33554431) ∨ 33554431 < c := by omega

theorem isColour_any (c : Int) (b : Bool) (hb : isCol c = b) (w : World) :
    Calls Tryz.prog 23 #[.int .i64 c] w fun e w' => e = .returned (.bool b) ∧ w = w' := by
  subst hb
  rcases col_cases c with h | ⟨h1, h2⟩ | ⟨h1, h2⟩ | ⟨h1, h2⟩ | h
  · rw [(isCol_not c).2 (by omega)]
    have d1 : decide ((-1 : Int) ≤ c) = false := by simpa using h
    have d2 : decide ((16777216 : Int) ≤ c) = false := by simp; omega
    go_enter Tryz.func23, Tryz.ntmps23
    go_wp2
    go_ret
    exact ⟨rfl, rfl⟩
  · rw [(isCol_iff c).2 (by omega)]
    go_enter Tryz.func23, Tryz.ntmps23
    go_wp2
    go_ret
    exact ⟨rfl, rfl⟩
  · rw [(isCol_not c).2 (by omega)]
    have d0 : decide ((-1 : Int) ≤ c) = true := by simp; omega
    have d1 : decide (c ≤ 255) = false := by simpa using h1
    have d2 : decide ((16777216 : Int) ≤ c) = false := by simpa using h2
    go_enter Tryz.func23, Tryz.ntmps23
    go_wp2
    go_ret
    exact ⟨rfl, rfl⟩
  · rw [(isCol_iff c).2 (by omega)]
    have d0 : decide ((-1 : Int) ≤ c) = true := by simp; omega
    have d1 : decide (c ≤ 255) = false := by simp; omega
    go_enter Tryz.func23, Tryz.ntmps23
    go_wp2
    go_ret
    exact ⟨rfl, rfl⟩
  · rw [(isCol_not c).2 (by omega)]
    have d0 : decide ((-1 : Int) ≤ c) = true := by simp; omega
    have d1 : decide (c ≤ 255) = false := by simp; omega
    have d2 : decide ((16777216 : Int) ≤ c) = true := by simp; omega
    have d3 : decide (c ≤ 33554431) = false := by simpa using h
    go_enter Tryz.func23, Tryz.ntmps23
    go_wp2
    go_ret
    exact ⟨rfl, rfl⟩

/-- A right look. -/
def rightS (fg bg at_ : Int) : Bool := isCol fg && (isCol bg && (decide (0 ≤ at_) && decide (at_ ≤ 255)))

end Go.Proofs.YtjklnnklgkihlaaGreatDoor.Sty
namespace Go.Proofs.YtjklnnklgkihlaaGreatDoor.Sty
open Go.RowKit
/-- A block that is just these cells. -/
def Blk (w : World) (g : Nat) (t : TypeId) (cs : Array Value) : Prop := w.heap[g]? = some (.cells cs t (0, 0))
section
variable {w w' : World} {g : Nat} {t : TypeId} {cs : Array Value}
theorem Blk.lt (h : Blk w g t cs) : g < w.heap.size := by
  rcases Nat.lt_or_ge g w.heap.size with hlt | hge
  · exact hlt
  · unfold Blk at h; rw [Array.getElem?_eq_none hge] at h; cases h
theorem Blk.cell (h : Blk w g t cs) (i : Nat) : w.cell? ⟨g, i, none⟩ = cs[i]? := cell_of_row w g i cs t (0, 0) h
theorem Blk.frozen (h : Blk w g t cs) (i : Nat) : w.frozen? ⟨g, i, none⟩ = false := by
  unfold Blk at h
  simp [World.frozen?, h]
theorem Blk.new (w : World) (t : TypeId) (cs : Array Value) : Blk (w.alloc (.cells cs t)) w.heap.size t cs := heap_alloc_new w _
theorem Blk.alloc (h : Blk w g t cs) (o : Obj) : Blk (w.alloc o) g t cs := (Below.heap_alloc w o g h.lt).trans h
theorem Blk.set_ (h : Blk w g t cs) (i : Nat) (u : Value) : Blk (w.setCell ⟨g, i, none⟩ u) g t (cs.setIfInBounds i u) := by
  unfold Blk at h ⊢
  simp [World.setCell, Array.getElem?_modify, h]
theorem Blk.far (h : Blk w g t cs) {p : Addr} (hp : g ≠ p.block) (u : Value) : Blk (w.setCell p u) g t cs := (Below.heap_setCell w p u g hp).trans h
theorem Blk.below {B : Nat} (h : Blk w g t cs) (hb : Below B w w') (hg : g < B) : Blk w' g t cs := (hb.block g hg).trans h
end
section
variable {P : Program} {ops : Array Oper} {rest : List Oper} {op : Oper} {a : Act} {w : World} {Q : Exit → Act → World → Prop}
/-- A store of a whole row. -/
theorem wpList_store_blk (hgd : op.guard = none) (ty : TypeId) (x y : Operand) (ho : op.op = .store ty x y) (g : Nat) (cells : Array Value) (hx : a.eval x = .pointer (some ⟨g, 0, none⟩)) (hy : a.eval y = .agg cells)
    (t : TypeId) (old : Array Value) (hg : Blk w g t old) (hi : (P.info? ty).map (·.size) = some cells.size) (hold : old.size = cells.size) (h1 : cells.all (·.oneCell') = true)
    (h : ∀ w1, Blk w1 g t cells → (∀ B, B ≤ g → Below B w w1) → wpList P ops Q rest (a.put op.dst undef) w1) : wpList P ops Q (op :: rest) a w :=
  wpList_store_row hgd ty x y ho g cells hx hy t old hg hi hold h1
    (h _ (setRow_heap w g old cells _ _ hg) fun B hB => ⟨rfl, rfl, rfl, by simp, fun k hk => setRow_other w g k _ (by omega)⟩)
end
/-- A result that lies in memory. -/
theorem results_cell {P : Program} {fn : Func} {p : Tmp} {ty : TypeId} (h : fn.results = #[.cell p ty]) (tmps : Array Value) (w : World) (g : Nat) (t : TypeId) (cs : Array Value) (fr : Nat × Nat) (d : TypeDesc)
    (hp : tmps.getD p undef = .pointer (some ⟨g, 0, none⟩)) (hg : w.heap[g]? = some (.cells cs t fr))
    (hu : P.underlying ty = some d) (hd : (match d with | .struct _ | .array _ _ => true | _ => false) = true) (hi : (P.info? ty).map (·.size) = some cs.size) :
    (results fn tmps).run P w = .ok (.agg cs) w := by
  have hp' : tmps[p]?.getD undef = .pointer (some ⟨g, 0, none⟩) := by simpa using hp
  simp [results, h, hp', asAddr, run_loadVar_row w g t ty cs fr d hg hu hd hi]
/-- The ways in which a look can be right or not. -/
theorem right_cases (fg bg at_ : Int) (P : Bool → Prop)
    (h0 : isCol fg = false → P false) (h1 : isCol fg = true → isCol bg = false → P false) (h2 : isCol fg = true → isCol bg = true → at_ < 0 → P false)
    (h3 : isCol fg = true → isCol bg = true → 0 ≤ at_ → 255 < at_ → P false) (h4 : isCol fg = true → isCol bg = true → 0 ≤ at_ → at_ ≤ 255 → P true) : P (rightS fg bg at_) := by
  unfold rightS
  cases f : isCol fg
  · exact h0 f
  · cases b : isCol bg
    · exact h1 f b
    · by_cases a0 : 0 ≤ at_
      · by_cases a1 : at_ ≤ 255
        · have := h4 f b a0 a1
          simpa [a0, a1] using this
        · have := h3 f b a0 (by omega)
          simpa [a0, a1] using this
      · have := h2 f b (by omega)
        simpa [a0] using this

theorem right_any (fg bg at_ : Int) (b : Bool) (hb : rightS fg bg at_ = b) (w : World) :
    Calls Tryz.prog 7 #[.agg #[.int .i64 fg, .int .i64 bg, .int .i64 at_]] w fun e w' => e = .returned (.bool b) ∧ Below w.heap.size w w' := by
  subst hb
  refine right_cases fg bg at_ (fun b => Calls Tryz.prog 7 #[.agg #[.int .i64 fg, .int .i64 bg, .int .i64 at_]] w fun e w' => e = .returned (.bool b) ∧ Below w.heap.size w w') ?_ ?_ ?_ ?_ ?_
  · intro h1
    have c1 := fun w => isColour_any fg _ h1 w
    clear h1
    go_enter Tryz.func7, Tryz.ntmps7
    go_wp2_with (go_at_call 23; (first | (with_reducible refine (c1 _).mono ?_) | (with_reducible refine (c2 _).mono ?_)); rintro e w' ⟨rfl, rfl⟩)
    go_ret
    exact ⟨rfl, (Below.refl _ _).alloc (Nat.le_refl _) _⟩
  · intro h1 h2
    have c1 := fun w => isColour_any fg _ h1 w
    have c2 := fun w => isColour_any bg _ h2 w
    clear h1 h2
    go_enter Tryz.func7, Tryz.ntmps7
    go_wp2_with (go_at_call 23; (first | (with_reducible refine (c1 _).mono ?_) | (with_reducible refine (c2 _).mono ?_)); rintro e w' ⟨rfl, rfl⟩)
    go_ret
    exact ⟨rfl, (Below.refl _ _).alloc (Nat.le_refl _) _⟩
  · intro h1 h2 h3
    have c1 := fun w => isColour_any fg _ h1 w
    have c2 := fun w => isColour_any bg _ h2 w
    have d2 : decide (0 ≤ at_) = false := by simpa using h3
    clear h1 h2
    go_enter Tryz.func7, Tryz.ntmps7
    go_wp2_with (go_at_call 23; (first | (with_reducible refine (c1 _).mono ?_) | (with_reducible refine (c2 _).mono ?_)); rintro e w' ⟨rfl, rfl⟩)
    go_ret
    exact ⟨rfl, (Below.refl _ _).alloc (Nat.le_refl _) _⟩
  · intro h1 h2 h3 h4
    have c1 := fun w => isColour_any fg _ h1 w
    have c2 := fun w => isColour_any bg _ h2 w
    have d2 : decide (0 ≤ at_) = true := by simpa using h3
    have d3 : decide (at_ ≤ 255) = false := by simpa using h4
    clear h1 h2
    go_enter Tryz.func7, Tryz.ntmps7
    go_wp2_with (go_at_call 23; (first | (with_reducible refine (c1 _).mono ?_) | (with_reducible refine (c2 _).mono ?_)); rintro e w' ⟨rfl, rfl⟩)
    go_ret
    exact ⟨rfl, (Below.refl _ _).alloc (Nat.le_refl _) _⟩
  · intro h1 h2 h3 h4
    have c1 := fun w => isColour_any fg _ h1 w
    have c2 := fun w => isColour_any bg _ h2 w
    have d2 : decide (0 ≤ at_) = true := by simpa using h3
    have d3 : decide (at_ ≤ 255) = true := by simpa using h4
    clear h1 h2
    go_enter Tryz.func7, Tryz.ntmps7
    go_wp2_with (go_at_call 23; (first | (with_reducible refine (c1 _).mono ?_) | (with_reducible refine (c2 _).mono ?_)); rintro e w' ⟨rfl, rfl⟩)
    go_ret
    exact ⟨rfl, (Below.refl _ _).alloc (Nat.le_refl _) _⟩

theorem plain_any (w : World) :
    Calls Tryz.prog 10 #[] w fun e w' => e = .returned (.agg #[.int .i64 (-1), .int .i64 (-1), .int .i64 0]) ∧ Below w.heap.size w w' := by
  go_enter Tryz.func10, Tryz.ntmps10
  go_wp2
  exact bodyPost_ret (v := .agg #[.int .i64 (-1), .int .i64 (-1), .int .i64 0]) (by simp [results, Tryz.results10, go_sem]) rfl ⟨rfl, (Below.refl _ _).alloc (Nat.le_refl _) _⟩

/-- A look, or the plain one in its place. -/
def orP (fg bg at_ : Int) : Int × Int × Int := if rightS fg bg at_ = true then (fg, bg, at_) else (-1, -1, 0)
theorem size_alloc (w : World) (o : Obj) : (w.alloc o).heap.size = w.heap.size + 1 := by simp
set_option maxHeartbeats 400000 in
theorem orPlain_any (fg bg at_ f1 f2 f3 : Int) (hf : orP fg bg at_ = (f1, f2, f3)) (w : World) :
    Calls Tryz.prog 26 #[.agg #[.int .i64 fg, .int .i64 bg, .int .i64 at_]] w fun e w' => e = .returned (.agg #[.int .i64 f1, .int .i64 f2, .int .i64 f3]) ∧ Below w.heap.size w w' := by
  unfold orP at hf
  cases h : rightS fg bg at_
  · rw [h, if_neg (by decide)] at hf
    simp only [Prod.mk.injEq] at hf
    obtain ⟨rfl, rfl, rfl⟩ := hf
    have c1 := fun w => right_any fg bg at_ _ h w
    clear h
    go_enter Tryz.func26, Tryz.ntmps26
    go_wp2_with fail
    refine (c1 _).mono ?_
    rintro e w1 ⟨rfl, hb1⟩
    have hs1 : w.heap.size + 1 < w1.heap.size := by have := hb1.size; simp at this; omega
    have hk1 := (Blk.new (w.alloc (.cells #[.int .i64 fg, .int .i64 bg, .int .i64 at_] 23)) 23 #[.int .i64 0, .int .i64 0, .int .i64 0]).below hb1 (by simp)
    rw [size_alloc] at hk1
    have hbw : Below w.heap.size w w1 := (((Below.refl _ _).alloc (Nat.le_refl _) _).alloc (by simp) _).trans (hb1.mono (by simp; omega))
    clear hb1
    go_wp2_with fail
    refine (plain_any _).mono ?_
    rintro e w2 ⟨rfl, hb2⟩
    have hk2 := hk1.below hb2 hs1
    have hbw2 := hbw.trans (hb2.mono hbw.size)
    clear hb2 hbw hk1
    go_wp2_with (refine wpList_store_blk rfl 23 (.tmp 2) (.tmp 6) rfl (w.heap.size + 1) _ rfl rfl _ _ hk2 (by kernel_rfl) rfl (by kernel_rfl) ?_; intro w3 hblk3 hb3)
    exact bodyPost_ret (v := .agg #[.int .i64 (-1), .int .i64 (-1), .int .i64 0]) (results_cell (p := 2) (by kernel_rfl) _ w3 _ _ _ _ _ rfl hblk3 Tryz.underlying23 rfl (by kernel_rfl)) rfl ⟨rfl, hbw2.trans (hb3 _ (by omega))⟩
  · rw [h, if_pos rfl] at hf
    simp only [Prod.mk.injEq] at hf
    obtain ⟨rfl, rfl, rfl⟩ := hf
    have c1 := fun w => right_any fg bg at_ _ h w
    clear h
    go_enter Tryz.func26, Tryz.ntmps26
    go_wp2_with fail
    refine (c1 _).mono ?_
    rintro e w1 ⟨rfl, hb1⟩
    have hs1 : w.heap.size + 1 < w1.heap.size := by have := hb1.size; simp at this; omega
    have hk1 := (Blk.new (w.alloc (.cells #[.int .i64 fg, .int .i64 bg, .int .i64 at_] 23)) 23 #[.int .i64 0, .int .i64 0, .int .i64 0]).below hb1 (by simp)
    have hk0 := ((Blk.new w 23 #[.int .i64 fg, .int .i64 bg, .int .i64 at_]).alloc (.cells #[.int .i64 0, .int .i64 0, .int .i64 0] 23)).below hb1 (by simp; omega)
    rw [size_alloc] at hk1
    have hbw : Below w.heap.size w w1 := (((Below.refl _ _).alloc (Nat.le_refl _) _).alloc (by simp) _).trans (hb1.mono (by simp; omega))
    clear hb1
    go_wp2_with (first
      | (refine wpList_load_row rfl 23 _ rfl w.heap.size rfl _ _ _ _ hk0 Tryz.underlying23 rfl (by kernel_rfl) ?_)
      | (refine wpList_store_blk rfl 23 (.tmp 2) (.tmp 5) rfl (w.heap.size + 1) #[.int .i64 fg, .int .i64 bg, .int .i64 at_] rfl rfl _ _ hk1 (by kernel_rfl) rfl (by kernel_rfl) ?_; intro w3 hblk3 hb3))
    exact bodyPost_ret (v := .agg #[.int .i64 fg, .int .i64 bg, .int .i64 at_]) (results_cell (p := 2) (by kernel_rfl) _ w3 _ _ _ _ _ rfl hblk3 Tryz.underlying23 rfl (by kernel_rfl)) rfl ⟨rfl, hbw.trans (hb3 _ (by omega))⟩
end Go.Proofs.YtjklnnklgkihlaaGreatDoor.Sty
namespace Go.Proofs.YtjklnnklgkihlaaGreatDoor.Sty
open Go.RowKit
/-- A list of bytes as a text. -/
def bs (l : Tx) : ByteArray := ⟨l.toArray⟩
theorem bs_app (a b : Tx) : bs a ++ bs b = bs (a ++ b) := by
  unfold bs
  exact ByteArray.ext (by simp)
theorem bs_list (l : Tx) : (bs l).data.toList = l := by simp [bs]
theorem bs_size (l : Tx) : (bs l).size = l.length := by show (bs l).data.size = _; rw [← Array.length_toList, bs_list]
theorem bs_of (s : ByteArray) : s = bs s.data.toList := by cases s; simp [bs]
def u10Cells : Array Value := (Lib.pow10Tab.map fun z => Value.int .u64 z).toArray
/-- Where it lies, and what it holds: below block B. (That alone that an escape wants.) -/
structure Tabs (B : Nat) (w : World) : Prop where
  low : 4 < B
  u10 : ∃ t fr, w.heap[4]? = some (.cells u10Cells t fr)
theorem Tabs.below {B : Nat} {w w' : World} (h : Tabs B w) (hb : Below B w w') : Tabs B w' := by
  obtain ⟨l, ⟨t2, f2, h2⟩⟩ := h
  exact ⟨l, ⟨t2, f2, (hb.block _ l).trans h2⟩⟩
/-- From a later world, all that was there being as it was. -/
theorem Tabs.on {B : Nat} {w w' : World} (h : Tabs B w) (hB : B ≤ w.heap.size) (hb : Below w.heap.size w w') : Tabs B w' := h.below (hb.mono hB)
theorem gU10 : Tryz.prog.globalNamed "internal/strconv.uint64pow10" = some 4 := by kernel_rfl
theorem Tabs.tabIs {B : Nat} {w : World} (h : Tabs B w) : Lib.TabIs Tryz.prog w "internal/strconv.uint64pow10" .u64 Lib.pow10Tab := by
  obtain ⟨t, fr, h2⟩ := h.u10
  unfold Lib.TabIs World.var?
  rw [gU10]
  simp only [Option.bind_some, h2]
  rfl
theorem itoa_any {B : Nat} (n : Nat) (hn : n < 1000) (w : World) (ht : Tabs B w) :
    Calls Tryz.prog 50 #[.int .i64 n] w fun e w' => e = .returned (.string (bs (dec n))) ∧ Below w.heap.size w w' :=
  (Tryz.strconv_Itoa n (by omega) (by omega) w ht.tabIs).mono fun e w' ⟨he, k, os, hw⟩ => by
    refine ⟨?_, ?_⟩
    · rw [he, itoa_dec n hn]; rfl
    · rw [hw]; exact Lib.below_grow _ _ (Nat.le_refl _) _ _

end Go.Proofs.YtjklnnklgkihlaaGreatDoor.Sty
namespace Go.Proofs.YtjklnnklgkihlaaGreatDoor.Sty
open Go.RowKit
end Go.Proofs.YtjklnnklgkihlaaGreatDoor.Sty
namespace Go.Proofs.YtjklnnklgkihlaaGreatDoor.Sty
open Go.RowKit
end Go.Proofs.YtjklnnklgkihlaaGreatDoor.Sty
namespace Go.Proofs.YtjklnnklgkihlaaGreatDoor.Sty
open Go.RowKit
end Go.Proofs.YtjklnnklgkihlaaGreatDoor.Sty
namespace Go.Proofs.YtjklnnklgkihlaaGreatDoor.Sty
open Go.RowKit
end Go.Proofs.YtjklnnklgkihlaaGreatDoor.Sty
namespace Go.Proofs.YtjklnnklgkihlaaGreatDoor.Sty
open Go.RowKit
end Go.Proofs.YtjklnnklgkihlaaGreatDoor.Sty
namespace Go.Proofs.YtjklnnklgkihlaaGreatDoor.Sty
open Go.RowKit
end Go.Proofs.YtjklnnklgkihlaaGreatDoor.Sty
namespace Go.Proofs.YtjklnnklgkihlaaGreatDoor.Sty
end Go.Proofs.YtjklnnklgkihlaaGreatDoor.Sty
namespace Go.Proofs.YtjklnnklgkihlaaGreatDoor.Sty
open Go.RowKit
end Go.Proofs.YtjklnnklgkihlaaGreatDoor.Sty
namespace Go.Proofs.YtjklnnklgkihlaaGreatDoor.Sty
open Go.RowKit
end Go.Proofs.YtjklnnklgkihlaaGreatDoor.Sty
namespace Go.Proofs.YtjklnnklgkihlaaGreatDoor.Sty
open Go.RowKit
end Go.Proofs.YtjklnnklgkihlaaGreatDoor.Sty
namespace Go.Proofs.YtjklnnklgkihlaaGreatDoor.Sty
open Go.RowKit
end Go.Proofs.YtjklnnklgkihlaaGreatDoor.Sty
namespace Go.Proofs.YtjklnnklgkihlaaGreatDoor.Sty
end Go.Proofs.YtjklnnklgkihlaaGreatDoor.Sty
namespace Go.Proofs.YtjklnnklgkihlaaGreatDoor.Sty
open Go.RowKit
open Go.Maps (Keyed string_keyed)
open Go.WideShapes
/-! ### What is looked up -/
end Go.Proofs.YtjklnnklgkihlaaGreatDoor.Sty
namespace Go.Proofs.YtjklnnklgkihlaaGreatDoor.Sty
open Go.RowKit
/-- A look: front, back, attributes. -/
abbrev St := Int × Int × Int
end Go.Proofs.YtjklnnklgkihlaaGreatDoor.Sty
namespace Go.Proofs.YtjklnnklgkihlaaGreatDoor.Sty
open Go.RowKit
end Go.Proofs.YtjklnnklgkihlaaGreatDoor.Sty
namespace Go.Proofs.YtjklnnklgkihlaaGreatDoor.Sty
open Go.Lib
end Go.Proofs.YtjklnnklgkihlaaGreatDoor.Sty
namespace Go.Proofs.YtjklnnklgkihlaaGreatDoor.Sty
open Go.RowKit
section
variable {P : Program} {ops : Array Oper} {rest : List Oper} {op : Oper} {a : Act} {w : World} {Q : Exit → Act → World → Prop}
/-- A store of a whole row: no other block turns. -/
theorem wpList_store_row2 (hgd : op.guard = none) (ty : TypeId) (x y : Operand) (ho : op.op = .store ty x y) (g : Nat) (cells : Array Value) (hx : a.eval x = .pointer (some ⟨g, 0, none⟩)) (hy : a.eval y = .agg cells)
    (t : TypeId) (old : Array Value) (hg : Blk w g t old) (hi : (P.info? ty).map (·.size) = some cells.size) (hold : old.size = cells.size) (h1 : cells.all (·.oneCell') = true)
    (h : ∀ w1, Blk w1 g t cells → (∀ B, B ≤ g → Below B w w1) → (∀ k, k ≠ g → w1.heap[k]? = w.heap[k]?) → w1.heap.size = w.heap.size → wpList P ops Q rest (a.put op.dst undef) w1) : wpList P ops Q (op :: rest) a w :=
  wpList_store_row hgd ty x y ho g cells hx hy t old hg hi hold h1
    (h _ (setRow_heap w g old cells _ _ hg) (fun B hB => ⟨rfl, rfl, rfl, by simp, fun k hk => setRow_other w g k _ (by omega)⟩) (fun k hk => setRow_other w g k _ hk) (by simp))
end
theorem Blk.keep {w w' : World} {g : Nat} {t : TypeId} {cs : Array Value} (h : Blk w g t cs) (e : w'.heap[g]? = w.heap[g]?) : Blk w' g t cs := e.trans h
end Go.Proofs.YtjklnnklgkihlaaGreatDoor.Sty
namespace Go.Proofs.YtjklnnklgkihlaaGreatDoor.Sty
open Go.RowKit
end Go.Proofs.YtjklnnklgkihlaaGreatDoor.Sty
namespace Go.Proofs.YtjklnnklgkihlaaGreatDoor.Sty
open Go.RowKit
open Go.Maps (Keyed)
/-- Is the attribute number i there? -/
def onN (a i : Nat) : Bool := decide (a / 2 ^ i % 2 = 1)
end Go.Proofs.YtjklnnklgkihlaaGreatDoor.Sty
namespace Go.Proofs.YtjklnnklgkihlaaGreatDoor.Sty
open Go.RowKit
open Go.Maps (Keyed)
end Go.Proofs.YtjklnnklgkihlaaGreatDoor.Sty
namespace Go.Proofs.YtjklnnklgkihlaaGreatDoor.Sty
open Go.RowKit
end Go.Proofs.YtjklnnklgkihlaaGreatDoor.Sty
namespace Go.Proofs.YtjklnnklgkihlaaGreatDoor.Sty
open Go.RowKit
theorem itoaI_any {B : Nat} (z : Int) (h0 : 0 ≤ z) (h1 : z < 1000) (w : World) (ht : Tabs B w) :
    Calls Tryz.prog 50 #[.int .i64 z] w fun e w' => e = .returned (.string (bs (dec z.toNat))) ∧ Below w.heap.size w w' := by
  obtain ⟨k, rfl⟩ : ∃ k : Nat, z = k := ⟨z.toNat, by omega⟩
  exact itoa_any k (by omega) w ht
theorem i64_small (n : Int) (h₀ : 0 ≤ n) (h₁ : n < 2 ^ 63) : IntKind.i64.wrap n = n := by rw [IntKind.wrap_i64]; omega
theorem low8 (x : Int) (h0 : 0 ≤ x) (h1 : x < 16777216) : bits .and .i64 x 255 = x % 256 := by
  have h := bits_mask .i64 63 (by decide) i64_small 8 (by decide) x h0 (by omega)
  have e : ((2 : Int) ^ 8 - 1) = 255 := by decide
  have e2 : ((2 : Int) ^ 8) = 256 := by decide
  rwa [e, e2] at h
def t5 : Tx := [59, 53, 59]
def t2 : Tx := [59, 50, 59]
/-- The numbers of a colour; f: 30 of the front, 40 of the back. -/
def codeS (c f : Int) : Tx :=
  if c = -1 then dec (f + 9).toNat
  else if c < 8 then dec (f + c).toNat
  else if c < 16 then dec (f + 52 + c).toNat
  else if c ≤ 255 then dec (f + 8).toNat ++ t5 ++ dec c.toNat
  else dec (f + 8).toNat ++ t2 ++ dec ((c - 16777216) / 65536).toNat ++ [59] ++ dec ((c - 16777216) / 256 % 256).toNat ++ [59] ++ dec ((c - 16777216) % 256).toNat
theorem dec_sz (n : Nat) : (bs (dec n)).size ≤ 3 := by rw [bs_size]; exact dec_len n
theorem codeS_len (c f : Int) : (codeS c f).length ≤ 20 := by
  unfold codeS
  have h5 : t5.length = 3 := rfl
  have h2 : t2.length = 3 := rfl
  have h59 : ([59] : Tx).length = 1 := rfl
  have hd := dec_len
  split
  · exact Nat.le_trans (hd _) (by omega)
  · split
    · exact Nat.le_trans (hd _) (by omega)
    · split
      · exact Nat.le_trans (hd _) (by omega)
      · split
        · simp only [List.length_append]
          have a := hd (f + 8).toNat
          have b := hd c.toNat
          omega
        · simp only [List.length_append]
          have a := hd (f + 8).toNat
          have b := hd ((c - 16777216) / 65536).toNat
          have d := hd ((c - 16777216) / 256 % 256).toNat
          have e := hd ((c - 16777216) % 256).toNat
          omega

set_option maxRecDepth 100000 in
set_option maxHeartbeats 1000000 in
theorem colourCode_any {B : Nat} (c f : Int) (hc : isCol c = true) (hf : f = 30 ∨ f = 40) (w : World) (ht : Tabs B w) (hB : B ≤ w.heap.size) :
    Calls Tryz.prog 27 #[.int .i64 c, .int .i64 f] w fun e w' => e = .returned (.string (bs (codeS c f))) ∧ Below w.heap.size w w' := by
  rw [isCol_iff] at hc
  have hf0 : 30 ≤ f := by omega
  have hf1 : f ≤ 40 := by omega
  clear hf
  by_cases h1 : c = -1
  · have h1b : (c == -1) = true := by simpa using h1
    have HE : Hid (codeS c f = dec (f + 9).toNat) := by show _ = _; unfold codeS; rw [if_pos h1]
    clear hc h1
    go_enter Tryz.func27, Tryz.ntmps27
    go_wp2_with (go_at_call 50; refine (itoaI_any (f + 9) (by omega) (by omega) _ ht).mono ?_; rintro e w1 ⟨rfl, hb1⟩)
    go_ret
    exact ⟨by rw [HE.out]; rfl, hb1⟩
  · have h1b : (c == -1) = false := by simpa using h1
    by_cases h8 : c < 8
    · have HE : Hid (codeS c f = dec (f + c).toNat) := by show _ = _; unfold codeS; rw [if_neg h1, if_pos h8]
      have hc0 : 0 ≤ c := by omega
      clear hc h1
      go_enter Tryz.func27, Tryz.ntmps27
      go_wp2_with (go_at_call 50; refine (itoaI_any (f + c) (by omega) (by omega) _ ht).mono ?_; rintro e w1 ⟨rfl, hb1⟩)
      go_ret
      exact ⟨by rw [HE.out]; rfl, hb1⟩
    · by_cases h16 : c < 16
      · have HE : Hid (codeS c f = dec (f + 60 + c - 8).toNat) := by
          show _ = _
          unfold codeS; rw [if_neg h1, if_neg h8, if_pos h16]; congr 2; omega
        clear hc h1
        go_enter Tryz.func27, Tryz.ntmps27
        go_wp2_with (go_at_call 50; refine (itoaI_any (f + 60 + c - 8) (by omega) (by omega) _ ht).mono ?_; rintro e w1 ⟨rfl, hb1⟩)
        go_ret
        exact ⟨by rw [HE.out]; rfl, hb1⟩
      · by_cases h255 : c ≤ 255
        · have HE : Hid (codeS c f = dec (f + 8).toNat ++ t5 ++ dec c.toNat) := by
            show _ = _
            unfold codeS; rw [if_neg h1, if_neg h8, if_neg h16, if_pos h255]
          have z1 := dec_sz (f + 8).toNat
          have z2 := dec_sz c.toNat
          clear hc h1
          go_enter Tryz.func27, Tryz.ntmps27
          go_wp2_with fail
          refine (itoaI_any (f + 8) (by omega) (by omega) _ ht).mono ?_
          rintro e w1 ⟨rfl, hb1⟩
          have ht1 := ht.on hB hb1
          have HJ : Hid (bs (dec (f + 8).toNat) ++ { data := #[59, 53, 59] } ++ bs (dec c.toNat) = bs (codeS c f)) := by
            show _ = _
            rw [HE.out, ← bs_app, ← bs_app]; rfl
          generalize bs (dec (f + 8).toNat) = X1 at *
          have hcc := itoaI_any c (by omega) (by omega) w1 ht1
          generalize bs (dec c.toNat) = X2 at *
          go_wp2_with fail
          refine hcc.mono ?_
          rintro e w2 ⟨rfl, hb2⟩
          go_wp2_with fail
          go_ret
          exact ⟨by rw [← HJ.out]; rfl, hb1.trans (hb2.mono hb1.size)⟩
        · have HE : Hid (codeS c f = dec (f + 8).toNat ++ t2 ++ dec ((c - 16777216) / 65536).toNat ++ [59] ++ dec ((c - 16777216) / 256 % 256).toNat ++ [59] ++ dec ((c - 16777216) % 256).toNat) := by
            show _ = _
            unfold codeS; rw [if_neg h1, if_neg h8, if_neg h16, if_neg h255]
          obtain ⟨m, hm⟩ : ∃ m, c - 16777216 = m := ⟨_, rfl⟩
          have hm0 : 0 ≤ m := by omega
          have hm1 : m < 16777216 := by omega
          have hc3 : 16777216 ≤ c := by omega
          have hc4 : c ≤ 33554431 := by omega
          rw [hm] at HE
          have hg := low8 (m / 256) (by omega) (by omega)
          have hbl := low8 m hm0 hm1
          have z1 := dec_sz (f + 8).toNat
          have z2 := dec_sz (m / 65536).toNat
          have z3 := dec_sz (m / 256 % 256).toNat
          have z4 := dec_sz (m % 256).toNat
          have HJ : Hid (bs (dec (f + 8).toNat) ++ { data := #[59, 50, 59] } ++ bs (dec (m / 65536).toNat) ++ { data := #[59] } ++ bs (dec (m / 256 % 256).toNat) ++ { data := #[59] } ++ bs (dec (m % 256).toNat) = bs (codeS c f)) := by
            show _ = _
            rw [HE.out, ← bs_app, ← bs_app, ← bs_app, ← bs_app, ← bs_app, ← bs_app]; rfl
          have i1 := fun w h => itoaI_any (B := B) (f + 8) (by omega) (by omega) w h
          have i2 := fun w h => itoaI_any (B := B) (m / 65536) (by omega) (by omega) w h
          have i3 := fun w h => itoaI_any (B := B) (m / 256 % 256) (by omega) (by omega) w h
          have i4 := fun w h => itoaI_any (B := B) (m % 256) (by omega) (by omega) w h
          generalize bs (dec (f + 8).toNat) = X1 at *
          generalize bs (dec (m / 65536).toNat) = X2 at *
          generalize bs (dec (m / 256 % 256).toNat) = X3 at *
          generalize bs (dec (m % 256).toNat) = X4 at *
          clear hc h1
          go_enter Tryz.func27, Tryz.ntmps27
          go_wp2_with fail
          refine (i1 _ ht).mono ?_
          rintro e w1 ⟨rfl, hb1⟩
          have ht1 := ht.on hB hb1
          go_wp2_with fail
          refine (i2 _ ht1).mono ?_
          rintro e w2 ⟨rfl, hb2⟩
          have hbw2 := hb1.trans (hb2.mono hb1.size)
          go_wp2_with fail
          refine (i3 _ (ht.on hB hbw2)).mono ?_
          rintro e w3 ⟨rfl, hb3⟩
          have hbw3 := hbw2.trans (hb3.mono hbw2.size)
          go_wp2_with fail
          refine (i4 _ (ht.on hB hbw3)).mono ?_
          rintro e w4 ⟨rfl, hb4⟩
          have hbw4 := hbw3.trans (hb4.mono hbw3.size)
          go_wp2_with fail
          go_ret
          exact ⟨by rw [← HJ.out]; rfl, hbw4⟩
end Go.Proofs.YtjklnnklgkihlaaGreatDoor.Sty
namespace Go.Proofs.YtjklnnklgkihlaaGreatDoor.Sty
open Go.RowKit
/-- The bits of a that are not in b. -/
def an (a b : Nat) : Nat := (BitVec.ofNat 64 a &&& ~~~BitVec.ofNat 64 b).toNat
theorem an_le (a b : Nat) (ha : a < 256) : an a b ≤ a := by
  unfold an
  rw [BitVec.toNat_and, BitVec.toNat_ofNat, Nat.mod_eq_of_lt (by omega : a < 2 ^ 64)]
  exact Nat.and_le_left
theorem bits_an (a b : Nat) (ha : a < 256) : bits .andNot .i64 (a : Int) (b : Int) = (an a b : Int) := by
  have h := an_le a b ha
  unfold bits
  simp only [IntKind.bits, BitVec.ofInt_natCast]
  exact i64_small ((an a b : Nat) : Int) (Int.natCast_nonneg _) (by omega)
theorem onN_bit (a i : Nat) : onN a i = a.testBit i := by unfold onN; exact Nat.testBit_eq_decide_div_mod_eq.symm
theorem an_on (a b i : Nat) (hi : i < 64) : onN (an a b) i = (onN a i && !onN b i) := by
  rw [onN_bit, onN_bit, onN_bit]
  unfold an
  rw [← BitVec.getLsbD, BitVec.getLsbD_and, BitVec.getLsbD_not, BitVec.getLsbD_ofNat, BitVec.getLsbD_ofNat]
  simp [hi]
theorem an_bit (a b i : Nat) (ha : a < 256) (hi : i < 8) : (bits .and .i64 ((an a b : Int) / 2 ^ i) 1 != 0) = (onN a i && !onN b i) := by
  have h := an_le a b ha
  rw [← an_on a b i (by omega)]
  have e : ((an a b : Int) / 2 ^ i) = ((an a b / 2 ^ i : Nat) : Int) := by simp
  have h2 := bits_mask .i64 63 (by decide) i64_small 1 (by decide) ((an a b : Int) / 2 ^ i) (by rw [e]; exact Int.natCast_nonneg _) (by rw [e]; have := Nat.div_le_self (an a b) (2 ^ i); omega)
  have e1 : ((2 : Int) ^ 1 - 1) = 1 := by decide
  rw [e1, e] at h2
  rw [e, h2]
  unfold onN
  have e2 : ((2 : Int) ^ 1) = 2 := by decide
  rw [e2]
  by_cases hc : an a b / 2 ^ i % 2 = 1
  · have : (((an a b / 2 ^ i : Nat) : Int) % 2) = 1 := by omega
    rw [this, hc]; rfl
  · have h0 : an a b / 2 ^ i % 2 = 0 := by omega
    have : (((an a b / 2 ^ i : Nat) : Int) % 2) = 0 := by omega
    rw [this, h0]; rfl

def digitAt (i : Nat) : Tx := [([49, 50, 51, 52, 53, 55, 56, 57] : Tx).getD i 0]
/-- The numbers of the first k attributes that are turned on. -/
def onCodes (t g : Nat) (k : Nat) : List Tx := ((List.range k).filter fun i => onN t i && !onN g i).map digitAt
theorem onCodes_succ (t g k : Nat) : onCodes t g (k + 1) = if (onN t k && !onN g k) = true then onCodes t g k ++ [digitAt k] else onCodes t g k := by
  unfold onCodes
  rw [List.range_succ, List.filter_append]
  by_cases h : (onN t k && !onN g k) = true
  · rw [if_pos h]; simp [h]
  · rw [if_neg h]; simp [h]
theorem onCodes_len (t g k : Nat) : (onCodes t g k).length ≤ k := by
  unfold onCodes
  rw [List.length_map]
  have := List.length_filter_le (fun i => onN t i && !onN g i) (List.range k)
  simpa using this
/-- The numbers of an escape that turns the look f into the look t (both right). -/
def codesOf (f t : St) : List Tx :=
  let clr := decide (an f.2.2.toNat t.2.2.toNat ≠ 0)
  let g : St := if clr = true then (-1, -1, 0) else f
  (if clr = true then [[48]] else []) ++ onCodes t.2.2.toNat g.2.2.toNat 8 ++ (if t.1 ≠ g.1 then [codeS t.1 30] else []) ++ (if t.2.1 ≠ g.2.1 then [codeS t.2.1 40] else [])
/-- The escape. -/
def sgrS (f t : St) : Tx := if f = t then [] else [27, 91] ++ Lib.join (codesOf f t) [59] ++ [109]
theorem orP_right (fg bg at_ : Int) : rightS (orP fg bg at_).1 (orP fg bg at_).2.1 (orP fg bg at_).2.2 = true := by
  unfold orP
  by_cases h : rightS fg bg at_ = true
  · rw [if_pos h]; exact h
  · rw [if_neg h]; decide
theorem rightS_parts {a b c : Int} (h : rightS a b c = true) : isCol a = true ∧ isCol b = true ∧ 0 ≤ c ∧ c ≤ 255 := by
  unfold rightS at h
  simp only [Bool.and_eq_true, decide_eq_true_eq] at h
  exact ⟨h.1, h.2.1, h.2.2.1, h.2.2.2⟩

theorem info_str : (Tryz.prog.info? 9).map (fun i => (i.zero, i.size, i.bytes)) = some (some (.string { data := #[] }), 1, 16) := by kernel_rfl
def strv (l : List Tx) : List Value := l.map fun x => Value.string (bs x)
section
variable {ops : Array Oper} {rest : List Oper} {op : Oper} {a : Act} {w : World} {Q : Exit → Act → World → Prop}
/-- One text appended to a row of the call's own, or to nil. -/
theorem wpList_app_str (hgd : op.guard = none) (s x : Operand) (ho : op.op = .call { callee := .builtin .append, args := #[s, x], argTypes := #[49, 49] })
    (base : Nat) (v : Value) (n : Nat) (xs : List Value) (b : ByteArray) (c : Nat) (hs : a.eval s = v) (hown : w.ownsRow base 9 1 v n xs) (hx : a.eval x = .slice (some ⟨w.heap.size, 0, none⟩) 1 c) (hbase : base ≤ w.heap.size) (hn : n + 1 ≤ 8796093022208)
    (h : ∀ v' w', w'.ownsRow base 9 1 v' (n + 1) (xs ++ [.string b]) → Below base w w' → w.grownBy w' v.ownBlock → (v'.ownBlock = v.ownBlock ∨ v'.ownBlock = some (w.heap.size + 1)) → wpList Tryz.prog ops Q rest (a.put op.dst v') w') :
    wpList Tryz.prog ops Q (op :: rest) a (w.alloc (.cells #[.string b] 9)) := by
  obtain ⟨i0, hi0, hz0, hz1, hz2⟩ := info_parts info_str
  have hal := hown.alloc (.cells #[.string b] 9)
  refine wpList_append_own_at _ hgd s x 49 ho base 9 i0 (.string { data := #[] }) 1 16 Tryz.underlying49 hi0 hz0 hz1 hz2 rfl (by decide) v n xs hs hal ⟨w.heap.size, 0, none⟩ 1 c [.string b] hx rfl (cell_one_new _ _ _)
    (by intro u hu; simp at hu; subst hu; rfl) (by unfold maxLen; omega) (by omega) (by simp; omega) ?_
  intro v' w' hown' hgr _ hwh
  refine h v' w' hown' (((Below.refl base w).alloc hbase _).grown hgr (by simp; omega) (fun k hk => (hown.lt k hk).1)) ?_ (by simpa using hwh)
  exact ⟨hgr.os, hgr.tape, hgr.output, Nat.le_trans (by simp) hgr.size, fun i hi hne => (hgr.block i (by simp; omega) hne).trans (Below.heap_alloc _ _ _ hi)⟩
end
end Go.Proofs.YtjklnnklgkihlaaGreatDoor.Sty
namespace Go.Proofs.YtjklnnklgkihlaaGreatDoor.Sty
open Go.RowKit
theorem eq_run (f1 f2 f3 t1 t2 t3 : Int) (b : Bool) (h : decide ((f1, f2, f3) = (t1, t2, t3)) = b) (w : World) :
    (binOp .eql 23 (.agg #[.int .i64 f1, .int .i64 f2, .int .i64 f3]) (.agg #[.int .i64 t1, .int .i64 t2, .int .i64 t3])).run Tryz.prog w = .ok (.bool b) w := by
  subst h
  by_cases h1 : f1 = t1
  · by_cases h2 : f2 = t2
    · by_cases h3 : f3 = t3
      · go_simp
      · go_simp
    · go_simp
  · go_simp
end Go.Proofs.YtjklnnklgkihlaaGreatDoor.Sty
namespace Go.Proofs.YtjklnnklgkihlaaGreatDoor.Sty
open Go.RowKit
theorem join_len (s : Tx) (m : Nat) : ∀ L : List Tx, (∀ x ∈ L, x.length ≤ m) → (Lib.join L s).length ≤ L.length * (m + s.length)
  | [], _ => by simp [Lib.join, List.intercalate]
  | [x], h => by
    have := h x (by simp)
    simp [Lib.join, List.intercalate]
    omega
  | x :: y :: r, h => by
    have h1 := h x (by simp)
    have h2 := join_len s m (y :: r) (fun z hz => h z (by simp [hz]))
    have e : Lib.join (x :: y :: r) s = x ++ s ++ Lib.join (y :: r) s := by simp [Lib.join, List.intercalate]
    rw [e, List.length_append, List.length_append]
    simp only [List.length_cons, Nat.add_mul] at h2 ⊢
    omega
theorem join_any (v : Value) (L : List Tx) (base : Nat) (w : World) (h : w.ownsRow base 9 1 v L.length (strv L)) (hL : L.length ≤ 100) (hx : ∀ x ∈ L, x.length ≤ 100) :
    Calls Tryz.prog 28 #[v, .string { data := #[59] }] w fun e w' => e = .returned (.string (bs (Lib.join L [59]))) ∧ Below w.heap.size w w' := by
  have hlt := h.lt
  obtain ⟨h1, h2⟩ := h
  rcases h2 with ⟨rfl, h0⟩ | ⟨g, cap, cur, rfl, k1, k2, k3, k4, k5, k6⟩
  · have e : L = [] := List.eq_nil_of_length_eq_zero h0
    subst e
    refine (Tryz.strings_Join_none none 0 { data := #[59] } w).mono fun e w' ⟨he, hw⟩ => ⟨?_, ?_⟩
    · rw [he]; rfl
    · rw [hw]; exact Below.refl _ _
  · have hgl : g < w.heap.size := (hlt g rfl).2
    have e1 : (L.map bs).map (fun x => x.data.toList) = L := by
      rw [List.map_map]
      conv => rhs; rw [← List.map_id L]
      exact List.map_congr_left fun x _ => bs_list x
    have hj := Tryz.strings_Join g 0 cap (L.map bs) { data := #[59] } w (fun j x hjx => by
      rw [List.getElem?_map] at hjx
      obtain ⟨y, hy, rfl⟩ := Option.map_eq_some_iff.1 hjx
      have hjl : j < L.length := (List.getElem?_eq_some_iff.1 hy).1
      rw [Nat.zero_add, cell_of_row w g j cur _ _ k2, ← Array.getElem?_toList]
      have h8 : (cur.toList.take (L.length * 1))[j]? = (strv L)[j]? := by rw [k6]
      rw [List.getElem?_take, if_pos (by omega)] at h8
      rw [h8]
      simp [strv, hy]) hgl (by rw [List.length_map]; omega) (by rw [List.length_map]; omega) (by
        rw [e1]
        have hj1 : (Lib.join L [59]).length ≤ L.length * 101 := join_len [59] 100 L hx
        show (Lib.join L [59]).length ≤ _
        omega)
    rw [e1, List.length_map] at hj
    exact hj
end Go.Proofs.YtjklnnklgkihlaaGreatDoor.Sty
namespace Go.Proofs.YtjklnnklgkihlaaGreatDoor.Sty
open Go.RowKit
theorem own_below {w w' : World} {base : Nat} {e : TypeId} {v : Value} {n : Nat} {xs : List Value} (h : w.ownsRow base e 1 v n xs) (hb : Below w.heap.size w w') : w'.ownsRow base e 1 v n xs :=
  h.kept (row := none) ⟨hb.os, hb.tape, hb.output, hb.size, fun k hk _ => hb.block k hk⟩ (by cases hv : v.ownBlock <;> simp)
theorem own_store {w w' : World} {base g : Nat} {e : TypeId} {v : Value} {n : Nat} {xs : List Value} (h : w.ownsRow base e 1 v n xs) (hb : ∀ B, B ≤ g → Below B w w') (hk : ∀ k, k ≠ g → w'.heap[k]? = w.heap[k]?) (hg : g < base) : w'.ownsRow base e 1 v n xs :=
  h.kept (row := some g) ⟨(hb 0 (Nat.zero_le _)).os, (hb 0 (Nat.zero_le _)).tape, (hb 0 (Nat.zero_le _)).output, (hb 0 (Nat.zero_le _)).size, fun k _ hne => hk k (fun e => hne (by rw [e]))⟩
    (by
      cases hv : v.ownBlock with
      | none => exact .inl rfl
      | some j =>
        have := (h.lt j hv).1
        right
        intro e
        injection e with e
        omega)
abbrev lit8 : ByteArray := { data := #[49, 50, 51, 52, 53, 55, 56, 57] }
theorem lit8_next (k : Nat) (hk : k < 8) : (Utf8.decode lit8 k).2 = 1 := by
  have : ∀ k, k < 8 → (Utf8.decode lit8 k).2 = 1 := by decide
  exact this k hk
theorem lit8_cut (k : Nat) (hk : k < 8) : lit8.extract k (k + 1) = bs (digitAt k) := by
  have : ∀ k, k < 8 → (lit8.extract k (k + 1)).data.toList = digitAt k := by decide
  rw [← this k hk]
  exact bs_of _
theorem own_ne {w : World} {base I : Nat} {e : TypeId} {v : Value} {n : Nat} {xs : List Value} (h : w.ownsRow base e 1 v n xs) (hI : w.heap.size = I) : ∀ j, v.ownBlock = some j → j ≠ I := fun j hj e => by
  have := (h.lt j hj).2
  omega
theorem chain {W V X : World} (h : Below W.heap.size W V) (k : Below V.heap.size V X) : Below W.heap.size W X := h.trans (k.mono h.size)
set_option maxRecDepth 100000 in
set_option maxHeartbeats 2000000 in
theorem sgr_any {B : Nat} (a1 a2 a3 b1 b2 b3 : Int) (w : World) (ht : Tabs B w) (hB : B ≤ w.heap.size) :
    Calls Tryz.prog 9 #[.agg #[.int .i64 a1, .int .i64 a2, .int .i64 a3], .agg #[.int .i64 b1, .int .i64 b2, .int .i64 b3]] w fun e w' => e = .returned (.string (bs (sgrS (orP a1 a2 a3) (orP b1 b2 b3)))) ∧ Below w.heap.size w w' := by
  obtain ⟨f, hf⟩ : ∃ f, orP a1 a2 a3 = f := ⟨_, rfl⟩
  obtain ⟨f1, f2, f3⟩ := f
  obtain ⟨t, hto⟩ : ∃ t, orP b1 b2 b3 = t := ⟨_, rfl⟩
  obtain ⟨t1, t2, t3⟩ := t
  have hrf := orP_right a1 a2 a3
  have hrt := orP_right b1 b2 b3
  rw [hf] at hrf
  rw [hto] at hrt
  have of_ := fun w => orPlain_any a1 a2 a3 f1 f2 f3 hf w
  have ot_ := fun w => orPlain_any b1 b2 b3 t1 t2 t3 hto w
  have HF := Lib.hid hf
  have HT := Lib.hid hto
  clear hf hto
  have hA := (Blk.new w 23 #[.int .i64 a1, .int .i64 a2, .int .i64 a3]).alloc (.cells #[.int .i64 b1, .int .i64 b2, .int .i64 b3] 23)
  have hD := Blk.new (w.alloc (.cells #[.int .i64 a1, .int .i64 a2, .int .i64 a3] 23)) 23 #[.int .i64 b1, .int .i64 b2, .int .i64 b3]
  rw [size_alloc] at hD
  have hbel : Below w.heap.size w ((w.alloc (.cells #[.int .i64 a1, .int .i64 a2, .int .i64 a3] 23)).alloc (.cells #[.int .i64 b1, .int .i64 b2, .int .i64 b3] 23)) := ((Below.refl _ _).alloc (Nat.le_refl _) _).alloc (by simp) _
  have hsz0 : ((w.alloc (.cells #[.int .i64 a1, .int .i64 a2, .int .i64 a3] 23)).alloc (.cells #[.int .i64 b1, .int .i64 b2, .int .i64 b3] 23)).heap.size = w.heap.size + 2 := by simp
  go_enter Tryz.func9, Tryz.ntmps9
  go_upto_region 1 with fail
  generalize (w.alloc (.cells #[.int .i64 a1, .int .i64 a2, .int .i64 a3] 23)).alloc (.cells #[.int .i64 b1, .int .i64 b2, .int .i64 b3] 23) = W at *
  go_cut [] (fun wx => Blk wx w.heap.size 23 #[.int .i64 f1, .int .i64 f2, .int .i64 f3] ∧ Blk wx (w.heap.size + 1) 23 #[.int .i64 t1, .int .i64 t2, .int .i64 t3] ∧ Below w.heap.size w wx)
  case first =>
    have hdr : Below W.heap.size W W.drew := (Below.refl _ _).drew
    have HA := Lib.hid hA
    have HD := Lib.hid hD
    have c0 := hA.cell 0
    have c1 := hA.cell 1
    have c2 := hA.cell 2
    have d0 := hD.cell 0
    have d1 := hD.cell 1
    have d2 := hD.cell 2
    clear hA hD
    go_region_with (first
      | (go_at_call 26; (first | (with_reducible refine (of_ _).mono ?_) | (with_reducible refine (ot_ _).mono ?_)); rintro e w2 ⟨rfl, hb2⟩; have hbx := chain (by assumption) hb2; have e0 := (HA.out.below hbx (by omega)).cell 0; have e1 := (HA.out.below hbx (by omega)).cell 1; have e2 := (HA.out.below hbx (by omega)).cell 2; have g0 := (HD.out.below hbx (by omega)).cell 0; have g1 := (HD.out.below hbx (by omega)).cell 1; have g2 := (HD.out.below hbx (by omega)).cell 2; have q0 := (HA.out.below hbx (by omega)).frozen 0; have q1 := (HA.out.below hbx (by omega)).frozen 1; have q2 := (HA.out.below hbx (by omega)).frozen 2; have q3 := (HD.out.below hbx (by omega)).frozen 0; have q4 := (HD.out.below hbx (by omega)).frozen 1; have q5 := (HD.out.below hbx (by omega)).frozen 2))
    all_goals go_wp2_with fail
    all_goals
      have hA2 := HA.out.below hbx (by omega)
      have hD2 := HD.out.below hbx (by omega)
      have hz2 := hbx.size
      go_meet
      refine ⟨?_, ?_, ?_⟩
      · exact ((((((hA2.set_ 0 (.int .i64 f1)).set_ 1 (.int .i64 f2)).set_ 2 (.int .i64 f3)).far (p := ⟨w.heap.size + 1, 0, none⟩) (by simp) (.int .i64 t1)).far (p := ⟨w.heap.size + 1, 1, none⟩) (by simp) (.int .i64 t2)).far (p := ⟨w.heap.size + 1, 2, none⟩) (by simp) (.int .i64 t3))
      · exact ((((((hD2.far (p := ⟨w.heap.size, 0, none⟩) (by simp) (.int .i64 f1)).far (p := ⟨w.heap.size, 1, none⟩) (by simp) (.int .i64 f2)).far (p := ⟨w.heap.size, 2, none⟩) (by simp) (.int .i64 f3)).set_ 0 (.int .i64 t1)).set_ 1 (.int .i64 t2)).set_ 2 (.int .i64 t3))
      · exact ((((((hbel.trans (hbx.mono (by omega))).setCell (p := ⟨w.heap.size, 0, none⟩) (by simp) _).setCell (p := ⟨w.heap.size, 1, none⟩) (by simp) _).setCell (p := ⟨w.heap.size, 2, none⟩) (by simp) _).setCell (p := ⟨w.heap.size + 1, 0, none⟩) (by simp) _).setCell (p := ⟨w.heap.size + 1, 1, none⟩) (by simp) _).setCell (p := ⟨w.heap.size + 1, 2, none⟩) (by simp) _
  case rest =>
    obtain ⟨hA9, hD9, hb9⟩ := hcut
    clear hA hD hbel hsz0 of_ ot_
    obtain ⟨cf1, cf2, hf30, hf31⟩ := rightS_parts hrf
    obtain ⟨ct1, ct2, ht30, ht31⟩ := rightS_parts hrt
    change 0 ≤ f3 at hf30
    change 0 ≤ t3 at ht30
    change f3 ≤ 255 at hf31
    change t3 ≤ 255 at ht31
    change isCol t1 = true at ct1
    change isCol t2 = true at ct2
    clear hrf hrt cf1 cf2
    obtain ⟨fa, rfl⟩ : ∃ fa : Nat, f3 = fa := ⟨f3.toNat, by omega⟩
    obtain ⟨ta, rfl⟩ : ∃ ta : Nat, t3 = ta := ⟨t3.toNat, by omega⟩
    by_cases heq : (f1, f2, (fa : Int)) = (t1, t2, (ta : Int))
    · have HE : Hid (sgrS (orP a1 a2 a3) (orP b1 b2 b3) = []) := by
        show _ = _
        rw [HF.out, HT.out]; unfold sgrS; rw [if_pos heq]
      have heqr := eq_run f1 f2 fa t1 t2 ta true (by simpa using heq)
      clear heq
      go_wp2_with (first
        | (refine wpList_load_row rfl 23 _ rfl w.heap.size rfl _ _ _ _ hA9 Tryz.underlying23 rfl (by kernel_rfl) ?_)
        | (refine wpList_load_row rfl 23 _ rfl (w.heap.size + 1) rfl _ _ _ _ hD9 Tryz.underlying23 rfl (by kernel_rfl) ?_))
      go_ret
      exact ⟨by rw [HE.out]; rfl, hb9⟩
    · have heqr := eq_run f1 f2 fa t1 t2 ta false (by simpa using heq)
      have HNQ := Lib.hid heq
      clear heq
      have han := bits_an fa ta (by omega)
      have fc := hA9.cell 2
      have tc := hD9.cell 2
      obtain ⟨g, hg⟩ : ∃ g : St, (if decide (an fa ta ≠ 0) = true then ((-1, -1, 0) : St) else (f1, f2, (fa : Int))) = g := ⟨_, rfl⟩
      obtain ⟨g1, g2, g3⟩ := g
      obtain ⟨L0, hL0⟩ : ∃ L0 : List Tx, (if decide (an fa ta ≠ 0) = true then [[48]] else []) = L0 := ⟨_, rfl⟩
      have HG := Lib.hid hg
      have HL0 := Lib.hid hL0
      clear hg hL0
      go_upto_if 19 with (first
          | (refine wpList_load_row rfl 23 _ rfl w.heap.size rfl _ _ _ _ hA9 Tryz.underlying23 rfl (by kernel_rfl) ?_)
          | (refine wpList_load_row rfl 23 _ rfl (w.heap.size + 1) rfl _ _ _ _ hD9 Tryz.underlying23 rfl (by kernel_rfl) ?_))
      go_cut [5] (fun s5 wx => Blk wx w.heap.size 23 #[.int .i64 g1, .int .i64 g2, .int .i64 g3] ∧ Blk wx (w.heap.size + 1) 23 #[.int .i64 t1, .int .i64 t2, .int .i64 (ta : Int)] ∧ Below w.heap.size w wx ∧ wx.ownsRow (w.heap.size + 2) 9 1 s5 L0.length (strv L0))
      case first =>
        have hAl := hA9.lt
        have hDl := hD9.lt
        by_cases hclr : an fa ta = 0
        · have hnz : (((an fa ta : Nat) : Int) != 0) = false := by rw [hclr]; rfl
          have e1 := HG.out
          have e2 := HL0.out
          rw [if_neg (by simp [hclr])] at e1 e2
          simp only [Prod.mk.injEq] at e1
          obtain ⟨rfl, rfl, e1⟩ := e1
          subst e2
          have HA9 := Lib.hid hA9
          rw [e1] at HA9
          clear e1 HG HL0
          go_wp2_with fail
          go_meet
          exact ⟨HA9.out, hD9, hb9, World.ownsRow_nil _ _ _ _⟩
        · have hnz : (((an fa ta : Nat) : Int) != 0) = true := by
            have : ((an fa ta : Nat) : Int) ≠ 0 := by exact_mod_cast hclr
            simpa using this
          have e1 := HG.out
          have e2 := HL0.out
          rw [if_pos (by simp [hclr])] at e1 e2
          simp only [Prod.mk.injEq] at e1
          obtain ⟨rfl, rfl, rfl⟩ := e1
          subst e2
          clear HG HL0
          go_wp2_with (first
            | (at_builtin; refine wpList_app_str rfl (.tmp 20) (.tmp 21) rfl (w.heap.size + 2) _ 0 [] _ 1 rfl (World.ownsRow_nil _ _ _ _) rfl (by omega) (by omega) ?_; intro v' w3 hown3 hb3 hg3 hw3))
          have hA3 := hA9.below hb3 (by omega)
          have hD3 := hD9.below hb3 (by omega)
          have hbw3 : Below w.heap.size w w3 := hb9.trans (hb3.mono (by omega))
          have hs3 := hb3.size
          refine (plain_any w3).mono ?_
          rintro e w4 ⟨rfl, hb4⟩
          have hA4 := hA3.below hb4 (by omega)
          have hD4 := hD3.below hb4 (by omega)
          have hbw4 := hbw3.trans (hb4.mono (by omega))
          have hown4 := own_below hown3 hb4
          clear hA9 hD9 hb9 hb3 hb4 hA3 hD3 hbw3 hown3 hg3 hw3
          go_wp2_with (refine wpList_store_row2 rfl 23 (.tmp 2) (.tmp 23) rfl w.heap.size #[.int .i64 (-1), .int .i64 (-1), .int .i64 0] rfl rfl _ _ hA4 (by kernel_rfl) rfl (by kernel_rfl) ?_; intro w5 hA5 hb5 hk5 hs5)
          go_meet
          exact ⟨hA5, hD4.keep (hk5 _ (by omega)), hbw4.trans (hb5 _ (Nat.le_refl _)), own_store hown4 hb5 hk5 (by omega)⟩
      case rest =>
        obtain ⟨hA8, hD8, hb8, hown8⟩ := hcut
        have hll : L0.length ≤ 1 := by rw [← HL0.out]; split <;> simp
        have hg3 : ∃ ga : Nat, g3 = ga ∧ ga < 256 := by
          have e1 := HG.out
          by_cases hclr : an fa ta = 0
          · rw [if_neg (by simp [hclr])] at e1
            simp only [Prod.mk.injEq] at e1
            exact ⟨fa, e1.2.2.symm, by omega⟩
          · rw [if_pos (by simp [hclr])] at e1
            simp only [Prod.mk.injEq] at e1
            exact ⟨0, e1.2.2.symm, by omega⟩
        obtain ⟨ga, rfl, hga⟩ := hg3
        clear hA9 hD9 hb9 han fc tc heqr
        go_wp2_with fail
        obtain ⟨I, hI0⟩ : ∃ I, wc.heap.size = I := ⟨_, rfl⟩
        have hIl : w.heap.size + 2 ≤ I := by have := hD8.lt; omega
        have hne8 := own_ne hown8 hI0
        have hitr := World.iter_heap wc lit8 0
        have hA8' := hA8.alloc (.stringIter lit8 0)
        have hD8' := hD8.alloc (.stringIter lit8 0)
        have hb8' := hb8.alloc hb8.size (.stringIter lit8 0)
        have hown8' := hown8.alloc (.stringIter lit8 0)
        rw [hI0] at hitr
        go_loopw [5] (fun s5 wr => ∃ k : Nat, k ≤ 8 ∧ wr.heap[I]? = some (.stringIter lit8 k) ∧ Blk wr w.heap.size 23 #[.int .i64 g1, .int .i64 g2, .int .i64 (ga : Int)] ∧ Blk wr (w.heap.size + 1) 23 #[.int .i64 t1, .int .i64 t2, .int .i64 (ta : Int)] ∧ Below w.heap.size w wr ∧
            (∀ j, s5.ownBlock = some j → j ≠ I) ∧ wr.ownsRow (w.heap.size + 2) 9 1 s5 (L0 ++ onCodes ta ga k).length (strv (L0 ++ onCodes ta ga k))) (fun _ wr => 8 - wr.iterPos I)
        case atStart =>
          refine ⟨0, by omega, hitr, hA8', hD8', hb8', hne8, ?_⟩
          have e : L0 ++ onCodes ta ga 0 = L0 := by simp [onCodes]
          rw [e]
          exact hown8'
        case round =>
          obtain ⟨k, hk, hI, hA, hD, hb, hne, hown⟩ := hrel
          clear hA8 hD8 hb8 hown8 hitr hA8' hD8' hb8' hown8' hne8
          rw [hI0]
          have hIw : I < wr.heap.size := (Array.getElem?_eq_some_iff.1 hI).1
          have hAl := hA.lt
          have hDl := hD.lt
          have hpos := iterPos_of hI
          have HPOS := Lib.hid hpos
          clear hpos
          have hcl := onCodes_len ta ga k
          have hlen : (L0 ++ onCodes ta ga k).length ≤ 9 := by rw [List.length_append]; omega
          by_cases hlt : k < 8
          · have hnx := fun ty => Lib.run_next_any_at (P := Tryz.prog) wr I lit8 k ty hI (by show k < 8; exact hlt)
            rw [lit8_next k hlt] at hnx
            have hI2 := Lib.iterAt_heap wr I lit8 k (k + 1) hI
            have hot := fun j h => Lib.iterAt_other wr I j lit8 (k + 1) h
            have hA2 := hA.keep (hot _ (by omega))
            have hD2 := hD.keep (hot _ (by omega))
            have hsz2 : (wr.iterAt I lit8 (k + 1)).heap.size = wr.heap.size := by simp [World.iterAt]
            have hb2 : Below w.heap.size w (wr.iterAt I lit8 (k + 1)) := hb.trans ⟨rfl, rfl, rfl, Nat.le_of_eq hsz2.symm, fun j hj => hot j (by omega)⟩
            have hown2 : (wr.iterAt I lit8 (k + 1)).ownsRow (w.heap.size + 2) 9 1 _ (L0 ++ onCodes ta ga k).length (strv (L0 ++ onCodes ta ga k)) :=
              hown.kept (row := some I) ⟨rfl, rfl, rfl, Nat.le_of_eq hsz2.symm, fun j _ hj => hot j (fun e => hj (by rw [e]))⟩ (by
                cases hv : Value.ownBlock _ with
                | none => exact .inl rfl
                | some j => right; intro e; injection e with e; exact hne j hv e)
            have hsz2a := Nat.le_of_eq hsz2.symm
            clear hsz2
            generalize wr.iterAt I lit8 (k + 1) = w2 at *
            have hc1 := hA2.cell 2
            have hc2 := hD2.cell 2
            have han := bits_an ta ga (by omega)
            have hbt := an_bit ta ga k (by omega) hlt
            have HOS := Lib.hid (onCodes_succ ta ga k)
            have hct := lit8_cut k hlt
            have hI2p := iterPos_of hI2
            have HP2 := Lib.hid hI2p
            clear hI2p hot
            cases hon : (onN ta k && !onN ga k)
            · rw [hon] at hbt
              have HO2 : Hid (onCodes ta ga (k + 1) = onCodes ta ga k) := by show _ = _; rw [HOS.out, hon]; rfl
              clear HOS hon
              go_wp2_with fail
              go_roundw
              case rel => exact ⟨k + 1, by omega, hI2, hA2, hD2, hb2, hne, by rw [HO2.out]; exact hown2⟩
              case measure => rw [HP2.out, HPOS.out]; omega
            · rw [hon] at hbt
              have HO2 : Hid (onCodes ta ga (k + 1) = onCodes ta ga k ++ [digitAt k]) := by show _ = _; rw [HOS.out, hon]; rfl
              clear HOS hon
              have HL : Hid (strv (L0 ++ onCodes ta ga (k + 1)) = strv (L0 ++ onCodes ta ga k) ++ [.string (bs (digitAt k))] ∧ (L0 ++ onCodes ta ga (k + 1)).length = (L0 ++ onCodes ta ga k).length + 1) := by
                show _ ∧ _
                rw [HO2.out, ← List.append_assoc]
                refine ⟨by simp [strv], ?_⟩
                rw [List.length_append, List.length_singleton]
              go_wp2_with (at_builtin; refine wpList_app_str rfl (.tmp 37) (.tmp 42) rfl (w.heap.size + 2) _ _ _ _ 1 rfl hown2 rfl (by omega) (by omega) ?_; intro v3 w3 hown3 hb3 hg3 hw3)
              have hI3 : w3.heap[I]? = some (.stringIter lit8 (k + 1)) := (hg3.block I (by omega) (by
                intro e
                exact hne I e.symm rfl)).trans hI2
              have hI3p := iterPos_of hI3
              go_roundw
              case rel => exact ⟨k + 1, by omega, hI3, hA2.below hb3 (by omega), hD2.below hb3 (by omega), hb2.trans (hb3.mono (by omega)), fun j hj => by
                rcases hw3 with e | e
                · exact hne j (e.symm.trans hj)
                · rw [hj] at e; injection e with e; omega, by rw [HL.out.1, HL.out.2]; exact hown3⟩
              case measure => rw [hI3p, HPOS.out]; omega
          · obtain rfl : k = 8 := by omega
            have hnx := fun ty => Lib.run_next_end_at (P := Tryz.prog) wr I lit8 8 ty hI (by decide)
            have hxx : ∀ x ∈ L0 ++ onCodes ta ga 8, x.length ≤ 20 := by
              intro x hx
              rw [List.mem_append] at hx
              rcases hx with hx | hx
              · rw [← HL0.out] at hx
                split at hx
                · rw [List.mem_singleton] at hx; rw [hx]; decide
                · cases hx
              · unfold onCodes at hx
                obtain ⟨j, _, rfl⟩ := List.mem_map.1 hx
                simp [digitAt]
            have HSG : Hid (sgrS (orP a1 a2 a3) (orP b1 b2 b3) = [27, 91] ++ Lib.join (L0 ++ onCodes ta ga 8 ++ (if t1 ≠ g1 then [codeS t1 30] else []) ++ (if t2 ≠ g2 then [codeS t2 40] else [])) [59] ++ [109]) := by
              show _ = _
              rw [HF.out, HT.out]
              unfold sgrS
              rw [if_neg HNQ.out]
              have e1 := HG.out
              have e2 := HL0.out
              unfold codesOf
              simp only [Int.toNat_natCast]
              rw [e1, e2]
              rfl
            have hll : (L0 ++ onCodes ta ga 8).length ≤ 9 := hlen
            have fc := hA.cell 0
            have tc := hD.cell 0
            have fd := hA.cell 1
            have td := hD.cell 1
            clear hlen hcl HL0 HG HNQ HF HT hne
            generalize L0 ++ onCodes ta ga 8 = L1 at *
            by_cases h1 : t1 ≠ g1
            · by_cases h2 : t2 ≠ g2
              · have q1 : (t1 != g1) = true := by simpa using h1
                have q2 : (t2 != g2) = true := by simpa using h2
                have HC : Hid (sgrS (orP a1 a2 a3) (orP b1 b2 b3) = [27, 91] ++ Lib.join (L1 ++ [codeS t1 30] ++ [codeS t2 40]) [59] ++ [109]) := by
                  show _ = _
                  rw [HSG.out, if_pos h1, if_pos h2]
                  all_goals simp only [List.append_nil, List.append_assoc]
                clear h1 h2 HSG
                go_wp2_with fail
                refine (colourCode_any t1 30 ct1 (by omega) wr (ht.on hB hb) (by omega)).mono ?_
                rintro e w5 ⟨rfl, hb5⟩
                have hA5 := hA.below hb5 (by omega)
                have hD5 := hD.below hb5 (by omega)
                have hbw5 := hb.trans (hb5.mono (by omega))
                have hown5 := own_below hown hb5
                have hs5 := hb5.size
                generalize hcs5 : codeS t1 30 = C5 at *
                go_wp2_with (at_builtin; refine wpList_app_str rfl (.tmp 49) (.tmp 53) rfl (w.heap.size + 2) _ _ _ _ 1 rfl hown5 rfl (by omega) (by omega) ?_; intro v6 w6 hown6 hb6 hg6 hw6; have hA6 := hA5.below hb6 (by omega); have hD6 := hD5.below hb6 (by omega); have hbw6 := hbw5.trans (hb6.mono (by omega)); have hs6 := hb6.size; have fc6 := hA6.cell 0; have tc6 := hD6.cell 0; have fd6 := hA6.cell 1; have td6 := hD6.cell 1)
                have e5 : strv L1 ++ [Value.string (bs C5)] = strv (L1 ++ [C5]) := by simp [strv]
                have el5 : L1.length + 1 = (L1 ++ [C5]).length := by simp
                rw [e5, el5] at hown6
                have hll6 : (L1 ++ [C5]).length ≤ 20 := by simp; omega
                have hxx6 : ∀ x ∈ (L1 ++ [C5]), x.length ≤ 20 := by
                  intro x hx
                  rw [List.mem_append, List.mem_singleton] at hx
                  rcases hx with hx | rfl
                  · exact hxx x hx
                  · rw [← hcs5]; exact codeS_len _ _
                refine (colourCode_any t2 40 ct2 (by omega) w6 (ht.on hB hbw6) (by omega)).mono ?_
                rintro e w7 ⟨rfl, hb7⟩
                have hA7 := hA6.below hb7 (by omega)
                have hD7 := hD6.below hb7 (by omega)
                have hbw7 := hbw6.trans (hb7.mono (by omega))
                have hown7 := own_below hown6 hb7
                have hs7 := hb7.size
                generalize hcs7 : codeS t2 40 = C7 at *
                go_wp2_with (at_builtin; refine wpList_app_str rfl (.tmp 60) (.tmp 64) rfl (w.heap.size + 2) _ _ _ _ 1 rfl hown7 rfl (by omega) (by omega) ?_; intro v8 w8 hown8 hb8 hg8 hw8; have hA8 := hA7.below hb8 (by omega); have hD8 := hD7.below hb8 (by omega); have hbw8 := hbw7.trans (hb8.mono (by omega)); have hs8 := hb8.size; have fc8 := hA8.cell 0; have tc8 := hD8.cell 0; have fd8 := hA8.cell 1; have td8 := hD8.cell 1)
                have e7 : strv (L1 ++ [C5]) ++ [Value.string (bs C7)] = strv ((L1 ++ [C5]) ++ [C7]) := by simp [strv]
                have el7 : (L1 ++ [C5]).length + 1 = ((L1 ++ [C5]) ++ [C7]).length := by simp
                rw [e7, el7] at hown8
                have hll8 : ((L1 ++ [C5]) ++ [C7]).length ≤ 20 := by simp; omega
                have hxx8 : ∀ x ∈ ((L1 ++ [C5]) ++ [C7]), x.length ≤ 20 := by
                  intro x hx
                  rw [List.mem_append, List.mem_singleton] at hx
                  rcases hx with hx | rfl
                  · exact hxx6 x hx
                  · rw [← hcs7]; exact codeS_len _ _
                have hjo := join_any _ _ _ _ hown8 (by omega) (fun x hx => Nat.le_trans (hxx8 x hx) (by omega))
                have hjl := join_len [59] 20 _ hxx8
                have hjz : (bs (Lib.join ((L1 ++ [C5]) ++ [C7]) [59])).size ≤ 500 := by
                  rw [bs_size]
                  have h59 : ([59] : Tx).length = 1 := rfl
                  have : ((L1 ++ [C5]) ++ [C7]).length * (20 + 1) ≤ 20 * (20 + 1) := Nat.mul_le_mul_right _ hll8
                  rw [h59] at hjl
                  omega
                have HF2 : Hid (({ data := #[27, 91] } : ByteArray) ++ bs (Lib.join ((L1 ++ [C5]) ++ [C7]) [59]) ++ { data := #[109] } = bs (sgrS (orP a1 a2 a3) (orP b1 b2 b3))) := by
                  show _ = _
                  rw [HC.out, ← bs_app, ← bs_app]; rfl
                generalize bs (Lib.join ((L1 ++ [C5]) ++ [C7]) [59]) = J at *
                go_wp2_with (go_at_call 28; refine hjo.mono ?_; rintro e w9 ⟨rfl, hb9⟩)
                go_ret
                exact ⟨by rw [← HF2.out]; rfl, hbw8.trans (hb9.mono (by omega))⟩
              · have q1 : (t1 != g1) = true := by simpa using h1
                have q2 : (t2 != g2) = false := by simpa using h2
                have HC : Hid (sgrS (orP a1 a2 a3) (orP b1 b2 b3) = [27, 91] ++ Lib.join (L1 ++ [codeS t1 30]) [59] ++ [109]) := by
                  show _ = _
                  rw [HSG.out, if_pos h1, if_neg (by simpa using h2)]
                  all_goals simp only [List.append_nil, List.append_assoc]
                clear h1 h2 HSG
                go_wp2_with fail
                refine (colourCode_any t1 30 ct1 (by omega) wr (ht.on hB hb) (by omega)).mono ?_
                rintro e w5 ⟨rfl, hb5⟩
                have hA5 := hA.below hb5 (by omega)
                have hD5 := hD.below hb5 (by omega)
                have hbw5 := hb.trans (hb5.mono (by omega))
                have hown5 := own_below hown hb5
                have hs5 := hb5.size
                generalize hcs5 : codeS t1 30 = C5 at *
                go_wp2_with (at_builtin; refine wpList_app_str rfl (.tmp 49) (.tmp 53) rfl (w.heap.size + 2) _ _ _ _ 1 rfl hown5 rfl (by omega) (by omega) ?_; intro v6 w6 hown6 hb6 hg6 hw6; have hA6 := hA5.below hb6 (by omega); have hD6 := hD5.below hb6 (by omega); have hbw6 := hbw5.trans (hb6.mono (by omega)); have hs6 := hb6.size; have fc6 := hA6.cell 0; have tc6 := hD6.cell 0; have fd6 := hA6.cell 1; have td6 := hD6.cell 1)
                have e5 : strv L1 ++ [Value.string (bs C5)] = strv (L1 ++ [C5]) := by simp [strv]
                have el5 : L1.length + 1 = (L1 ++ [C5]).length := by simp
                rw [e5, el5] at hown6
                have hll6 : (L1 ++ [C5]).length ≤ 20 := by simp; omega
                have hxx6 : ∀ x ∈ (L1 ++ [C5]), x.length ≤ 20 := by
                  intro x hx
                  rw [List.mem_append, List.mem_singleton] at hx
                  rcases hx with hx | rfl
                  · exact hxx x hx
                  · rw [← hcs5]; exact codeS_len _ _
                have hjo := join_any _ _ _ _ hown6 (by omega) (fun x hx => Nat.le_trans (hxx6 x hx) (by omega))
                have hjl := join_len [59] 20 _ hxx6
                have hjz : (bs (Lib.join (L1 ++ [C5]) [59])).size ≤ 500 := by
                  rw [bs_size]
                  have h59 : ([59] : Tx).length = 1 := rfl
                  have : (L1 ++ [C5]).length * (20 + 1) ≤ 20 * (20 + 1) := Nat.mul_le_mul_right _ hll6
                  rw [h59] at hjl
                  omega
                have HF2 : Hid (({ data := #[27, 91] } : ByteArray) ++ bs (Lib.join (L1 ++ [C5]) [59]) ++ { data := #[109] } = bs (sgrS (orP a1 a2 a3) (orP b1 b2 b3))) := by
                  show _ = _
                  rw [HC.out, ← bs_app, ← bs_app]; rfl
                generalize bs (Lib.join (L1 ++ [C5]) [59]) = J at *
                go_wp2_with (go_at_call 28; refine hjo.mono ?_; rintro e w9 ⟨rfl, hb9⟩)
                go_ret
                exact ⟨by rw [← HF2.out]; rfl, hbw6.trans (hb9.mono (by omega))⟩
            · by_cases h2 : t2 ≠ g2
              · have q1 : (t1 != g1) = false := by simpa using h1
                have q2 : (t2 != g2) = true := by simpa using h2
                have HC : Hid (sgrS (orP a1 a2 a3) (orP b1 b2 b3) = [27, 91] ++ Lib.join (L1 ++ [codeS t2 40]) [59] ++ [109]) := by
                  show _ = _
                  rw [HSG.out, if_neg (by simpa using h1), if_pos h2]
                  all_goals simp only [List.append_nil, List.append_assoc]
                clear h1 h2 HSG
                go_wp2_with fail
                refine (colourCode_any t2 40 ct2 (by omega) wr (ht.on hB hb) (by omega)).mono ?_
                rintro e w7 ⟨rfl, hb7⟩
                have hA7 := hA.below hb7 (by omega)
                have hD7 := hD.below hb7 (by omega)
                have hbw7 := hb.trans (hb7.mono (by omega))
                have hown7 := own_below hown hb7
                have hs7 := hb7.size
                generalize hcs7 : codeS t2 40 = C7 at *
                go_wp2_with (at_builtin; refine wpList_app_str rfl (.tmp 60) (.tmp 64) rfl (w.heap.size + 2) _ _ _ _ 1 rfl hown7 rfl (by omega) (by omega) ?_; intro v8 w8 hown8 hb8 hg8 hw8; have hA8 := hA7.below hb8 (by omega); have hD8 := hD7.below hb8 (by omega); have hbw8 := hbw7.trans (hb8.mono (by omega)); have hs8 := hb8.size; have fc8 := hA8.cell 0; have tc8 := hD8.cell 0; have fd8 := hA8.cell 1; have td8 := hD8.cell 1)
                have e7 : strv L1 ++ [Value.string (bs C7)] = strv (L1 ++ [C7]) := by simp [strv]
                have el7 : L1.length + 1 = (L1 ++ [C7]).length := by simp
                rw [e7, el7] at hown8
                have hll8 : (L1 ++ [C7]).length ≤ 20 := by simp; omega
                have hxx8 : ∀ x ∈ (L1 ++ [C7]), x.length ≤ 20 := by
                  intro x hx
                  rw [List.mem_append, List.mem_singleton] at hx
                  rcases hx with hx | rfl
                  · exact hxx x hx
                  · rw [← hcs7]; exact codeS_len _ _
                have hjo := join_any _ _ _ _ hown8 (by omega) (fun x hx => Nat.le_trans (hxx8 x hx) (by omega))
                have hjl := join_len [59] 20 _ hxx8
                have hjz : (bs (Lib.join (L1 ++ [C7]) [59])).size ≤ 500 := by
                  rw [bs_size]
                  have h59 : ([59] : Tx).length = 1 := rfl
                  have : (L1 ++ [C7]).length * (20 + 1) ≤ 20 * (20 + 1) := Nat.mul_le_mul_right _ hll8
                  rw [h59] at hjl
                  omega
                have HF2 : Hid (({ data := #[27, 91] } : ByteArray) ++ bs (Lib.join (L1 ++ [C7]) [59]) ++ { data := #[109] } = bs (sgrS (orP a1 a2 a3) (orP b1 b2 b3))) := by
                  show _ = _
                  rw [HC.out, ← bs_app, ← bs_app]; rfl
                generalize bs (Lib.join (L1 ++ [C7]) [59]) = J at *
                go_wp2_with (go_at_call 28; refine hjo.mono ?_; rintro e w9 ⟨rfl, hb9⟩)
                go_ret
                exact ⟨by rw [← HF2.out]; rfl, hbw8.trans (hb9.mono (by omega))⟩
              · have q1 : (t1 != g1) = false := by simpa using h1
                have q2 : (t2 != g2) = false := by simpa using h2
                have HC : Hid (sgrS (orP a1 a2 a3) (orP b1 b2 b3) = [27, 91] ++ Lib.join (L1) [59] ++ [109]) := by
                  show _ = _
                  rw [HSG.out, if_neg (by simpa using h1), if_neg (by simpa using h2)]
                  all_goals simp only [List.append_nil, List.append_assoc]
                clear h1 h2 HSG
                go_wp2_with fail
                have hjo := join_any _ _ _ _ hown (by omega) (fun x hx => Nat.le_trans (hxx x hx) (by omega))
                have hjl := join_len [59] 20 _ hxx
                have hjz : (bs (Lib.join L1 [59])).size ≤ 500 := by
                  rw [bs_size]
                  have h59 : ([59] : Tx).length = 1 := rfl
                  have : L1.length * (20 + 1) ≤ 20 * (20 + 1) := Nat.mul_le_mul_right _ (by omega)
                  rw [h59] at hjl
                  omega
                have HF2 : Hid (({ data := #[27, 91] } : ByteArray) ++ bs (Lib.join L1 [59]) ++ { data := #[109] } = bs (sgrS (orP a1 a2 a3) (orP b1 b2 b3))) := by
                  show _ = _
                  rw [HC.out, ← bs_app, ← bs_app]; rfl
                generalize bs (Lib.join L1 [59]) = J at *
                go_wp2_with (go_at_call 28; refine hjo.mono ?_; rintro e w9 ⟨rfl, hb9⟩)
                go_ret
                exact ⟨by rw [← HF2.out]; rfl, hb.trans (hb9.mono (by omega))⟩
end Go.Proofs.YtjklnnklgkihlaaGreatDoor.Sty
