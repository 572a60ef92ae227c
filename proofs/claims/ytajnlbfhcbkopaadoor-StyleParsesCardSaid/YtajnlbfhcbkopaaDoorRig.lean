/- A right look, the plain one, and what takes its place: the program and the document. -/
import Derived.Test.YtajnlbfhcbkopaaDoorCol
namespace Go.Proofs.YtajnlbfhcbkopaaDoor.Sty
open Go.RowKit

/-- A block that is just these cells. -/
def Blk (w : World) (g : Nat) (t : TypeId) (cs : Array Value) : Prop := w.heap[g]? = some (.cells cs t (0, 0))
section
variable {w w' : World} {g : Nat} {t : TypeId} {cs : Array Value}
theorem Blk.lt (h : Blk w g t cs) : g < w.heap.size := by
  rcases Nat.lt_or_ge g w.heap.size with hlt | hge
  · exact hlt
  · unfold Blk at h; rw [Array.getElem?_eq_none hge] at h; cases h
theorem Blk.cell (h : Blk w g t cs) (i : Nat) : w.cell? ⟨g, i, none⟩ = cs[i]? := cell_of_row w g i cs t (0, 0) h
theorem Blk.frozen (h : Blk w g t cs) (i : Nat) : w.frozen? ⟨g, i, none⟩ = false := by
  unfold Blk at h
  simp [World.frozen?, h]
theorem Blk.new (w : World) (t : TypeId) (cs : Array Value) : Blk (w.alloc (.cells cs t)) w.heap.size t cs := heap_alloc_new w _
theorem Blk.alloc (h : Blk w g t cs) (o : Obj) : Blk (w.alloc o) g t cs := (Below.heap_alloc w o g h.lt).trans h
theorem Blk.set_ (h : Blk w g t cs) (i : Nat) (u : Value) : Blk (w.setCell ⟨g, i, none⟩ u) g t (cs.setIfInBounds i u) := by
  unfold Blk at h ⊢
  simp [World.setCell, Array.getElem?_modify, h]
theorem Blk.far (h : Blk w g t cs) {p : Addr} (hp : g ≠ p.block) (u : Value) : Blk (w.setCell p u) g t cs := (Below.heap_setCell w p u g hp).trans h
theorem Blk.below {B : Nat} (h : Blk w g t cs) (hb : Below B w w') (hg : g < B) : Blk w' g t cs := (hb.block g hg).trans h
end
section
variable {P : Program} {ops : Array Oper} {rest : List Oper} {op : Oper} {a : Act} {w : World} {Q : Exit → Act → World → Prop}
/-- A store of a whole row. -/
theorem wpList_store_blk (hgd : op.guard = none) (ty : TypeId) (x y : Operand) (ho : op.op = .store ty x y) (g : Nat) (cells : Array Value) (hx : a.eval x = .pointer (some ⟨g, 0, none⟩)) (hy : a.eval y = .agg cells)
    (t : TypeId) (old : Array Value) (hg : Blk w g t old) (hi : (P.info? ty).map (·.size) = some cells.size) (hold : old.size = cells.size) (h1 : cells.all (·.oneCell') = true)
    (h : ∀ w1, Blk w1 g t cells → (∀ B, B ≤ g → Below B w w1) → wpList P ops Q rest (a.put op.dst undef) w1) : wpList P ops Q (op :: rest) a w :=
  wpList_store_row hgd ty x y ho g cells hx hy t old hg hi hold h1
    (h _ (setRow_heap w g old cells _ _ hg) fun B hB => ⟨rfl, rfl, rfl, by simp, fun k hk => setRow_other w g k _ (by omega)⟩)
end
/-- A result that lies in memory. -/
theorem results_cell {P : Program} {fn : Func} {p : Tmp} {ty : TypeId} (h : fn.results = #[.cell p ty]) (tmps : Array Value) (w : World) (g : Nat) (t : TypeId) (cs : Array Value) (fr : Nat × Nat) (d : TypeDesc)
    (hp : tmps.getD p undef = .pointer (some ⟨g, 0, none⟩)) (hg : w.heap[g]? = some (.cells cs t fr))
    (hu : P.underlying ty = some d) (hd : (match d with | .struct _ | .array _ _ => true | _ => false) = true) (hi : (P.info? ty).map (·.size) = some cs.size) :
    (results fn tmps).run P w = .ok (.agg cs) w := by
  have hp' : tmps[p]?.getD undef = .pointer (some ⟨g, 0, none⟩) := by simpa using hp
  simp [results, h, hp', asAddr, run_loadVar_row w g t ty cs fr d hg hu hd hi]
theorem bcell {W w1 : World} (hb : Below W.heap.size W w1) : (∀ b o, b < W.heap.size → w1.cell? ⟨b, o, none⟩ = W.cell? ⟨b, o, none⟩) ∧ (∀ b o, b < W.heap.size → w1.frozen? ⟨b, o, none⟩ = W.frozen? ⟨b, o, none⟩) :=
  ⟨fun b o h => hb.cell (p := ⟨b, o, none⟩) h, fun b o h => hb.frozen (p := ⟨b, o, none⟩) h⟩
/-- The ways in which a look can be right or not. -/
theorem right_cases (fg bg at_ : Int) (P : Bool → Prop)
    (h0 : isCol fg = false → P false) (h1 : isCol fg = true → isCol bg = false → P false) (h2 : isCol fg = true → isCol bg = true → at_ < 0 → P false)
    (h3 : isCol fg = true → isCol bg = true → 0 ≤ at_ → 255 < at_ → P false) (h4 : isCol fg = true → isCol bg = true → 0 ≤ at_ → at_ ≤ 255 → P true) : P (rightS fg bg at_) := by
  unfold rightS
  cases f : isCol fg
  · exact h0 f
  · cases b : isCol bg
    · exact h1 f b
    · by_cases a0 : 0 ≤ at_
      · by_cases a1 : at_ ≤ 255
        · have := h4 f b a0 a1
          simpa [a0, a1] using this
        · have := h3 f b a0 (by omega)
          simpa [a0, a1] using this
      · have := h2 f b (by omega)
        simpa [a0] using this

theorem right_any (fg bg at_ : Int) (b : Bool) (hb : rightS fg bg at_ = b) (w : World) :
    Calls Tryd.prog 16 #[.agg #[.int .i64 fg, .int .i64 bg, .int .i64 at_]] w fun e w' => e = .returned (.bool b) ∧ Below w.heap.size w w' := by
  subst hb
  refine right_cases fg bg at_ (fun b => Calls Tryd.prog 16 #[.agg #[.int .i64 fg, .int .i64 bg, .int .i64 at_]] w fun e w' => e = .returned (.bool b) ∧ Below w.heap.size w w') ?_ ?_ ?_ ?_ ?_
  · intro h1
    have c1 := fun w => isColour_any fg _ h1 w
    clear h1
    go_enter Tryd.func16, Tryd.ntmps16
    go_wp2_with (go_at_call 33; (first | (with_reducible refine (c1 _).mono ?_) | (with_reducible refine (c2 _).mono ?_)); rintro e w' ⟨rfl, rfl⟩)
    go_ret
    exact ⟨rfl, (Below.refl _ _).alloc (Nat.le_refl _) _⟩
  · intro h1 h2
    have c1 := fun w => isColour_any fg _ h1 w
    have c2 := fun w => isColour_any bg _ h2 w
    clear h1 h2
    go_enter Tryd.func16, Tryd.ntmps16
    go_wp2_with (go_at_call 33; (first | (with_reducible refine (c1 _).mono ?_) | (with_reducible refine (c2 _).mono ?_)); rintro e w' ⟨rfl, rfl⟩)
    go_ret
    exact ⟨rfl, (Below.refl _ _).alloc (Nat.le_refl _) _⟩
  · intro h1 h2 h3
    have c1 := fun w => isColour_any fg _ h1 w
    have c2 := fun w => isColour_any bg _ h2 w
    have d2 : decide (0 ≤ at_) = false := by simpa using h3
    clear h1 h2
    go_enter Tryd.func16, Tryd.ntmps16
    go_wp2_with (go_at_call 33; (first | (with_reducible refine (c1 _).mono ?_) | (with_reducible refine (c2 _).mono ?_)); rintro e w' ⟨rfl, rfl⟩)
    go_ret
    exact ⟨rfl, (Below.refl _ _).alloc (Nat.le_refl _) _⟩
  · intro h1 h2 h3 h4
    have c1 := fun w => isColour_any fg _ h1 w
    have c2 := fun w => isColour_any bg _ h2 w
    have d2 : decide (0 ≤ at_) = true := by simpa using h3
    have d3 : decide (at_ ≤ 255) = false := by simpa using h4
    clear h1 h2
    go_enter Tryd.func16, Tryd.ntmps16
    go_wp2_with (go_at_call 33; (first | (with_reducible refine (c1 _).mono ?_) | (with_reducible refine (c2 _).mono ?_)); rintro e w' ⟨rfl, rfl⟩)
    go_ret
    exact ⟨rfl, (Below.refl _ _).alloc (Nat.le_refl _) _⟩
  · intro h1 h2 h3 h4
    have c1 := fun w => isColour_any fg _ h1 w
    have c2 := fun w => isColour_any bg _ h2 w
    have d2 : decide (0 ≤ at_) = true := by simpa using h3
    have d3 : decide (at_ ≤ 255) = true := by simpa using h4
    clear h1 h2
    go_enter Tryd.func16, Tryd.ntmps16
    go_wp2_with (go_at_call 33; (first | (with_reducible refine (c1 _).mono ?_) | (with_reducible refine (c2 _).mono ?_)); rintro e w' ⟨rfl, rfl⟩)
    go_ret
    exact ⟨rfl, (Below.refl _ _).alloc (Nat.le_refl _) _⟩

theorem rightRef_any (fg bg at_ : Int) (b : Bool) (hb : rightS fg bg at_ = b) (w : World) :
    Calls Tryd.prog 17 #[.agg #[.int .i64 fg, .int .i64 bg, .int .i64 at_]] w fun e w' => e = .returned (.bool b) ∧ Below w.heap.size w w' := by
  subst hb
  refine right_cases fg bg at_ (fun b => Calls Tryd.prog 17 #[.agg #[.int .i64 fg, .int .i64 bg, .int .i64 at_]] w fun e w' => e = .returned (.bool b) ∧ Below w.heap.size w w') ?_ ?_ ?_ ?_ ?_
  · intro h1
    cases h2 : isCol bg
    all_goals
     have c1 := fun w => is_any fg _ h1 w
     have c2 := fun w => is_any bg _ h2 w
     clear h1 h2
     go_enter Tryd.func17, Tryd.ntmps17
     go_wp2_with (go_at_call 37; (first | (with_reducible refine (c1 _).mono ?_) | (with_reducible refine (c2 _).mono ?_)); rintro e w' ⟨rfl, rfl⟩)
     go_ret
     exact ⟨rfl, (Below.refl _ _).alloc (Nat.le_refl _) _⟩
  · intro h1 h2
    have c1 := fun w => is_any fg _ h1 w
    have c2 := fun w => is_any bg _ h2 w
    clear h1 h2
    go_enter Tryd.func17, Tryd.ntmps17
    go_wp2_with (go_at_call 37; (first | (with_reducible refine (c1 _).mono ?_) | (with_reducible refine (c2 _).mono ?_)); rintro e w' ⟨rfl, rfl⟩)
    go_ret
    exact ⟨rfl, (Below.refl _ _).alloc (Nat.le_refl _) _⟩
  · intro h1 h2 h3
    have c1 := fun w => is_any fg _ h1 w
    have c2 := fun w => is_any bg _ h2 w
    have d2 : decide (0 ≤ at_) = false := by simpa using h3
    clear h1 h2
    go_enter Tryd.func17, Tryd.ntmps17
    go_wp2_with (go_at_call 37; (first | (with_reducible refine (c1 _).mono ?_) | (with_reducible refine (c2 _).mono ?_)); rintro e w' ⟨rfl, rfl⟩)
    go_ret
    exact ⟨rfl, (Below.refl _ _).alloc (Nat.le_refl _) _⟩
  · intro h1 h2 h3 h4
    have c1 := fun w => is_any fg _ h1 w
    have c2 := fun w => is_any bg _ h2 w
    have d2 : decide (0 ≤ at_) = true := by simpa using h3
    have d3 : decide (at_ ≤ 255) = false := by simpa using h4
    clear h1 h2
    go_enter Tryd.func17, Tryd.ntmps17
    go_wp2_with (go_at_call 37; (first | (with_reducible refine (c1 _).mono ?_) | (with_reducible refine (c2 _).mono ?_)); rintro e w' ⟨rfl, rfl⟩)
    go_ret
    exact ⟨rfl, (Below.refl _ _).alloc (Nat.le_refl _) _⟩
  · intro h1 h2 h3 h4
    have c1 := fun w => is_any fg _ h1 w
    have c2 := fun w => is_any bg _ h2 w
    have d2 : decide (0 ≤ at_) = true := by simpa using h3
    have d3 : decide (at_ ≤ 255) = true := by simpa using h4
    clear h1 h2
    go_enter Tryd.func17, Tryd.ntmps17
    go_wp2_with (go_at_call 37; (first | (with_reducible refine (c1 _).mono ?_) | (with_reducible refine (c2 _).mono ?_)); rintro e w' ⟨rfl, rfl⟩)
    go_ret
    exact ⟨rfl, (Below.refl _ _).alloc (Nat.le_refl _) _⟩

theorem plain_any (w : World) :
    Calls Tryd.prog 20 #[] w fun e w' => e = .returned (.agg #[.int .i64 (-1), .int .i64 (-1), .int .i64 0]) ∧ Below w.heap.size w w' := by
  go_enter Tryd.func20, Tryd.ntmps20
  go_wp2
  exact bodyPost_ret (v := .agg #[.int .i64 (-1), .int .i64 (-1), .int .i64 0]) (by simp [results, Tryd.results20, go_sem]) rfl ⟨rfl, (Below.refl _ _).alloc (Nat.le_refl _) _⟩

theorem plainRef_any (w : World) :
    Calls Tryd.prog 21 #[] w fun e w' => e = .returned (.agg #[.int .i64 (-1), .int .i64 (-1), .int .i64 0]) ∧ Below w.heap.size w w' := by
  go_enter Tryd.func21, Tryd.ntmps21
  go_wp2
  exact bodyPost_ret (v := .agg #[.int .i64 (-1), .int .i64 (-1), .int .i64 0]) (by simp [results, Tryd.results21, go_sem]) rfl ⟨rfl, (Below.refl _ _).alloc (Nat.le_refl _) _⟩

/-- A look, or the plain one in its place. -/
def orP (fg bg at_ : Int) : Int × Int × Int := if rightS fg bg at_ = true then (fg, bg, at_) else (-1, -1, 0)
theorem size_alloc (w : World) (o : Obj) : (w.alloc o).heap.size = w.heap.size + 1 := by simp
set_option maxHeartbeats 400000 in
theorem orPlain_any (fg bg at_ f1 f2 f3 : Int) (hf : orP fg bg at_ = (f1, f2, f3)) (w : World) :
    Calls Tryd.prog 46 #[.agg #[.int .i64 fg, .int .i64 bg, .int .i64 at_]] w fun e w' => e = .returned (.agg #[.int .i64 f1, .int .i64 f2, .int .i64 f3]) ∧ Below w.heap.size w w' := by
  unfold orP at hf
  cases h : rightS fg bg at_
  · rw [h, if_neg (by decide)] at hf
    simp only [Prod.mk.injEq] at hf
    obtain ⟨rfl, rfl, rfl⟩ := hf
    have c1 := fun w => right_any fg bg at_ _ h w
    clear h
    go_enter Tryd.func46, Tryd.ntmps46
    go_wp2_with fail
    refine (c1 _).mono ?_
    rintro e w1 ⟨rfl, hb1⟩
    have hs1 : w.heap.size + 1 < w1.heap.size := by have := hb1.size; simp at this; omega
    have hk1 := (Blk.new (w.alloc (.cells #[.int .i64 fg, .int .i64 bg, .int .i64 at_] 31)) 31 #[.int .i64 0, .int .i64 0, .int .i64 0]).below hb1 (by simp)
    rw [size_alloc] at hk1
    have hbw : Below w.heap.size w w1 := (((Below.refl _ _).alloc (Nat.le_refl _) _).alloc (by simp) _).trans (hb1.mono (by simp; omega))
    clear hb1
    go_wp2_with fail
    refine (plain_any _).mono ?_
    rintro e w2 ⟨rfl, hb2⟩
    have hk2 := hk1.below hb2 hs1
    have hbw2 := hbw.trans (hb2.mono hbw.size)
    clear hb2 hbw hk1
    go_wp2_with (refine wpList_store_blk rfl 31 (.tmp 2) (.tmp 6) rfl (w.heap.size + 1) _ rfl rfl _ _ hk2 (by kernel_rfl) rfl (by kernel_rfl) ?_; intro w3 hblk3 hb3)
    exact bodyPost_ret (v := .agg #[.int .i64 (-1), .int .i64 (-1), .int .i64 0]) (results_cell (p := 2) (by kernel_rfl) _ w3 _ _ _ _ _ rfl hblk3 Tryd.underlying31 rfl (by kernel_rfl)) rfl ⟨rfl, hbw2.trans (hb3 _ (by omega))⟩
  · rw [h, if_pos rfl] at hf
    simp only [Prod.mk.injEq] at hf
    obtain ⟨rfl, rfl, rfl⟩ := hf
    have c1 := fun w => right_any fg bg at_ _ h w
    clear h
    go_enter Tryd.func46, Tryd.ntmps46
    go_wp2_with fail
    refine (c1 _).mono ?_
    rintro e w1 ⟨rfl, hb1⟩
    have hs1 : w.heap.size + 1 < w1.heap.size := by have := hb1.size; simp at this; omega
    have hk1 := (Blk.new (w.alloc (.cells #[.int .i64 fg, .int .i64 bg, .int .i64 at_] 31)) 31 #[.int .i64 0, .int .i64 0, .int .i64 0]).below hb1 (by simp)
    have hk0 := ((Blk.new w 31 #[.int .i64 fg, .int .i64 bg, .int .i64 at_]).alloc (.cells #[.int .i64 0, .int .i64 0, .int .i64 0] 31)).below hb1 (by simp; omega)
    rw [size_alloc] at hk1
    have hbw : Below w.heap.size w w1 := (((Below.refl _ _).alloc (Nat.le_refl _) _).alloc (by simp) _).trans (hb1.mono (by simp; omega))
    clear hb1
    go_wp2_with (first
      | (refine wpList_load_row rfl 31 _ rfl w.heap.size rfl _ _ _ _ hk0 Tryd.underlying31 rfl (by kernel_rfl) ?_)
      | (refine wpList_store_blk rfl 31 (.tmp 2) (.tmp 5) rfl (w.heap.size + 1) #[.int .i64 fg, .int .i64 bg, .int .i64 at_] rfl rfl _ _ hk1 (by kernel_rfl) rfl (by kernel_rfl) ?_; intro w3 hblk3 hb3))
    exact bodyPost_ret (v := .agg #[.int .i64 fg, .int .i64 bg, .int .i64 at_]) (results_cell (p := 2) (by kernel_rfl) _ w3 _ _ _ _ _ rfl hblk3 Tryd.underlying31 rfl (by kernel_rfl)) rfl ⟨rfl, hbw.trans (hb3 _ (by omega))⟩
end Go.Proofs.YtajnlbfhcbkopaaDoor.Sty
