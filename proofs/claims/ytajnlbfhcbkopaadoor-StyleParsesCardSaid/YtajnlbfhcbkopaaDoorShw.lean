/- The chapter's examples, asked at the head of each law of layer 3: they hold. -/
import Derived.Test.YtajnlbfhcbkopaaDoorSgr
namespace Go.Proofs.YtajnlbfhcbkopaaDoor.Sty
open Go.RowKit

theorem ex_items1 : items (low [102, 103, 61, 114, 101, 100, 44, 32, 98, 111, 108, 100, 44, 110, 111, 98, 111, 108, 100, 32, 105, 116, 97, 108, 105, 99, 115]) = [[102, 103, 61, 114, 101, 100], [98, 111, 108, 100], [110, 111, 98, 111, 108, 100], [105, 116, 97, 108, 105, 99, 115]] := by decide
theorem ex_items2 : items (low [98, 111, 108, 100, 44, 111, 111, 112, 115]) = [[98, 111, 108, 100], [111, 111, 112, 115]] := by decide
theorem ex_red : colourS [114, 101, 100] = some 1 := colourS_some ⟨by decide, .inl (by decide)⟩
theorem ex_parse1 : parseV [102, 103, 61, 114, 101, 100, 44, 32, 98, 111, 108, 100, 44, 110, 111, 98, 111, 108, 100, 32, 105, 116, 97, 108, 105, 99, 115] (-1, -1, 0) = .tuple #[.agg #[.int .i64 1, .int .i64 (-1), .int .i64 4], .int .i64 0] := by
  refine parseV_some _ _ (1, -1, 4) (by decide) ?_
  have h1 : turnS (-1, -1, 0) [102, 103, 61, 114, 101, 100] = some (1, -1, 0) := by
    unfold turnS
    rw [if_pos (by decide)]
    have e : ([102, 103, 61, 114, 101, 100] : Tx).drop 3 = [114, 101, 100] := rfl
    rw [e, ex_red]
    rfl
  have b1 : bits .or .i64 0 ((2 ^ 0 : Nat) : Int) = 1 := by kernel_rfl
  have b2 : bits .andNot .i64 1 ((2 ^ 0 : Nat) : Int) = 0 := by kernel_rfl
  have b3 : bits .or .i64 0 ((2 ^ 2 : Nat) : Int) = 4 := by kernel_rfl
  have h2 : turnS (1, -1, 0) [98, 111, 108, 100] = some (1, -1, 1) := by
    unfold turnS
    rw [if_neg (by decide), if_neg (by decide), if_neg (by decide), if_neg (by decide), show wordOf [98, 111, 108, 100] = some 0 by decide]
    show some ((1 : Int), (-1 : Int), bits .or .i64 0 ((2 ^ 0 : Nat) : Int)) = _
    rw [b1]
  have h3 : turnS (1, -1, 1) [110, 111, 98, 111, 108, 100] = some (1, -1, 0) := by
    unfold turnS
    rw [if_neg (by decide), if_neg (by decide), if_neg (by decide), if_pos (by decide), show wordOf (([110, 111, 98, 111, 108, 100] : Tx).drop 2) = some 0 by decide]
    show some ((1 : Int), (-1 : Int), bits .andNot .i64 1 ((2 ^ 0 : Nat) : Int)) = _
    rw [b2]
  have h4 : turnS (1, -1, 0) [105, 116, 97, 108, 105, 99, 115] = some (1, -1, 4) := by
    unfold turnS
    rw [if_neg (by decide), if_neg (by decide), if_neg (by decide), if_neg (by decide), show wordOf [105, 116, 97, 108, 105, 99, 115] = some 2 by decide]
    show some ((1 : Int), (-1 : Int), bits .or .i64 0 ((2 ^ 2 : Nat) : Int)) = _
    rw [b3]
  rw [ex_items1, foldS_some _ _ _ _ _ (by decide) h1, foldS_some _ _ _ _ _ (by decide) h2, foldS_some _ _ _ _ _ (by decide) h3, foldS_some _ _ _ _ _ (by decide) h4]
  rfl
theorem ex_parse2 : parseV [98, 111, 108, 100, 44, 111, 111, 112, 115] (-1, -1, 0) = .tuple #[.agg #[.int .i64 0, .int .i64 0, .int .i64 0], .int .i64 4] := by
  refine parseV_none _ _ (by decide) ?_
  have h2 : ∃ x, turnS (-1, -1, 0) [98, 111, 108, 100] = some x := by
    unfold turnS
    rw [if_neg (by decide), if_neg (by decide), if_neg (by decide), if_neg (by decide), show wordOf [98, 111, 108, 100] = some 0 by decide]
    exact ⟨_, rfl⟩
  obtain ⟨x, hx⟩ := h2
  have h3 : turnS x [111, 111, 112, 115] = none := by
    unfold turnS
    rw [if_neg (by decide), if_neg (by decide), if_neg (by decide), if_neg (by decide), show wordOf [111, 111, 112, 115] = none by decide]
    rfl
  rw [ex_items2, foldS_some _ _ _ _ _ (by decide) hx, foldS_none _ _ _ _ (by decide) h3]
theorem ex_colour : colVal (colourS (low [35, 70, 70, 48, 48, 48, 48])) = .tuple #[.int .i64 33488896, .int .i64 0] := by
  have h : Names (low [35, 70, 70, 48, 48, 48, 48]) 33488896 := ⟨by decide, .inl (by decide)⟩
  rw [colourS_some h]
  rfl
theorem ex_name : name 9 = [98, 114, 105, 103, 104, 116, 114, 101, 100] := by decide
theorem ex_print : printS 1 (-1) 129 = [102, 103, 61, 114, 101, 100, 44, 98, 103, 61, 100, 101, 102, 97, 117, 108, 116, 44, 110, 111, 110, 101, 44, 98, 111, 108, 100, 44, 115, 116, 114, 105, 107, 101, 116, 104, 114, 111, 117, 103, 104] := by decide
theorem ex_sgr : sgrS (orP (-1) (-1) 0) (orP 1 (-1) 1) = [27, 91, 49, 59, 51, 49, 109] := by decide

/-- A guarded load of a row, its guard fulfilled. -/
theorem wpList_load_row_g {P : Program} {ops : Array Oper} {rest : List Oper} {o : Oper} {a : Act} {w : World} {Q : Exit → Act → World → Prop} (hw : Region.wanted o (yielded ops a.tmps) = true) (ty : TypeId) (x : Operand) (ho : o.op = .load ty x)
    (g : Nat) (hx : a.eval x = .pointer (some ⟨g, 0, none⟩)) (t : TypeId) (cs : Array Value) (fr : Nat × Nat) (d : TypeDesc) (hg : w.heap[g]? = some (.cells cs t fr))
    (hu : P.underlying ty = some d) (hd : (match d with | .struct _ | .array _ _ => true | _ => false) = true) (hi : (P.info? ty).map (·.size) = some cs.size)
    (h : wpList P ops Q rest (a.put o.dst (.agg cs)) w) : wpList P ops Q (o :: rest) a w := by
  simp only [wpList, hw]
  rw [if_pos trivial]
  exact .inl (wp_load_row ty x ho g hx t cs fr d hg hu hd hi h)
set_option maxRecDepth 100000 in
set_option maxHeartbeats 1000000 in
theorem shown_any {B : Nat} (w : World) (ht : Tabs B w) (hB : B ≤ w.heap.size) :
    Calls Tryd.prog 9 #[] w fun e w' => e = .returned (.bool true) ∧ Below w.heap.size w w' := by
  go_enter Tryd.func9, Tryd.ntmps9
  go_wp2_with fail
  refine (plain_any w).mono ?_
  rintro e w1 ⟨rfl, hb1⟩
  go_wp2_with fail
  have hp1 := parse_any (B := B) [102, 103, 61, 114, 101, 100, 44, 32, 98, 111, 108, 100, 44, 110, 111, 98, 111, 108, 100, 32, 105, 116, 97, 108, 105, 99, 115] (-1) (-1) 0 w1 (ht.on hB hb1) (Nat.le_trans hB hb1.size) (by decide)
  rw [ex_parse1] at hp1
  refine hp1.mono ?_
  rintro e w2 ⟨rfl, hb2⟩
  have hbw2 := hb1.trans (hb2.mono hb1.size)
  clear hp1 hb1 hb2
  have hbw3 := hbw2.alloc hbw2.size (.cells #[.int .i64 1, .int .i64 (-1), .int .i64 4] 31)
  have hc := fun i => (Blk.new w2 31 #[.int .i64 1, .int .i64 (-1), .int .i64 4]).cell i
  have hK := Blk.new w2 31 #[.int .i64 1, .int .i64 (-1), .int .i64 4]
  clear hc
  go_wp2_with fail
  generalize w2.alloc (.cells #[.int .i64 1, .int .i64 (-1), .int .i64 4] 31) = W3 at *
  have hKl := hK.lt
  have hco := colour_any (B := B) [35, 70, 70, 48, 48, 48, 48] W3 (ht.on hB hbw3) (Nat.le_trans hB hbw3.size) (by decide)
  rw [ex_colour] at hco
  refine hco.mono ?_
  rintro e w4 ⟨rfl, hb4⟩
  have hbw4 := hbw3.trans (hb4.mono hbw3.size)
  have hK4 := hK.below hb4 hKl
  have hs4 := hb4.size
  clear hco hb4 hK
  go_wp2_with fail
  refine (plain_any w4).mono ?_
  rintro e w5 ⟨rfl, hb5⟩
  have hbw5 := hbw4.trans (hb5.mono hbw4.size)
  have hK5 := hK4.below hb5 (by omega)
  have hs5 := hb5.size
  clear hb5 hK4
  go_wp2_with fail
  have hp2 := parse_any (B := B) [98, 111, 108, 100, 44, 111, 111, 112, 115] (-1) (-1) 0 w5 (ht.on hB hbw5) (Nat.le_trans hB hbw5.size) (by decide)
  rw [ex_parse2] at hp2
  refine hp2.mono ?_
  rintro e w6 ⟨rfl, hb6⟩
  have hbw6 := hbw5.trans (hb6.mono hbw5.size)
  have hK6 := hK5.below hb6 (by omega)
  have hs6 := hK6.lt
  have hbw7 := hbw6.alloc hbw6.size (.cells #[.int .i64 0, .int .i64 0, .int .i64 0] 31)
  clear hp2 hb6 hK5
  have heq := eq_run 1 (-1) 4 1 (-1) 4 true (by decide)
  have ht7 := ht.on hB hbw7
  have hnm := name_any (B := B) 9 _ ht7 (Nat.le_trans hB hbw7.size)
  rw [ex_name] at hnm
  have hT1 := bs_tl [98, 114, 105, 103, 104, 116, 114, 101, 100]
  have hT2 := bs_tl [102, 103, 61, 114, 101, 100, 44, 98, 103, 61, 100, 101, 102, 97, 117, 108, 116, 44, 110, 111, 110, 101, 44, 98, 111, 108, 100, 44, 115, 116, 114, 105, 107, 101, 116, 104, 114, 111, 117, 103, 104]
  have hT3 := bs_tl [27, 91, 49, 59, 51, 49, 109]
  have hc0 := hK6.cell 0
  have hc1 := hK6.cell 1
  have hc2 := hK6.cell 2
  have hg0 := (hK6.alloc (.cells #[.int .i64 0, .int .i64 0, .int .i64 0] 31)).cell 0
  have hg1 := (hK6.alloc (.cells #[.int .i64 0, .int .i64 0, .int .i64 0] 31)).cell 1
  have hg2 := (hK6.alloc (.cells #[.int .i64 0, .int .i64 0, .int .i64 0] 31)).cell 2
  go_wp2_with (go_at_call 12; refine hnm.mono ?_; rintro e w8 ⟨rfl, hb8⟩)
  have hbw8 := hbw7.trans (hb8.mono hbw7.size)
  have hpr := print_any (B := B) 1 (-1) 129 w8 (ht.on hB hbw8) (Nat.le_trans hB hbw8.size)
  rw [ex_print] at hpr
  refine hpr.mono ?_
  rintro e w9 ⟨rfl, hb9⟩
  have hbw9 := hbw8.trans (hb9.mono hbw8.size)
  clear hpr hnm hb9 hb8 hc0 hc1 hc2 hg0 hg1 hg2 heq
  go_wp2_with fail
  refine (plain_any w9).mono ?_
  rintro e w10 ⟨rfl, hb10⟩
  have hbw10 := hbw9.trans (hb10.mono hbw9.size)
  have hsg := sgr_any (B := B) (-1) (-1) 0 1 (-1) 1 w10 (ht.on hB hbw10) (Nat.le_trans hB hbw10.size)
  rw [ex_sgr] at hsg
  go_wp2_with fail
  refine hsg.mono ?_
  rintro e w11 ⟨rfl, hb11⟩
  have hbw11 := hbw10.trans (hb11.mono hbw10.size)
  go_wp2_with fail
  go_ret
  exact ⟨rfl, hbw11⟩
end Go.Proofs.YtajnlbfhcbkopaaDoor.Sty
