/- Rows that scroll off. -/
import Derived.Test.YtgjlohplgpcghaaDoorGpu
namespace Go.Proofs.YtgjlohplgpcghaaDoor.Grd
open Go.RowKit

section
variable {ops : Array Oper} {rest : List Oper} {op : Oper} {a : Act} {w : World} {Q : Exit → Act → World → Prop}
theorem wpList_append_rows (hgd : op.guard = none) (s x : Operand) (ho : op.op = .call { callee := .builtin .append, args := #[s, x], argTypes := #[68, 68] })
    (pv : Value) (past : List MR) (fp : List Nat) (hs : a.eval s = pv) (ht : TabAt w pv past fp) (ad : Addr) (c : Nat) (new : List MR) (hx : a.eval x = .slice (some ad) new.length c) (h0 : 0 < new.length) (hnews : ∀ j u, (rowsL new)[j]? = some u → w.cell? (ad.add j) = some u) (hl : past.length + new.length ≤ 1000000)
    (h : ∀ v' w' fp', TabAt w' v' (past ++ new) fp' → (∀ x ∈ fp', x ∈ fp ∨ w.heap.size ≤ x) → Only fp w w' → wpList Tryd.prog ops Q rest (a.put op.dst v') w') : wpList Tryd.prog ops Q (op :: rest) a w := by
  refine wpList_plain hgd fun K hK => ?_
  obtain ⟨v', w', fp', hrun, h1, h2, h3⟩ := append_rows w ht op.type ad c new h0 hnews hl
  have hk := hK _ _ (h v' w' fp' h1 h2 h3)
  unfold Oper.wp
  simp [execOp, ho, resolve, invoke, builtin, hs, hx, hrun, Result.andThen]
  exact hk
/-- Rows that are forgotten. -/
theorem wpList_clear_rows (hgd : op.guard = none) (s : Operand) (ho : op.op = .call { callee := .builtin .clear, args := #[s], argTypes := #[68] })
    (p o n c : Nat) (hs : a.eval s = .slice (some ⟨p, o, none⟩) n c) (xs : List Value) (hB : BL w p 73 xs) (hfit : o + 2 * n ≤ xs.length)
    (h : ∀ zs w', zs.length = 2 * n → BL w' p 73 (splice xs o zs) → Wrote p w w' → wpList Tryd.prog ops Q rest (a.put op.dst (.tuple #[])) w') : wpList Tryd.prog ops Q (op :: rest) a w := by
  refine wpList_plain hgd fun K hK => ?_
  rcases Nat.eq_zero_or_pos n with rfl | hn
  · have hk := hK _ _ (h [] w rfl (by rw [splice_nil]; exact hB) ⟨rfl, fun _ _ ha _ => ha⟩)
    have hrun : (Builtin.clear_ #[68] op.type #[.slice (some ⟨p, o, none⟩) 0 c]).run Tryd.prog w = .ok (.tuple #[]) w := by simp [Builtin.clear_, run_underlying Tryd.underlying68]
    unfold Oper.wp
    simp [execOp, ho, resolve, invoke, builtin, hs, hrun, Result.andThen]
    exact hk
  · have hi := info_row
    cases hq : Tryd.prog.info? 73 with
    | none => rw [hq] at hi; cases hi
    | some i =>
      rw [hq] at hi
      simp only [Option.map_some, Option.some.injEq, Prod.mk.injEq] at hi
      obtain ⟨hz, hsz, hby⟩ := hi
      have hv : (zeroValue 73).run Tryd.prog w = .ok (.agg #[.slice none 0 0, .bool false]) w := by simp [zeroValue, typeInfo, hq, hz]
      obtain ⟨Z, hZ⟩ : ∃ Z, (Builtin.zeroCells (Value.cells (.agg #[.slice none 0 0, .bool false])) n) = Z := ⟨_, rfl⟩
      have hzl : Z.toList.length = 2 * n := by
        rw [← hZ]
        have := size_zeroCells (Value.cells (.agg #[.slice none 0 0, .bool false])) n
        refine (Array.length_toList (xs := _)).trans (this.trans ?_)
        show n * 2 = _
        omega
      have hone : ∀ v ∈ Z.toList, v.oneCell' = true := by
        rw [← hZ]
        unfold Builtin.zeroCells
        intro v hv
        simp [Value.cells] at hv
        obtain ⟨j, _, rfl⟩ := hv
        have h2 : j % 2 = 0 ∨ j % 2 = 1 := by omega
        rcases h2 with h2 | h2 <;> simp [h2] <;> rfl
      have hth := hB.there (o := o) (n := 2 * n) hfit
      have hst := run_storeCells_cells (P := Tryd.prog) p o Z.toList 0 w (by rw [hzl]; simpa using fun j hj => (hth j hj).1) (by rw [hzl]; simpa using fun j hj => (hth j hj).2) hone
      simp only [Nat.add_zero] at hst
      have hrun : (Builtin.clear_ #[68] op.type #[.slice (some ⟨p, o, none⟩) n c]).run Tryd.prog w = .ok (.tuple #[]) (w.setCells p o Z.toList) := by
        obtain ⟨m, rfl⟩ : ∃ m, n = m + 1 := ⟨n - 1, by omega⟩
        simp [Builtin.clear_, run_underlying Tryd.underlying68, hv, hZ, hst]
      have hk := hK _ _ (h Z.toList _ hzl (hB.setCells Z.toList o (by rw [hzl]; exact hfit)) (Wrote.setCells p o Z.toList w))
      generalize w.setCells p o Z.toList = w2 at hk hrun
      unfold Oper.wp
      simp [execOp, ho, resolve, invoke, builtin, hs, hrun, Result.andThen]
      exact hk
end
end Go.Proofs.YtgjlohplgpcghaaDoor.Grd
/- The program's keep. -/
namespace Go.Proofs.YtgjlohplgpcghaaDoor.Grd
open Go.RowKit

/-- A table without its first rows, which may have been wiped. -/
theorem TabAt.rest {w : World} {p off c k : Nat} {pre zs tail : List Value} {ms : List MR} (hz : zs.length = 2 * k) (hk : k ≤ ms.length) (hc1 : ms.length ≤ c) (hc2 : c ≤ maxLen) (hpre : pre.length = 2 * off) (htl : 2 * (c - ms.length) ≤ tail.length) (hB : BL w p 73 (splice (pre ++ rowsL ms ++ tail) (2 * off) zs)) :
    TabAt w (if c = k then .slice (some ⟨p, 2 * off, none⟩) (ms.length - k) (c - k) else .slice (some ⟨p, 2 * off + k * 2, none⟩) (ms.length - k) (c - k)) (ms.drop k) [p] := by
  have hsp : splice (pre ++ rowsL ms ++ tail) (2 * off) zs = pre ++ zs ++ rowsL (ms.drop k) ++ tail := by
    have e : rowsL ms = rowsL (ms.take k) ++ rowsL (ms.drop k) := by rw [← rowsL_app, List.take_append_drop]
    have hl : (rowsL (ms.take k)).length = 2 * k := by rw [rowsL_len, List.length_take]; omega
    unfold splice
    rw [e]
    simp only [List.append_assoc]
    rw [List.take_left' hpre, List.drop_append, List.drop_of_length_le (l := pre) (by omega), List.nil_append, hpre, hz, show 2 * off + 2 * k - 2 * off = 2 * k by omega, List.drop_left' hl]
  rw [hsp] at hB
  by_cases h : c = k
  · rw [if_pos h]
    subst h
    have h1 : ms.length = c := by omega
    have h2 : ms.drop c = [] := by rw [← h1]; exact List.drop_length
    rw [h2] at hB ⊢
    exact .inr ⟨p, off, 0, pre, zs ++ tail, by rw [h1, Nat.sub_self]; rfl, Nat.le_refl _, Nat.zero_le _, hpre, Nat.zero_le _, by rw [show rowsL [] = [] from rfl, List.append_nil] at hB ⊢; rw [← List.append_assoc]; exact hB, rfl⟩
  · rw [if_neg h]
    refine .inr ⟨p, off + k, c - k, pre ++ zs, tail, ?_, by rw [List.length_drop]; omega, by omega, by rw [List.length_append]; omega, by rw [List.length_drop]; omega, hB, rfl⟩
    rw [List.length_drop, show 2 * (off + k) = 2 * off + k * 2 by omega]

set_option maxRecDepth 100000 in
set_option maxHeartbeats 1000000 in
theorem keep_any {w : World} {g cols limit c : Nat} {pv sv : Value} {past new : List MR} {fp : List Nat} {ad : Addr} (hg : BL w g 70 [.int .i64 (cols : Int), .int .i64 (limit : Int), pv, sv]) (ht : TabAt w pv past fp) (hgf : g ∉ fp)
    (h0 : 0 < new.length) (hnews : ∀ j u, (rowsL new)[j]? = some u → w.cell? (ad.add j) = some u) (hl : past.length + new.length ≤ 1000000) (hlim : limit ≤ 2000) :
    Calls Tryd.prog 42 #[.pointer (some ⟨g, 0, none⟩), .slice (some ad) new.length c] w fun e w' => e = .returned (.tuple #[]) ∧
      ∃ pv' fp', BL w' g 70 [.int .i64 (cols : Int), .int .i64 (limit : Int), pv', sv] ∧ TabAt w' pv' ((past ++ new).drop (past.length + new.length - limit)) fp' ∧ (∀ x ∈ fp', x ∈ fp ∨ w.heap.size ≤ x) ∧ Only (g :: fp) w w' := by
  have g2 : w.cell? ⟨g, 2, none⟩ = some pv := hg.cell 2
  have hgl := hg.lt
  obtain ⟨ms, hms⟩ : ∃ ms, ms = past ++ new := ⟨_, rfl⟩
  have hn : ms.length = past.length + new.length := by rw [hms, List.length_append]
  have hn0 : 0 < ms.length := by omega
  rw [← hms, ← hn]
  have HMS := Lib.hid hms
  have HN : ms.length ≤ 1000000 := by omega
  clear hms hn
  obtain ⟨b, hb⟩ : ∃ b, ms.length - limit = b := ⟨_, rfl⟩
  have hbl : b ≤ ms.length := by omega
  have HB : Hid ((ms.length : Int) - (limit : Int) ≤ 0 ∧ b = 0 ∨ 0 < (ms.length : Int) - (limit : Int) ∧ (ms.length : Int) - (limit : Int) = (b : Int)) := by show _ ∨ _; omega
  rw [hb]
  clear hb
  go_enter Tryd.func42, Tryd.ntmps42
  go_wp2_with (at_builtin; refine wpList_append_rows rfl (.tmp 9) (.tmp 10) rfl pv past fp rfl ht ad c new rfl h0 hnews hl ?_; intro v1 w1 fp1 ht1 hf1 ho1; rw [← HMS.out] at ht1; obtain ⟨p, off, c1, pre, tail, rfl, hc1, hc2, hpre, htl, hB1, rfl⟩ := ht1.resolve_left (fun e => by rw [e.2.1] at hn0; exact absurd hn0 (by simp)); have hg1 := hg.only ho1 hgf; have y2 := hg1.frozen 2; have x2 : w1.cell? ⟨g, 2, none⟩ = some pv := hg1.cell 2)
  obtain ⟨n, hn⟩ : ∃ n, ms.length = n := ⟨_, rfl⟩
  have hpg : p ≠ g := fun e => by
    rcases hf1 p (by simp) with h | h
    · exact hgf (e ▸ h)
    · omega
  have hg2 := hg1.set_ 2 (slV p (2 * off) ms.length c1)
  have ho2 := (ho1.mono (G := g :: fp) (fun x hx => by simp [hx])).setCell (p := ⟨g, 2, none⟩) (.inl (by simp)) (slV p (2 * off) ms.length c1)
  have hB2 : BL (w1.setCell ⟨g, 2, none⟩ (slV p (2 * off) ms.length c1)) p 73 (pre ++ rowsL ms ++ tail) := (Below.heap_setCell w1 ⟨g, 2, none⟩ _ p hpg).trans hB1
  have hf1x : ∀ x ∈ [p], x ∈ g :: fp ∨ w.heap.size ≤ x := fun x hx => by
    rcases hf1 x hx with h | h
    · exact .inl (by simp [h])
    · exact .inr h
  have hg3 : BL (w1.setCell ⟨g, 2, none⟩ (slV p (2 * off) ms.length c1)) g 70 [.int .i64 (cols : Int), .int .i64 (limit : Int), slV p (2 * off) ms.length c1, sv] := hg2
  clear hg hg1 hg2 hB1 g2 x2 y2 ht hnews hn h0 hl
  generalize w1.setCell ⟨g, 2, none⟩ (slV p (2 * off) ms.length c1) = W at *
  go_cut [4] (fun s4 wx => s4 = .int .i64 (b : Int) ∧ BL wx g 70 [.int .i64 (cols : Int), .int .i64 (limit : Int), slV p (2 * off) ms.length c1, sv] ∧ BL wx p 73 (pre ++ rowsL ms ++ tail) ∧ Only (g :: fp) w wx)
  case first =>
    have x1 : W.drew.cell? ⟨g, 1, none⟩ = some (.int .i64 (limit : Int)) := hg3.cell 1
    have x2 : W.drew.cell? ⟨g, 2, none⟩ = some (slV p (2 * off) ms.length c1) := hg3.cell 2
    have j1 : IntKind.i64.wrap ((ms.length : Int) - (limit : Int)) = (ms.length : Int) - (limit : Int) := IntWalk.i64_in _ ⟨by omega, by omega⟩
    go_region
    all_goals go_wp2_with fail
    all_goals go_meet
    all_goals
      have hk := HB.out
      exact ⟨congrArg (Value.int .i64) (by omega), hg3, hB2, ho2.drew⟩
  case rest =>
    obtain ⟨rfl, hg4, hB4, ho4⟩ := hcut
    clear hg3 hB2 ho2 ho1 HB HMS
    have z2 : _ = some (slV p (2 * off) ms.length c1) := hg4.cell 2
    have b0 : (0 : Int) ≤ (b : Int) := Int.natCast_nonneg _
    have b1 : (b : Int) ≤ (c1 : Int) := by omega
    have b2 : (b : Int) ≤ (ms.length : Int) := by omega
    have hrl := rowsL_len ms
    by_cases hcb : c1 = b
    · subst hcb
      go_wp2_with (refine wpList_clear_rows rfl (.tmp 30) rfl p (2 * off) _ c1 rfl _ hB4 (by simp only [List.length_append]; omega) ?_; intro zs w5 hzs hB5 hw5; have hg5 := hg4.only hw5.only (by simpa using fun e => hpg e.symm); have z5 : _ = some (slV p (2 * off) ms.length c1) := hg5.cell 2; have zf := hg5.frozen 2; have ho5 := ho4.trans2 hw5.only (fun x hx => hf1x x hx))
      have ht5 := TabAt.rest hzs hbl hc1 hc2 hpre htl hB5
      rw [if_pos rfl, Nat.sub_self, show ms.length - c1 = 0 by omega] at ht5
      have hox : Only [g] w5 (w5.setCell ⟨g, 2, none⟩ ((.slice (some ⟨p, 2 * off, none⟩) 0 0))) := (Only.refl _ _).setCell (.inl (by simp)) _
      exact body_end rfl rfl ⟨rfl, _, [p], hg5.set_ 2 _, ht5.only hox (by simpa using hpg), hf1, ho5.trans2 hox (fun x hx => .inl (by simp at hx; simp [hx]))⟩
    · go_wp2_with (refine wpList_clear_rows rfl (.tmp 30) rfl p (2 * off) _ c1 rfl _ hB4 (by simp only [List.length_append]; omega) ?_; intro zs w5 hzs hB5 hw5; have hg5 := hg4.only hw5.only (by simpa using fun e => hpg e.symm); have z5 : _ = some (slV p (2 * off) ms.length c1) := hg5.cell 2; have zf := hg5.frozen 2; have ho5 := ho4.trans2 hw5.only (fun x hx => hf1x x hx))
      have ht5 := TabAt.rest hzs hbl hc1 hc2 hpre htl hB5
      rw [if_neg hcb] at ht5
      have hox : Only [g] w5 (w5.setCell ⟨g, 2, none⟩ (.slice (some ⟨p, 2 * off + b * 2, none⟩) (ms.length - b) (c1 - b))) := (Only.refl _ _).setCell (.inl (by simp)) _
      exact body_end rfl rfl ⟨rfl, _, [p], hg5.set_ 2 _, ht5.only hox (by simpa using hpg), hf1, ho5.trans2 hox (fun x hx => .inl (by simp at hx; simp [hx]))⟩
end Go.Proofs.YtgjlohplgpcghaaDoor.Grd
/- A grid with other rows. -/
namespace Go.Proofs.YtgjlohplgpcghaaDoor.Grd
open Go.RowKit

theorem nodup_mid {P M S : List Nat} (h : (P ++ S).Nodup) (hm : M.Nodup) (hd : ∀ x ∈ M, x ∉ P ++ S) : (P ++ (M ++ S)).Nodup := by
  rw [List.nodup_append] at h ⊢
  obtain ⟨h1, h2, h3⟩ := h
  refine ⟨h1, ?_, ?_⟩
  · rw [List.nodup_append]
    exact ⟨hm, h2, fun a ha b hb e => hd a ha (List.mem_append_right _ (e ▸ hb))⟩
  · intro a ha b hb e
    rcases List.mem_append.1 hb with hb | hb
    · exact hd b hb (List.mem_append_left _ (e ▸ ha))
    · exact h3 a ha b hb e
theorem GridAt.remake {w w' : World} {g s : Nat} {pv pv' : Value} {fp fp' F : List Nat} {G : GS} (h : GridAt w g s pv fp G) {past scr P M S : List MR}
    (hblk : BL w' g 70 [.int .i64 (G.cols : Int), .int .i64 (G.limit : Int), pv', slV s 0 scr.length scr.length]) (htab : TabAt w' pv' past fp') (hscr : BL w' s 73 (rowsL scr)) (hlen : scr.length = G.scr.length)
    (ho : Only F w w') (hF : ∀ x ∈ F, x ∈ g :: s :: fp) (hfp : ∀ x ∈ fp', x ∈ fp ∨ w.heap.size ≤ x) (hgs : (g :: s :: fp').Nodup) (hp : past.length ≤ G.limit)
    (hall : past ++ scr = P ++ (M ++ S)) (hsub : (P ++ S).Sublist (G.past ++ G.scr)) (hM : Held w' M) (hnew : ∀ m ∈ M, w.heap.size ≤ m.b ∧ m.l.length = G.cols ∧ m.b ∉ fp') : GridAt w' g s pv' fp' ⟨G.cols, G.limit, past, scr⟩ := by
  have hgl := h.blk.lt
  have hsl := h.scr.lt
  have hold : ∀ m ∈ P ++ S, m ∈ G.past ++ G.scr := fun m hm => hsub.subset hm
  have hlt : ∀ m ∈ P ++ S, m.b < w.heap.size := fun m hm => h.held.lt (hold m hm)
  have hcase : ∀ m ∈ past ++ scr, m ∈ P ++ S ∨ m ∈ M := fun m hm => by
    rw [hall] at hm
    rcases List.mem_append.1 hm with hm | hm
    · exact .inl (List.mem_append_left _ hm)
    · rcases List.mem_append.1 hm with hm | hm
      · exact .inr hm
      · exact .inl (List.mem_append_right _ hm)
  refine ⟨hblk, htab, hscr, ⟨?_, ?_⟩, hgs, ?_, ?_, h.c1, h.c2, by show 1 ≤ scr.length; rw [hlen]; exact h.r1, by show scr.length ≤ 120; rw [hlen]; exact h.r2, h.l2, hp⟩
  · intro m hm
    rcases hcase m hm with hm | hm
    · exact (h.held.at_ m (hold m hm)).only ho (fun e => h.far m (hold m hm) (hF _ e))
    · exact hM.at_ m hm
  · show ((past ++ scr).map MR.b).Nodup
    rw [hall, List.map_append, List.map_append]
    refine nodup_mid ?_ hM.apart ?_
    · rw [← List.map_append]
      exact h.held.apart.sublist (hsub.map _)
    · intro x hx e
      obtain ⟨m, hm, rfl⟩ := List.mem_map.1 hx
      rw [← List.map_append] at e
      obtain ⟨y, hy, e2⟩ := List.mem_map.1 e
      have := hlt y hy
      have := (hnew m hm).1
      omega
  · intro m hm
    rcases hcase m hm with hm | hm
    · have h1 := h.far m (hold m hm)
      have h2 := hlt m hm
      simp only [List.mem_cons, not_or] at h1 ⊢
      refine ⟨h1.1, h1.2.1, fun e => ?_⟩
      rcases hfp _ e with e | e
      · exact h1.2.2 e
      · omega
    · obtain ⟨h1, _, h3⟩ := hnew m hm
      simp only [List.mem_cons, not_or]
      exact ⟨by omega, by omega, h3⟩
  · intro m hm
    rcases hcase m hm with hm | hm
    · exact h.cells m (hold m hm)
    · exact (hnew m hm).2.1
/-- The rows of the screen, scrolled up: of len from top on, q go off, as many new ones stand behind the others. -/
def upL (scr : List MR) (top len q : Nat) (ms : List MR) : List MR := scr.take top ++ ((scr.drop (top + q)).take (len - q) ++ (ms ++ scr.drop (top + len)))
theorem upL_len {scr : List MR} {top len q : Nat} {ms : List MR} (h : top + len ≤ scr.length) (hq : q ≤ len) (hm : ms.length = q) : (upL scr top len q ms).length = scr.length := by
  unfold upL
  simp only [List.length_append, List.length_take, List.length_drop]
  omega
theorem rowsL_take (ms : List MR) (n : Nat) : rowsL (ms.take n) = (rowsL ms).take (2 * n) := by
  by_cases h : n ≤ ms.length
  · have e := congrArg rowsL (List.take_append_drop n ms)
    rw [rowsL_app] at e
    have hl : (rowsL (ms.take n)).length = 2 * n := by rw [rowsL_len, List.length_take]; omega
    have e2 := congrArg (List.take (2 * n)) e
    rw [List.take_left' hl] at e2
    exact e2
  · rw [List.take_of_length_le (by omega), List.take_of_length_le (by rw [rowsL_len]; omega)]
theorem rowsL_drop (ms : List MR) (n : Nat) : rowsL (ms.drop n) = (rowsL ms).drop (2 * n) := by
  by_cases h : n ≤ ms.length
  · have e := congrArg rowsL (List.take_append_drop n ms)
    rw [rowsL_app] at e
    have hl : (rowsL (ms.take n)).length = 2 * n := by rw [rowsL_len, List.length_take]; omega
    have e2 := congrArg (List.drop (2 * n)) e
    rw [List.drop_left' hl] at e2
    exact e2
  · rw [List.drop_of_length_le (by omega), List.drop_of_length_le (by rw [rowsL_len]; omega)]
    rfl
theorem upL_rows {scr : List MR} {top len q : Nat} {ms : List MR} (h : top + len ≤ scr.length) (hq : q ≤ len) (hm : ms.length = q) :
    splice (splice (rowsL scr) (2 * top) (rowsL ((scr.drop (top + q)).take (len - q)))) (2 * (top + (len - q))) (rowsL ms) = rowsL (upL scr top len q ms) := by
  have h1 : (rowsL ((scr.drop (top + q)).take (len - q))).length = 2 * (len - q) := by rw [rowsL_len, List.length_take, List.length_drop]; omega
  have h2 := rowsL_len ms
  have h3 := rowsL_len scr
  rw [show 2 * (top + (len - q)) = 2 * top + (rowsL ((scr.drop (top + q)).take (len - q))).length by omega, splice_app (by omega)]
  unfold splice upL
  rw [rowsL_app, rowsL_app, rowsL_app, rowsL_take scr top, rowsL_drop scr (top + len), List.length_append, h1, h2, hm, show 2 * top + (2 * (len - q) + 2 * q) = 2 * (top + len) by omega]
  simp only [List.append_assoc]
end Go.Proofs.YtgjlohplgpcghaaDoor.Grd
