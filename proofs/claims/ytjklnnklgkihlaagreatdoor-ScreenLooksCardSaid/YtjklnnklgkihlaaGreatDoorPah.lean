/- Rows that scroll off. -/
import Derived.Test.YtjklnnklgkihlaaGreatDoorPac
namespace Go.Proofs.YtjklnnklgkihlaaGreatDoor.Grd
open Go.RowKit

section
variable {ops : Array Oper} {rest : List Oper} {op : Oper} {a : Act} {w : World} {Q : Exit → Act → World → Prop}
theorem wpList_append_rows (hgd : op.guard = none) (s x : Operand) (ho : op.op = .call { callee := .builtin .append, args := #[s, x], argTypes := #[70, 70] })
    (pv : Value) (past : List MR) (fp : List Nat) (hs : a.eval s = pv) (ht : TabAt w pv past fp) (ad : Addr) (c : Nat) (new : List MR) (hx : a.eval x = .slice (some ad) new.length c) (h0 : 0 < new.length) (hnews : ∀ j u, (rowsL new)[j]? = some u → w.cell? (ad.add j) = some u) (hl : past.length + new.length ≤ 1000000)
    (h : ∀ v' w' fp', TabAt w' v' (past ++ new) fp' → (∀ x ∈ fp', x ∈ fp ∨ w.heap.size ≤ x) → Only fp w w' → wpList Tryz.prog ops Q rest (a.put op.dst v') w') : wpList Tryz.prog ops Q (op :: rest) a w := by
  refine wpList_plain hgd fun K hK => ?_
  obtain ⟨v', w', fp', hrun, h1, h2, h3⟩ := append_rows w ht op.type ad c new h0 hnews hl
  have hk := hK _ _ (h v' w' fp' h1 h2 h3)
  unfold Oper.wp
  simp [execOp, ho, resolve, invoke, builtin, hs, hx, hrun, Result.andThen]
  exact hk
/-- Rows that are forgotten. -/
theorem wpList_clear_rows (hgd : op.guard = none) (s : Operand) (ho : op.op = .call { callee := .builtin .clear, args := #[s], argTypes := #[70] })
    (p o n c : Nat) (hs : a.eval s = .slice (some ⟨p, o, none⟩) n c) (xs : List Value) (hB : BL w p 78 xs) (hfit : o + 2 * n ≤ xs.length)
    (h : ∀ zs w', zs.length = 2 * n → BL w' p 78 (splice xs o zs) → Wrote p w w' → wpList Tryz.prog ops Q rest (a.put op.dst (.tuple #[])) w') : wpList Tryz.prog ops Q (op :: rest) a w := by
  refine wpList_plain hgd fun K hK => ?_
  rcases Nat.eq_zero_or_pos n with rfl | hn
  · have hk := hK _ _ (h [] w rfl (by rw [splice_nil]; exact hB) ⟨rfl, fun _ _ ha _ => ha⟩)
    have hrun : (Builtin.clear_ #[70] op.type #[.slice (some ⟨p, o, none⟩) 0 c]).run Tryz.prog w = .ok (.tuple #[]) w := by simp [Builtin.clear_, run_underlying Tryz.underlying70]
    unfold Oper.wp
    simp [execOp, ho, resolve, invoke, builtin, hs, hrun, Result.andThen]
    exact hk
  · have hi := info_row
    cases hq : Tryz.prog.info? 78 with
    | none => rw [hq] at hi; cases hi
    | some i =>
      rw [hq] at hi
      simp only [Option.map_some, Option.some.injEq, Prod.mk.injEq] at hi
      obtain ⟨hz, hsz, hby⟩ := hi
      have hv : (zeroValue 78).run Tryz.prog w = .ok (.agg #[.slice none 0 0, .bool false]) w := by simp [zeroValue, typeInfo, hq, hz]
      obtain ⟨Z, hZ⟩ : ∃ Z, (Builtin.zeroCells (Value.cells (.agg #[.slice none 0 0, .bool false])) n) = Z := ⟨_, rfl⟩
      have hzl : Z.toList.length = 2 * n := by
        rw [← hZ]
        have := size_zeroCells (Value.cells (.agg #[.slice none 0 0, .bool false])) n
        refine (Array.length_toList (xs := _)).trans (this.trans ?_)
        show n * 2 = _
        omega
      have hone : ∀ v ∈ Z.toList, v.oneCell' = true := by
        rw [← hZ]
        unfold Builtin.zeroCells
        intro v hv
        simp [Value.cells] at hv
        obtain ⟨j, _, rfl⟩ := hv
        have h2 : j % 2 = 0 ∨ j % 2 = 1 := by omega
        rcases h2 with h2 | h2 <;> simp [h2] <;> rfl
      have hth := hB.there (o := o) (n := 2 * n) hfit
      have hst := run_storeCells_cells (P := Tryz.prog) p o Z.toList 0 w (by rw [hzl]; simpa using fun j hj => (hth j hj).1) (by rw [hzl]; simpa using fun j hj => (hth j hj).2) hone
      simp only [Nat.add_zero] at hst
      have hrun : (Builtin.clear_ #[70] op.type #[.slice (some ⟨p, o, none⟩) n c]).run Tryz.prog w = .ok (.tuple #[]) (w.setCells p o Z.toList) := by
        obtain ⟨m, rfl⟩ : ∃ m, n = m + 1 := ⟨n - 1, by omega⟩
        simp [Builtin.clear_, run_underlying Tryz.underlying70, hv, hZ, hst]
      have hk := hK _ _ (h Z.toList _ hzl (hB.setCells Z.toList o (by rw [hzl]; exact hfit)) (Wrote.setCells p o Z.toList w))
      generalize w.setCells p o Z.toList = w2 at hk hrun
      unfold Oper.wp
      simp [execOp, ho, resolve, invoke, builtin, hs, hrun, Result.andThen]
      exact hk
end
end Go.Proofs.YtjklnnklgkihlaaGreatDoor.Grd
/- The program's keep. -/
namespace Go.Proofs.YtjklnnklgkihlaaGreatDoor.Grd
open Go.RowKit

/-- A table without its first rows, which may have been wiped. -/
theorem TabAt.rest {w : World} {p off c k : Nat} {pre zs tail : List Value} {ms : List MR} (hz : zs.length = 2 * k) (hk : k ≤ ms.length) (hc1 : ms.length ≤ c) (hc2 : c ≤ maxLen) (hpre : pre.length = 2 * off) (htl : 2 * (c - ms.length) ≤ tail.length) (hB : BL w p 78 (splice (pre ++ rowsL ms ++ tail) (2 * off) zs)) :
    TabAt w (if c = k then .slice (some ⟨p, 2 * off, none⟩) (ms.length - k) (c - k) else .slice (some ⟨p, 2 * off + k * 2, none⟩) (ms.length - k) (c - k)) (ms.drop k) [p] := by
  have hsp : splice (pre ++ rowsL ms ++ tail) (2 * off) zs = pre ++ zs ++ rowsL (ms.drop k) ++ tail := by
    have e : rowsL ms = rowsL (ms.take k) ++ rowsL (ms.drop k) := by rw [← rowsL_app, List.take_append_drop]
    have hl : (rowsL (ms.take k)).length = 2 * k := by rw [rowsL_len, List.length_take]; omega
    unfold splice
    rw [e]
    simp only [List.append_assoc]
    rw [List.take_left' hpre, List.drop_append, List.drop_of_length_le (l := pre) (by omega), List.nil_append, hpre, hz, show 2 * off + 2 * k - 2 * off = 2 * k by omega, List.drop_left' hl]
  rw [hsp] at hB
  by_cases h : c = k
  · rw [if_pos h]
    subst h
    have h1 : ms.length = c := by omega
    have h2 : ms.drop c = [] := by rw [← h1]; exact List.drop_length
    rw [h2] at hB ⊢
    exact .inr ⟨p, off, 0, pre, zs ++ tail, by rw [h1, Nat.sub_self]; rfl, Nat.le_refl _, Nat.zero_le _, hpre, Nat.zero_le _, by rw [show rowsL [] = [] from rfl, List.append_nil] at hB ⊢; rw [← List.append_assoc]; exact hB, rfl⟩
  · rw [if_neg h]
    refine .inr ⟨p, off + k, c - k, pre ++ zs, tail, ?_, by rw [List.length_drop]; omega, by omega, by rw [List.length_append]; omega, by rw [List.length_drop]; omega, hB, rfl⟩
    rw [List.length_drop, show 2 * (off + k) = 2 * off + k * 2 by omega]

set_option maxRecDepth 100000 in
set_option maxHeartbeats 1000000 in
theorem keep_any {w : World} {g cols limit c : Nat} {pv sv : Value} {past new : List MR} {fp : List Nat} {ad : Addr} (hg : BL w g 72 [.int .i64 (cols : Int), .int .i64 (limit : Int), pv, sv]) (ht : TabAt w pv past fp) (hgf : g ∉ fp)
    (h0 : 0 < new.length) (hnews : ∀ j u, (rowsL new)[j]? = some u → w.cell? (ad.add j) = some u) (hl : past.length + new.length ≤ 1000000) (hlim : limit ≤ 2000) :
    Calls Tryz.prog 203 #[.pointer (some ⟨g, 0, none⟩), .slice (some ad) new.length c] w fun e w' => e = .returned (.tuple #[]) ∧
      ∃ pv' fp', BL w' g 72 [.int .i64 (cols : Int), .int .i64 (limit : Int), pv', sv] ∧ TabAt w' pv' ((past ++ new).drop (past.length + new.length - limit)) fp' ∧ (∀ x ∈ fp', x ∈ fp ∨ w.heap.size ≤ x) ∧ Only (g :: fp) w w' := by
  have g2 : w.cell? ⟨g, 2, none⟩ = some pv := hg.cell 2
  have hgl := hg.lt
  obtain ⟨ms, hms⟩ : ∃ ms, ms = past ++ new := ⟨_, rfl⟩
  have hn : ms.length = past.length + new.length := by rw [hms, List.length_append]
  have hn0 : 0 < ms.length := by omega
  rw [← hms, ← hn]
  have HMS := Lib.hid hms
  have HN : ms.length ≤ 1000000 := by omega
  clear hms hn
  obtain ⟨b, hb⟩ : ∃ b, ms.length - limit = b := ⟨_, rfl⟩
  have hbl : b ≤ ms.length := by omega
  have HB : Hid ((ms.length : Int) - (limit : Int) ≤ 0 ∧ b = 0 ∨ 0 < (ms.length : Int) - (limit : Int) ∧ (ms.length : Int) - (limit : Int) = (b : Int)) := by show _ ∨ _; omega
  rw [hb]
  clear hb
  go_enter Tryz.func203, Tryz.ntmps203
  go_wp2_with (at_builtin; refine wpList_append_rows rfl (.tmp 9) (.tmp 10) rfl pv past fp rfl ht ad c new rfl h0 hnews hl ?_; intro v1 w1 fp1 ht1 hf1 ho1; rw [← HMS.out] at ht1; obtain ⟨p, off, c1, pre, tail, rfl, hc1, hc2, hpre, htl, hB1, rfl⟩ := ht1.resolve_left (fun e => by rw [e.2.1] at hn0; exact absurd hn0 (by simp)); have hg1 := hg.only ho1 hgf; have y2 := hg1.frozen 2; have x2 : w1.cell? ⟨g, 2, none⟩ = some pv := hg1.cell 2)
  obtain ⟨n, hn⟩ : ∃ n, ms.length = n := ⟨_, rfl⟩
  have hpg : p ≠ g := fun e => by
    rcases hf1 p (by simp) with h | h
    · exact hgf (e ▸ h)
    · omega
  have hg2 := hg1.set_ 2 (slV p (2 * off) ms.length c1)
  have ho2 := (ho1.mono (G := g :: fp) (fun x hx => by simp [hx])).setCell (p := ⟨g, 2, none⟩) (.inl (by simp)) (slV p (2 * off) ms.length c1)
  have hB2 : BL (w1.setCell ⟨g, 2, none⟩ (slV p (2 * off) ms.length c1)) p 78 (pre ++ rowsL ms ++ tail) := (Below.heap_setCell w1 ⟨g, 2, none⟩ _ p hpg).trans hB1
  have hf1x : ∀ x ∈ [p], x ∈ g :: fp ∨ w.heap.size ≤ x := fun x hx => by
    rcases hf1 x hx with h | h
    · exact .inl (by simp [h])
    · exact .inr h
  have hg3 : BL (w1.setCell ⟨g, 2, none⟩ (slV p (2 * off) ms.length c1)) g 72 [.int .i64 (cols : Int), .int .i64 (limit : Int), slV p (2 * off) ms.length c1, sv] := hg2
  clear hg hg1 hg2 hB1 g2 x2 y2 ht hnews hn h0 hl
  generalize w1.setCell ⟨g, 2, none⟩ (slV p (2 * off) ms.length c1) = W at *
  go_cut [4] (fun s4 wx => s4 = .int .i64 (b : Int) ∧ BL wx g 72 [.int .i64 (cols : Int), .int .i64 (limit : Int), slV p (2 * off) ms.length c1, sv] ∧ BL wx p 78 (pre ++ rowsL ms ++ tail) ∧ Only (g :: fp) w wx)
  case first =>
    have x1 : W.drew.cell? ⟨g, 1, none⟩ = some (.int .i64 (limit : Int)) := hg3.cell 1
    have x2 : W.drew.cell? ⟨g, 2, none⟩ = some (slV p (2 * off) ms.length c1) := hg3.cell 2
    have j1 : IntKind.i64.wrap ((ms.length : Int) - (limit : Int)) = (ms.length : Int) - (limit : Int) := IntWalk.i64_in _ ⟨by omega, by omega⟩
    go_region
    all_goals go_wp2_with fail
    all_goals go_meet
    all_goals
      have hk := HB.out
      exact ⟨congrArg (Value.int .i64) (by omega), hg3, hB2, ho2.drew⟩
  case rest =>
    obtain ⟨rfl, hg4, hB4, ho4⟩ := hcut
    clear hg3 hB2 ho2 ho1 HB HMS
    have z2 : _ = some (slV p (2 * off) ms.length c1) := hg4.cell 2
    have b0 : (0 : Int) ≤ (b : Int) := Int.natCast_nonneg _
    have b1 : (b : Int) ≤ (c1 : Int) := by omega
    have b2 : (b : Int) ≤ (ms.length : Int) := by omega
    have hrl := rowsL_len ms
    by_cases hcb : c1 = b
    · subst hcb
      go_wp2_with (refine wpList_clear_rows rfl (.tmp 30) rfl p (2 * off) _ c1 rfl _ hB4 (by simp only [List.length_append]; omega) ?_; intro zs w5 hzs hB5 hw5; have hg5 := hg4.only hw5.only (by simpa using fun e => hpg e.symm); have z5 : _ = some (slV p (2 * off) ms.length c1) := hg5.cell 2; have zf := hg5.frozen 2; have ho5 := ho4.trans2 hw5.only (fun x hx => hf1x x hx))
      have ht5 := TabAt.rest hzs hbl hc1 hc2 hpre htl hB5
      rw [if_pos rfl, Nat.sub_self, show ms.length - c1 = 0 by omega] at ht5
      have hox : Only [g] w5 (w5.setCell ⟨g, 2, none⟩ ((.slice (some ⟨p, 2 * off, none⟩) 0 0))) := (Only.refl _ _).setCell (.inl (by simp)) _
      exact body_end rfl rfl ⟨rfl, _, [p], hg5.set_ 2 _, ht5.only hox (by simpa using hpg), hf1, ho5.trans2 hox (fun x hx => .inl (by simp at hx; simp [hx]))⟩
    · go_wp2_with (refine wpList_clear_rows rfl (.tmp 30) rfl p (2 * off) _ c1 rfl _ hB4 (by simp only [List.length_append]; omega) ?_; intro zs w5 hzs hB5 hw5; have hg5 := hg4.only hw5.only (by simpa using fun e => hpg e.symm); have z5 : _ = some (slV p (2 * off) ms.length c1) := hg5.cell 2; have zf := hg5.frozen 2; have ho5 := ho4.trans2 hw5.only (fun x hx => hf1x x hx))
      have ht5 := TabAt.rest hzs hbl hc1 hc2 hpre htl hB5
      rw [if_neg hcb] at ht5
      have hox : Only [g] w5 (w5.setCell ⟨g, 2, none⟩ (.slice (some ⟨p, 2 * off + b * 2, none⟩) (ms.length - b) (c1 - b))) := (Only.refl _ _).setCell (.inl (by simp)) _
      exact body_end rfl rfl ⟨rfl, _, [p], hg5.set_ 2 _, ht5.only hox (by simpa using hpg), hf1, ho5.trans2 hox (fun x hx => .inl (by simp at hx; simp [hx]))⟩
end Go.Proofs.YtjklnnklgkihlaaGreatDoor.Grd
/- A grid with other rows. -/
namespace Go.Proofs.YtjklnnklgkihlaaGreatDoor.Grd
open Go.RowKit

theorem nodup_mid {P M S : List Nat} (h : (P ++ S).Nodup) (hm : M.Nodup) (hd : ∀ x ∈ M, x ∉ P ++ S) : (P ++ (M ++ S)).Nodup := by
  rw [List.nodup_append] at h ⊢
  obtain ⟨h1, h2, h3⟩ := h
  refine ⟨h1, ?_, ?_⟩
  · rw [List.nodup_append]
    exact ⟨hm, h2, fun a ha b hb e => hd a ha (List.mem_append_right _ (e ▸ hb))⟩
  · intro a ha b hb e
    rcases List.mem_append.1 hb with hb | hb
    · exact hd b hb (List.mem_append_left _ (e ▸ ha))
    · exact h3 a ha b hb e
theorem GridAt.remake {w w' : World} {g s : Nat} {pv pv' : Value} {fp fp' F : List Nat} {G : GS} (h : GridAt w g s pv fp G) {past scr P M S : List MR}
    (hblk : BL w' g 72 [.int .i64 (G.cols : Int), .int .i64 (G.limit : Int), pv', slV s 0 scr.length scr.length]) (htab : TabAt w' pv' past fp') (hscr : BL w' s 78 (rowsL scr)) (hlen : scr.length = G.scr.length)
    (ho : Only F w w') (hF : ∀ x ∈ F, x ∈ g :: s :: fp) (hfp : ∀ x ∈ fp', x ∈ fp ∨ w.heap.size ≤ x) (hgs : (g :: s :: fp').Nodup) (hp : past.length ≤ G.limit)
    (hall : past ++ scr = P ++ (M ++ S)) (hsub : (P ++ S).Sublist (G.past ++ G.scr)) (hM : Held w' M) (hnew : ∀ m ∈ M, w.heap.size ≤ m.b ∧ m.l.length = G.cols ∧ m.b ∉ fp') : GridAt w' g s pv' fp' ⟨G.cols, G.limit, past, scr⟩ := by
  have hgl := h.blk.lt
  have hsl := h.scr.lt
  have hold : ∀ m ∈ P ++ S, m ∈ G.past ++ G.scr := fun m hm => hsub.subset hm
  have hlt : ∀ m ∈ P ++ S, m.b < w.heap.size := fun m hm => h.held.lt (hold m hm)
  have hcase : ∀ m ∈ past ++ scr, m ∈ P ++ S ∨ m ∈ M := fun m hm => by
    rw [hall] at hm
    rcases List.mem_append.1 hm with hm | hm
    · exact .inl (List.mem_append_left _ hm)
    · rcases List.mem_append.1 hm with hm | hm
      · exact .inr hm
      · exact .inl (List.mem_append_right _ hm)
  refine ⟨hblk, htab, hscr, ⟨?_, ?_⟩, hgs, ?_, ?_, h.c1, h.c2, by show 1 ≤ scr.length; rw [hlen]; exact h.r1, by show scr.length ≤ 120; rw [hlen]; exact h.r2, h.l2, hp⟩
  · intro m hm
    rcases hcase m hm with hm | hm
    · exact (h.held.at_ m (hold m hm)).only ho (fun e => h.far m (hold m hm) (hF _ e))
    · exact hM.at_ m hm
  · show ((past ++ scr).map MR.b).Nodup
    rw [hall, List.map_append, List.map_append]
    refine nodup_mid ?_ hM.apart ?_
    · rw [← List.map_append]
      exact h.held.apart.sublist (hsub.map _)
    · intro x hx e
      obtain ⟨m, hm, rfl⟩ := List.mem_map.1 hx
      rw [← List.map_append] at e
      obtain ⟨y, hy, e2⟩ := List.mem_map.1 e
      have := hlt y hy
      have := (hnew m hm).1
      omega
  · intro m hm
    rcases hcase m hm with hm | hm
    · have h1 := h.far m (hold m hm)
      have h2 := hlt m hm
      simp only [List.mem_cons, not_or] at h1 ⊢
      refine ⟨h1.1, h1.2.1, fun e => ?_⟩
      rcases hfp _ e with e | e
      · exact h1.2.2 e
      · omega
    · obtain ⟨h1, _, h3⟩ := hnew m hm
      simp only [List.mem_cons, not_or]
      exact ⟨by omega, by omega, h3⟩
  · intro m hm
    rcases hcase m hm with hm | hm
    · exact h.cells m (hold m hm)
    · exact (hnew m hm).2.1
/-- The rows of the screen, scrolled up: of len from top on, q go off, as many new ones stand behind the others. -/
def upL (scr : List MR) (top len q : Nat) (ms : List MR) : List MR := scr.take top ++ ((scr.drop (top + q)).take (len - q) ++ (ms ++ scr.drop (top + len)))
theorem upL_len {scr : List MR} {top len q : Nat} {ms : List MR} (h : top + len ≤ scr.length) (hq : q ≤ len) (hm : ms.length = q) : (upL scr top len q ms).length = scr.length := by
  unfold upL
  simp only [List.length_append, List.length_take, List.length_drop]
  omega
theorem rowsL_take (ms : List MR) (n : Nat) : rowsL (ms.take n) = (rowsL ms).take (2 * n) := by
  by_cases h : n ≤ ms.length
  · have e := congrArg rowsL (List.take_append_drop n ms)
    rw [rowsL_app] at e
    have hl : (rowsL (ms.take n)).length = 2 * n := by rw [rowsL_len, List.length_take]; omega
    have e2 := congrArg (List.take (2 * n)) e
    rw [List.take_left' hl] at e2
    exact e2
  · rw [List.take_of_length_le (by omega), List.take_of_length_le (by rw [rowsL_len]; omega)]
theorem rowsL_drop (ms : List MR) (n : Nat) : rowsL (ms.drop n) = (rowsL ms).drop (2 * n) := by
  by_cases h : n ≤ ms.length
  · have e := congrArg rowsL (List.take_append_drop n ms)
    rw [rowsL_app] at e
    have hl : (rowsL (ms.take n)).length = 2 * n := by rw [rowsL_len, List.length_take]; omega
    have e2 := congrArg (List.drop (2 * n)) e
    rw [List.drop_left' hl] at e2
    exact e2
  · rw [List.drop_of_length_le (by omega), List.drop_of_length_le (by rw [rowsL_len]; omega)]
    rfl
theorem upL_rows {scr : List MR} {top len q : Nat} {ms : List MR} (h : top + len ≤ scr.length) (hq : q ≤ len) (hm : ms.length = q) :
    splice (splice (rowsL scr) (2 * top) (rowsL ((scr.drop (top + q)).take (len - q)))) (2 * (top + (len - q))) (rowsL ms) = rowsL (upL scr top len q ms) := by
  have h1 : (rowsL ((scr.drop (top + q)).take (len - q))).length = 2 * (len - q) := by rw [rowsL_len, List.length_take, List.length_drop]; omega
  have h2 := rowsL_len ms
  have h3 := rowsL_len scr
  rw [show 2 * (top + (len - q)) = 2 * top + (rowsL ((scr.drop (top + q)).take (len - q))).length by omega, splice_app (by omega)]
  unfold splice upL
  rw [rowsL_app, rowsL_app, rowsL_app, rowsL_take scr top, rowsL_drop scr (top + len), List.length_append, h1, h2, hm, show 2 * top + (2 * (len - q) + 2 * q) = 2 * (top + len) by omega]
  simp only [List.append_assoc]
end Go.Proofs.YtjklnnklgkihlaaGreatDoor.Grd
/- Rows scrolled up, those that go off forgotten. -/
namespace Go.Proofs.YtjklnnklgkihlaaGreatDoor.Grd
open Go.RowKit Cel Sty

theorem upL_sub (past scr : List MR) {top len q : Nat} : ((past ++ (scr.take top ++ (scr.drop (top + q)).take (len - q))) ++ scr.drop (top + len)).Sublist (past ++ scr) := by
  rw [List.append_assoc]
  refine (List.Sublist.refl past).append ?_
  rw [List.append_assoc]
  have e : scr = scr.take top ++ scr.drop top := (List.take_append_drop top scr).symm
  conv => rhs; rw [e]
  refine (List.Sublist.refl _).append ?_
  have e1 : scr.drop (top + q) = (scr.drop top).drop q := by rw [List.drop_drop]
  have e2 : scr.drop (top + len) = (scr.drop top).drop len := by rw [List.drop_drop]
  rw [e1, e2]
  generalize scr.drop top = l
  by_cases h : q ≤ len
  · have e3 : l.drop len = (l.drop q).drop (len - q) := by rw [List.drop_drop, show q + (len - q) = len by omega]
    rw [e3, List.take_append_drop]
    exact List.drop_sublist _ _
  · rw [show len - q = 0 by omega, List.take_zero, List.nil_append]
    exact List.drop_sublist _ _
/-- The cells of a table from one row on. -/
theorem rows_from {w : World} {s : Nat} {scr : List MR} (h : BL w s 78 (rowsL scr)) (k n : Nat) (j : Nat) (u : Value) (hj : (rowsL ((scr.drop k).take n))[j]? = some u) : w.cell? ((⟨s, k * 2, none⟩ : Addr).add j) = some u := by
  rw [Addr.add_mid, h.cell]
  rw [rowsL_take, rowsL_drop, List.getElem?_take] at hj
  split at hj
  · rw [List.getElem?_drop, Nat.mul_comm 2 k] at hj
    exact hj
  · cases hj

set_option maxRecDepth 100000 in
set_option maxHeartbeats 2000000 in
theorem up_plain {w : World} {g s : Nat} {pv : Value} {fp : List Nat} {G : GS} (h : GridAt w g s pv fp G) (top bottom q : Nat) (htb : top ≤ bottom) (hbr : bottom < G.scr.length) (n : Int) (hn : 1 ≤ n) (hq : (q : Int) = min n ((bottom : Int) + 1 - (top : Int)))
    (s1 s2 s3 : Int) (hst : rightS s1 s2 s3 = true) (kp : Bool) (hkp : kp = false ∨ 0 < top) :
    Calls Tryz.prog 157 #[.pointer (some ⟨g, 0, none⟩), .int .i64 (top : Int), .int .i64 (bottom : Int), .int .i64 n, .agg #[.int .i64 s1, .int .i64 s2, .int .i64 s3], .bool kp] w fun e w' => e = .returned (.tuple #[]) ∧
      ∃ ms, ms.length = q ∧ Alike w.heap.size (List.replicate G.cols (32, 1, s1, s2, s3)) ms ∧ GridAt w' g s pv fp ⟨G.cols, G.limit, G.past, upL G.scr top (bottom + 1 - top) q ms⟩ ∧ Only [s] w w' := by
  have hA := BL.new w 23 [.int .i64 s1, .int .i64 s2, .int .i64 s3]
  have hb0 : Below w.heap.size w (w.alloc (.cells #[.int .i64 s1, .int .i64 s2, .int .i64 s3] 23)) := (Below.refl _ _).alloc (Nat.le_refl _) _
  have hs0 := hb0.size
  have h0 := h.below hb0
  have hreg := region_any h0 top bottom q htb hbr n hn hq s1 s2 s3 hst
  have hr2 := h.r2
  have hc2 := h.c2
  have hgl := h.blk.lt
  have hsl := h.scr.lt
  obtain ⟨d, hd⟩ : ∃ d, bottom + 1 - top = d + q := ⟨bottom + 1 - top - q, by omega⟩
  have hq1 : 1 ≤ q := by omega
  obtain ⟨C, hC⟩ : ∃ C, G.scr.length - top = C := ⟨_, rfl⟩
  have hCd : d + q ≤ C := by omega
  have hC2 : C ≤ 120 := by omega
  have htop : top ≤ 120 := by omega
  have htd : top + (d + q) ≤ G.scr.length := by omega
  rw [hd, hC] at hreg
  rw [hd]
  have HG := Lib.hid h
  have hrl := rowsL_len G.scr
  have hns : g ≠ s := by
    have := h.apart
    simp only [List.nodup_cons, List.mem_cons, not_or] at this
    exact this.1.1
  have hnsp : s ∉ fp := by
    have := h.apart
    simp only [List.nodup_cons, List.mem_cons, not_or] at this
    exact this.2.1
  clear hq hbr htb hn hd hC hst h0
  have kp2 : kp = false ∨ (kp = true ∧ ((top : Int) == 0) = false) := by
    rcases hkp with e | e
    · exact .inl e
    · cases kp
      · exact .inl rfl
      · exact .inr ⟨rfl, by simp; omega⟩
  clear hkp
  have i0 : (0 : Int) ≤ (q : Int) := Int.natCast_nonneg _
  have i1 : (q : Int) ≤ (d : Int) + (q : Int) := by omega
  have i2 : (0 : Int) ≤ (d : Int) := Int.natCast_nonneg _
  have i3 : (d : Int) ≤ (d : Int) + (q : Int) := by omega
  have j1 : IntKind.i64.wrap (d : Int) = (d : Int) := IntWalk.i64_in _ ⟨by omega, by omega⟩
  have cd : ¬ C = d := by omega
  have HF : Hid (∀ (w' : World) (ms : List MR), ms.length = q → BL w' s 78 (splice (splice (rowsL G.scr) (2 * top) (rowsL ((G.scr.drop (top + q)).take (d + q - q)))) (2 * (top + (d + q - q))) (rowsL ms)) → Held w' ms → Alike w.heap.size (List.replicate G.cols (32, 1, s1, s2, s3)) ms → Only [s] w w' →
      GridAt w' g s pv fp ⟨G.cols, G.limit, G.past, upL G.scr top (d + q) q ms⟩) := fun w' ms hms hB hH hK ho => by
    have hl := upL_len htd (Nat.le_add_left q d) hms
    rw [upL_rows htd (Nat.le_add_left q d) hms] at hB
    have hb := HG.out.blk.only ho (by simpa using hns)
    rw [← hl] at hb
    refine HG.out.remake (P := G.past ++ (G.scr.take top ++ (G.scr.drop (top + q)).take (d + q - q))) (M := ms) (S := G.scr.drop (top + (d + q))) hb (HG.out.tab.only ho (fun x hx e => hnsp (by simp at e; exact e ▸ hx))) hB hl ho (fun x hx => by simp at hx; simp [hx]) (fun x hx => .inl hx) HG.out.apart HG.out.p2 ?_ (upL_sub _ _) hH (fun m hm => ?_)
    · unfold upL; simp only [List.append_assoc]
    · obtain ⟨k1, _, k3⟩ := hK m hm
      refine ⟨k3, by rw [k1, List.length_replicate], fun e => ?_⟩
      rcases HG.out.tab with ⟨_, _, e2⟩ | ⟨p, _, _, _, _, _, _, _, _, _, hBp, e2⟩
      · rw [e2] at e; cases e
      · rw [e2] at e
        have := hBp.lt
        simp at e
        omega
  have hgc : w.cell? ⟨g, 0, none⟩ = some (.int .i64 (G.cols : Int)) := HG.out.f0
  have hBs := HG.out.scr
  have hcs1 := rows_from hBs (top + q) d
  have hcl : (rowsL ((G.scr.drop (top + q)).take d)).length = d * 2 := by rw [rowsL_len, List.length_take, List.length_drop]; omega
  have hone := one_rows ((G.scr.drop (top + q)).take d)
  rw [show d + q - q = d by omega] at HF
  rw [show 2 * top = top * 2 by omega, show 2 * (top + d) = top * 2 + d * 2 by omega] at HF
  rw [show (top + q) * 2 = top * 2 + q * 2 by omega] at hcs1
  generalize rowsL ((G.scr.drop (top + q)).take d) = cs at *
  generalize rowsL G.scr = xs at *
  obtain ⟨cols, hcols⟩ : ∃ cols, G.cols = cols := ⟨_, rfl⟩
  obtain ⟨GL, hGL⟩ : ∃ GL, G.scr.length = GL := ⟨_, rfl⟩
  rw [hcols] at hgc hc2
  rw [hcols] at HF
  rw [hcols]
  rw [hGL] at hr2 hrl htd
  have hmn : Nat.min d (d + q) * 2 = d * 2 := by rw [show Nat.min d (d + q) = d from Nat.min_eq_left (by omega)]
  rw [← hmn] at hcl
  clear h HG hGL hcols
  have hlay := fun W hx => lay_any s (top + d) q (C - d) cols (splice xs (top * 2) cs) s1 s2 s3 W hx (by rw [splice_len (by rw [hcl, hmn]; omega)]; omega) (by rw [splice_len (by rw [hcl, hmn]; omega)]; omega) (by omega)
  unfold slV at hlay
  rw [show 2 * (top + d) = top * 2 + d * 2 by omega] at hlay
  by_cases hCq : C = q
  · have hqC : q = C := hCq.symm
    subst hqC
    clear hCq
    obtain rfl : d = 0 := by omega
    have hcs0 : cs.length = 0 := by rw [hcl, hmn]
    have j0 : IntKind.i64.wrap (0 : Int) = 0 := IntWalk.i64_in _ ⟨by omega, by omega⟩
    have hq0 : ¬ q = 0 := by omega
    clear j1 i3 i2
    clear hmn hcl
    simp only [Nat.zero_add, Nat.zero_mul, Nat.add_zero, Nat.sub_zero] at hlay hreg HF htd hcs1 ⊢
    rcases kp2 with rfl | ⟨rfl, hz⟩
    all_goals
      go_enter Tryz.func157, Tryz.ntmps157
      go_wp2_with (first
        | (refine wpList_load_row rfl 23 _ rfl w.heap.size rfl _ _ _ _ hA Tryz.underlying23 rfl (by kernel_rfl) ?_)
        | (go_at_call 202; refine hreg.mono ?_; rintro _ w1 ⟨rfl, hb1⟩; have hbw := hb0.trans (hb1.mono hs0); have hB1 := hBs.only (F := []) (Only.of_below hbw) (by simp); have hA1 := hA.only (F := []) (Only.of_below hb1) (by simp); have hw1 := Only.of_below (F := [s]) hbw; have hc1 : w1.cell? ⟨g, 0, none⟩ = some (.int .i64 (cols : Int)) := (hbw.cell (p := ⟨g, 0, none⟩) hgl).trans hgc)
        | (refine wpList_copy_wide rfl (.tmp 32) (.tmp 35) 70 70 rfl 78 2 Tryz.underlying70 (by kernel_rfl) s (top * 2) q q ⟨s, top * 2, none⟩ 0 _ rfl rfl xs 78 hB1 cs (by rw [hcs0, show Nat.min 0 q = 0 from Nat.zero_min q]) (fun j u hj => by have := (List.getElem?_eq_some_iff.1 hj).1; rw [hcs0] at this; omega) (by rw [hcs0]; omega) hone ?_; intro w2 hB2 hw2; have hA2 := hA1.only hw2.only (by simp; omega); have ho2 := hw2.2 _ _ hw1 (.inl (by simp)); have hc2' : w2.cell? ⟨g, 0, none⟩ = some (.int .i64 (cols : Int)) := (World.cell?_of_block (hw2.only.block g (by have := hbw.size; omega) (by simpa using hns))).trans hc1; rw [show Nat.min 0 q = 0 from Nat.zero_min q]))
      go_simp
      have hBd : BL w2.drew s 78 (splice xs (top * 2) cs) := hB2
      have hod : Only [s] w w2.drew := ho2.drew
      have hcd : w2.drew.cell? ⟨g, 0, none⟩ = some (.int .i64 (cols : Int)) := hc2'
      have hAd : BL w2.drew w.heap.size 23 [.int .i64 s1, .int .i64 s2, .int .i64 s3] := hA2
      have a0 : w2.drew.cell? ⟨w.heap.size, 0, none⟩ = some (.int .i64 s1) := hAd.cell 0
      have a1 : w2.drew.cell? ⟨w.heap.size, 1, none⟩ = some (.int .i64 s2) := hAd.cell 1
      have a2 : w2.drew.cell? ⟨w.heap.size, 2, none⟩ = some (.int .i64 s3) := hAd.cell 2
      have hsz := hod.size
      clear hA hA1 hA2 hB1 hB2 hreg hcs1 hBs hAd hc1 hc2' ho2 hw2 hw1 hgc hbw hb1 hb0
      go_region_with (go_at_call 103; refine (hlay _ hBd).mono ?_; rintro _ w3 ⟨rfl, ms, hms, hB3, hH3, hK3, ho3⟩)
      all_goals
        have hK4 : Alike w.heap.size (List.replicate cols (32, 1, s1, s2, s3)) ms := fun m hm => ⟨(hK3 m hm).1, (hK3 m hm).2.1, by have := (hK3 m hm).2.2; omega⟩
        have ho4 := hod.trans ho3
        exact body_end rfl rfl ⟨rfl, ms, hms, hK4, HF.out w3 ms hms hB3 hH3 hK4 ho4, ho4⟩
  · rcases kp2 with rfl | ⟨rfl, hz⟩
    all_goals
      go_enter Tryz.func157, Tryz.ntmps157
      go_wp2_with (first
        | (refine wpList_load_row rfl 23 _ rfl w.heap.size rfl _ _ _ _ hA Tryz.underlying23 rfl (by kernel_rfl) ?_)
        | (go_at_call 202; refine hreg.mono ?_; rintro _ w1 ⟨rfl, hb1⟩; have hbw := hb0.trans (hb1.mono hs0); have hB1 := hBs.only (F := []) (Only.of_below hbw) (by simp); have hA1 := hA.only (F := []) (Only.of_below hb1) (by simp); have hw1 := Only.of_below (F := [s]) hbw; have hc1 : w1.cell? ⟨g, 0, none⟩ = some (.int .i64 (cols : Int)) := (hbw.cell (p := ⟨g, 0, none⟩) hgl).trans hgc)
        | (refine wpList_copy_wide rfl (.tmp 32) (.tmp 35) 70 70 rfl 78 2 Tryz.underlying70 (by kernel_rfl) s (top * 2) (d + q) C ⟨s, top * 2 + q * 2, none⟩ d (C - q) rfl rfl xs 78 hB1 cs hcl (fun j u hj => by rw [Addr.add_mid, hB1.cell]; have := hcs1 j u hj; rw [Addr.add_mid, hBs.cell] at this; exact this) (by rw [hcl, hmn]; omega) hone ?_; intro w2 hB2 hw2; have hA2 := hA1.only hw2.only (by simp; omega); have ho2 := hw2.2 _ _ hw1 (.inl (by simp)); have hc2' : w2.cell? ⟨g, 0, none⟩ = some (.int .i64 (cols : Int)) := (World.cell?_of_block (hw2.only.block g (by have := hbw.size; omega) (by simpa using hns))).trans hc1; rw [show Nat.min d (d + q) = d from Nat.min_eq_left (by omega)]))
      go_simp
      have hBd : BL w2.drew s 78 (splice xs (top * 2) cs) := hB2
      have hod : Only [s] w w2.drew := ho2.drew
      have hcd : w2.drew.cell? ⟨g, 0, none⟩ = some (.int .i64 (cols : Int)) := hc2'
      have hAd : BL w2.drew w.heap.size 23 [.int .i64 s1, .int .i64 s2, .int .i64 s3] := hA2
      have a0 : w2.drew.cell? ⟨w.heap.size, 0, none⟩ = some (.int .i64 s1) := hAd.cell 0
      have a1 : w2.drew.cell? ⟨w.heap.size, 1, none⟩ = some (.int .i64 s2) := hAd.cell 1
      have a2 : w2.drew.cell? ⟨w.heap.size, 2, none⟩ = some (.int .i64 s3) := hAd.cell 2
      have hsz := hod.size
      clear hA hA1 hA2 hB1 hB2 hreg hcs1 hBs hAd hc1 hc2' ho2 hw2 hw1 hgc hbw hb1 hb0
      go_region_with (go_at_call 103; refine (hlay _ hBd).mono ?_; rintro _ w3 ⟨rfl, ms, hms, hB3, hH3, hK3, ho3⟩)
      all_goals
        have hK4 : Alike w.heap.size (List.replicate cols (32, 1, s1, s2, s3)) ms := fun m hm => ⟨(hK3 m hm).1, (hK3 m hm).2.1, by have := (hK3 m hm).2.2; omega⟩
        have ho4 := hod.trans ho3
        exact body_end rfl rfl ⟨rfl, ms, hms, hK4, HF.out w3 ms hms hB3 hH3 hK4 ho4, ho4⟩
end Go.Proofs.YtjklnnklgkihlaaGreatDoor.Grd
/- Rows scrolled up, those that go off kept. -/
namespace Go.Proofs.YtjklnnklgkihlaaGreatDoor.Grd
open Go.RowKit Cel Sty

theorem keep_sub (past scr : List MR) (k : Nat) {len q : Nat} (hq : q ≤ len) : (((past ++ scr.take q).drop k ++ (scr.drop q).take (len - q)) ++ scr.drop len).Sublist (past ++ scr) := by
  have e : past ++ scr = (past ++ scr.take q) ++ scr.drop q := by rw [List.append_assoc, List.take_append_drop]
  rw [e, List.append_assoc]
  refine (List.drop_sublist _ _).append ?_
  have e3 : scr.drop len = (scr.drop q).drop (len - q) := by rw [List.drop_drop, show q + (len - q) = len by omega]
  rw [e3, List.take_append_drop]
  exact List.Sublist.refl _
theorem TabAt.nodup {w : World} {v : Value} {ms : List MR} {F : List Nat} (h : TabAt w v ms F) : F.Nodup := by
  rcases h with ⟨_, _, rfl⟩ | ⟨p, _, _, _, _, _, _, _, _, _, _, rfl⟩
  · exact List.nodup_nil
  · simp
theorem TabAt.lt {w : World} {v : Value} {ms : List MR} {F : List Nat} (h : TabAt w v ms F) : ∀ x ∈ F, x < w.heap.size := by
  rcases h with ⟨_, _, rfl⟩ | ⟨p, _, _, _, _, _, _, _, _, _, hB, rfl⟩
  · intro x hx; cases hx
  · intro x hx
    have := hB.lt
    simp at hx
    omega

set_option maxRecDepth 100000 in
set_option maxHeartbeats 2000000 in
theorem up_keep {w : World} {g s : Nat} {pv : Value} {fp : List Nat} {G : GS} (h : GridAt w g s pv fp G) (bottom q : Nat) (hbr : bottom < G.scr.length) (n : Int) (hn : 1 ≤ n) (hq : (q : Int) = min n ((bottom : Int) + 1))
    (s1 s2 s3 : Int) (hst : rightS s1 s2 s3 = true) :
    Calls Tryz.prog 157 #[.pointer (some ⟨g, 0, none⟩), .int .i64 0, .int .i64 (bottom : Int), .int .i64 n, .agg #[.int .i64 s1, .int .i64 s2, .int .i64 s3], .bool true] w fun e w' => e = .returned (.tuple #[]) ∧
      ∃ pv' fp' ms, ms.length = q ∧ Alike w.heap.size (List.replicate G.cols (32, 1, s1, s2, s3)) ms ∧ GridAt w' g s pv' fp' ⟨G.cols, G.limit, (G.past ++ G.scr.take q).drop (G.past.length + q - G.limit), upL G.scr 0 (bottom + 1) q ms⟩ ∧ (∀ x ∈ fp', x ∈ fp ∨ w.heap.size ≤ x) ∧ Only (g :: s :: fp) w w' := by
  have htb : 0 ≤ bottom := Nat.zero_le _
  have hA := BL.new w 23 [.int .i64 s1, .int .i64 s2, .int .i64 s3]
  have hb0 : Below w.heap.size w (w.alloc (.cells #[.int .i64 s1, .int .i64 s2, .int .i64 s3] 23)) := (Below.refl _ _).alloc (Nat.le_refl _) _
  have hs0 := hb0.size
  have h0 := h.below hb0
  have hreg := region_any h0 0 bottom q htb hbr n hn (by rw [hq]; simp) s1 s2 s3 hst
  have hr2 := h.r2
  have hc2 := h.c2
  have hgl := h.blk.lt
  have hsl := h.scr.lt
  obtain ⟨d, hd⟩ : ∃ d, bottom + 1 = d + q := ⟨bottom + 1 - q, by omega⟩
  have hq1 : 1 ≤ q := by omega
  obtain ⟨C, hC⟩ : ∃ C, G.scr.length = C := ⟨_, rfl⟩
  have hCd : d + q ≤ C := by omega
  have hC2 : C ≤ 120 := by omega
  have htd : 0 + (d + q) ≤ G.scr.length := by omega
  rw [Nat.sub_zero, Nat.sub_zero, hd, hC, Nat.zero_mul] at hreg
  rw [hd]
  have HG := Lib.hid h
  have hrl := rowsL_len G.scr
  have hns : g ≠ s := by
    have := h.apart
    simp only [List.nodup_cons, List.mem_cons, not_or] at this
    exact this.1.1
  have hnsp : s ∉ fp := by
    have := h.apart
    simp only [List.nodup_cons, List.mem_cons, not_or] at this
    exact this.2.1
  clear hq hbr htb hn hd hC hst h0
  have i0 : (0 : Int) ≤ (q : Int) := Int.natCast_nonneg _
  have i1 : (q : Int) ≤ (d : Int) + (q : Int) := by omega
  have i2 : (0 : Int) ≤ (d : Int) := Int.natCast_nonneg _
  have i3 : (d : Int) ≤ (d : Int) + (q : Int) := by omega
  have j1 : IntKind.i64.wrap (d : Int) = (d : Int) := IntWalk.i64_in _ ⟨by omega, by omega⟩
  have cd : ¬ C = d := by omega
  rw [show ((0 : Nat) : Int) = 0 from rfl] at hreg
  have HF : Hid (∀ (w' : World) (pv' : Value) (fp' : List Nat) (ms : List MR), ms.length = q → BL w' g 72 [.int .i64 (G.cols : Int), .int .i64 (G.limit : Int), pv', slV s 0 G.scr.length G.scr.length] → TabAt w' pv' ((G.past ++ G.scr.take q).drop (G.past.length + q - G.limit)) fp' →
      BL w' s 78 (splice (splice (rowsL G.scr) (2 * 0) (rowsL ((G.scr.drop (0 + q)).take (d + q - q)))) (2 * (0 + (d + q - q))) (rowsL ms)) → Held w' ms → Alike w.heap.size (List.replicate G.cols (32, 1, s1, s2, s3)) ms → (∀ x ∈ fp', x ∈ fp ∨ w.heap.size ≤ x) → (∀ m ∈ ms, m.b ∉ fp') → Only (g :: s :: fp) w w' →
      GridAt w' g s pv' fp' ⟨G.cols, G.limit, (G.past ++ G.scr.take q).drop (G.past.length + q - G.limit), upL G.scr 0 (d + q) q ms⟩) := fun w' pv' fp' ms hms hb ht hB hH hK hfp hmf ho => by
    have hl := upL_len htd (Nat.le_add_left q d) hms
    rw [upL_rows htd (Nat.le_add_left q d) hms] at hB
    rw [← hl] at hb
    have hap := HG.out.apart
    simp only [List.nodup_cons, List.mem_cons, not_or] at hap
    refine HG.out.remake (P := (G.past ++ G.scr.take q).drop (G.past.length + q - G.limit) ++ (G.scr.drop q).take (d + q - q)) (M := ms) (S := G.scr.drop (d + q)) hb ht hB hl ho (fun x hx => hx) hfp ?_ ?_ ?_ (keep_sub _ _ _ (Nat.le_add_left q d)) hH (fun m hm => ?_)
    · have hx : ∀ y, y < w.heap.size → y ∉ fp → y ∉ fp' := fun y h1 h2 e => by
        rcases hfp y e with e | e
        · exact h2 e
        · omega
      simp only [List.nodup_cons, List.mem_cons, not_or]
      exact ⟨⟨hns, hx g hgl hap.1.2⟩, hx s hsl hnsp, ht.nodup⟩
    · rw [List.length_drop, List.length_append, List.length_take]
      omega
    · unfold upL
      rw [List.take_zero, List.nil_append, Nat.zero_add, Nat.zero_add]
      simp only [List.append_assoc]
    · obtain ⟨k1, _, k3⟩ := hK m hm
      exact ⟨k3, by rw [k1, List.length_replicate], hmf m hm⟩
  have hgc := HG.out.blk
  have htab := HG.out.tab
  have hfg : g ∉ fp := by
    have hap := HG.out.apart
    simp only [List.nodup_cons, List.mem_cons, not_or] at hap
    exact hap.1.2
  have hpl := HG.out.p2
  have hl2 := HG.out.l2
  have hBs := HG.out.scr
  have hcs1 := rows_from hBs q d
  have hcs0 := rows_from hBs 0 q
  rw [List.drop_zero, Nat.zero_mul] at hcs0
  have hcl : (rowsL ((G.scr.drop q).take d)).length = d * 2 := by rw [rowsL_len, List.length_take, List.length_drop]; omega
  have hone := one_rows ((G.scr.drop q).take d)
  have hnl : (G.scr.take q).length = q := by rw [List.length_take]; omega
  rw [show d + q - q = d by omega, Nat.zero_add, Nat.zero_add, show 2 * 0 = 0 from rfl, show 2 * d = d * 2 by omega] at HF
  have hkeep := fun (W : World) (hg : BL W g 72 [.int .i64 (G.cols : Int), .int .i64 (G.limit : Int), pv, slV s 0 G.scr.length G.scr.length]) (ht : TabAt W pv G.past fp) (hnews : ∀ j u, (rowsL (G.scr.take q))[j]? = some u → W.cell? ((⟨s, 0, none⟩ : Addr).add j) = some u) =>
    keep_any (c := C) hg ht hfg (by rw [hnl]; omega) hnews (by rw [hnl]; omega) hl2
  rw [hnl] at hkeep
  generalize hXS : rowsL G.scr = xs at *
  generalize rowsL ((G.scr.drop q).take d) = cs at *
  generalize G.scr.take q = new at *
  obtain ⟨cols, hcols⟩ : ∃ cols, G.cols = cols := ⟨_, rfl⟩
  obtain ⟨GL, hGL⟩ : ∃ GL, G.scr.length = GL := ⟨_, rfl⟩
  rw [hcols] at hgc hc2 HF hkeep
  rw [hcols]
  rw [hGL] at hr2 hrl htd hgc HF hkeep
  have hmn : Nat.min d (d + q) * 2 = d * 2 := by rw [show Nat.min d (d + q) = d from Nat.min_eq_left (by omega)]
  rw [← hmn] at hcl
  clear h HG hGL hcols hXS
  have hlay := fun W hx => lay_any s d q (C - d) cols (splice xs 0 cs) s1 s2 s3 W hx (by rw [splice_len (by rw [hcl, hmn]; omega)]; omega) (by rw [splice_len (by rw [hcl, hmn]; omega)]; omega) (by omega)
  unfold slV at hlay
  rw [show 2 * d = d * 2 by omega] at hlay
  by_cases hCq : C = q
  · have hqC : q = C := hCq.symm
    subst hqC
    clear hCq
    obtain rfl : d = 0 := by omega
    have hcz : cs.length = 0 := by rw [hcl, hmn]
    have j0 : IntKind.i64.wrap (0 : Int) = 0 := IntWalk.i64_in _ ⟨by omega, by omega⟩
    have hq0 : ¬ q = 0 := by omega
    clear j1 i3 i2 hmn hcl
    simp only [Nat.zero_add, Nat.zero_mul, Nat.sub_zero] at hlay hreg HF htd ⊢
    go_enter Tryz.func157, Tryz.ntmps157
    go_wp2_with (first
      | (refine wpList_load_row rfl 23 _ rfl w.heap.size rfl _ _ _ _ hA Tryz.underlying23 rfl (by kernel_rfl) ?_)
      | (go_at_call 202; refine hreg.mono ?_; rintro _ w1 ⟨rfl, hb1⟩; have hbw := hb0.trans (hb1.mono hs0); have hB1 := hBs.only (F := []) (Only.of_below hbw) (by simp); have hA1 := hA.only (F := []) (Only.of_below hb1) (by simp); have hw1 := Only.of_below (F := g :: s :: fp) hbw; have hg1 := hgc.only (F := []) (Only.of_below hbw) (by simp); have ht1 := htab.only (G := []) (Only.of_below hbw) (by simp))
      | (go_at_call 203; refine (hkeep _ hg1 ht1 (fun j u hj => by have := hcs0 j u hj; rw [Addr.add_mid, Nat.zero_add, hBs.cell] at this; rw [Addr.add_mid, Nat.zero_add, hB1.cell]; exact this)).mono ?_; rintro _ w2 ⟨rfl, pv2, fp2, hg2, ht2, hf2, ho2⟩; have hsf : s ∉ g :: fp := (by simp only [List.mem_cons, not_or]; exact ⟨fun e => hns e.symm, hnsp⟩); have hB2 := hB1.only ho2 hsf; have hA2 := hA1.only ho2 (by simp only [List.mem_cons, not_or]; exact ⟨by omega, fun e => by have := htab.lt _ e; omega⟩); have how2 := hw1.trans (ho2.mono (G := g :: s :: fp) (fun x hx => by simp only [List.mem_cons] at hx ⊢; rcases hx with hx | hx; exact .inl hx; exact .inr (.inr hx))))
      | (refine wpList_copy_wide rfl (.tmp 32) (.tmp 35) 70 70 rfl 78 2 Tryz.underlying70 (by kernel_rfl) s 0 q q ⟨s, 0, none⟩ 0 _ rfl rfl xs 78 hB2 cs (by rw [hcz, show Nat.min 0 q = 0 from Nat.zero_min q]) (fun j u hj => by have := (List.getElem?_eq_some_iff.1 hj).1; rw [hcz] at this; omega) (by rw [hcz]; omega) hone ?_; intro w3 hB3 hw3; rw [show Nat.min 0 q = 0 from Nat.zero_min q]))
    go_simp
    have hws := hbw.size
    have hsz2 := how2.size
    have hfp2 : ∀ x ∈ fp2, x ≠ s := fun x hx e => by
      rcases hf2 x hx with h1 | h1
      · exact hnsp (e ▸ h1)
      · omega
    have hA3 := hA2.only hw3.only (by simp; omega)
    have hg3 := hg2.only hw3.only (by simpa using hns)
    have ht3 := ht2.only hw3.only (fun x hx => by simpa using hfp2 x hx)
    have how3 := hw3.2 _ _ how2 (.inl (by simp))
    have hf3 : ∀ x ∈ fp2, x ∈ fp ∨ w.heap.size ≤ x := fun x hx => by
      rcases hf2 x hx with h1 | h1
      · exact .inl h1
      · exact .inr (by omega)
    have hBd : BL w3.drew s 78 (splice xs 0 cs) := hB3
    have hod : Only (g :: s :: fp) w w3.drew := how3.drew
    have hcd : w3.drew.cell? ⟨g, 0, none⟩ = some (.int .i64 (cols : Int)) := hg3.cell 0
    have hAd : BL w3.drew w.heap.size 23 [.int .i64 s1, .int .i64 s2, .int .i64 s3] := hA3
    have a0 : w3.drew.cell? ⟨w.heap.size, 0, none⟩ = some (.int .i64 s1) := hAd.cell 0
    have a1 : w3.drew.cell? ⟨w.heap.size, 1, none⟩ = some (.int .i64 s2) := hAd.cell 1
    have a2 : w3.drew.cell? ⟨w.heap.size, 2, none⟩ = some (.int .i64 s3) := hAd.cell 2
    have htd3 : TabAt w3.drew pv2 _ fp2 := ht3.only (G := []) ((Only.refl _ _).drew) (fun _ _ h => by cases h)
    have hgd3 : BL w3.drew g 72 _ := hg3
    have hltd := htd3.lt
    have hsz3 := hod.size
    clear hA hA1 hA2 hA3 hB1 hB2 hB3 hreg hcs1 hcs0 hBs hAd how2 how3 hw3 hw1 hbw hb1 hb0 hg1 hg2 hg3 ht1 ht2 ht3 hkeep hgc ho2
    go_region_with (go_at_call 103; refine (hlay _ hBd).mono ?_; rintro _ w4 ⟨rfl, ms, hms, hB4, hH4, hK4, ho4⟩)
    all_goals
      have hK5 : Alike w.heap.size (List.replicate cols (32, 1, s1, s2, s3)) ms := fun m hm => ⟨(hK4 m hm).1, (hK4 m hm).2.1, by have := (hK4 m hm).2.2; omega⟩
      have ho5 := hod.trans (ho4.mono (G := g :: s :: fp) (fun x hx => by simp at hx; simp [hx]))
      have hmf : ∀ m ∈ ms, m.b ∉ fp2 := fun m hm e => by
        have h1 := (hK4 m hm).2.2
        have h2 := hltd _ e
        omega
      exact body_end rfl rfl ⟨rfl, pv2, fp2, ms, hms, hK5, HF.out w4 pv2 fp2 ms hms (hgd3.only ho4 (by simpa using hns)) (htd3.only ho4 (fun x hx => by simpa using hfp2 x hx)) hB4 hH4 hK5 hf3 hmf ho5, hf3, ho5⟩
  · go_enter Tryz.func157, Tryz.ntmps157
    go_wp2_with (first
      | (refine wpList_load_row rfl 23 _ rfl w.heap.size rfl _ _ _ _ hA Tryz.underlying23 rfl (by kernel_rfl) ?_)
      | (go_at_call 202; refine hreg.mono ?_; rintro _ w1 ⟨rfl, hb1⟩; have hbw := hb0.trans (hb1.mono hs0); have hB1 := hBs.only (F := []) (Only.of_below hbw) (by simp); have hA1 := hA.only (F := []) (Only.of_below hb1) (by simp); have hw1 := Only.of_below (F := g :: s :: fp) hbw; have hg1 := hgc.only (F := []) (Only.of_below hbw) (by simp); have ht1 := htab.only (G := []) (Only.of_below hbw) (by simp))
      | (go_at_call 203; refine (hkeep _ hg1 ht1 (fun j u hj => by have := hcs0 j u hj; rw [Addr.add_mid, Nat.zero_add, hBs.cell] at this; rw [Addr.add_mid, Nat.zero_add, hB1.cell]; exact this)).mono ?_; rintro _ w2 ⟨rfl, pv2, fp2, hg2, ht2, hf2, ho2⟩; have hsf : s ∉ g :: fp := (by simp only [List.mem_cons, not_or]; exact ⟨fun e => hns e.symm, hnsp⟩); have hB2 := hB1.only ho2 hsf; have hA2 := hA1.only ho2 (by simp only [List.mem_cons, not_or]; exact ⟨by omega, fun e => by have := htab.lt _ e; omega⟩); have how2 := hw1.trans (ho2.mono (G := g :: s :: fp) (fun x hx => by simp only [List.mem_cons] at hx ⊢; rcases hx with hx | hx; exact .inl hx; exact .inr (.inr hx))))
      | (refine wpList_copy_wide rfl (.tmp 32) (.tmp 35) 70 70 rfl 78 2 Tryz.underlying70 (by kernel_rfl) s 0 (d + q) C ⟨s, q * 2, none⟩ d (C - q) rfl rfl xs 78 hB2 cs hcl (fun j u hj => by rw [Addr.add_mid, hB2.cell]; have := hcs1 j u hj; rw [Addr.add_mid, hBs.cell] at this; exact this) (by rw [hcl, hmn]; omega) hone ?_; intro w3 hB3 hw3; rw [show Nat.min d (d + q) = d from Nat.min_eq_left (by omega)]))
    go_simp
    have hws := hbw.size
    have hsz2 := how2.size
    have hfp2 : ∀ x ∈ fp2, x ≠ s := fun x hx e => by
      rcases hf2 x hx with h1 | h1
      · exact hnsp (e ▸ h1)
      · omega
    have hA3 := hA2.only hw3.only (by simp; omega)
    have hg3 := hg2.only hw3.only (by simpa using hns)
    have ht3 := ht2.only hw3.only (fun x hx => by simpa using hfp2 x hx)
    have how3 := hw3.2 _ _ how2 (.inl (by simp))
    have hf3 : ∀ x ∈ fp2, x ∈ fp ∨ w.heap.size ≤ x := fun x hx => by
      rcases hf2 x hx with h1 | h1
      · exact .inl h1
      · exact .inr (by omega)
    have hBd : BL w3.drew s 78 (splice xs 0 cs) := hB3
    have hod : Only (g :: s :: fp) w w3.drew := how3.drew
    have hcd : w3.drew.cell? ⟨g, 0, none⟩ = some (.int .i64 (cols : Int)) := hg3.cell 0
    have hAd : BL w3.drew w.heap.size 23 [.int .i64 s1, .int .i64 s2, .int .i64 s3] := hA3
    have a0 : w3.drew.cell? ⟨w.heap.size, 0, none⟩ = some (.int .i64 s1) := hAd.cell 0
    have a1 : w3.drew.cell? ⟨w.heap.size, 1, none⟩ = some (.int .i64 s2) := hAd.cell 1
    have a2 : w3.drew.cell? ⟨w.heap.size, 2, none⟩ = some (.int .i64 s3) := hAd.cell 2
    have htd3 : TabAt w3.drew pv2 _ fp2 := ht3.only (G := []) ((Only.refl _ _).drew) (fun _ _ h => by cases h)
    have hgd3 : BL w3.drew g 72 _ := hg3
    have hltd := htd3.lt
    have hsz3 := hod.size
    clear hA hA1 hA2 hA3 hB1 hB2 hB3 hreg hcs1 hcs0 hBs hAd how2 how3 hw3 hw1 hbw hb1 hb0 hg1 hg2 hg3 ht1 ht2 ht3 hkeep hgc ho2
    go_region_with (go_at_call 103; refine (hlay _ hBd).mono ?_; rintro _ w4 ⟨rfl, ms, hms, hB4, hH4, hK4, ho4⟩)
    all_goals
      have hK5 : Alike w.heap.size (List.replicate cols (32, 1, s1, s2, s3)) ms := fun m hm => ⟨(hK4 m hm).1, (hK4 m hm).2.1, by have := (hK4 m hm).2.2; omega⟩
      have ho5 := hod.trans (ho4.mono (G := g :: s :: fp) (fun x hx => by simp at hx; simp [hx]))
      have hmf : ∀ m ∈ ms, m.b ∉ fp2 := fun m hm e => by
        have h1 := (hK4 m hm).2.2
        have h2 := hltd _ e
        omega
      exact body_end rfl rfl ⟨rfl, pv2, fp2, ms, hms, hK5, HF.out w4 pv2 fp2 ms hms (hgd3.only ho4 (by simpa using hns)) (htd3.only ho4 (fun x hx => by simpa using hfp2 x hx)) hB4 hH4 hK5 hf3 hmf ho5, hf3, ho5⟩
end Go.Proofs.YtjklnnklgkihlaaGreatDoor.Grd
