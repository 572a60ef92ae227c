/- lex: a group ended. -/
import Derived.Test.YtplikjbajejciaaDoorQrf
namespace Go.Proofs.YtplikjbajejciaaDoor.Lex
open Go.RowKit Go.Maps
section
variable {B G rb n : Nat} {w w' : World} {K : Kp} {env : Env} {ls : List LV} {ws : List Wd} {s : Tx}
def Kp.grp (K : Kp) (g : Nat) : Kp := { K with g := g }
/-- What the end of a group leaves. -/
def GP (B G rb : Nat) (w : World) (K : Kp) (env : Env) (ls : List LV) (ws : List Wd) (s : Tx) (n : Nat) (e : Ending) (w' : World) : Prop :=
  e = .returned (.tuple #[]) ∧ ∃ K' ls', RH B G rb w' K' env ls' [] s n ∧ ls'.map (·.2) = endC (ls.map (·.2)) ws K.g ∧ K'.g = Lex.grp (endC (ls.map (·.2)) ws K.g) K.g ∧ ∀ F, (∀ k, K.lv.ownBlock = some k → k ∈ F) → Only (rb :: F) w w'
theorem lnsC_len (l : List LV) : (lnsC l).length = l.length * 2 := by
  unfold lnsC
  induction l with
  | nil => rfl
  | cons p l ih => rw [List.flatMap_cons, List.length_append, ih, List.length_cons]; show 2 + _ = _; omega
theorem lns_cell {ls : List LV} {p : LV} {j : Nat} (hp : ls[j]? = some p) (tail : List Value) : (lnsC ls ++ tail)[j * 2]? = some p.1 ∧ (lnsC ls ++ tail)[j * 2 + 1]? = some (.int .i64 (p.2.group : Int)) := by
  have hlt : j < ls.length := (List.getElem?_eq_some_iff.1 hp).1
  have h1 : ls = ls.take j ++ p :: ls.drop (j + 1) := by
    rw [← (List.getElem?_eq_some_iff.1 hp).2, ← List.drop_eq_getElem_cons hlt, List.take_append_drop]
  have h2 : lnsC ls = lnsC (ls.take j) ++ (lnL p ++ lnsC (ls.drop (j + 1))) := by
    conv => lhs; rw [h1]
    unfold lnsC
    rw [List.flatMap_append, List.flatMap_cons]
  have h3 : (lnsC (ls.take j)).length = j * 2 := by rw [lnsC_len, List.length_take, Nat.min_eq_left (by omega)]
  rw [h2]
  constructor
  · rw [List.append_assoc, List.getElem?_append_right (by omega), h3, Nat.sub_self]; rfl
  · rw [List.append_assoc, List.getElem?_append_right (by omega), h3, Nat.add_sub_cancel_left]; rfl
theorem RH.drewN (h : RH B G rb w K env ls ws s n) (k : Nat) : RH B G rb (w.drewN k) K env ls ws s n :=
  h.go (h.cx.same (only_drewN (Only.refl _ _) k)) ((only_drewN (Only.refl [] w) k).mono (by simp)) rfl rfl rfl (Nat.le_refl _)
theorem last_grp {L : List Ln} {l : Ln} {g : Nat} (h : L.getLast? = some l) : Lex.grp L g = if l.group = g then g + 1 else g := by unfold Lex.grp; rw [h]
theorem map_last {ls : List LV} {p : LV} (h : ls.getLast? = some p) : (ls.map (·.2)).getLast? = some p.2 := by rw [List.getLast?_map, h]; rfl
theorem none_grp {L : List Ln} {g : Nat} (h : L = []) : Lex.grp L g = g := by subst h; rfl
set_option maxRecDepth 100000 in
set_option maxHeartbeats 4000000 in
theorem endGroup_any (h : RH B G rb w K env ls ws s n) :
    Calls Tryd.prog 38 #[ptrV rb] w (GP B G rb w K env ls ws s n) := by
  have HE := Lib.hid (endCommand_any h)
  clear h
  unfold ptrV at *
  go_enter Tryd.func38, Tryd.ntmps38
  go_wp2_with fail
  refine HE.out.mono ?_
  rintro _ w1 ⟨rfl, K', ls', h1, hm, hg, hO⟩
  obtain ⟨mv, hR, hM⟩ := h1.cx.place
  obtain ⟨A2, k2, hl⟩ := own_slice h1.lown
  have c5 : w1.cell? ⟨rb, 5, none⟩ = some (.slice A2 ls'.length k2) := (BL.cell hR 5).trans (congrArg some hl)
  have c7 : w1.cell? ⟨rb, 7, none⟩ = some (.int .i64 (K'.g : Int)) := BL.cell hR 7
  have f7 := BL.frozen hR 7
  have hgb := h1.grps.2
  have hfw := h1.few
  rcases hls : ls'.getLast? with _ | p
  · have hnil : ls' = [] := List.getLast?_eq_none_iff.1 hls
    have c5' : w1.cell? ⟨rb, 5, none⟩ = some (.slice A2 0 k2) := by rw [c5, hnil]; rfl
    have HG : Hid (∀ k, GP B G rb w K env ls ws s n (.returned (.tuple #[])) (w1.drewN k)) := by
      refine fun k => ⟨rfl, K', ls', h1.drewN k, hm, ?_, fun F hF => only_drewN (hO F hF) k⟩
      rw [hg, none_grp (by rw [← hm, hnil]; rfl)]
    clear c5 hls hnil h1 hm hg hO hR hM hl f7 c7 hgb hfw
    go_wp2_with fail
    go_quiet (fail)
    have HG2 := Lib.hid (HG.out nq)
    generalize World.drewN w1 nq = V at *
    go_wp2_with fail
    exact body_end rfl rfl HG2.out
  · have hlast := h1.last p hls
    have hlen : 0 < ls'.length := by
      rcases ls' with _ | ⟨a, l⟩
      · cases hls
      · simp
    obtain ⟨g2, c2, tail, hv, _, hbl, htl, hn2, hc2⟩ := own_some h1.lown hlen
    rw [hl] at hv
    simp only [Value.slice.injEq] at hv
    obtain ⟨rfl, -, rfl⟩ := hv
    obtain ⟨j, hj⟩ : ∃ j, ls'.length = j + 1 := ⟨ls'.length - 1, by omega⟩
    have hpj : ls'[j]? = some p := by
      rw [List.getLast?_eq_getElem?, hj] at hls
      exact hls
    have cg : w1.cell? ⟨g2, j * 2 + 1, none⟩ = some (.int .i64 (p.2.group : Int)) := (hbl.cell (j * 2 + 1)).trans (lns_cell hpj tail).2
    obtain ⟨N, hN⟩ : ∃ N, N = ls'.length := ⟨_, rfl⟩
    rw [← hN] at c5 hj hlen
    have zw : IntKind.i64.wrap ((N : Int) - 1) = (j : Int) := by rw [IntWalk.i64_in _ (by omega)]; omega
    have z0 : (0 : Int) < (N : Int) := by omega
    have z1 : (j : Int) < (N : Int) := by omega
    have z5 : 0 < N := by omega
    have z6 : j < N := by omega
    have z7 : decide (0 < N) = true := decide_eq_true z5
    have z2 : (0 : Int) ≤ (j : Int) := by omega
    have z3 : (K'.g : Int) ≤ 65538 := by omega
    by_cases hgg : p.2.group = K'.g
    · rw [hgg] at cg hlast
      have f7' : ∀ k, (w1.drewN k).frozen? ⟨rb, 7, none⟩ = false := fun k => by obtain ⟨m9, h9, _⟩ := (h1.drewN k).cx.place; exact BL.frozen h9 7
      have HG : Hid (∀ k, GP B G rb w K env ls ws s n (.returned (.tuple #[])) ((w1.drewN k).setCell ⟨rb, 7, none⟩ (.int .i64 ((K'.g : Int) + 1)))) := by
        intro k
        have hk := h1.drewN k
        obtain ⟨mv3, hR3, hM3⟩ := hk.cx.place
        have hset := one_set (w1.drewN k) rb 7 (.int .i64 ((K'.g : Int) + 1))
        have hR4 : RAt ((w1.drewN k).setCell ⟨rb, 7, none⟩ (.int .i64 ((K'.g : Int) + 1))) rb ((K'.grp (K'.g + 1)).rd s n mv3) := BL.set_ hR3 7 _
        have hcx := hk.cx.turn (K' := K'.grp (K'.g + 1)) hR4 (hM3.set mv3 hR3 hset (by simp)) hset rfl rfl (List.suffix_refl _) (Nat.le_refl _)
        have hgo := hk.go (K' := { K' with g := K'.g }) (s' := s) (n' := n) hk.cx (Only.refl _ _) rfl rfl rfl (Nat.le_refl _)
        have far : ∀ {t : TypeId} {size m : Nat} {v : Value} {xs : List Value}, (w1.drewN k).ownsRow G t size v m xs → t ≠ 49 → ((w1.drewN k).setCell ⟨rb, 7, none⟩ (.int .i64 ((K'.g : Int) + 1))).ownsRow G t size v m xs := fun ho' ht => own_only ho' hset (fun q hq => by
          have := hk.rb_far ho' ht
          rw [List.mem_singleton]
          intro e
          subst e
          exact this hq)
        refine ⟨rfl, K'.grp (K'.g + 1), ls', ⟨hcx, far hk.wown (by decide), far hk.lown (by decide), fun q hq => ⟨far (hk.lns q hq).1 (by decide), (hk.lns q hq).2⟩, hk.few, ⟨hk.grps.1, by show K'.g + 1 ≤ _; omega⟩, hk.last, hk.low, Nat.le_trans hk.base hset.size⟩, hm, ?_, fun F hF => (only_drewN (hO F hF) k).setCell (p := ⟨rb, 7, none⟩) (.inl (List.mem_cons_self ..)) _⟩
        show K'.g + 1 = _
        rw [← hm, last_grp (map_last hls), hgg, hg, if_pos rfl]
      have HC : Hid (∀ k, (w1.drewN k).cell? ⟨rb, 7, none⟩ = some (.int .i64 (K'.g : Int))) := fun k => by obtain ⟨m9, h9, _⟩ := (h1.drewN k).cx.place; exact BL.cell h9 7
      have HF7 := Lib.hid f7'
      clear hls h1 hm hg hO hR hM hl f7 hgb hfw f7' hpj hbl htl hn2 hc2 hgg hlast hj hN hlen
      generalize K'.g = gg at *
      go_wp2_with fail
      go_quiet (fail)
      have HG2 := Lib.hid (HG.out nq)
      have e7 := HC.out nq
      have e7f := HF7.out nq
      generalize World.drewN w1 nq = V at *
      go_wp2_with fail
      exact body_end rfl rfl HG2.out
    · have HG : Hid (∀ k, GP B G rb w K env ls ws s n (.returned (.tuple #[])) (w1.drewN k)) := by
        refine fun k => ⟨rfl, K', ls', h1.drewN k, hm, ?_, fun F hF => only_drewN (hO F hF) k⟩
        rw [← hm, last_grp (map_last hls), ← hg, if_neg hgg]
      have hgi : ¬ ((p.2.group : Int) = (K'.g : Int)) := by omega
      clear hls h1 hm hg hO hR hM hl f7 hgb hfw hpj hbl htl hn2 hc2 hgg hlast hj hN hlen
      generalize K'.g = gg at *
      generalize p.2.group = pg at *
      go_wp2_with fail
      go_quiet (fail)
      have HG2 := Lib.hid (HG.out nq)
      generalize World.drewN w1 nq = V at *
      go_wp2_with fail
      exact body_end rfl rfl HG2.out
end
end Go.Proofs.YtplikjbajejciaaDoor.Lex
