/- lex: a command ended, a group ended. -/
import Derived.Test.YtplikjbajejciaaDoorQre
namespace Go.Proofs.YtplikjbajejciaaDoor.Lex
open Go.RowKit Go.Maps
section
variable {B G rb n : Nat} {w w' : World} {K : Kp} {env : Env} {ls : List LV} {ws : List Wd} {s : Tx}
def Kp.fin (K : Kp) (lv : Value) : Kp := { K with lv := lv, wv := .slice none 0 0 }
theorem lnL_one (p : LV) (h : ∃ A n c, p.1 = .slice A n c) : ∀ u ∈ lnL p, u.oneCell' = true := by
  obtain ⟨A, n, c, h⟩ := h
  intro u hu; simp [lnL, h] at hu; rcases hu with h | h <;> (subst h; rfl)
theorem end_done (h : RH B G rb w K env ls ws s n) {mv : Value} (hR : RAt w rb (K.rd s n mv)) (hM : MpAt B w mv env) (hws : ws ≠ []) {w3 : World} {g2 c2 : Nat} {o : Obj}
    (h1 : w3.ownsRow G 34 2 (.slice (some ⟨g2, 0, none⟩) (ls.length + 1) c2) (ls.length + 1) (lnsC ls ++ lnL (K.wv, ⟨ws, K.g⟩))) (h3 : (w.alloc o).drew.grownBy w3 K.lv.ownBlock) :
    RH B G rb ((w3.setCell ⟨rb, 5, none⟩ (.slice (some ⟨g2, 0, none⟩) (ls.length + 1) c2)).setCell ⟨rb, 6, none⟩ (.slice none 0 0)) (K.fin (.slice (some ⟨g2, 0, none⟩) (ls.length + 1) c2)) env (ls ++ [(K.wv, ⟨ws, K.g⟩)]) [] s n ∧ ∀ F, (∀ k, K.lv.ownBlock = some k → k ∈ F) → Only (rb :: F) w ((w3.setCell ⟨rb, 5, none⟩ (.slice (some ⟨g2, 0, none⟩) (ls.length + 1) c2)).setCell ⟨rb, 6, none⟩ (.slice none 0 0)) := by
  have hg : Only K.lv.ownBlock.toList w w3 := (((Only.refl _ w).alloc o).drew).trans (grown_any h3 (fun k hk => by rw [hk]; simp))
  have hrb := h.rb_far h.lown (by decide)
  have hR3 : RAt w3 rb (K.rd s n mv) := BL.only hR hg (by rw [Option.mem_toList]; exact hrb)
  obtain ⟨hcx, hO⟩ := h.cx.app (K' := { K with lv := .slice (some ⟨g2, 0, none⟩) (ls.length + 1) c2 }) hR hM (i := 5) (v := .slice (some ⟨g2, 0, none⟩) (ls.length + 1) c2) rfl rfl rfl hg hrb (fun m j D hm => own_map h.lown hm) (fun k hk => Nat.le_trans h.low (own_low h.lown k hk).1)
  have hset := one_set w3 rb 5 (.slice (some ⟨g2, 0, none⟩) (ls.length + 1) c2)
  have hset2 := one_set (w3.setCell ⟨rb, 5, none⟩ (.slice (some ⟨g2, 0, none⟩) (ls.length + 1) c2)) rb 6 (.slice none 0 0)
  have hss := hset.trans hset2
  obtain ⟨mv2, hR4, hM4⟩ := hcx.place
  have hR5 : RAt ((w3.setCell ⟨rb, 5, none⟩ (.slice (some ⟨g2, 0, none⟩) (ls.length + 1) c2)).setCell ⟨rb, 6, none⟩ (.slice none 0 0)) rb ((K.fin (.slice (some ⟨g2, 0, none⟩) (ls.length + 1) c2)).rd s n mv2) := BL.set_ hR4 6 (.slice none 0 0)
  have hcx2 := hcx.turn (K' := K.fin (.slice (some ⟨g2, 0, none⟩) (ls.length + 1) c2)) hR5 (hM4.set mv2 hR4 hset2 (by simp)) hset2 rfl rfl (List.suffix_refl _) (Nat.le_refl _)
  have keep : ∀ {t : TypeId} {size m : Nat} {v : Value} {xs : List Value}, w.ownsRow G t size v m xs → t ≠ 49 → (∀ k, v.ownBlock = some k → K.lv.ownBlock ≠ some k) → ((w3.setCell ⟨rb, 5, none⟩ (.slice (some ⟨g2, 0, none⟩) (ls.length + 1) c2)).setCell ⟨rb, 6, none⟩ (.slice none 0 0)).ownsRow G t size v m xs := fun ho ht hk => by
    have ho3 := own_only ho hg (fun k hk' => by rw [Option.mem_toList]; exact hk k hk')
    exact own_only ho3 hss (fun k hk' => by
      have := own_type ho3 (show BL w3 rb 49 _ from hR3) (fun e => ht e.symm)
      rw [List.mem_singleton]
      intro e
      subst e
      exact this hk')
  have hwl : 0 < ws.length := by cases ws with
    | nil => exact absurd rfl hws
    | cons _ _ => simp
  have hf := h.few
  have hgr := h.grps
  refine ⟨⟨hcx2, ⟨rfl, .inl ⟨rfl, rfl⟩⟩, ?_, fun p hp => ?_, by rw [List.length_append, List.length_singleton, List.length_nil]; omega, ⟨by rw [List.length_append, List.length_singleton, List.length_nil]; omega, by rw [List.length_append, List.length_singleton]; show K.g ≤ _; omega⟩, fun p hp => ?_, h.low, ?_⟩, fun F hF => (hO.mono (G := rb :: F) (fun x hx => ?_)).setCell (p := ⟨rb, 6, none⟩) (.inl (List.mem_cons_self ..)) _⟩
  · rw [List.length_append, List.length_singleton, lnsC_app]
    refine own_only h1 hss (fun k hk => ?_)
    have := own_type h1 (show BL w3 rb 49 _ from hR3) (by decide)
    rw [List.mem_singleton]
    intro e
    subst e
    exact this hk
  · rcases List.mem_append.1 hp with hp | hp
    · exact ⟨keep (h.lns p hp).1 (by decide) (own_apart (h.lns p hp).1 h.lown (by decide)), fun k _ e => by cases e⟩
    · rw [List.mem_singleton] at hp
      subst hp
      exact ⟨keep h.wown (by decide) (own_apart h.wown h.lown (by decide)), fun k _ e => by cases e⟩
  · rw [List.getLast?_concat] at hp
    cases hp
    rw [List.length_append, List.length_singleton]
    exact hgr.2
  · exact Nat.le_trans h.base (Nat.le_trans hg.size hss.size)
  · rcases List.mem_cons.1 hx with rfl | hx
    · exact List.mem_cons_self ..
    · rw [Option.mem_toList] at hx
      exact List.mem_cons_of_mem _ (hF _ hx)
/-- What the end of a command leaves. -/
def EP (B G rb : Nat) (w : World) (K : Kp) (env : Env) (ls : List LV) (ws : List Wd) (s : Tx) (n : Nat) (e : Ending) (w' : World) : Prop :=
  e = .returned (.tuple #[]) ∧ ∃ K' ls', RH B G rb w' K' env ls' [] s n ∧ ls'.map (·.2) = endC (ls.map (·.2)) ws K.g ∧ K'.g = K.g ∧ ∀ F, (∀ k, K.lv.ownBlock = some k → k ∈ F) → Only (rb :: F) w w'
set_option maxRecDepth 100000 in
set_option maxHeartbeats 4000000 in
theorem endCommand_any (h : RH B G rb w K env ls ws s n) :
    Calls Tryd.prog 37 #[ptrV rb] w (EP B G rb w K env ls ws s n) := by
  obtain ⟨mv, hR, hM⟩ := h.cx.place
  obtain ⟨A1, k1, hw⟩ := own_slice h.wown
  obtain ⟨A2, k2, hl⟩ := own_slice h.lown
  have c6 : w.cell? ⟨rb, 6, none⟩ = some (.slice A1 ws.length k1) := (BL.cell hR 6).trans (congrArg some hw)
  by_cases hws : ws = []
  · have c6' : w.cell? ⟨rb, 6, none⟩ = some (.slice A1 0 k1) := by rw [c6, hws]; rfl
    have HE : Hid (EP B G rb w K env ls ws s n (.returned (.tuple #[])) w) := by
      subst hws
      exact ⟨rfl, K, ls, h, rfl, rfl, fun F _ => Only.refl _ _⟩
    clear c6 h hR hM hw hl hws
    unfold ptrV
    go_enter Tryd.func37, Tryd.ntmps37
    go_wp2_with fail
    exact body_end rfl rfl HE.out
  · have c5 : w.cell? ⟨rb, 5, none⟩ = some (.slice A2 ls.length k2) := (BL.cell hR 5).trans (congrArg some hl)
    have c7 : w.cell? ⟨rb, 7, none⟩ = some (.int .i64 (K.g : Int)) := BL.cell hR 7
    have hwl : 0 < ws.length := by cases ws with
      | nil => exact absurd rfl hws
      | cons _ _ => simp
    have hwi : (0 : Int) < (ws.length : Int) := by omega
    have H := Lib.hid h
    have HR := Lib.hid hR
    have HM := Lib.hid hM
    have HW := Lib.hid (And.intro hw hl)
    have hln := h.lown
    have hbase := h.base
    have hfar := h.rb_far h.lown (by decide)
    rw [hl] at hln hfar
    have HOW := Lib.hid (show ((w.alloc (.cells #[.slice A1 ws.length k1, .int .i64 (K.g : Int)] 34)).drew).ownsRow G 34 2 (.slice A2 ls.length k2) ls.length (lnsC ls) from (own_only hln ((Only.refl [] w).alloc _).drew (fun k hk => by simp)))
    have HNB := Lib.hid (show BL ((w.alloc (.cells #[.slice A1 ws.length k1, .int .i64 (K.g : Int)] 34)).drew) w.heap.size 34 (lnL (.slice A1 ws.length k1, ⟨ws, K.g⟩)) from BL.new w 34 (lnL (.slice A1 ws.length k1, ⟨ws, K.g⟩)))
    have HF := Lib.hid hfar
    have hsz : ((w.alloc (.cells #[.slice A1 ws.length k1, .int .i64 (K.g : Int)] 34)).drew).heap.size = w.heap.size + 1 := size_alloc _ _
    have HSZ := Lib.hid hsz
    have hgrp := h.grps.1
    have HL := Lib.hid (And.intro hbase hgrp)
    have hlt := h.cx.lt
    have HWS := Lib.hid hws
    clear h hR hM hw hl hln hfar hsz hbase hgrp hws hwl
    have hRa := Lib.hid (bl_alloc_old HR.out (.cells #[.slice A1 ws.length k1, .int .i64 (K.g : Int)] 34))
    unfold ptrV
    go_enter Tryd.func37, Tryd.ntmps37
    go_wp2_with fail
    go_region_law (refine step_app info_line Tryd.underlying28 rfl (by decide) (by decide) rfl (.tmp 12) (.tmp 22) rfl G (.slice A2 ls.length k2) ls.length (lnsC ls) w.heap.size 1 1 (lnL (.slice A1 ws.length k1, ⟨ws, K.g⟩)) rfl HOW.out rfl rfl HNB.out (lnL_one _ ⟨_, _, _, rfl⟩) (by decide) (by have := HL.out.1; have := HSZ.out; omega) (by have := HL.out.2; omega) ?_; intro g2 c2 w3 hown3 hnew3 hgr3; have hR3 : RAt w3 rb (K.rd s n mv) := (hgr3.block rb (by have := HSZ.out; omega) (fun e => HF.out e.symm)).trans hRa.out; have q5 : w3.cell? ⟨rb, 5, none⟩ = some K.lv := BL.cell hR3 5; have q5f := BL.frozen hR3 5; have q6 : (w3.setCell ⟨rb, 5, none⟩ (.slice (some ⟨g2, 0, none⟩) (ls.length + 1) c2)).cell? ⟨rb, 6, none⟩ = some K.wv := BL.cell (BL.set_ hR3 5 (.slice (some ⟨g2, 0, none⟩) (ls.length + 1) c2)) 6; have q6f := BL.frozen (BL.set_ hR3 5 (.slice (some ⟨g2, 0, none⟩) (ls.length + 1) c2)) 6; have H3 := Lib.hid (And.intro hown3 hgr3); clear hown3 hnew3 hgr3 hR3)
    all_goals
      go_wp2_with fail
      have hd := end_done H.out HR.out HM.out HWS.out (by rw [HW.out.1]; exact H3.out.1) (by rw [HW.out.2]; exact H3.out.2)
      refine body_end rfl rfl ⟨rfl, _, _, hd.1, ?_, rfl, hd.2⟩
      rw [List.map_append]
      unfold endC
      rw [if_neg HWS.out]
      rfl
end
end Go.Proofs.YtplikjbajejciaaDoor.Lex
