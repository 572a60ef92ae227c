/- lex: a word kept, a command ended, a group ended. -/
import Derived.Test.YtplikjbajejciaaDoorQrd
namespace Go.Proofs.YtplikjbajejciaaDoor.Lex
open Go.RowKit Go.Maps
section
variable {B G rb n : Nat} {w w' : World} {K : Kp} {env : Env} {ls : List LV} {ws : List Wd} {s : Tx}
def Kp.wds (K : Kp) (wv : Value) : Kp := { K with wv := wv }
/-- Behind an append onto a row of the reader's, and the store of it. -/
theorem Cx.app (h : Cx B w rb K env s n) {K' : Kp} {w1 : World} {o : Option Nat} {mv : Value} (hR : RAt w rb (K.rd s n mv)) (hM : MpAt B w mv env) {i : Nat} {v : Value} (hset : (rdL (K.rd s n mv)).set i v = rdL (K'.rd s n mv)) (hT : K'.T = K.T) (hp : K'.pv = K.pv)
    (hg : Only (o.toList) w w1) (hrb : o ≠ some rb) (hmap : ∀ m j D, w.ownsMap Tryd.prog 9 posR m j D → o ≠ some m) (hlow : ∀ k, o = some k → B ≤ k) :
    Cx B (w1.setCell ⟨rb, i, none⟩ v) rb K' env s n ∧ Only (rb :: o.toList) w (w1.setCell ⟨rb, i, none⟩ v) := by
  have hlt := h.lt
  have hR1 : RAt w1 rb (K.rd s n mv) := BL.only hR hg (by rw [Option.mem_toList]; exact hrb)
  have hR2 : RAt (w1.setCell ⟨rb, i, none⟩ v) rb (K'.rd s n mv) := by
    have := BL.set_ hR1 i v
    rw [hset] at this
    exact this
  have hO : Only (rb :: o.toList) w (w1.setCell ⟨rb, i, none⟩ v) := (hg.mono (G := rb :: o.toList) (fun x hx => List.mem_cons_of_mem _ hx)).setCell (p := ⟨rb, i, none⟩) (.inl (List.mem_cons_self ..)) v
  have hM1 : MpAt B w1 mv env := hM.only hg (fun m j D _ hm => by rw [Option.mem_toList]; exact hmap m j D hm)
  have hM2 : MpAt B (w1.setCell ⟨rb, i, none⟩ v) mv env := hM1.only (one_set w1 rb i v) (fun m j D _ hm => by simp; exact bl_map hR1 hm)
  obtain ⟨_, h1, h2, h3, ⟨A0, c0, h4, h5⟩, h6, h7⟩ := h
  refine ⟨⟨⟨mv, hR2, hM2⟩, by rw [hT]; exact h1, by rw [hT]; exact h2, by rw [hT]; exact h3, ⟨A0, c0, by rw [hp]; exact h4, h5.below (hO.below (by omega) (fun x hx => ?_))⟩, h6, h7⟩, hO⟩
  rcases List.mem_cons.1 hx with rfl | hx
  · exact h7
  · rw [Option.mem_toList] at hx
    exact hlow x hx
theorem size_alloc (w : World) (o : Obj) : (w.alloc o).heap.size = w.heap.size + 1 := by simp
theorem own_apart {w : World} {B1 B2 e1 e2 s1 s2 n1 n2 : Nat} {v1 v2 : Value} {x1 x2 : List Value} (h : w.ownsRow B1 e1 s1 v1 n1 x1) (h' : w.ownsRow B2 e2 s2 v2 n2 x2) (hne : e1 ≠ e2) : ∀ k, v1.ownBlock = some k → v2.ownBlock ≠ some k := fun k hk hk2 => by
  rcases h.2 with ⟨rfl, _⟩ | ⟨g, cap, cur, rfl, _, hh, _⟩
  · cases hk
  · rcases h'.2 with ⟨rfl, _⟩ | ⟨g2, cap2, cur2, rfl, _, hh2, _⟩
    · cases hk2
    · have e1 : g = k := Option.some.inj hk
      have e2 : g2 = k := Option.some.inj hk2
      subst e1
      subst e2
      rw [hh] at hh2
      injection hh2 with hh2
      injection hh2 with _ hh2
      exact hne hh2
theorem keep_done (h : RH B G rb w K env ls ws s n) {mv : Value} (hR : RAt w rb (K.rd s n mv)) (hM : MpAt B w mv env) {w3 : World} {g2 c2 : Nat} {x : Wd} {o : Obj} (hfew : ls.length + ws.length + 1 + s.length ≤ 65537)
    (h1 : w3.ownsRow G 36 3 (.slice (some ⟨g2, 0, none⟩) (ws.length + 1) c2) (ws.length + 1) (wdsC ws ++ wdL x)) (h2 : K.wv.ownBlock = some g2 ∨ w.heap.size + 1 ≤ g2) (h3 : (w.alloc o).drew.grownBy w3 K.wv.ownBlock) :
    RH B G rb (w3.setCell ⟨rb, 6, none⟩ (.slice (some ⟨g2, 0, none⟩) (ws.length + 1) c2)) (K.wds (.slice (some ⟨g2, 0, none⟩) (ws.length + 1) c2)) env ls (ws ++ [x]) s n ∧ ∀ F, (∀ k, K.wv.ownBlock = some k → k ∈ F) → Only (rb :: F) w (w3.setCell ⟨rb, 6, none⟩ (.slice (some ⟨g2, 0, none⟩) (ws.length + 1) c2)) := by
  have hg : Only K.wv.ownBlock.toList w w3 := (((Only.refl _ w).alloc o).drew).trans (grown_any h3 (fun k hk => by rw [hk]; simp))
  have hrb := h.rb_far h.wown (by decide)
  have hR3 : RAt w3 rb (K.rd s n mv) := BL.only hR hg (by rw [Option.mem_toList]; exact hrb)
  obtain ⟨hcx, hO⟩ := h.cx.app (K' := K.wds (.slice (some ⟨g2, 0, none⟩) (ws.length + 1) c2)) hR hM (i := 6) (v := .slice (some ⟨g2, 0, none⟩) (ws.length + 1) c2) rfl rfl rfl hg hrb (fun m j D hm => own_map h.wown hm) (fun k hk => Nat.le_trans h.low (own_low h.wown k hk).1)
  have hset := one_set w3 rb 6 (.slice (some ⟨g2, 0, none⟩) (ws.length + 1) c2)
  have keep : ∀ {t : TypeId} {size m : Nat} {v : Value} {xs : List Value}, w.ownsRow G t size v m xs → t ≠ 49 → (∀ k, v.ownBlock = some k → K.wv.ownBlock ≠ some k) → (w3.setCell ⟨rb, 6, none⟩ (.slice (some ⟨g2, 0, none⟩) (ws.length + 1) c2)).ownsRow G t size v m xs := fun ho ht hk => by
    have ho3 := own_only ho hg (fun k hk' => by rw [Option.mem_toList]; exact hk k hk')
    exact own_only ho3 hset (fun k hk' => by
      have := own_type ho3 (show BL w3 rb 49 _ from hR3) (fun e => ht e.symm)
      simp
      intro e
      exact this (by rw [hk', e]))
  refine ⟨⟨hcx, ?_, keep h.lown (by decide) (own_apart h.lown h.wown (by decide)), fun p hp => ⟨keep (h.lns p hp).1 (by decide) (h.lns p hp).2, fun k hk => ?_⟩, by rw [List.length_append, List.length_singleton]; omega, ⟨by rw [List.length_append, List.length_singleton]; omega, h.grps.2⟩, h.last, h.low, ?_⟩, fun F hF => hO.mono (fun x hx => ?_)⟩
  · rw [List.length_append, List.length_singleton, wdsC_app]
    refine own_only h1 hset (fun k hk => ?_)
    have := own_type h1 (show BL w3 rb 49 _ from hR3) (by decide)
    rw [List.mem_singleton]
    intro e
    subst e
    exact this hk
  · show some g2 ≠ some k
    intro e
    have e := Option.some.inj e
    rcases h2 with h2 | h2
    · exact (h.lns p hp).2 k hk (by rw [h2, e])
    · have := (own_low (h.lns p hp).1 k hk).2
      omega
  · exact Nat.le_trans h.base (Nat.le_trans hg.size hset.size)
  · rcases List.mem_cons.1 hx with rfl | hx
    · exact List.mem_cons_self ..
    · rw [Option.mem_toList] at hx
      exact List.mem_cons_of_mem _ (hF _ hx)
theorem bl_alloc_old {w : World} {b : Nat} {t : TypeId} {xs : List Value} (h : BL w b t xs) (o : Obj) : BL (w.alloc o).drew b t xs := BL.alloc h o
set_option maxRecDepth 100000 in
set_option maxHeartbeats 4000000 in
theorem keep_any (h : RH B G rb w K env ls ws s n) (t : Tx) (bk : Bool) (hfew : ls.length + ws.length + 1 + s.length ≤ 65537) :
    Calls Tryd.prog 43 #[ptrV rb, .string (bs t), .bool bk] w fun e w' => e = .returned (.tuple #[]) ∧ ∃ wv, RH B G rb w' (K.wds wv) env ls (ws ++ [⟨t, K.bg, bk⟩]) s n ∧ ∀ F, (∀ k, K.wv.ownBlock = some k → k ∈ F) → Only (rb :: F) w w' := by
  obtain ⟨mv, hR, hM⟩ := h.cx.place
  obtain ⟨A1, k1, hw⟩ := own_slice h.wown
  have c6 : w.cell? ⟨rb, 6, none⟩ = some (.slice A1 ws.length k1) := (BL.cell hR 6).trans (congrArg some hw)
  have c8 : w.cell? ⟨rb, 8, none⟩ = some (.int .i64 (K.bg : Int)) := BL.cell hR 8
  have H := Lib.hid h
  have HR := Lib.hid hR
  have HM := Lib.hid hM
  have HW := Lib.hid hw
  have hwn := h.wown
  have hbase := h.base
  have hfar := h.rb_far h.wown (by decide)
  rw [hw] at hwn hfar
  have HOW := Lib.hid (show ((w.alloc (.cells #[.string (bs t), .int .i64 (K.bg : Int), .bool bk] 36)).drew).ownsRow G 36 3 (.slice A1 ws.length k1) ws.length (wdsC ws) from (own_only hwn ((Only.refl [] w).alloc _).drew (fun k hk => by simp)))
  have HNB := Lib.hid (show BL ((w.alloc (.cells #[.string (bs t), .int .i64 (K.bg : Int), .bool bk] 36)).drew) w.heap.size 36 (wdL ⟨t, K.bg, bk⟩) from BL.new w 36 (wdL ⟨t, K.bg, bk⟩))
  have HF := Lib.hid hfar
  have hsz : ((w.alloc (.cells #[.string (bs t), .int .i64 (K.bg : Int), .bool bk] 36)).drew).heap.size = w.heap.size + 1 := size_alloc _ _
  have HSZ := Lib.hid hsz
  have d6 : (w.alloc (.cells #[.string (bs t), .int .i64 (K.bg : Int), .bool bk] 36)).cell? ⟨rb, 6, none⟩ = some (.slice A1 ws.length k1) := (BL.cell (BL.alloc hR _) 6).trans (congrArg some hw)
  have hgrp := h.grps.1
  have HL := Lib.hid (And.intro hbase hgrp)
  have hlt := h.cx.lt
  clear h hR hM hw hwn hfar hsz hbase hgrp
  have hRa := Lib.hid (bl_alloc_old HR.out (.cells #[.string (bs t), .int .i64 (K.bg : Int), .bool bk] 36))
  unfold ptrV
  go_enter Tryd.func43, Tryd.ntmps43
  go_wp2_with fail
  go_region_law (refine step_app info_word Tryd.underlying32 rfl (by decide) (by decide) rfl (.tmp 10) (.tmp 18) rfl G (.slice A1 ws.length k1) ws.length (wdsC ws) w.heap.size 1 1 (wdL ⟨t, K.bg, bk⟩) rfl HOW.out rfl rfl HNB.out (wdL_one _) (by decide) (by have := HL.out.1; have := HSZ.out; omega) (by have := HL.out.2; omega) ?_; intro g2 c2 w3 hown3 hnew3 hgr3; have hR3 : RAt w3 rb (K.rd s n mv) := (hgr3.block rb (by have := HSZ.out; omega) (fun e => HF.out e.symm)).trans hRa.out; have q6 : w3.cell? ⟨rb, 6, none⟩ = some K.wv := BL.cell hR3 6; have q6f := BL.frozen hR3 6; have H3 := Lib.hid (And.intro hown3 (And.intro hnew3 hgr3)); clear hown3 hnew3 hgr3 hR3)
  all_goals
    have hd := keep_done H.out HR.out HM.out (x := ⟨t, K.bg, bk⟩) hfew H3.out.1 (by have := H3.out.2.1; rw [HSZ.out] at this; rw [HW.out]; exact this) (by rw [HW.out]; exact H3.out.2.2)
    exact body_end rfl rfl ⟨rfl, _, hd.1, hd.2⟩
end
end Go.Proofs.YtplikjbajejciaaDoor.Lex
