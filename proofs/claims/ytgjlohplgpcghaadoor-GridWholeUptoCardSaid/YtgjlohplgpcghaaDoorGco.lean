/- A grid cropped. -/
import Derived.Test.YtgjlohplgpcghaaDoorGcr
namespace Go.Proofs.YtgjlohplgpcghaaDoor.Grd
open Go.RowKit Cel Sty

set_option maxRecDepth 100000 in
/-- A table, or none. -/
theorem cropRows_tab {w : World} {pv : Value} {fp : List Nat} {ms : List MR} (cols C : Nat) (ht : TabAt w pv ms fp) (hH : Held w ms) (hp : ∀ m ∈ ms, m.b ∉ fp) (hC : ∀ m ∈ ms, m.l.length = C) (hC2 : C ≤ 250) (hc1 : 1 ≤ cols) (hc2 : cols ≤ 250) (hl : ms.length ≤ 100000) :
    Calls Tryd.prog 66 #[pv, .int .i64 (cols : Int)] w fun e w' => e = .returned (.tuple #[]) ∧
      ∃ ns : List MR, ns.map MR.pl = ms.map (cropR cols) ∧ TabAt w' pv ns fp ∧ Held w' ns ∧ (∀ m ∈ ns, w.heap.size ≤ m.b) ∧ Only (fp ++ ms.map MR.b) w w' := by
  rcases ht with ⟨rfl, rfl, rfl⟩ | ⟨p, off, c, pre, tail, rfl, h1, h2, h3, h4, h5, rfl⟩
  · clear hH hp hC
    have key : Calls Tryd.prog 66 #[.slice none 0 0, .int .i64 (cols : Int)] w fun e w' => e = .returned (.tuple #[]) ∧ w = w' := by
      go_enter Tryd.func66, Tryd.ntmps66
      go_wp2_with fail
      go_loopw [4, 5, 8] (fun _ _ i wr => i = .int .i64 0 ∧ w = wr) (fun _ _ _ _ => 0)
      case atStart => exact ⟨rfl, rfl⟩
      case round =>
        obtain ⟨rfl, rfl⟩ := hrel
        go_wp2_with fail
        exact body_end rfl rfl ⟨rfl, rfl⟩
    refine key.mono ?_
    rintro e w' ⟨rfl, rfl⟩
    exact ⟨rfl, [], rfl, .inl ⟨rfl, rfl, rfl⟩, Held.nil _, (fun _ h => by cases h), Only.refl _ _⟩
  · refine (cropRows_any (c := c) cols C h5 h3 hH (fun m hm e => hp m hm (by rw [e]; simp)) hC hC2 hc1 hc2 hl).mono ?_
    rintro e w' ⟨rfl, ns, n1, n2, n3, n4, n5⟩
    have hlen : ns.length = ms.length := by simpa using congrArg List.length n1
    exact ⟨rfl, ns, n1, .inr ⟨p, off, c, pre, tail, by rw [hlen], by rw [hlen]; exact h1, h2, h3, by rw [hlen]; exact h4, n2, rfl⟩, n3, n4, n5⟩
theorem nodup_app {α : Type} {a b : List α} (ha : a.Nodup) (hb : b.Nodup) (h : ∀ x ∈ a, x ∉ b) : (a ++ b).Nodup := List.nodup_append.2 ⟨ha, hb, fun x hx _ hy e => h x hx (e ▸ hy)⟩
/-- Behind both tables' crop and the number of columns. -/
theorem GridAt.cropped {w w1 w2 : World} {g s : Nat} {pv : Value} {fp : List Nat} {G : GS} (h : GridAt w g s pv fp G) {past2 scr2 : List MR} (cols : Nat) (hc1 : 1 ≤ cols) (hc2 : cols ≤ 250)
    (hp : past2.map MR.pl = G.past.map (cropR cols)) (hs : scr2.map MR.pl = G.scr.map (cropR cols)) (hcl : ∀ m ∈ past2 ++ scr2, m.l.length = cols)
    (ht : TabAt w1 pv past2 fp) (hH1 : Held w1 past2) (hn1 : ∀ m ∈ past2, w.heap.size ≤ m.b) (ho1 : Only (fp ++ G.past.map MR.b) w w1)
    (hB : BL w2 s 73 (rowsL scr2)) (hH2 : Held w2 scr2) (hn2 : ∀ m ∈ scr2, w1.heap.size ≤ m.b) (ho2 : Only (s :: G.scr.map MR.b) w1 w2) :
    GridAt (w2.setCell ⟨g, 0, none⟩ (.int .i64 (cols : Int))) g s pv fp ⟨cols, G.limit, past2, scr2⟩ ∧ Only (foot g s fp G) w (w2.setCell ⟨g, 0, none⟩ (.int .i64 (cols : Int))) := by
  have hlp : past2.length = G.past.length := by simpa using congrArg List.length hp
  have hls : scr2.length = G.scr.length := by simpa using congrArg List.length hs
  have hz1 := ho1.size
  have hgl := h.blk.lt
  have hsl := h.scr.lt
  have hap := h.apart
  have hfl := h.tab.lt
  have hg1 : g ∉ fp ++ G.past.map MR.b := by
    rw [List.mem_append, not_or]
    refine ⟨fun e => by simp at hap; exact hap.1.2 e, fun e => ?_⟩
    obtain ⟨m, hm, e⟩ := List.mem_map.1 e
    exact h.far m (List.mem_append_left _ hm) (by rw [e]; simp)
  have hg2 : g ∉ s :: G.scr.map MR.b := by
    rw [List.mem_cons, not_or]
    refine ⟨fun e => by simp at hap; exact hap.1.1 e, fun e => ?_⟩
    obtain ⟨m, hm, e⟩ := List.mem_map.1 e
    exact h.far m (List.mem_append_right _ hm) (by rw [e]; simp)
  have hnf : ∀ z, w.heap.size ≤ z → z ∉ s :: G.scr.map MR.b := fun z hz e => by
    rcases List.mem_cons.1 e with rfl | e
    · omega
    · obtain ⟨m, hm, e⟩ := List.mem_map.1 e
      have := h.held.lt (List.mem_append_right G.past hm)
      omega
  have hff : ∀ z ∈ fp, z ∉ s :: G.scr.map MR.b := fun z hz e => by
    rcases List.mem_cons.1 e with rfl | e
    · simp at hap; exact hap.2.1 hz
    · obtain ⟨m, hm, e⟩ := List.mem_map.1 e
      exact h.far m (List.mem_append_right _ hm) (by rw [e]; simp [hz])
  have o3 : Only [g] w2 (w2.setCell ⟨g, 0, none⟩ (.int .i64 (cols : Int))) := (Only.refl [g] w2).setCell (p := ⟨g, 0, none⟩) (.inl (by simp)) _
  have hgf : g ∉ fp := fun e => hg1 (List.mem_append_left _ e)
  have hgs : g ≠ s := fun e => hg2 (e ▸ List.mem_cons_self ..)
  have hgn : ∀ z, w.heap.size ≤ z → z ∉ [g] := fun z hz e => by rw [List.mem_singleton] at e; omega
  have b2 := ((h.blk.only ho1 hg1).only ho2 hg2).set_ 0 (.int .i64 (cols : Int))
  have hall : ∀ m ∈ past2 ++ scr2, w.heap.size ≤ m.b := fun m hm => by
    rcases List.mem_append.1 hm with hm | hm
    · exact hn1 m hm
    · have := hn2 m hm; omega
  refine ⟨⟨?_, (ht.only ho2 hff).only o3 (fun z hz e => by rw [List.mem_singleton] at e; exact hgf (e ▸ hz)), hB.only o3 (by simpa using fun e => hgs e.symm), ⟨fun m hm => ?_, ?_⟩, hap, fun m hm e => ?_, hcl, hc1, hc2, by rw [hls]; exact h.r1, by rw [hls]; exact h.r2, h.l2, by rw [hlp]; exact h.p2⟩, ?_⟩
  · rw [hls]; exact b2
  · rcases List.mem_append.1 hm with hm | hm
    · exact ((hH1.at_ m hm).only ho2 (hnf _ (hn1 m hm))).only o3 (hgn _ (hn1 m hm))
    · exact (hH2.at_ m hm).only o3 (hgn _ (by have := hn2 m hm; omega))
  · rw [List.map_append]
    refine nodup_app hH1.apart hH2.apart fun x hx hy => ?_
    obtain ⟨m, hm, rfl⟩ := List.mem_map.1 hx
    obtain ⟨n, hn, e⟩ := List.mem_map.1 hy
    have h1 := hH1.lt hm
    have h2 := hn2 n hn
    omega
  · have h1 := hall m hm
    rcases List.mem_cons.1 e with e | e
    · omega
    · rcases List.mem_cons.1 e with e | e
      · omega
      · have := hfl _ e; omega
  · refine (Only.trans (ho1.mono fun z hz => ?_) (ho2.mono fun z hz => ?_)).trans (o3.mono fun z hz => ?_)
    · unfold foot
      rcases List.mem_append.1 hz with hz | hz
      · simp [hz]
      · rw [List.map_append]; simp only [List.mem_cons, List.mem_append]; exact .inr (.inl hz)
    · unfold foot
      rcases List.mem_cons.1 hz with rfl | hz
      · simp
      · rw [List.map_append]; simp only [List.mem_cons, List.mem_append]; exact .inr (.inr hz)
    · rw [List.mem_singleton] at hz; rw [hz]; simp [foot]
/-- Its rows so many, out of a new table. -/
theorem GridAt.refill {w w1 : World} {g s s7 n : Nat} {pv : Value} {fp : List Nat} {G : GS} (h : GridAt w g s pv fp G) (hb : Below w.heap.size w w1) (hs : w.heap.size ≤ s7) {new : List MR} (hB : BL w1 s7 73 (rowsL (G.scr.take n ++ new))) (hnl : new.length = n - G.scr.length) (hH : Held w1 new)
    (hK : Alike (s7 + 1) (List.replicate G.cols plainCe) new) (hn1 : 1 ≤ n) (hn2 : n ≤ 120) : GridAt (w1.setCell ⟨g, 3, none⟩ (slV s7 0 n n)) g s7 pv fp ⟨G.cols, G.limit, G.past, G.scr.take n ++ new⟩ := by
  have hgl := h.blk.lt
  have hfl := h.tab.lt
  have hap := h.apart
  have hlen : (G.scr.take n ++ new).length = n := by rw [List.length_append, List.length_take]; omega
  have o3 : Only [g] w1 (w1.setCell ⟨g, 3, none⟩ (slV s7 0 n n)) := (Only.refl [g] w1).setCell (p := ⟨g, 3, none⟩) (.inl (by simp)) _
  have hgf : g ∉ fp := fun e => by simp at hap; exact hap.1.2 e
  have hnp : fp.Nodup := h.tab.nodup
  have hcase : ∀ m ∈ G.past ++ (G.scr.take n ++ new), m ∈ G.past ++ G.scr.take n ∨ m ∈ new := fun m hm => by
    rw [← List.append_assoc] at hm
    exact List.mem_append.1 hm
  have hsub : (G.past ++ G.scr.take n).Sublist (G.past ++ G.scr) := (List.Sublist.refl _).append (List.take_sublist _ _)
  have hgo : ∀ m ∈ G.past ++ G.scr, m.b ≠ g := fun m hm e => h.far m hm (by rw [e]; simp)
  refine ⟨?_, (h.tab.fresh (Only.of_below hb)).only o3 (fun z hz e => by rw [List.mem_singleton] at e; exact hgf (e ▸ hz)), hB.only o3 (by simp; omega), ⟨fun m hm => ?_, ?_⟩, ?_, fun m hm e => ?_, fun m hm => ?_, h.c1, h.c2, by rw [hlen]; exact hn1, by rw [hlen]; exact hn2, h.l2, h.p2⟩
  · rw [hlen]; exact (h.blk.only (F := []) (Only.of_below hb) (by simp)).set_ 3 (slV s7 0 n n)
  · rcases hcase m hm with hm | hm
    · have hm' := hsub.subset hm
      exact ((h.held.at_ m hm').only (F := []) (Only.of_below hb) (by simp)).only o3 (by simpa using hgo m hm')
    · exact (hH.at_ m hm).only o3 (by have := (hK m hm).2.2; simp; omega)
  · rw [← List.append_assoc, List.map_append]
    refine nodup_app (h.held.apart.sublist (hsub.map _)) hH.apart fun x hx hy => ?_
    obtain ⟨m, hm, rfl⟩ := List.mem_map.1 hx
    obtain ⟨k, hk, e⟩ := List.mem_map.1 hy
    have h1 := h.held.lt (hsub.subset hm)
    have h2 := (hK k hk).2.2
    omega
  · simp only [List.nodup_cons, List.mem_cons, not_or]
    exact ⟨⟨by omega, hgf⟩, fun e => by have := hfl _ e; omega, hnp⟩
  · rcases hcase m hm with hm | hm
    · have hm' := hsub.subset hm
      have h1 := h.held.lt hm'
      have h2 := h.far m hm'
      simp only [List.mem_cons, not_or] at h2 e
      rcases e with e | e | e
      · exact h2.1 e
      · omega
      · exact h2.2.2 e
    · have h1 := (hK m hm).2.2
      simp only [List.mem_cons] at e
      rcases e with e | e | e
      · omega
      · omega
      · have := hfl _ e; omega
  · rcases hcase m hm with hm | hm
    · exact h.cells m (hsub.subset hm)
    · rw [(hK m hm).1]; simp
end Go.Proofs.YtgjlohplgpcghaaDoor.Grd
