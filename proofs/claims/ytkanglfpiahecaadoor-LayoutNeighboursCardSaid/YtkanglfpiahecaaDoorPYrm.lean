/- The splits on the way up made anew. -/
import Derived.Test.YtkanglfpiahecaaDoorPYat
import Derived.Test.YtkanglfpiahecaaDoorPYsp
import Derived.BigRegion
namespace Go.Proofs.YtkanglfpiahecaaDoor.Lyt
open Go.RowKit

def frsC : List Fr → Nat
  | [] => 0
  | fr :: up => fr.l.cnt + fr.r.cnt + frsC up
def lastP (ps : List Value) : List Fr → List Value
  | [] => ps
  | fr :: up => lastP [pV fr.b] up
theorem kids_has1 {fr : Fr} {t : F} (h : fr.l.has1 ∧ fr.r.has1) (ht : t.has1) : (fr.kids t).has1 := F.has1_app.2 ⟨h.1, F.has1_app.2 ⟨ht, h.2⟩⟩
theorem kids_len {fr : Fr} {t : F} : (fr.kids t).len = fr.l.len + t.len + fr.r.len := by unfold Fr.kids; rw [F.len_app, F.len_app]; omega
theorem kids_cnt {fr : Fr} {t : F} : (fr.kids t).cnt = fr.l.cnt + t.cnt + fr.r.cnt := by unfold Fr.kids; rw [F.cnt_app, F.cnt_app]; omega
theorem kids_blks {fr : Fr} {t : F} : (fr.kids t).blks = fr.l.blks ++ (t.blks ++ fr.r.blks) := by unfold Fr.kids; rw [F.blks_app, F.blks_app]
/-- What holds between two of the splits. -/
structure Rem (w : World) (D : List Nat) (t0 : F) (frs : List Fr) (t : F) (up : List Fr) (V : World) : Prop where
  tin : t.In V
  has1 : t.has1
  fin : FrsIn V t.ptrs up
  nod : (t.blks ++ frsB up).Nodup
  dom : ∀ x ∈ t.blks, x ∈ D ∨ w.heap.size ≤ x
  same : (rema t up).bare = (rema t0 frs).bare
  last : lastP t.ptrs up = lastP t0.ptrs frs
  few : t.cnt + frsC up = t0.cnt + frsC frs
  head : ∀ fr r, up = fr :: r → 1 ≤ fr.l.len + t.len + fr.r.len
  only : Only (frs.map (·.b)) w V
/-- One split made anew in place. -/
theorem Rem.step {w V w3 w4 : World} {D : List Nat} {t0 t : F} {frs up : List Fr} {fr : Fr} (h : Rem w D t0 frs t (fr :: up) V) (hsub : ∀ x ∈ frsB frs, x ∈ D) (hup : ∀ x ∈ frsB (fr :: up), x ∈ frsB frs) (hm : fr.b ∈ frs.map (·.b)) (hfh : fr.l.has1 ∧ fr.r.has1)
    (hb3 : Below V.heap.size V w3) (ho : Only [fr.b] w3 w4) {kb2 cap2 : Nat} (hk : V.heap.size ≤ kb2) (hin : (F.remk fr.b kb2 cap2 fr.al (fr.kids t)).In w4) : Rem w D t0 frs (F.remk fr.b kb2 cap2 fr.al (fr.kids t)) up w4 := by
  have hnod := h.nod
  have hlt : ∀ x ∈ (fr.kids t).blks, x < V.heap.size := (FrsIn.kids h.tin h.fin).2.2.1.lt
  have hltu := h.fin.lt
  have hVo : Only [fr.b] V w4 := (Only.of_below hb3).trans ho
  have hbu : ∀ x ∈ frsB up, x ∉ [fr.b] := fun x hx hm => by
    rw [List.mem_singleton] at hm
    subst hm
    simp only [frsB, Fr.blks, List.cons_append] at hnod
    have h1 := (List.nodup_append.1 hnod).2.1
    exact (List.nodup_cons.1 h1).1 (by simp [hx])
  -- the kids' blocks, once each, apart from the split's own and from what is further up
  have hperm : (t.blks ++ frsB (fr :: up)).Perm (fr.b :: fr.kb :: ((fr.kids t).blks ++ frsB up)) := by
    rw [kids_blks]
    simp only [frsB, Fr.blks, List.cons_append]
    have p1 : (t.blks ++ (fr.b :: fr.kb :: (fr.l.blks ++ fr.r.blks ++ frsB up))).Perm (fr.b :: (t.blks ++ (fr.kb :: (fr.l.blks ++ fr.r.blks ++ frsB up)))) := List.perm_middle
    refine p1.trans (List.Perm.cons _ ?_)
    refine List.perm_middle.trans (List.Perm.cons _ ?_)
    rw [← List.append_assoc, ← List.append_assoc, ← List.append_assoc]
    refine List.Perm.append_right _ ?_
    refine List.Perm.append_right _ ?_
    exact List.perm_append_comm
  have hnod2 := hperm.nodup_iff.1 hnod
  have n1 := List.nodup_cons.1 hnod2
  have n2 := List.nodup_cons.1 n1.2
  have n3 := List.nodup_append.1 n2.2
  have hbV : fr.b < V.heap.size := hltu _ (by simp [frsB, Fr.blks])
  have hbK : fr.b ∉ (fr.kids t).blks := fun hx => n1.1 (by simp [hx])
  have hkK : kb2 ∉ (fr.kids t).blks := fun hx => by have := hlt _ hx; omega
  refine ⟨hin, remk_has1 (kids_has1 hfh h.has1) (by rw [kids_len]; exact h.head fr up rfl), ?_, ?_, ?_, ?_, ?_, ?_, ?_, ?_⟩
  · rw [remk_ptrs]
    exact h.fin.2.2.2.2.only hVo hbu
  · refine List.nodup_append.2 ⟨remk_nodup n3.1 hbK hkK (by omega), n3.2.1, fun x hx y hy => ?_⟩
    rintro rfl
    rcases remk_blks x hx with rfl | rfl | hx
    · exact hbu _ hy (by simp)
    · have := hltu x (by simp [frsB, hy]); omega
    · exact n3.2.2 x hx x hy rfl
  · intro x hx
    rcases remk_blks x hx with rfl | rfl | hx
    · exact .inl (hsub _ (hup _ (by simp [frsB, Fr.blks])))
    · exact .inr (Nat.le_trans h.only.size hk)
    · rw [kids_blks] at hx
      rcases List.mem_append.1 hx with hx | hx
      · exact .inl (hsub _ (hup _ (by simp [frsB, Fr.blks, hx])))
      · rcases List.mem_append.1 hx with hx | hx
        · exact h.dom x hx
        · exact .inl (hsub _ (hup _ (by simp [frsB, Fr.blks, hx])))
  · rw [← h.same]
    exact rema_bare (F.bare_remk rfl) up
  · rw [remk_ptrs, ← h.last]
    rfl
  · rw [remk_cnt, kids_cnt, ← h.few]
    simp only [frsC]
    omega
  · intro fr' r _
    rw [remk_len]
    omega
  · exact h.only.trans (hVo.mono fun x hx => by rw [List.mem_singleton] at hx; rw [hx]; exact hm)
set_option maxRecDepth 100000 in
set_option maxHeartbeats 8000000 in
theorem remake_at {w : World} {t0 : F} {frs : List Fr} {g o c : Nat} {D : List Nat} (hin : t0.In w) (h1 : t0.has1) (hf : FrsIn w t0.ptrs frs) (hfh : ∀ fr ∈ frs, fr.l.has1 ∧ fr.r.has1) (hnod : (t0.blks ++ frsB frs).Nodup)
    (hD : ∀ x ∈ t0.blks ++ frsB frs, x ∈ D) (hhead : ∀ fr r, frs = fr :: r → 1 ≤ fr.l.len + t0.len + fr.r.len) (hcnt : t0.cnt + frsC frs ≤ 1000000) (hlen : frs.length ≤ 1000000)
    (hg : g < w.heap.size) (hgD : g ∉ frs.map (·.b)) (hcell : ∀ (i : Nat) fr, frs[i]? = some fr → w.cell? ⟨g, o + i, none⟩ = some (pV fr.b)) :
    Calls Tryd.prog 30 #[.slice (some ⟨g, o, none⟩) frs.length c] w fun e w' => e = .returned (.tuple #[]) ∧ ∃ t, Rem w D t0 frs t [] w' := by
  have hsub : ∀ x ∈ frsB frs, x ∈ D := fun x hx => hD x (by simp [hx])
  have h0 : Rem w D t0 frs t0 frs w := ⟨hin, h1, hf, hnod, fun x hx => .inl (hD x (by simp [hx])), rfl, rfl, rfl, hhead, Only.refl _ _⟩
  have hc2 : ∀ V, Only (frs.map (·.b)) w V → ∀ (i : Nat) fr, frs[i]? = some fr → V.cell? ⟨g, o + i, none⟩ = some (pV fr.b) := fun V hV i fr hi => (World.cell?_of_block (w := w) (a := ⟨g, o + i, none⟩) (hV.block g hg hgD)).trans (hcell i fr hi)
  have HC := Lib.hid hc2
  have H0 := Lib.hid h0
  have HFH := Lib.hid hfh
  have HSUB := Lib.hid hsub
  have HCNT := Lib.hid hcnt
  clear hc2 h0 hfh hsub hcnt hin h1 hf hnod hD hhead hcell hgD
  go_enter Tryd.func30, Tryd.ntmps30
  go_wp2_with fail
  go_loopw [6] (fun i wr => ∃ j : Nat, j ≤ frs.length ∧ i = .int .i64 (j : Int) ∧ ∃ t, Rem w D t0 frs t (frs.drop j) wr) (fun i _ => frs.length - (intOf i).toNat)
  case atStart => exact ⟨0, Nat.zero_le _, rfl, t0, H0.out⟩
  case round =>
    obtain ⟨j, hj, rfl, t, hR⟩ := hrel
    by_cases hlt : j < frs.length
    · have j1 : (j : Int) < (frs.length : Int) := by omega
      obtain ⟨fr, up, hdr, hfj, hup⟩ : ∃ fr up, frs.drop j = fr :: up ∧ frs[j]? = some fr ∧ frs.drop (j + 1) = up := ⟨frs[j], frs.drop (j + 1), List.drop_eq_getElem_cons hlt, List.getElem?_eq_getElem hlt, rfl⟩
      have hmem : fr ∈ frs := List.mem_of_getElem? hfj
      have hc := HC.out wr hR.only j fr hfj
      rw [hdr] at hR
      have hupB : ∀ x ∈ frsB (fr :: up), x ∈ frsB frs := by
        have key : ∀ (l : List Fr) (k : Nat), ∀ x ∈ frsB (l.drop k), x ∈ frsB l := by
          intro l
          induction l with
          | nil => intro k x hx; simp [frsB] at hx
          | cons a l ih =>
            intro k x hx
            cases k with
            | zero => exact hx
            | succ k => exact List.mem_append_right _ (ih k x hx)
        rw [← hdr]
        exact key frs j
      have hK := FrsIn.kids hR.tin hR.fin
      have hKh := kids_has1 (HFH.out fr hmem) hR.has1
      have hKl : 1 ≤ (fr.kids t).len := by rw [kids_len]; exact hR.head fr up rfl
      have hKc : (fr.kids t).cnt ≤ 1000000 := by
        have := HCNT.out
        rw [kids_cnt]
        have h2 := hR.few
        simp only [frsC] at h2
        omega
      have hbV : fr.b < wr.heap.size := hK.1.lt
      have hbK : fr.b ∉ (fr.kids t).blks := by
        have hnod := hR.nod
        rw [kids_blks]
        simp only [frsB, Fr.blks, List.cons_append] at hnod
        have n1 := List.nodup_append.1 hnod
        have n2 := List.nodup_cons.1 n1.2.1
        intro hx
        rcases List.mem_append.1 hx with hx | hx
        · exact n2.1 (by simp [hx])
        · rcases List.mem_append.1 hx with hx | hx
          · exact n1.2.2 _ hx fr.b (by simp) rfl
          · exact n2.1 (by simp [hx])
      have hdrw : Below wr.heap.size wr wr.drew := (Below.refl _ _).drew
      have hks := split_at (al := fr.al) (kb := fr.kb) (c := fr.cap) (K := fr.kids t) (w := wr.drew) (hK.2.2.1.below hdrw) hKh (fun i v hi => by
        have := (RowAt.cell hK.2.1 (List.getElem?_eq_some_iff.1 hi).1).trans hi
        exact this) hKc
      have b3 : wr.drew.cell? ⟨fr.b, 3, none⟩ = some (.int .i64 fr.al) := hK.1.cell 3
      have b4 : wr.drew.cell? ⟨fr.b, 4, none⟩ = some (.slice (some ⟨fr.kb, 0, none⟩) (fr.kids t).len fr.cap) := hK.1.cell 4
      have hres : ∀ (e : Ending) (u : Value) (w3 : World), Below wr.drew.heap.size wr.drew w3 → _ → _ → _ → _ := fun e u w3 hb3 ho hl hor => res5 (b := fr.b) (s := wr.drew.heap.size) (al := fr.al) (K := fr.kids t) (V := wr.drew) (e := e) (u := u) (w3 := w3) rfl (hK.2.2.1.below hdrw) hb3 hKh hKl ho hl hor hbK hbV
      have HKS := Lib.hid hks
      have HRES := Lib.hid hres
      have HR := Lib.hid hR
      have HB := Lib.hid hK.1
      have HUPB := Lib.hid hupB
      clear hks hres hR hK hupB hKh hKl hKc hbK
      unfold pV at hc
      go_wp2_with fail
      go_region_law
        (first
          | (go_simp; go_at_call 29; refine HKS.out.mono ?_; rintro e w3 ⟨u, hown, hbl, hb3, hor⟩; obtain ⟨b1, x0, x1, x2, x3, A, n, c, rfl, hN1, hfin⟩ := HRES.out e u w3 hb3 hown hbl hor; have m0 := hN1.cell 0; have m1 := hN1.cell 1; have m2 := hN1.cell 2; have m3 := hN1.cell 3; have m4 := hN1.cell 4; have hB3 := HB.out.only (Only.of_below (F := []) (hdrw.trans hb3)) (by simp); have f0 := hB3.frozen 0; have f1 := hB3.frozen 1; have f2 := hB3.frozen 2; have f3 := hB3.frozen 3; have f4 := hB3.frozen 4; have p0 : w3.cell? ⟨fr.b, 0, none⟩ = some (.int .i64 0) := hB3.cell 0; have p1 : w3.cell? ⟨fr.b, 1, none⟩ = some (.int .i64 0) := hB3.cell 1; have p2 : w3.cell? ⟨fr.b, 2, none⟩ = some (.int .i64 0) := hB3.cell 2; have p3 : w3.cell? ⟨fr.b, 3, none⟩ = some (.int .i64 fr.al) := hB3.cell 3; have p4 : w3.cell? ⟨fr.b, 4, none⟩ = some (.slice (some ⟨fr.kb, 0, none⟩) (fr.kids t).len fr.cap) := hB3.cell 4; have HB3 := Lib.hid hB3; have HFIN := Lib.hid hfin; have HBB := Lib.hid hb3; clear hown hbl hor hN1 hfin hB3 hb3))
      all_goals
        have hb5 := ((((HB3.out.set_ 0 (.int .i64 x0)).set_ 1 (.int .i64 x1)).set_ 2 (.int .i64 x2)).set_ 3 (.int .i64 x3)).set_ 4 (.slice A n c)
        have ho5 := (((((Only.refl [fr.b] w3).setCell (p := ⟨fr.b, 0, none⟩) (.inl (by simp)) (.int .i64 x0)).setCell (p := ⟨fr.b, 1, none⟩) (.inl (by simp)) (.int .i64 x1)).setCell (p := ⟨fr.b, 2, none⟩) (.inl (by simp)) (.int .i64 x2)).setCell (p := ⟨fr.b, 3, none⟩) (.inl (by simp)) (.int .i64 x3)).setCell (p := ⟨fr.b, 4, none⟩) (.inl (by simp)) (.slice A n c)
        obtain ⟨kb2, cap2, hk1, _, hin4⟩ := HFIN.out _ hb5 ho5
        have hst := HR.out.step HSUB.out HUPB.out (List.mem_map_of_mem (f := fun x => x.b) hmem) (HFH.out fr hmem) (hdrw.trans HBB.out) ho5 hk1 hin4
        have HST := Lib.hid hst
        clear hst hin4 hb5 ho5 m0 m1 m2 m3 m4 f0 f1 f2 f3 f4 p0 p1 p2 p3 p4 HFIN HB3 HR HB HRES HKS b3 b4 hc
        go_wp2_with fail
        go_roundw
      all_goals first
        | exact ⟨j + 1, by omega, by go_num, _, by rw [hup]; exact HST.out⟩
        | (simp [intOf]; omega)
    · obtain rfl : j = frs.length := by omega
      rw [List.drop_length] at hR
      have HR := Lib.hid hR
      clear hR
      go_wp2_with fail
      exact body_end rfl rfl ⟨rfl, t, HR.out⟩
end Go.Proofs.YtkanglfpiahecaaDoor.Lyt
/- The way up from a pane's leaf. -/
namespace Go.Proofs.YtkanglfpiahecaaDoor.Lyt
open Go.RowKit

/-- One of some trees, alone. -/
def F.one : F → Nat → F
  | .nil, _ => .nil
  | .leaf b p s0 s1 _, 0 => .leaf b p s0 s1 .nil
  | .leaf _ _ _ _ r, i + 1 => r.one i
  | .node b kb cap al ks _, 0 => .node b kb cap al ks .nil
  | .node _ _ _ _ _ r, i + 1 => r.one i
theorem F.split3 : ∀ (f : F) (i : Nat), i < f.len → ∃ l r : F, f = l.app ((f.one i).app r)
  | .nil, i, h => by simp [F.len] at h
  | .leaf _ _ _ _ r, 0, _ => ⟨.nil, r, rfl⟩
  | .leaf b p s0 s1 r, i + 1, h => by
    obtain ⟨l, r2, e⟩ := F.split3 r i (by simp [F.len] at h; omega)
    exact ⟨.leaf b p s0 s1 l, r2, by show F.leaf b p s0 s1 r = F.leaf b p s0 s1 (l.app ((r.one i).app r2)); rw [← e]⟩
  | .node _ _ _ _ _ r, 0, _ => ⟨.nil, r, rfl⟩
  | .node b kb cap al ks r, i + 1, h => by
    obtain ⟨l, r2, e⟩ := F.split3 r i (by simp [F.len] at h; omega)
    exact ⟨.node b kb cap al ks l, r2, by show F.node b kb cap al ks r = F.node b kb cap al ks (l.app ((r.one i).app r2)); rw [← e]⟩
theorem plug_snoc (t : F) (fr : Fr) : ∀ frs : List Fr, plug t (frs ++ [fr]) = .node fr.b fr.kb fr.cap fr.al (fr.kids (plug t frs)) .nil := by
  intro frs
  induction frs generalizing t with
  | nil => rfl
  | cons a l ih => exact ih _
theorem lastUp_some {u : Value} {l : List (List Value)} (h : lastUp u l ≠ []) : ∃ (j : Nat) (x : List Value), l[j]? = some x ∧ x ≠ [] ∧ lastUp u l = x ++ [u] := by
  have key : ∀ (l : List (List Value)), lastUp u l = [] ∨ ∃ (j : Nat) (x : List Value), l[j]? = some x ∧ x ≠ [] ∧ lastUp u l = x ++ [u] := by
    intro l
    rcases List.eq_nil_or_concat l with rfl | ⟨k, x, rfl⟩
    · exact .inl rfl
    · induction hk : k.length generalizing k x with
      | zero =>
        obtain rfl := List.eq_nil_of_length_eq_zero hk
        rw [List.concat_eq_append, lastUp_app]
        split
        · exact .inl rfl
        next hx => exact .inr ⟨0, x, rfl, hx, rfl⟩
      | succ n ih =>
        rw [List.concat_eq_append, lastUp_app]
        split
        · rcases List.eq_nil_or_concat k with rfl | ⟨k2, y, rfl⟩
          · simp at hk
          · rcases ih k2 y (by simpa using hk) with h | ⟨j, z, h1, h2, h3⟩
            · exact .inl h
            · exact .inr ⟨j, z, by rw [List.getElem?_append_left (List.getElem?_eq_some_iff.1 h1).1]; exact h1, h2, h3⟩
        next hx => exact .inr ⟨k.length, x, by simp, hx, rfl⟩
  exact (key l).resolve_left h
/-- The way that is found is one through the tree. -/
theorem F.zip {p : Int} : ∀ (f : F) (i : Nat) (l : List Value), (f.ups p)[i]? = some l → l ≠ [] → ∃ (frs : List Fr) (b : Nat) (s0 s1 : Int), l = pV b :: frs.map (fun fr => pV fr.b) ∧ f.one i = plug (.leaf b p s0 s1 .nil) frs
  | .nil, i, l, h, _ => by simp [F.ups] at h
  | .leaf b q s0 s1 r, i + 1, l, h, hl => F.zip r i l h hl
  | .leaf b q s0 s1 r, 0, l, h, hl => by
    have h2 : (if q = p then [pV b] else []) = l := by simpa [F.ups] using h
    by_cases hq : q = p
    · rw [if_pos hq] at h2
      subst hq h2
      exact ⟨[], b, s0, s1, rfl, rfl⟩
    · rw [if_neg hq] at h2
      exact absurd h2.symm hl
  | .node b kb cap al ks r, i + 1, l, h, hl => F.zip r i l h hl
  | .node b kb cap al ks r, 0, l, h, hl => by
    have h2 : lastUp (pV b) (ks.ups p) = l := by simpa [F.ups] using h
    obtain ⟨j, x, h3, h4, h5⟩ := lastUp_some (u := pV b) (l := ks.ups p) (by rw [h2]; exact hl)
    obtain ⟨frs, c, s0, s1, h6, h7⟩ := F.zip ks j x h3 h4
    obtain ⟨lf, rt, h8⟩ := F.split3 ks j (by rw [← F.ups_len p ks]; exact (List.getElem?_eq_some_iff.1 h3).1)
    refine ⟨frs ++ [⟨b, kb, cap, al, lf, rt⟩], c, s0, s1, by rw [← h2, h5, h6]; simp, ?_⟩
    rw [plug_snoc]
    show F.node b kb cap al ks .nil = .node b kb cap al (lf.app ((plug (.leaf c p s0 s1 .nil) frs).app rt)) .nil
    rw [← h7, ← h8]
theorem plug_in {w : World} : ∀ {frs : List Fr} {t : F}, (plug t frs).In w ↔ t.In w ∧ FrsIn w t.ptrs frs
  | [], t => by simp [plug, FrsIn]
  | fr :: up, t => by
    have e1 : (fr.kids t).len = fr.l.len + t.ptrs.length + fr.r.len := by rw [kids_len, F.ptrs_len]
    have e2 : (fr.kids t).ptrs = fr.l.ptrs ++ t.ptrs ++ fr.r.ptrs := by unfold Fr.kids; rw [F.ptrs_app, F.ptrs_app, List.append_assoc]
    show (plug (.node fr.b fr.kb fr.cap fr.al (fr.kids t) .nil) up).In w ↔ _
    rw [plug_in]
    simp only [F.In, FrsIn, F.ptrs, e1, e2]
    unfold Fr.kids
    rw [F.in_app, F.in_app]
    constructor
    · rintro ⟨⟨h1, h2, ⟨h3, h4, h5⟩, _⟩, h6⟩
      exact ⟨h4, h1, h2, h3, h5, h6⟩
    · rintro ⟨h4, h1, h2, h3, h5, h6⟩
      exact ⟨⟨h1, h2, ⟨h3, h4, h5⟩, trivial⟩, h6⟩
theorem plug_blks : ∀ (frs : List Fr) (t : F), (plug t frs).blks.Perm (t.blks ++ frsB frs)
  | [], t => by simp [plug, frsB]
  | fr :: up, t => by
    show (plug (.node fr.b fr.kb fr.cap fr.al (fr.kids t) .nil) up).blks.Perm _
    refine (plug_blks up _).trans ?_
    simp only [F.blks, List.append_nil, frsB, Fr.blks, kids_blks, List.cons_append]
    have p1 : (t.blks ++ (fr.b :: fr.kb :: (fr.l.blks ++ fr.r.blks ++ frsB up))).Perm (fr.b :: (t.blks ++ (fr.kb :: (fr.l.blks ++ fr.r.blks ++ frsB up)))) := List.perm_middle
    refine List.Perm.symm (p1.trans (List.Perm.cons _ (List.perm_middle.trans (List.Perm.cons _ ?_))))
    rw [← List.append_assoc, ← List.append_assoc, ← List.append_assoc]
    exact List.Perm.append_right _ (List.Perm.append_right _ List.perm_append_comm)
theorem plug_has1 : ∀ {frs : List Fr} {t : F}, (plug t frs).has1 → t.has1 ∧ ∀ fr ∈ frs, fr.l.has1 ∧ fr.r.has1
  | [], t, h => ⟨h, fun _ h => by cases h⟩
  | fr :: up, t, h => by
    obtain ⟨h1, h2⟩ := plug_has1 (frs := up) (t := .node fr.b fr.kb fr.cap fr.al (fr.kids t) .nil) h
    have h3 := F.has1_app.1 h1.2.1
    have h4 := F.has1_app.1 h3.2
    refine ⟨h4.1, fun x hx => ?_⟩
    rcases List.mem_cons.1 hx with rfl | hx
    · exact ⟨h3.1, h4.2⟩
    · exact h2 x hx
theorem plug_cnt : ∀ (frs : List Fr) (t : F), (plug t frs).cnt = t.cnt + frsC frs
  | [], t => rfl
  | fr :: up, t => by
    show (plug (.node fr.b fr.kb fr.cap fr.al (fr.kids t) .nil) up).cnt = _
    rw [plug_cnt up]
    simp only [F.cnt, frsC, kids_cnt]
    omega
theorem plug_ptrs : ∀ (frs : List Fr) (t : F), (plug t frs).ptrs = lastP t.ptrs frs
  | [], _ => rfl
  | _ :: up, _ => by
    show (plug (.node _ _ _ _ _ .nil) up).ptrs = _
    rw [plug_ptrs up]
    rfl
theorem frs_len : ∀ (frs : List Fr), frs.length ≤ (frsB frs).length
  | [] => Nat.le_refl _
  | fr :: up => by have := frs_len up; simp [frsB, Fr.blks]; omega
theorem frs_mem : ∀ {frs : List Fr}, ∀ b ∈ frs.map (·.b), b ∈ frsB frs
  | [], _, h => by cases h
  | fr :: up, b, h => by
    rcases List.mem_cons.1 h with rfl | h
    · simp [frsB, Fr.blks]
    · have := frs_mem b h
      simp [frsB, this]
end Go.Proofs.YtkanglfpiahecaaDoor.Lyt
/- The panes of a tree. -/
namespace Go.Proofs.YtkanglfpiahecaaDoor.Lyt
open Go.RowKit

def intC (l : List Int) : List Value := l.map fun n => .int .i64 n
/-- What a visit leaves as it was: what lies under B, and what is neither a list of numbers nor such a list's cells. -/
structure Fe (B : Nat) (w w' : World) : Prop where
  below : Below B w w'
  others : ∀ k t xs, BL w k t xs → t ≠ 60 → t ≠ 3 → BL w' k t xs
theorem Fe.trans {B : Nat} {a b c : World} (h : Fe B a b) (k : Fe B b c) : Fe B a c := ⟨h.below.trans k.below, fun x t xs h1 h2 h3 => k.others x t xs (h.others x t xs h1 h2 h3) h2 h3⟩
theorem Fe.of_below {B : Nat} {a b : World} (hB : B ≤ a.heap.size) (h : Below a.heap.size a b) : Fe B a b := ⟨h.mono hB, fun _ _ _ h1 _ _ => h1.only (F := []) (Only.of_below h) (by simp)⟩
theorem Fe.refl {B : Nat} (a : World) : Fe B a a := ⟨Below.refl _ _, fun _ _ _ h _ _ => h⟩
/-- The panes so far, and where they are gathered. -/
def PnAt (n0 C : Nat) (l : List Int) (w : World) : Prop := n0 < C ∧ C ≤ w.heap.size ∧ ∃ u, BL w n0 60 [u] ∧ w.ownsRow C 3 1 u l.length (intC l)
theorem PnAt.below {n0 C : Nat} {l : List Int} {w w' : World} (h : PnAt n0 C l w) (hb : Below w.heap.size w w') : PnAt n0 C l w' := by
  obtain ⟨h1, h2, u, h3, h4⟩ := h
  exact ⟨h1, Nat.le_trans h2 hb.size, u, h3.only (F := []) (Only.of_below hb) (by simp), own_below h4 hb⟩
set_option maxRecDepth 100000 in
set_option maxHeartbeats 4000000 in
theorem panes1_at {n0 C B b : Nat} {l : List Int} {p s0 s1 : Int} {W : World} (hN : BN W b (leafC p s0 s1)) (hp : PnAt n0 C l W) (hl : l.length ≤ 1000000) (hB : B ≤ n0) :
    Calls Tryd.prog 53 #[pV b, pV n0] W fun e W' => e = .returned (.tuple #[]) ∧ PnAt n0 C (l ++ [p]) W' ∧ Fe B W W' := by
  obtain ⟨hC, hCW, u, h0, hu⟩ := hp
  have e0 : W.drew.cell? ⟨b, 0, none⟩ = some (.int .i64 p) := hN.cell 0
  have d0 : W.drew.cell? ⟨n0, 0, none⟩ = some u := h0.drew.cell 0
  have hone : ∀ q ∈ [Value.int .i64 p], q.oneCell' = true := by
    intro q hq
    rw [List.mem_singleton] at hq
    rw [hq]
    rfl
  have hic : intC (l ++ [p]) = intC l ++ [.int .i64 p] := by simp [intC]
  have hA : BL (W.drew.alloc (.cells #[.int .i64 p] 3)) n0 60 [u] := h0.drew.alloc _
  have hbA : Below W.heap.size W (W.drew.alloc (.cells #[.int .i64 p] 3)) := ((Below.refl _ _).drew).alloc (Nat.le_refl _) _
  have a0 : (W.alloc (.cells #[.int .i64 p] 3)).cell? ⟨n0, 0, none⟩ = some u := (h0.alloc _).cell 0
  have hown : (W.drew.alloc (.cells #[.int .i64 p] 3)).ownsRow C 3 1 u l.length (intC l) := own_below hu hbA
  have hsA : C ≤ (W.drew.alloc (.cells #[.int .i64 p] 3)).heap.size := Nat.le_trans hCW hbA.size
  have HONE := Lib.hid hone
  have HIC := Lib.hid hic
  have HA := Lib.hid hA
  have HB := Lib.hid hbA
  have HOWN := Lib.hid hown
  have H0 := Lib.hid h0
  have HU := Lib.hid hu
  clear hN h0 hu hone hic hA hbA hown
  unfold pV
  go_enter Tryd.func53, Tryd.ntmps53
  go_region_law
    (first
      | (refine step_app info_int Tryd.underlying60 rfl (by decide) (by decide) rfl (.tmp 3) (.tmp 8) rfl C u l.length (intC l) W.heap.size 1 1 [.int .i64 p] rfl HOWN.out rfl rfl (cell_one_new _ _ _) HONE.out (by omega) hsA (by omega) ?_; intro g4 c4 w4 hown4 hb4 hw4 hgr4; have h04 := HA.out.keep (hb4.block n0 hC); have s2 := h04.cell 0; have s2f := h04.frozen 0; have H04 := Lib.hid h04; clear h04))
  all_goals
    have h2b := H04.out.set_ 0 (.slice (some ⟨g4, 0, none⟩) (l.length + 1) c4)
    refine body_end rfl rfl ⟨rfl, ⟨hC, by simp [World.setCell]; exact Nat.le_trans hsA hb4.size, _, h2b, ?_⟩, ?_⟩
    · rw [List.length_append, HIC.out]
      refine own_only (G := [n0]) hown4 ((Only.refl _ _).setCell (p := ⟨n0, 0, none⟩) (.inl (by simp)) _) fun k hk => ?_
      have : g4 = k := Option.some.inj hk
      have := (hown4.lt g4 rfl).1
      simp; omega
    · refine ⟨?_, fun k t xs hk ht1 ht2 => ?_⟩
      · exact ((HB.out.mono (by omega)).trans (hb4.mono (by omega))).setCell (p := ⟨n0, 0, none⟩) hB _
      · have hk1 : BL (W.drew.alloc (.cells #[.int .i64 p] 3)) k t xs := hk.drew.alloc _
        have hk2 : BL w4 k t xs := hk1.keep (hgr4.block k hk1.lt fun e => own_type HOWN.out hk1 ht2 e.symm)
        refine hk2.only ((Only.refl [n0] w4).setCell (p := ⟨n0, 0, none⟩) (.inl (by simp)) _) fun hm => ?_
        rw [List.mem_singleton] at hm
        subst hm
        have e1 := Option.some.inj (hk2.symm.trans H04.out)
        injection e1 with _ e2
        exact ht1 e2
end Go.Proofs.YtkanglfpiahecaaDoor.Lyt
/- The panes of a tree: all of them. -/
namespace Go.Proofs.YtkanglfpiahecaaDoor.Lyt
open Go.RowKit

/-- The panes of each of some trees. -/
def F.pns : F → List (List Int)
  | .nil => []
  | .leaf _ p _ _ r => [p] :: r.pns
  | .node _ _ _ _ ks r => ks.pns.flatten :: r.pns
theorem F.pns_len : ∀ f : F, f.pns.length = f.len
  | .nil => rfl
  | .leaf _ _ _ _ r => by simp [F.pns, F.len, F.pns_len r]
  | .node _ _ _ _ _ r => by simp [F.pns, F.len, F.pns_len r]
theorem F.pns_cnt : ∀ f : F, f.pns.flatten.length = f.cnt
  | .nil => rfl
  | .leaf _ _ _ _ r => by simp only [F.pns, F.cnt, List.flatten_cons, List.length_append, F.pns_cnt r, List.length_cons, List.length_nil]; omega
  | .node _ _ _ _ ks r => by simp only [F.pns, F.cnt, List.flatten_cons, List.length_append, F.pns_cnt r, F.pns_cnt ks]
theorem flatten_take_le (l : List (List Int)) (i : Nat) : (l.take i).flatten.length ≤ l.flatten.length := by
  have e : l.flatten = (l.take i).flatten ++ (l.drop i).flatten := by rw [← List.flatten_append, List.take_append_drop]
  rw [e, List.length_append]
  omega
set_option maxRecDepth 100000 in
set_option maxHeartbeats 4000000 in
theorem eachLeaf_at {n0 C B : Nat} (hB : B ≤ n0) (f : F) : f.has1 → ∀ w, f.In w → (∀ x ∈ f.blks, x < B) → ∀ (i : Nat) v ps l, f.ptrs[i]? = some v → f.pns[i]? = some ps → PnAt n0 C l w → l.length + ps.length ≤ 1000000 →
    Calls Tryd.prog 52 #[v, .func (.func 53) #[] #[pV n0]] w fun e w' => e = .returned (.tuple #[]) ∧ PnAt n0 C (l ++ ps) w' ∧ Fe B w w' := by
  induction f with
  | nil => intro _ w _ _ i v ps l hv; simp [F.ptrs] at hv
  | leaf b p s0 s1 r ih =>
    intro h1 w hin hlo i v ps l hv hps hP hl
    cases i with
    | succ i => exact ih h1 w hin.2 (fun x hx => hlo x (by simp [F.blks, hx])) i v ps l hv hps hP hl
    | zero =>
      obtain rfl : pV b = v := by simpa [F.ptrs] using hv
      obtain rfl : [p] = ps := by simpa [F.pns] using hps
      have hll : l.length ≤ 1000000 := by omega
      have hbB : b < B := hlo b (by simp [F.blks])
      have hBw : B ≤ w.heap.size := by have := hP.1; have := hP.2.1; omega
      have hb0 : Below w.heap.size w (w.alloc (.cells #[.func (.func 53) #[] #[pV n0]] 89)) := (Below.refl _ _).alloc (Nat.le_refl _) _
      have hA := BL.new w 89 [.func (.func 53) #[] #[pV n0]]
      have hN2 := hin.1.only (Only.of_below (F := []) hb0) (by simp)
      have hk := panes1_at hN2 (hP.below hb0) hll hB
      have c4 := hN2.cell 4
      have c0 := hA.cell 0
      have HK := Lib.hid hk
      have HN := Lib.hid hN2
      have HP := Lib.hid hP
      have HB0 := Lib.hid hb0
      clear hk hN2 hA hP hb0 ih hin hv hps
      unfold pV at c0 HK HN HB0 ⊢
      go_enter Tryd.func52, Tryd.ntmps52
      go_wp2_with fail
      refine (isLeaf_at b 0 0 none _ c4).mono ?_
      rintro _ w1 ⟨rfl, rfl⟩
      go_wp2_with fail
      refine HK.out.mono ?_
      rintro _ w2 ⟨rfl, hp2, hf2⟩
      have e4 : w2.cell? ⟨b, 4, none⟩ = some (.slice none 0 0) := by
        obtain ⟨t, h⟩ := HN.out
        exact (h.keep (hf2.below.block b hbB)).cell 4
      have ke := each_at b 0 0 0 none 70 #[pV w.heap.size] (fun _ => undef) (fun _ V => V = w2) w2 (enters_of Tryd.func70 (by kernel_rfl) rfl) e4 (fun h => absurd h (Nat.lt_irrefl 0)) (fun i V h _ => absurd h (Nat.not_lt_zero i)) (fun i V h _ => absurd h (Nat.not_lt_zero i)) rfl (by omega)
      have KE := Lib.hid ke
      clear ke e4 c0 c4
      unfold pV at KE
      go_wp2_with fail
      refine KE.out.mono ?_
      rintro _ w3 ⟨rfl, rfl⟩
      go_wp2_with fail
      exact body_end rfl rfl ⟨rfl, hp2, (Fe.of_below hBw HB0.out).trans hf2⟩
  | node b kb cap al ks r ihk ihr =>
    intro h1 w hin hlo i v ps l hv hps hP hl
    cases i with
    | succ i => exact ihr h1.2.2 w hin.2.2.2 (fun x hx => hlo x (by simp [F.blks, hx])) i v ps l hv hps hP hl
    | zero =>
      obtain rfl : pV b = v := by simpa [F.ptrs] using hv
      obtain rfl : ks.pns.flatten = ps := by simpa [F.pns] using hps
      have hls : l.length + ks.pns.flatten.length ≤ 1000000 := hl
      have hbB : b < B := hlo b (by simp [F.blks])
      have hkB : kb < B := hlo kb (by simp [F.blks])
      have hBw : B ≤ w.heap.size := by have := hP.1; have := hP.2.1; omega
      have hpl := F.ptrs_len ks
      have hpn := F.pns_len ks
      have hlen : ks.len ≤ 1000000 := by have := F.len_cnt ks h1.2.1; have := F.pns_cnt ks; omega
      have hnf : decide (ks.len = 0) = false := decide_eq_false (by have := h1.1; omega)
      have hb0 : Below w.heap.size w (w.alloc (.cells #[.func (.func 53) #[] #[pV n0]] 89)) := (Below.refl _ _).alloc (Nat.le_refl _) _
      have hA := BL.new w 89 [.func (.func 53) #[] #[pV n0]]
      have hin2 : (F.node b kb cap al ks .nil).In w := ⟨hin.1, hin.2.1, hin.2.2.1, trivial⟩
      have HIN := Lib.hid hin2
      have hkid := fun V hV i v ps l => ihk h1.2.1 V hV (fun x hx => hlo x (by simp [F.blks, hx])) i v ps l
      have HKID := Lib.hid hkid
      have HP := Lib.hid hP
      have hlk : ∀ x ∈ ks.blks, x < B := fun x hx => hlo x (by simp [F.blks, hx])
      have HLO := Lib.hid hlk
      clear hlk hin hin2 hkid ihk ihr hv hps hP hl hlo h1
      unfold pV at hA hb0 ⊢
      go_enter Tryd.func52, Tryd.ntmps52
      go_upto_region 1 with fail
      generalize w.alloc (.cells #[.func (.func 53) #[] #[.pointer (some ⟨n0, 0, none⟩)]] 89) = X at *
      have il := isLeaf_at b ks.len cap (some ⟨kb, 0, none⟩) X ((HIN.out.1.only (Only.of_below (F := []) hb0) (by simp)).cell 4)
      rw [hnf] at il
      have e4 : X.cell? ⟨b, 4, none⟩ = some (.slice (some ⟨kb, 0, none⟩) ks.len cap) := (HIN.out.1.only (Only.of_below (F := []) hb0) (by simp)).cell 4
      have ke := each_at b kb ks.len cap (some ⟨kb, 0, none⟩) 70 #[pV w.heap.size] (fun i => ks.ptrs.getD i undef)
        (fun i V => BL V w.heap.size 89 [.func (.func 53) #[] #[pV n0]] ∧ PnAt n0 C (l ++ (ks.pns.take i).flatten) V ∧ Fe B w V) X
        (enters_of Tryd.func70 (by kernel_rfl) rfl) e4 (fun _ => rfl)
        (fun i V hi hV => by
          obtain ⟨h0, t, h1, h2⟩ := HIN.out.2.1
          have hr := RowAt.cell (w := V) (kb := kb) (cap := cap) ⟨h0, t, h1, h2.keep (hV.2.2.below.block kb hkB)⟩ (i := i) (by omega)
          exact hr.trans (getD_some (by omega)))
        (fun i V hi hV => by
          obtain ⟨q0, q1, q2⟩ := hV
          have hiv : i < ks.pns.length := by omega
          have htk : ks.pns.take (i + 1) = ks.pns.take i ++ [ks.pns[i]] := List.take_succ_eq_append_getElem hiv
          have hle := flatten_take_le ks.pns (i + 1)
          have hinV : ks.In V := HIN.out.2.2.1.onlyB (L := []) (B := B) (OnlyB.of_below q2.below) fun x hx => ⟨HLO.out x hx, by simp⟩
          have hk := HKID.out V hinV i (ks.ptrs.getD i undef) ks.pns[i] (l ++ (ks.pns.take i).flatten) (getD_some (by omega)) (List.getElem?_eq_getElem hiv) q1 (by
            rw [htk, List.flatten_append, List.length_append] at hle
            simp only [List.flatten_cons, List.flatten_nil, List.append_nil] at hle
            rw [List.length_append]
            omega)
          have f0 := q0.cell 0
          have HK := Lib.hid hk
          have Q0 := Lib.hid q0
          have HQ2 := Lib.hid q2
          have HTK := Lib.hid htk
          clear hk q0 q1 q2 htk hinV
          generalize ks.ptrs.getD i undef = v at *
          generalize ks.pns[i] = pi at *
          unfold pV at f0 HK ⊢
          go_enter Tryd.func70, Tryd.ntmps70
          go_wp2_with fail
          refine HK.out.mono ?_
          rintro _ w5 ⟨rfl, hp5, hf5⟩
          go_wp2_with fail
          refine body_end rfl rfl ⟨rfl, hf5.others _ _ _ Q0.out (by decide) (by decide), ?_, HQ2.out.trans hf5⟩
          rw [HTK.out, List.flatten_append]
          simp only [List.flatten_cons, List.flatten_nil, List.append_nil]
          rw [← List.append_assoc]
          exact hp5)
        ⟨hA, by simpa using HP.out.below hb0, Fe.of_below hBw hb0⟩ (by omega)
      have KE := Lib.hid ke
      clear ke hA e4
      unfold pV at KE
      go_wp2_with fail
      refine il.mono ?_
      rintro _ w1 ⟨rfl, rfl⟩
      go_wp2_with fail
      refine KE.out.mono ?_
      rintro _ w2 ⟨rfl, q0, q1, q2⟩
      rw [← hpn, List.take_length] at q1
      go_wp2_with fail
      exact body_end rfl rfl ⟨rfl, q1, q2⟩
set_option maxRecDepth 100000 in
set_option maxHeartbeats 4000000 in
/-- A tree's panes, in order. -/
theorem panes_at {f : F} (h1 : f.has1) {w : World} (hin : f.In w) {i : Nat} {v : Value} {ps : List Int} (hv : f.ptrs[i]? = some v) (hps : f.pns[i]? = some ps) (hl : ps.length ≤ 1000000) :
    Calls Tryd.prog 25 #[v] w fun e w' => ∃ u, e = .returned u ∧ w'.ownsRow w.heap.size 3 1 u ps.length (intC ps) ∧ Below w.heap.size w w' := by
  have hb0 : Below w.heap.size w (w.alloc (.cells #[.slice none 0 0] 60)) := (Below.refl _ _).alloc (Nat.le_refl _) _
  have hA := BL.new w 60 [.slice none 0 0]
  have hs : w.heap.size + 1 ≤ (w.alloc (.cells #[.slice none 0 0] 60)).heap.size := by simp
  have hk := eachLeaf_at (n0 := w.heap.size) (C := w.heap.size + 1) (B := w.heap.size) (Nat.le_refl _) f h1 _ (hin.below hb0) (fun x hx => hin.lt x hx) i v ps [] hv hps ⟨Nat.lt_succ_self _, hs, _, hA, World.ownsRow_nil _ _ _ _⟩ (by simpa using hl)
  have HK := Lib.hid hk
  clear hk hA hin hv hps h1
  unfold pV at HK
  go_enter Tryd.func25, Tryd.ntmps25
  go_wp2_with fail
  refine HK.out.mono ?_
  rintro _ w2 ⟨rfl, ⟨_, _, u, q1, q2⟩, hf⟩
  have d1 := q1.cell 0
  rw [List.nil_append] at q2
  obtain ⟨A, c, rfl⟩ := own_slice q2
  have Q2 := Lib.hid q2
  clear q1 q2 HK
  go_wp2_with fail
  go_ret
  exact ⟨_, rfl, own_raise Q2.out fun k hk => by have := (Q2.out.lt k hk).1; omega, hb0.trans hf.below⟩
end Go.Proofs.YtkanglfpiahecaaDoor.Lyt
/- The small ones: axisOf, with, leaf, isSize, Has, mayCome, New, Size. -/
namespace Go.Proofs.YtkanglfpiahecaaDoor.Lyt
open Go.RowKit

set_option maxRecDepth 100000 in
theorem axisOf_at (x : Bool) (w : World) : Calls Tryd.prog 26 #[.bool x] w fun e w' => e = .returned (.int .i64 (if x then 0 else 1)) ∧ w = w' := by
  cases x
  · go_enter Tryd.func26, Tryd.ntmps26
    go_wp2_with fail
    go_ret
    exact ⟨rfl, rfl⟩
  · go_enter Tryd.func26, Tryd.ntmps26
    go_wp2_with fail
    go_ret
    exact ⟨rfl, rfl⟩
set_option maxRecDepth 100000 in
theorem with_at {a : Int} (ha : a = 0 ∨ a = 1) (x y n : Int) (w : World) : Calls Tryd.prog 28 #[.agg #[.int .i64 x, .int .i64 y], .int .i64 a, .int .i64 n] w fun e w' => e = .returned (.agg #[.int .i64 (if a = 0 then n else x), .int .i64 (if a = 0 then y else n)]) ∧ Below w.heap.size w w' := by
  have hb0 : Below w.heap.size w ((w.alloc (.cells #[.int .i64 x, .int .i64 y] 49)).alloc (.cells #[.int .i64 0, .int .i64 0] 49)) := ((Below.refl _ _).alloc (Nat.le_refl _) _).alloc (by simp) _
  have hA := (BL.new w 49 [.int .i64 x, .int .i64 y]).alloc (.cells #[.int .i64 0, .int .i64 0] 49)
  have hB := BL.new (w.alloc (.cells #[.int .i64 x, .int .i64 y] 49)) 49 [.int .i64 0, .int .i64 0]
  rw [size_alloc] at hB
  rcases ha with rfl | rfl
  · go_enter Tryd.func28, Tryd.ntmps28
    go_upto_region 1 with fail
    generalize (w.alloc (.cells #[.int .i64 x, .int .i64 y] 49)).alloc (.cells #[.int .i64 0, .int .i64 0] 49) = X at *
    have a0 : X.cell? ⟨w.heap.size, 0, none⟩ = some (.int .i64 x) := hA.cell 0
    have a0f := hA.frozen 0
    have h1 := hA.set_ 0 (.int .i64 n)
    have h2 : BL (X.setCell ⟨w.heap.size, 0, none⟩ (.int .i64 n)) (w.heap.size + 1) 49 [.int .i64 0, .int .i64 0] := hB.only ((Only.refl [w.heap.size] X).setCell (p := ⟨w.heap.size, 0, none⟩) (.inl (by simp)) _) (by simp)
    have hb1 := hb0.setCell (p := ⟨w.heap.size, 0, none⟩) (Nat.le_refl _) (.int .i64 n)
    go_upto_region 2 with fail
    generalize X.setCell ⟨w.heap.size, 0, none⟩ (.int .i64 n) = Y at *
    have b0 : Y.cell? ⟨w.heap.size, 0, none⟩ = some (.int .i64 n) := h1.cell 0
    have b1 : Y.cell? ⟨w.heap.size, 1, none⟩ = some (.int .i64 y) := h1.cell 1
    have c0 : Y.cell? ⟨w.heap.size + 1, 0, none⟩ = some (.int .i64 0) := h2.cell 0
    have c1 : Y.cell? ⟨w.heap.size + 1, 1, none⟩ = some (.int .i64 0) := h2.cell 1
    have c0f := h2.frozen 0
    have c1f := h2.frozen 1
    go_wp2_with fail
    have hZ := (h2.set_ 0 (.int .i64 n)).set_ 1 (.int .i64 y)
    exact bodyPost_ret (v := .agg #[.int .i64 n, .int .i64 y]) (results_cell (p := 6) (by kernel_rfl) _ _ (w.heap.size + 1) _ _ _ _ rfl hZ Tryd.underlying49 rfl (by kernel_rfl)) rfl ⟨rfl, (hb1.setCell (p := ⟨w.heap.size + 1, 0, none⟩) (by simp) _).setCell (p := ⟨w.heap.size + 1, 1, none⟩) (by simp) _⟩
  · go_enter Tryd.func28, Tryd.ntmps28
    go_upto_region 1 with fail
    generalize (w.alloc (.cells #[.int .i64 x, .int .i64 y] 49)).alloc (.cells #[.int .i64 0, .int .i64 0] 49) = X at *
    have a0 : X.cell? ⟨w.heap.size, 1, none⟩ = some (.int .i64 y) := hA.cell 1
    have a0f := hA.frozen 1
    have h1 := hA.set_ 1 (.int .i64 n)
    have h2 : BL (X.setCell ⟨w.heap.size, 1, none⟩ (.int .i64 n)) (w.heap.size + 1) 49 [.int .i64 0, .int .i64 0] := hB.only ((Only.refl [w.heap.size] X).setCell (p := ⟨w.heap.size, 1, none⟩) (.inl (by simp)) _) (by simp)
    have hb1 := hb0.setCell (p := ⟨w.heap.size, 1, none⟩) (Nat.le_refl _) (.int .i64 n)
    go_upto_region 2 with fail
    generalize X.setCell ⟨w.heap.size, 1, none⟩ (.int .i64 n) = Y at *
    have b0 : Y.cell? ⟨w.heap.size, 0, none⟩ = some (.int .i64 x) := h1.cell 0
    have b1 : Y.cell? ⟨w.heap.size, 1, none⟩ = some (.int .i64 n) := h1.cell 1
    have c0 : Y.cell? ⟨w.heap.size + 1, 0, none⟩ = some (.int .i64 0) := h2.cell 0
    have c1 : Y.cell? ⟨w.heap.size + 1, 1, none⟩ = some (.int .i64 0) := h2.cell 1
    have c0f := h2.frozen 0
    have c1f := h2.frozen 1
    go_wp2_with fail
    have hZ := (h2.set_ 0 (.int .i64 x)).set_ 1 (.int .i64 n)
    exact bodyPost_ret (v := .agg #[.int .i64 x, .int .i64 n]) (results_cell (p := 6) (by kernel_rfl) _ _ (w.heap.size + 1) _ _ _ _ rfl hZ Tryd.underlying49 rfl (by kernel_rfl)) rfl ⟨rfl, (hb1.setCell (p := ⟨w.heap.size + 1, 0, none⟩) (by simp) _).setCell (p := ⟨w.heap.size + 1, 1, none⟩) (by simp) _⟩
set_option maxRecDepth 100000 in
theorem leaf_at (p x y : Int) (w : World) : Calls Tryd.prog 27 #[.int .i64 p, .agg #[.int .i64 x, .int .i64 y]] w fun e w' => e = .returned (pV (w.heap.size + 1)) ∧ BL w' (w.heap.size + 1) 53 (leafC p x y) ∧ w'.heap.size = w.heap.size + 2 ∧ Below w.heap.size w w' := by
  have hb0 : Below w.heap.size w (w.alloc (.cells #[.int .i64 x, .int .i64 y] 49)) := (Below.refl _ _).alloc (Nat.le_refl _) _
  have hA := BL.new w 49 [.int .i64 x, .int .i64 y]
  have hs : (w.alloc (.cells #[.int .i64 x, .int .i64 y] 49)).heap.size = w.heap.size + 1 := by simp
  go_enter Tryd.func27, Tryd.ntmps27
  go_upto_region 1 with fail
  generalize w.alloc (.cells #[.int .i64 x, .int .i64 y] 49) = X at *
  have a0 : X.cell? ⟨w.heap.size, 0, none⟩ = some (.int .i64 x) := hA.cell 0
  have a1 : X.cell? ⟨w.heap.size, 1, none⟩ = some (.int .i64 y) := hA.cell 1
  have hZ := BL.new X 53 (leafC p x y)
  rw [hs] at hZ
  go_wp2_with fail
  go_ret
  exact ⟨rfl, hZ, by simp; omega, hb0.alloc (by omega) _⟩
set_option maxRecDepth 100000 in
theorem isSize_at (x y : Int) (w : World) : Calls Tryd.prog 38 #[.int .i64 x, .int .i64 y] w fun e w' => e = .returned (.bool (decide (1 ≤ x ∧ x ≤ 250 ∧ 1 ≤ y ∧ y ≤ 120))) ∧ w' = w := by
  have key : ∀ b : Bool, b = decide (1 ≤ x ∧ x ≤ 250 ∧ 1 ≤ y ∧ y ≤ 120) → Calls Tryd.prog 38 #[.int .i64 x, .int .i64 y] w fun e w' => e = .returned (.bool b) ∧ w' = w := by
    intro b hb
    have HB := Lib.hid hb
    clear hb
    by_cases h1 : 1 ≤ x
    · by_cases h2 : x ≤ 250
      · by_cases h3 : 1 ≤ y
        · by_cases h4 : y ≤ 120
          · obtain rfl : b = true := by rw [HB.out]; simp [h1, h2, h3, h4]
            clear HB
            go_enter Tryd.func38, Tryd.ntmps38
            go_wp2_with fail
            go_ret
            exact ⟨rfl, rfl⟩
          · obtain rfl : b = false := by rw [HB.out]; simp [h4]
            clear HB
            go_enter Tryd.func38, Tryd.ntmps38
            go_wp2_with fail
            go_ret
            exact ⟨rfl, rfl⟩
        · obtain rfl : b = false := by rw [HB.out]; simp [h3]
          clear HB
          go_enter Tryd.func38, Tryd.ntmps38
          go_wp2_with fail
          go_ret
          exact ⟨rfl, rfl⟩
      · obtain rfl : b = false := by rw [HB.out]; simp [h2]
        clear HB
        go_enter Tryd.func38, Tryd.ntmps38
        go_wp2_with fail
        go_ret
        exact ⟨rfl, rfl⟩
    · obtain rfl : b = false := by rw [HB.out]; simp [h1]
      clear HB
      go_enter Tryd.func38, Tryd.ntmps38
      go_wp2_with fail
      go_ret
      exact ⟨rfl, rfl⟩
  exact key _ rfl
section
variable {tb : Nat} {f : F} {w : World} {p : Int} {l : List Value}
set_option maxRecDepth 100000 in
theorem Has_at (h1 : f.has1) (h2 : f.blks.length ≤ 1000000) (hin : f.In w) (hv : f.ptrs[0]? = some (pV tb)) (hl : (f.ups p)[0]? = some l) :
    Calls Tryd.prog 11 #[pV tb, .int .i64 p] w fun e w' => e = .returned (.bool (decide (l ≠ []))) ∧ Below w.heap.size w w' := by
  have ku := up_at (p := p) f h1 h2 w hin 0 _ l hv hl
  have KU := Lib.hid ku
  clear ku h1 h2 hin hv hl
  obtain ⟨d, hd⟩ : ∃ d, decide (l ≠ []) = d := ⟨_, rfl⟩
  rw [hd]
  have HD := Lib.hid hd
  clear hd
  unfold pV at KU ⊢
  go_enter Tryd.func11, Tryd.ntmps11
  go_wp2_with fail
  refine KU.out.mono ?_
  rintro _ w1 ⟨u, rfl, hp, hb⟩
  rcases hp.shape with ⟨rfl, rfl⟩ | ⟨hne, g, c, rfl, hg⟩
  · obtain rfl : false = d := by rw [← HD.out]; rfl
    clear HD
    go_wp2_with fail
    go_ret
    exact ⟨rfl, hb⟩
  · obtain rfl : true = d := by rw [← HD.out]; simp [hne]
    clear HD
    go_wp2_with fail
    go_ret
    exact ⟨rfl, hb⟩
set_option maxRecDepth 100000 in
theorem mayCome_at (h1 : f.has1) (h2 : f.blks.length ≤ 1000000) (hin : f.In w) (hv : f.ptrs[0]? = some (pV tb)) (hl : (f.ups p)[0]? = some l) :
    Calls Tryd.prog 24 #[pV tb, .int .i64 p] w fun e w' => e = .returned (.bool (decide (1 ≤ p ∧ l = []))) ∧ Below w.heap.size w w' := by
  have ku := Has_at h1 h2 hin hv hl
  have KU := Lib.hid ku
  clear ku h1 h2 hin hv hl
  obtain ⟨d, hd⟩ : ∃ d, decide (1 ≤ p ∧ l = []) = d := ⟨_, rfl⟩
  rw [hd]
  have HD := Lib.hid hd
  clear hd
  unfold pV at KU ⊢
  by_cases hp : 1 ≤ p
  · have hpg : p ≥ 1 := hp
    by_cases hl : l = []
    · obtain rfl : true = d := by rw [← HD.out]; simp [hp, hl]
      have e1 : decide (l ≠ []) = false := by simp [hl]
      rw [e1] at KU
      clear HD hl e1
      go_enter Tryd.func24, Tryd.ntmps24
      go_wp2_with (first | (go_at_call 11; refine KU.out.mono ?_; rintro _ w1 ⟨rfl, hb⟩))
      go_ret
      exact ⟨rfl, hb⟩
    · obtain rfl : false = d := by rw [← HD.out]; simp [hl]
      have e1 : decide (l ≠ []) = true := by simp [hl]
      rw [e1] at KU
      clear HD hl e1
      go_enter Tryd.func24, Tryd.ntmps24
      go_wp2_with (first | (go_at_call 11; refine KU.out.mono ?_; rintro _ w1 ⟨rfl, hb⟩))
      go_ret
      exact ⟨rfl, hb⟩
  · obtain rfl : false = d := by rw [← HD.out]; simp [hp]
    clear HD KU
    go_enter Tryd.func24, Tryd.ntmps24
    go_wp2_with fail
    go_ret
    exact ⟨rfl, Below.refl _ _⟩
end
end Go.Proofs.YtkanglfpiahecaaDoor.Lyt
/- Where panes lie: boxes, all of them. -/
namespace Go.Proofs.YtkanglfpiahecaaDoor.Lyt
open Go.RowKit

set_option maxRecDepth 100000 in
set_option maxHeartbeats 4000000 in
theorem boxes_leaf {b : Nat} {p s0 s1 x y : Int} {w : World} (hN : BN w b (leafC p s0 s1)) :
    Calls Tryd.prog 20 #[pV b, .agg #[.int .i64 x, .int .i64 y]] w fun e w' => ∃ u, e = .returned u ∧ w'.ownsRow w.heap.size 30 5 u 1 (bxC (p, x, y, s0, s1)) ∧ Below w.heap.size w w' := by
  have hb0 : Below w.heap.size w (w.alloc (.cells #[.int .i64 x, .int .i64 y] 49)) := (Below.refl _ _).alloc (Nat.le_refl _) _
  have hA := BL.new w 49 [.int .i64 x, .int .i64 y]
  have hN2 := hN.only (Only.of_below (F := []) hb0) (by simp)
  have hs0 : w.heap.size + 1 ≤ (w.alloc (.cells #[.int .i64 x, .int .i64 y] 49)).heap.size := by simp
  clear hN
  unfold pV
  go_enter Tryd.func20, Tryd.ntmps20
  go_upto_region 1 with fail
  generalize w.alloc (.cells #[.int .i64 x, .int .i64 y] 49) = X at *
  have c4 : X.cell? ⟨b, 4, none⟩ = some (.slice none 0 0) := hN2.cell 4
  go_wp2_with fail
  refine (isLeaf_at b 0 0 none _ c4).mono ?_
  rintro _ w1 ⟨rfl, rfl⟩
  go_upto_region 2 with fail
  have e0 : X.cell? ⟨b, 0, none⟩ = some (.int .i64 p) := hN2.cell 0
  have e1 : X.cell? ⟨b, 1, none⟩ = some (.int .i64 s0) := hN2.cell 1
  have e2 : X.cell? ⟨b, 2, none⟩ = some (.int .i64 s1) := hN2.cell 2
  have a0 : X.cell? ⟨w.heap.size, 0, none⟩ = some (.int .i64 x) := hA.cell 0
  have a1 : X.cell? ⟨w.heap.size, 1, none⟩ = some (.int .i64 y) := hA.cell 1
  go_region
  clear e0 e1 e2 a0 a1 c4 hN2
  go_wp2_with fail
  go_ret
  exact ⟨_, rfl, ⟨rfl, .inr ⟨X.heap.size, 1, #[.int .i64 p, .int .i64 x, .int .i64 y, .int .i64 s0, .int .i64 s1], rfl, by omega, heap_alloc_new _ _, Nat.le_refl _, by decide, rfl, rfl⟩⟩, (hb0.alloc (by omega) _).drew⟩
set_option maxRecDepth 100000 in
set_option maxHeartbeats 4000000 in
theorem boxes_at (f : F) : f.Ok → ∀ w, f.In w → ∀ (i : Nat) v x y v0 v1 l, f.ptrs[i]? = some v → (f.vals 0 (szA 0))[i]? = some v0 → (f.vals 1 (szA 1))[i]? = some v1 → (f.bxl x y)[i]? = some l → Within x y v0 v1 →
    Calls Tryd.prog 20 #[v, .agg #[.int .i64 x, .int .i64 y]] w fun e w' => ∃ u, e = .returned u ∧ w'.ownsRow w.heap.size 30 5 u l.length (l.flatMap bxC) ∧ Below w.heap.size w w' := by
  induction f with
  | nil => intro _ w _ i v x y v0 v1 l hv; simp [F.ptrs] at hv
  | leaf b p s0 s1 r ih =>
    intro ok w hin i v x y v0 v1 l hv hv0 hv1 hl hw
    cases i with
    | succ i => exact ih ok.rest w hin.2 i v x y v0 v1 l hv hv0 hv1 hl hw
    | zero =>
      obtain rfl : pV b = v := by simpa [F.ptrs] using hv
      obtain rfl : [(p, x, y, s0, s1)] = l := by simpa [F.bxl] using hl
      rw [List.flatMap_cons, List.flatMap_nil, List.append_nil]
      exact boxes_leaf hin.1
  | node b kb cap al ks r ihk ihr =>
    intro ok w hin i v x y v0 v1 l hv hv0 hv1 hl hw
    cases i with
    | succ i => exact ihr ok.rest2 w hin.2.2.2 i v x y v0 v1 l hv hv0 hv1 hl hw
    | zero =>
      obtain rfl : pV b = v := by simpa [F.ptrs] using hv
      have kok := ok.kids
      have hal := ok.way.1
      have hk1 := ok.one.1
      obtain rfl : ((List.range ks.len).flatMap fun i => (ks.bxl (ks.kx al x y i).1 (ks.kx al x y i).2).getD i []) = l := by simpa [F.bxl] using hl
      have hz0 : (if al = 0 then (ks.vals 0 (szA 0)).sum + ((ks.len : Int) - 1) else maxL (ks.vals 0 (szA 0))) = v0 := by simpa [F.vals] using hv0
      have hz1 : (if al = 1 then (ks.vals 1 (szA 1)).sum + ((ks.len : Int) - 1) else maxL (ks.vals 1 (szA 1))) = v1 := by simpa [F.vals] using hv1
      have hnn : 0 ≤ v0 ∧ 0 ≤ v1 := by
        have n0 := small_le (a := 0) (g := szA 0) kok.one (F.all_mono (fun p s0 s1 h => by unfold szA; split <;> omega) kok.siz) kok.few
        have n1 := small_le (a := 1) (g := szA 1) kok.one (F.all_mono (fun p s0 s1 h => by unfold szA; split <;> omega) kok.siz) kok.few
        have := sum_nn n0.1
        have := sum_nn n1.1
        have := maxL_in n0.1
        have := maxL_in n1.1
        constructor
        · rw [← hz0]; split <;> omega
        · rw [← hz1]; split <;> omega
      have hpl := F.ptrs_len ks
      have hkid : ∀ V, ks.In V → ∀ (i : Nat) v l, i < ks.len → ks.ptrs[i]? = some v → (ks.bxl (ks.kx al x y i).1 (ks.kx al x y i).2)[i]? = some l → _ := fun V hV i v l hi hv hl => by
        have q0 : i < (ks.vals 0 (szA 0)).length := by rw [F.vals_len]; exact hi
        have q1 : i < (ks.vals 1 (szA 1)).length := by rw [F.vals_len]; exact hi
        exact ihk kok V hV i v (ks.kx al x y i).1 (ks.kx al x y i).2 _ _ l hv (List.getElem?_eq_getElem q0) (List.getElem?_eq_getElem q1) hl (kid_within hal kok.one kok.siz kok.few hz0 hz1 (List.getElem?_eq_getElem q0) (List.getElem?_eq_getElem q1) hw)
      have hbx : ∀ i, i < ks.len → ∃ l, (ks.bxl (ks.kx al x y i).1 (ks.kx al x y i).2)[i]? = some l ∧ (ks.bxl (ks.kx al x y i).1 (ks.kx al x y i).2).getD i [] = l ∧ l ≠ [] ∧ ∀ c, ks.cnts[i]? = some c → l.length = c := fun i hi => by
        have q : i < (ks.bxl (ks.kx al x y i).1 (ks.kx al x y i).2).length := by rw [F.bxl_len]; exact hi
        have q2 : i < ks.cnts.length := by rw [F.cnts_len]; exact hi
        refine ⟨_, List.getElem?_eq_getElem q, by rw [List.getD_eq_getElem?_getD, List.getElem?_eq_getElem q]; rfl, fun e => ?_, fun c hc => F.bxl_cnt ks _ _ i _ c (List.getElem?_eq_getElem q) hc⟩
        have := F.bxl_cnt ks _ _ i _ _ (List.getElem?_eq_getElem q) (List.getElem?_eq_getElem q2)
        have h1 := F.cnts_pos ks kok.one i _ (List.getElem?_eq_getElem q2)
        rw [e] at this
        simp at this; omega
      generalize hg : (fun i => (ks.bxl (ks.kx al x y i).1 (ks.kx al x y i).2).getD i []) = g at *
      have hgi : ∀ i, (ks.bxl (ks.kx al x y i).1 (ks.kx al x y i).2).getD i [] = g i := fun i => by rw [← hg]
      have hfew : ∀ i, i ≤ ks.len → ((List.range i).flatMap g).length ≤ ks.cnt := fun i hi => flatMap_few (fun j c hj => by
        have hj' : j < ks.len := by rw [← F.cnts_len ks]; exact (List.getElem?_eq_some_iff.1 hj).1
        obtain ⟨l, _, e2, _, e4⟩ := hbx j hj'
        rw [← hgi j, e2]
        exact e4 c hj) hi
      have hb0 : Below w.heap.size w (w.alloc (.cells #[.int .i64 x, .int .i64 y] 49)) := (Below.refl _ _).alloc (Nat.le_refl _) _
      have hA := BL.new w 49 [.int .i64 x, .int .i64 y]
      have hs0 : (w.alloc (.cells #[.int .i64 x, .int .i64 y] 49)).heap.size = w.heap.size + 1 := by simp
      have hnf : decide (ks.len = 0) = false := decide_eq_false (by omega)
      have HIN := Lib.hid hin
      have HKID := Lib.hid hkid
      have HBX := Lib.hid hbx
      have HFEW := Lib.hid hfew
      have HW := Lib.hid (And.intro hw hnn)
      have HOK := Lib.hid kok
      have HGI := Lib.hid hgi
      clear hin hkid hbx hfew hw hnn kok ok hv hv0 hv1 hl hz0 hz1 ihk ihr hg hgi
      obtain ⟨L, hL⟩ : ∃ L, L = (List.range ks.len).flatMap g := ⟨_, rfl⟩
      rw [← hL]
      have HL := Lib.hid hL
      clear hL
      unfold pV
      go_enter Tryd.func20, Tryd.ntmps20
      go_upto_region 1 with fail
      generalize w.alloc (.cells #[.int .i64 x, .int .i64 y] 49) = X at *
      have il := isLeaf_at b ks.len cap (some ⟨kb, 0, none⟩) X ((HIN.out.1.only (Only.of_below (F := []) hb0) (by simp)).cell 4)
      rw [hnf] at il
      go_wp2_with fail
      refine il.mono ?_
      rintro _ w1 ⟨rfl, rfl⟩
      go_upto_region 4 with fail
      have hbY : Below w.heap.size w (X.alloc (.cells #[.slice none 0 0] 27)) := hb0.alloc (by omega) _
      have hA2 := hA.alloc (.cells #[.slice none 0 0] 27)
      have hN := BL.new X 27 [.slice none 0 0]
      have hsY : (X.alloc (.cells #[.slice none 0 0] 27)).heap.size = w.heap.size + 2 := by simp [hs0]
      rw [hs0] at hN
      generalize X.alloc (.cells #[.slice none 0 0] 27) = Y at *
      have hlt := HIN.out.lt
      have ke := eachAt_at (w := Y) (b := b) (kb := kb) (cap := cap) (kv := 44) (al := al) (x := x) (y := y) (ks := ks) (caps := #[pV (w.heap.size + 1)]) (G := [w.heap.size + 1])
        (I := fun i V => ∃ u, BL V (w.heap.size + 1) 27 [u] ∧ V.ownsRow (w.heap.size + 5) 30 5 u ((List.range i).flatMap g).length (((List.range i).flatMap g).flatMap bxC))
        (enters_of Tryd.func44 (by kernel_rfl) rfl) hal HOK.out.one HOK.out.siz HOK.out.few
        (HIN.out.1.only (Only.of_below (F := []) hbY) (by simp)) (HIN.out.2.1.only (Only.of_below (F := []) hbY) (by simp)) (HIN.out.2.2.1.below hbY) (fun k hk => by simp at hk; omega)
        (fun k hk hm => by
          have : k < w.heap.size := hlt k (by
            rcases List.mem_cons.1 hk with rfl | hk
            · simp [F.blks]
            · rcases List.mem_cons.1 hk with rfl | hk
              · simp [F.blks]
              · simp [F.blks, hk])
          simp at hm; omega)
        (by have := HW.out; unfold Within at this; omega)
        ⟨_, hN, World.ownsRow_nil _ _ _ _⟩
        (fun i V V' ⟨u, q1, q2⟩ ho => ⟨u, q1.only ho (by simp; omega), own_only q2 ho fun k hk => by have := (q2.lt k hk).1; simp; omega⟩)
        (fun i V v hv ⟨u, q1, q2⟩ ho hsv => by
          have hi : i < ks.len := by rw [← hpl]; exact (List.getElem?_eq_some_iff.1 hv).1
          obtain ⟨l, e1, e2, e3, e4⟩ := HBX.out i hi
          have hf := HFEW.out (i + 1) hi
          rw [flatMap_succ, ← HGI.out i, e2] at hf
          rw [List.length_append] at hf
          have hfw := HOK.out.few
          have k1 := boxes1_at (v := v) (x := (ks.kx al x y i).1) (y := (ks.kx al x y i).2) (l := l) (acc := (List.range i).flatMap g) (B := w.heap.size + 5) q1 (by omega) (by omega) q2 e3 (by omega)
            (fun V' hV' => HKID.out V' (F.In.onlyB (HIN.out.2.2.1.below hbY) (ho.trans ((OnlyB.of_below hV').mono (by omega) fun k hk => hk)) fun k hk => ⟨by have := hlt k (by simp [F.blks, hk]); omega, fun hm => by have := hlt k (by simp [F.blks, hk]); simp at hm; omega⟩) i v l hi hv e1)
          refine k1.mono ?_
          rintro e V' ⟨rfl, u', r1, r2, ro⟩
          refine ⟨rfl, ⟨u', r1, ?_⟩, by rw [hsY]; exact ro⟩
          rw [flatMap_succ, ← HGI.out i, e2]
          exact r2)
      have KE := Lib.hid ke
      have c0 := hA2.cell 0
      have c1 := hA2.cell 1
      clear ke hA hA2 hN il
      unfold pV at KE
      go_wp2_with fail
      refine KE.out.mono ?_
      rintro _ w2 ⟨rfl, ⟨u, q1, q2⟩, ro⟩
      rw [← HL.out] at q2
      have d1 := q1.cell 0
      have hb2 : Below w.heap.size w w2 := hbY.trans (ro.below (B := w.heap.size) (by omega) (by simp))
      obtain ⟨A, c, rfl⟩ := own_slice q2
      have Q2 := Lib.hid q2
      clear q1 q2 KE
      go_wp2_with fail
      go_ret
      exact ⟨_, rfl, own_raise Q2.out fun k hk => by have := (Q2.out.lt k hk).1; omega, hb2⟩
end Go.Proofs.YtkanglfpiahecaaDoor.Lyt
/- A text's sum. -/
namespace Go.Proofs.YtkanglfpiahecaaDoor.Lyt
open Go.RowKit

def sumS (z : Int) (b : UInt8) : Int := IntKind.u16.wrap (bits BinOp.or IntKind.u16 (z / 2) (IntKind.u16.wrap (z * 32768)) + IntKind.u16.wrap (b.toNat : Int))
/-- A text's sum. -/
def sumP (l : List UInt8) : Int := l.foldl sumS 0
theorem u16_in (z : Int) : 0 ≤ IntKind.u16.wrap z ∧ IntKind.u16.wrap z < 65536 := by
  have e : IntKind.u16.wrap z = z % 65536 := by simp [IntKind.wrap, IntKind.bits, IntKind.signed]
  rw [e]
  omega
theorem sumP_snoc (l : List UInt8) (b : UInt8) : sumP (l ++ [b]) = sumS (sumP l) b := by simp [sumP, List.foldl_append]
theorem sumP_in (l : List UInt8) : 0 ≤ sumP l ∧ sumP l < 65536 := by
  rcases List.eq_nil_or_concat l with rfl | ⟨k, b, rfl⟩
  · show (0 : Int) ≤ 0 ∧ (0 : Int) < 65536
    omega
  · rw [List.concat_eq_append, sumP_snoc]
    exact u16_in _
set_option maxRecDepth 100000 in
set_option maxHeartbeats 4000000 in
theorem Sum_at (s : ByteArray) (w : World) (hs : s.size ≤ 1000000000) :
    Calls Tryd.prog 19 #[.string s] w fun e w' => e = .returned (.int .i64 (sumP s.data.toList)) ∧ w' = w := by
  obtain ⟨l, hl⟩ : ∃ l, l = s.data.toList := ⟨_, rfl⟩
  rw [← hl]
  have hll : l.length = s.size := by rw [hl]; exact Array.length_toList
  have hget : ∀ j (h : j < s.size), l[j]? = some s[j] := fun j h => by
    rw [hl]
    have : j < s.data.size := h
    rw [Array.getElem?_toList, Array.getElem?_eq_getElem this]
    rfl
  have HG := Lib.hid hget
  have HL := Lib.hid hll
  clear hget hl hll
  go_enter Tryd.func19, Tryd.ntmps19
  go_wp2_with fail
  go_loopw [3, 7] (fun i t wr => ∃ (j : Nat), j ≤ s.size ∧ t = .int .i64 (j : Int) ∧ i = .int .u16 (sumP (l.take j)) ∧ wr = w) (fun _ t _ => s.size - (intOf t).toNat)
  case atStart => exact ⟨0, Nat.zero_le _, rfl, rfl, rfl⟩
  case round =>
    obtain ⟨j, hj, rfl, rfl, rfl⟩ := hrel
    have hz := sumP_in (l.take j)
    by_cases hlt : j < s.size
    · have j1 : (j : Int) < (s.size : Int) := by omega
      have hsn : l.take (j + 1) = l.take j ++ [s[j]] := by
        have := HG.out j hlt
        obtain ⟨h1, h2⟩ := List.getElem?_eq_some_iff.1 this
        rw [← h2]
        exact List.take_succ_eq_append_getElem h1
      have hz2 : sumS (sumP (l.take j)) s[j] = sumP (l.take (j + 1)) := by rw [hsn, sumP_snoc]
      have HZ := Lib.hid hz2
      clear hz2 hsn
      generalize sumP (l.take j) = z at *
      go_wp2_with fail
      go_roundw
      case rel => exact ⟨j + 1, by omega, by go_num, by rw [← HZ.out]; rfl, trivial⟩
      case measure => simp [intOf]; omega
    · obtain rfl : j = s.size := by omega
      rw [← HL.out, List.take_length] at hz ⊢
      have j1 : IntKind.i64.wrap (sumP l) = sumP l := IntWalk.i64_in _ ⟨by omega, by omega⟩
      go_wp2_with fail
      go_ret
      exact ⟨rfl, rfl⟩
end Go.Proofs.YtkanglfpiahecaaDoor.Lyt
