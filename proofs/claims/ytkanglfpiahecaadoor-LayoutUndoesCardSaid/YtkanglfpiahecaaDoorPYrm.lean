/- The splits on the way up made anew. -/
import Derived.Test.YtkanglfpiahecaaDoorPYbr
import Derived.Test.YtkanglfpiahecaaDoorPYsk
import Derived.Test.YtkanglfpiahecaaDoorPYat
namespace Go.Proofs.YtkanglfpiahecaaDoor.Lyt
open Go.RowKit

def frsC : List Fr → Nat
  | [] => 0
  | fr :: up => fr.l.cnt + fr.r.cnt + frsC up
def lastP (ps : List Value) : List Fr → List Value
  | [] => ps
  | fr :: up => lastP [pV fr.b] up
theorem kids_has1 {fr : Fr} {t : F} (h : fr.l.has1 ∧ fr.r.has1) (ht : t.has1) : (fr.kids t).has1 := F.has1_app.2 ⟨h.1, F.has1_app.2 ⟨ht, h.2⟩⟩
theorem kids_len {fr : Fr} {t : F} : (fr.kids t).len = fr.l.len + t.len + fr.r.len := by unfold Fr.kids; rw [F.len_app, F.len_app]; omega
theorem kids_cnt {fr : Fr} {t : F} : (fr.kids t).cnt = fr.l.cnt + t.cnt + fr.r.cnt := by unfold Fr.kids; rw [F.cnt_app, F.cnt_app]; omega
theorem kids_blks {fr : Fr} {t : F} : (fr.kids t).blks = fr.l.blks ++ (t.blks ++ fr.r.blks) := by unfold Fr.kids; rw [F.blks_app, F.blks_app]
/-- What holds between two of the splits. -/
structure Rem (w : World) (D : List Nat) (t0 : F) (frs : List Fr) (t : F) (up : List Fr) (V : World) : Prop where
  tin : t.In V
  has1 : t.has1
  fin : FrsIn V t.ptrs up
  nod : (t.blks ++ frsB up).Nodup
  dom : ∀ x ∈ t.blks, x ∈ D ∨ w.heap.size ≤ x
  same : (rema t up).bare = (rema t0 frs).bare
  last : lastP t.ptrs up = lastP t0.ptrs frs
  few : t.cnt + frsC up = t0.cnt + frsC frs
  head : ∀ fr r, up = fr :: r → 1 ≤ fr.l.len + t.len + fr.r.len
  only : Only (frs.map (·.b)) w V
/-- One split made anew in place. -/
theorem Rem.step {w V w3 w4 : World} {D : List Nat} {t0 t : F} {frs up : List Fr} {fr : Fr} (h : Rem w D t0 frs t (fr :: up) V) (hsub : ∀ x ∈ frsB frs, x ∈ D) (hup : ∀ x ∈ frsB (fr :: up), x ∈ frsB frs) (hm : fr.b ∈ frs.map (·.b)) (hfh : fr.l.has1 ∧ fr.r.has1)
    (hb3 : Below V.heap.size V w3) (ho : Only [fr.b] w3 w4) {kb2 cap2 : Nat} (hk : V.heap.size ≤ kb2) (hin : (F.remk fr.b kb2 cap2 fr.al (fr.kids t)).In w4) : Rem w D t0 frs (F.remk fr.b kb2 cap2 fr.al (fr.kids t)) up w4 := by
  have hnod := h.nod
  have hlt : ∀ x ∈ (fr.kids t).blks, x < V.heap.size := (FrsIn.kids h.tin h.fin).2.2.1.lt
  have hltu := h.fin.lt
  have hVo : Only [fr.b] V w4 := (Only.of_below hb3).trans ho
  have hbu : ∀ x ∈ frsB up, x ∉ [fr.b] := fun x hx hm => by
    rw [List.mem_singleton] at hm
    subst hm
    simp only [frsB, Fr.blks, List.cons_append] at hnod
    have h1 := (List.nodup_append.1 hnod).2.1
    exact (List.nodup_cons.1 h1).1 (by simp [hx])
  -- the kids' blocks, once each, apart from the split's own and from what is further up
  have hperm : (t.blks ++ frsB (fr :: up)).Perm (fr.b :: fr.kb :: ((fr.kids t).blks ++ frsB up)) := by
    rw [kids_blks]
    simp only [frsB, Fr.blks, List.cons_append]
    have p1 : (t.blks ++ (fr.b :: fr.kb :: (fr.l.blks ++ fr.r.blks ++ frsB up))).Perm (fr.b :: (t.blks ++ (fr.kb :: (fr.l.blks ++ fr.r.blks ++ frsB up)))) := List.perm_middle
    refine p1.trans (List.Perm.cons _ ?_)
    refine List.perm_middle.trans (List.Perm.cons _ ?_)
    rw [← List.append_assoc, ← List.append_assoc, ← List.append_assoc]
    refine List.Perm.append_right _ ?_
    refine List.Perm.append_right _ ?_
    exact List.perm_append_comm
  have hnod2 := hperm.nodup_iff.1 hnod
  have n1 := List.nodup_cons.1 hnod2
  have n2 := List.nodup_cons.1 n1.2
  have n3 := List.nodup_append.1 n2.2
  have hbV : fr.b < V.heap.size := hltu _ (by simp [frsB, Fr.blks])
  have hbK : fr.b ∉ (fr.kids t).blks := fun hx => n1.1 (by simp [hx])
  have hkK : kb2 ∉ (fr.kids t).blks := fun hx => by have := hlt _ hx; omega
  refine ⟨hin, remk_has1 (kids_has1 hfh h.has1) (by rw [kids_len]; exact h.head fr up rfl), ?_, ?_, ?_, ?_, ?_, ?_, ?_, ?_⟩
  · rw [remk_ptrs]
    exact h.fin.2.2.2.2.only hVo hbu
  · refine List.nodup_append.2 ⟨remk_nodup n3.1 hbK hkK (by omega), n3.2.1, fun x hx y hy => ?_⟩
    rintro rfl
    rcases remk_blks x hx with rfl | rfl | hx
    · exact hbu _ hy (by simp)
    · have := hltu x (by simp [frsB, hy]); omega
    · exact n3.2.2 x hx x hy rfl
  · intro x hx
    rcases remk_blks x hx with rfl | rfl | hx
    · exact .inl (hsub _ (hup _ (by simp [frsB, Fr.blks])))
    · exact .inr (Nat.le_trans h.only.size hk)
    · rw [kids_blks] at hx
      rcases List.mem_append.1 hx with hx | hx
      · exact .inl (hsub _ (hup _ (by simp [frsB, Fr.blks, hx])))
      · rcases List.mem_append.1 hx with hx | hx
        · exact h.dom x hx
        · exact .inl (hsub _ (hup _ (by simp [frsB, Fr.blks, hx])))
  · rw [← h.same]
    exact rema_bare (F.bare_remk rfl) up
  · rw [remk_ptrs, ← h.last]
    rfl
  · rw [remk_cnt, kids_cnt, ← h.few]
    simp only [frsC]
    omega
  · intro fr' r _
    rw [remk_len]
    omega
  · exact h.only.trans (hVo.mono fun x hx => by rw [List.mem_singleton] at hx; rw [hx]; exact hm)
set_option maxRecDepth 100000 in
set_option maxHeartbeats 8000000 in
theorem remake_at {w : World} {t0 : F} {frs : List Fr} {g o c : Nat} {D : List Nat} (hin : t0.In w) (h1 : t0.has1) (hf : FrsIn w t0.ptrs frs) (hfh : ∀ fr ∈ frs, fr.l.has1 ∧ fr.r.has1) (hnod : (t0.blks ++ frsB frs).Nodup)
    (hD : ∀ x ∈ t0.blks ++ frsB frs, x ∈ D) (hhead : ∀ fr r, frs = fr :: r → 1 ≤ fr.l.len + t0.len + fr.r.len) (hcnt : t0.cnt + frsC frs ≤ 1000000) (hlen : frs.length ≤ 1000000)
    (hg : g < w.heap.size) (hgD : g ∉ frs.map (·.b)) (hcell : ∀ (i : Nat) fr, frs[i]? = some fr → w.cell? ⟨g, o + i, none⟩ = some (pV fr.b)) :
    Calls Tryd.prog 30 #[.slice (some ⟨g, o, none⟩) frs.length c] w fun e w' => e = .returned (.tuple #[]) ∧ ∃ t, Rem w D t0 frs t [] w' := by
  have hsub : ∀ x ∈ frsB frs, x ∈ D := fun x hx => hD x (by simp [hx])
  have h0 : Rem w D t0 frs t0 frs w := ⟨hin, h1, hf, hnod, fun x hx => .inl (hD x (by simp [hx])), rfl, rfl, rfl, hhead, Only.refl _ _⟩
  have hc2 : ∀ V, Only (frs.map (·.b)) w V → ∀ (i : Nat) fr, frs[i]? = some fr → V.cell? ⟨g, o + i, none⟩ = some (pV fr.b) := fun V hV i fr hi => (World.cell?_of_block (w := w) (a := ⟨g, o + i, none⟩) (hV.block g hg hgD)).trans (hcell i fr hi)
  have HC := Lib.hid hc2
  have H0 := Lib.hid h0
  have HFH := Lib.hid hfh
  have HSUB := Lib.hid hsub
  have HCNT := Lib.hid hcnt
  clear hc2 h0 hfh hsub hcnt hin h1 hf hnod hD hhead hcell hgD
  go_enter Tryd.func30, Tryd.ntmps30
  go_wp2_with fail
  go_loopw [6] (fun i wr => ∃ j : Nat, j ≤ frs.length ∧ i = .int .i64 (j : Int) ∧ ∃ t, Rem w D t0 frs t (frs.drop j) wr) (fun i _ => frs.length - (intOf i).toNat)
  case atStart => exact ⟨0, Nat.zero_le _, rfl, t0, H0.out⟩
  case round =>
    obtain ⟨j, hj, rfl, t, hR⟩ := hrel
    by_cases hlt : j < frs.length
    · have j1 : (j : Int) < (frs.length : Int) := by omega
      obtain ⟨fr, up, hdr, hfj, hup⟩ : ∃ fr up, frs.drop j = fr :: up ∧ frs[j]? = some fr ∧ frs.drop (j + 1) = up := ⟨frs[j], frs.drop (j + 1), List.drop_eq_getElem_cons hlt, List.getElem?_eq_getElem hlt, rfl⟩
      have hmem : fr ∈ frs := List.mem_of_getElem? hfj
      have hc := HC.out wr hR.only j fr hfj
      rw [hdr] at hR
      have hupB : ∀ x ∈ frsB (fr :: up), x ∈ frsB frs := by
        have key : ∀ (l : List Fr) (k : Nat), ∀ x ∈ frsB (l.drop k), x ∈ frsB l := by
          intro l
          induction l with
          | nil => intro k x hx; simp [frsB] at hx
          | cons a l ih =>
            intro k x hx
            cases k with
            | zero => exact hx
            | succ k => exact List.mem_append_right _ (ih k x hx)
        rw [← hdr]
        exact key frs j
      have hK := FrsIn.kids hR.tin hR.fin
      have hKh := kids_has1 (HFH.out fr hmem) hR.has1
      have hKl : 1 ≤ (fr.kids t).len := by rw [kids_len]; exact hR.head fr up rfl
      have hKc : (fr.kids t).cnt ≤ 1000000 := by
        have := HCNT.out
        rw [kids_cnt]
        have h2 := hR.few
        simp only [frsC] at h2
        omega
      have hbV : fr.b < wr.heap.size := hK.1.lt
      have hbK : fr.b ∉ (fr.kids t).blks := by
        have hnod := hR.nod
        rw [kids_blks]
        simp only [frsB, Fr.blks, List.cons_append] at hnod
        have n1 := List.nodup_append.1 hnod
        have n2 := List.nodup_cons.1 n1.2.1
        intro hx
        rcases List.mem_append.1 hx with hx | hx
        · exact n2.1 (by simp [hx])
        · rcases List.mem_append.1 hx with hx | hx
          · exact n1.2.2 _ hx fr.b (by simp) rfl
          · exact n2.1 (by simp [hx])
      have hdrw : Below wr.heap.size wr wr.drew := (Below.refl _ _).drew
      have hks := split_at (al := fr.al) (kb := fr.kb) (c := fr.cap) (K := fr.kids t) (w := wr.drew) (hK.2.2.1.below hdrw) hKh (fun i v hi => by
        have := (RowAt.cell hK.2.1 (List.getElem?_eq_some_iff.1 hi).1).trans hi
        exact this) hKc
      have b3 : wr.drew.cell? ⟨fr.b, 3, none⟩ = some (.int .i64 fr.al) := hK.1.cell 3
      have b4 : wr.drew.cell? ⟨fr.b, 4, none⟩ = some (.slice (some ⟨fr.kb, 0, none⟩) (fr.kids t).len fr.cap) := hK.1.cell 4
      have hres : ∀ (e : Ending) (u : Value) (w3 : World), Below wr.drew.heap.size wr.drew w3 → _ → _ → _ → _ := fun e u w3 hb3 ho hl hor => res5 (b := fr.b) (s := wr.drew.heap.size) (al := fr.al) (K := fr.kids t) (V := wr.drew) (e := e) (u := u) (w3 := w3) rfl (hK.2.2.1.below hdrw) hb3 hKh hKl ho hl hor hbK hbV
      have HKS := Lib.hid hks
      have HRES := Lib.hid hres
      have HR := Lib.hid hR
      have HB := Lib.hid hK.1
      have HUPB := Lib.hid hupB
      clear hks hres hR hK hupB hKh hKl hKc hbK
      unfold pV at hc
      go_wp2_with fail
      go_region_law
        (first
          | (go_simp; go_at_call 29; refine HKS.out.mono ?_; rintro e w3 ⟨u, hown, hbl, hb3, hor⟩; obtain ⟨b1, x0, x1, x2, x3, A, n, c, rfl, hN1, hfin⟩ := HRES.out e u w3 hb3 hown hbl hor; have m0 := hN1.cell 0; have m1 := hN1.cell 1; have m2 := hN1.cell 2; have m3 := hN1.cell 3; have m4 := hN1.cell 4; have hB3 := HB.out.only (Only.of_below (F := []) (hdrw.trans hb3)) (by simp); have f0 := hB3.frozen 0; have f1 := hB3.frozen 1; have f2 := hB3.frozen 2; have f3 := hB3.frozen 3; have f4 := hB3.frozen 4; have p0 : w3.cell? ⟨fr.b, 0, none⟩ = some (.int .i64 0) := hB3.cell 0; have p1 : w3.cell? ⟨fr.b, 1, none⟩ = some (.int .i64 0) := hB3.cell 1; have p2 : w3.cell? ⟨fr.b, 2, none⟩ = some (.int .i64 0) := hB3.cell 2; have p3 : w3.cell? ⟨fr.b, 3, none⟩ = some (.int .i64 fr.al) := hB3.cell 3; have p4 : w3.cell? ⟨fr.b, 4, none⟩ = some (.slice (some ⟨fr.kb, 0, none⟩) (fr.kids t).len fr.cap) := hB3.cell 4; have HB3 := Lib.hid hB3; have HFIN := Lib.hid hfin; have HBB := Lib.hid hb3; clear hown hbl hor hN1 hfin hB3 hb3))
      all_goals
        have hb5 := ((((HB3.out.set_ 0 (.int .i64 x0)).set_ 1 (.int .i64 x1)).set_ 2 (.int .i64 x2)).set_ 3 (.int .i64 x3)).set_ 4 (.slice A n c)
        have ho5 := (((((Only.refl [fr.b] w3).setCell (p := ⟨fr.b, 0, none⟩) (.inl (by simp)) (.int .i64 x0)).setCell (p := ⟨fr.b, 1, none⟩) (.inl (by simp)) (.int .i64 x1)).setCell (p := ⟨fr.b, 2, none⟩) (.inl (by simp)) (.int .i64 x2)).setCell (p := ⟨fr.b, 3, none⟩) (.inl (by simp)) (.int .i64 x3)).setCell (p := ⟨fr.b, 4, none⟩) (.inl (by simp)) (.slice A n c)
        obtain ⟨kb2, cap2, hk1, _, hin4⟩ := HFIN.out _ hb5 ho5
        have hst := HR.out.step HSUB.out HUPB.out (List.mem_map_of_mem (f := fun x => x.b) hmem) (HFH.out fr hmem) (hdrw.trans HBB.out) ho5 hk1 hin4
        have HST := Lib.hid hst
        clear hst hin4 hb5 ho5 m0 m1 m2 m3 m4 f0 f1 f2 f3 f4 p0 p1 p2 p3 p4 HFIN HB3 HR HB HRES HKS b3 b4 hc
        go_wp2_with fail
        go_roundw
      all_goals first
        | exact ⟨j + 1, by omega, by go_num, _, by rw [hup]; exact HST.out⟩
        | (simp [intOf]; omega)
    · obtain rfl : j = frs.length := by omega
      rw [List.drop_length] at hR
      have HR := Lib.hid hR
      clear hR
      go_wp2_with fail
      exact body_end rfl rfl ⟨rfl, t, HR.out⟩
end Go.Proofs.YtkanglfpiahecaaDoor.Lyt
/- The way up from a pane's leaf. -/
namespace Go.Proofs.YtkanglfpiahecaaDoor.Lyt
open Go.RowKit

/-- One of some trees, alone. -/
def F.one : F → Nat → F
  | .nil, _ => .nil
  | .leaf b p s0 s1 _, 0 => .leaf b p s0 s1 .nil
  | .leaf _ _ _ _ r, i + 1 => r.one i
  | .node b kb cap al ks _, 0 => .node b kb cap al ks .nil
  | .node _ _ _ _ _ r, i + 1 => r.one i
theorem F.split3 : ∀ (f : F) (i : Nat), i < f.len → ∃ l r : F, f = l.app ((f.one i).app r)
  | .nil, i, h => by simp [F.len] at h
  | .leaf _ _ _ _ r, 0, _ => ⟨.nil, r, rfl⟩
  | .leaf b p s0 s1 r, i + 1, h => by
    obtain ⟨l, r2, e⟩ := F.split3 r i (by simp [F.len] at h; omega)
    exact ⟨.leaf b p s0 s1 l, r2, by show F.leaf b p s0 s1 r = F.leaf b p s0 s1 (l.app ((r.one i).app r2)); rw [← e]⟩
  | .node _ _ _ _ _ r, 0, _ => ⟨.nil, r, rfl⟩
  | .node b kb cap al ks r, i + 1, h => by
    obtain ⟨l, r2, e⟩ := F.split3 r i (by simp [F.len] at h; omega)
    exact ⟨.node b kb cap al ks l, r2, by show F.node b kb cap al ks r = F.node b kb cap al ks (l.app ((r.one i).app r2)); rw [← e]⟩
theorem plug_snoc (t : F) (fr : Fr) : ∀ frs : List Fr, plug t (frs ++ [fr]) = .node fr.b fr.kb fr.cap fr.al (fr.kids (plug t frs)) .nil := by
  intro frs
  induction frs generalizing t with
  | nil => rfl
  | cons a l ih => exact ih _
theorem lastUp_some {u : Value} {l : List (List Value)} (h : lastUp u l ≠ []) : ∃ (j : Nat) (x : List Value), l[j]? = some x ∧ x ≠ [] ∧ lastUp u l = x ++ [u] := by
  have key : ∀ (l : List (List Value)), lastUp u l = [] ∨ ∃ (j : Nat) (x : List Value), l[j]? = some x ∧ x ≠ [] ∧ lastUp u l = x ++ [u] := by
    intro l
    rcases List.eq_nil_or_concat l with rfl | ⟨k, x, rfl⟩
    · exact .inl rfl
    · induction hk : k.length generalizing k x with
      | zero =>
        obtain rfl := List.eq_nil_of_length_eq_zero hk
        rw [List.concat_eq_append, lastUp_app]
        split
        · exact .inl rfl
        next hx => exact .inr ⟨0, x, rfl, hx, rfl⟩
      | succ n ih =>
        rw [List.concat_eq_append, lastUp_app]
        split
        · rcases List.eq_nil_or_concat k with rfl | ⟨k2, y, rfl⟩
          · simp at hk
          · rcases ih k2 y (by simpa using hk) with h | ⟨j, z, h1, h2, h3⟩
            · exact .inl h
            · exact .inr ⟨j, z, by rw [List.getElem?_append_left (List.getElem?_eq_some_iff.1 h1).1]; exact h1, h2, h3⟩
        next hx => exact .inr ⟨k.length, x, by simp, hx, rfl⟩
  exact (key l).resolve_left h
/-- The way that is found is one through the tree. -/
theorem F.zip {p : Int} : ∀ (f : F) (i : Nat) (l : List Value), (f.ups p)[i]? = some l → l ≠ [] → ∃ (frs : List Fr) (b : Nat) (s0 s1 : Int), l = pV b :: frs.map (fun fr => pV fr.b) ∧ f.one i = plug (.leaf b p s0 s1 .nil) frs
  | .nil, i, l, h, _ => by simp [F.ups] at h
  | .leaf b q s0 s1 r, i + 1, l, h, hl => F.zip r i l h hl
  | .leaf b q s0 s1 r, 0, l, h, hl => by
    have h2 : (if q = p then [pV b] else []) = l := by simpa [F.ups] using h
    by_cases hq : q = p
    · rw [if_pos hq] at h2
      subst hq h2
      exact ⟨[], b, s0, s1, rfl, rfl⟩
    · rw [if_neg hq] at h2
      exact absurd h2.symm hl
  | .node b kb cap al ks r, i + 1, l, h, hl => F.zip r i l h hl
  | .node b kb cap al ks r, 0, l, h, hl => by
    have h2 : lastUp (pV b) (ks.ups p) = l := by simpa [F.ups] using h
    obtain ⟨j, x, h3, h4, h5⟩ := lastUp_some (u := pV b) (l := ks.ups p) (by rw [h2]; exact hl)
    obtain ⟨frs, c, s0, s1, h6, h7⟩ := F.zip ks j x h3 h4
    obtain ⟨lf, rt, h8⟩ := F.split3 ks j (by rw [← F.ups_len p ks]; exact (List.getElem?_eq_some_iff.1 h3).1)
    refine ⟨frs ++ [⟨b, kb, cap, al, lf, rt⟩], c, s0, s1, by rw [← h2, h5, h6]; simp, ?_⟩
    rw [plug_snoc]
    show F.node b kb cap al ks .nil = .node b kb cap al (lf.app ((plug (.leaf c p s0 s1 .nil) frs).app rt)) .nil
    rw [← h7, ← h8]
theorem plug_in {w : World} : ∀ {frs : List Fr} {t : F}, (plug t frs).In w ↔ t.In w ∧ FrsIn w t.ptrs frs
  | [], t => by simp [plug, FrsIn]
  | fr :: up, t => by
    have e1 : (fr.kids t).len = fr.l.len + t.ptrs.length + fr.r.len := by rw [kids_len, F.ptrs_len]
    have e2 : (fr.kids t).ptrs = fr.l.ptrs ++ t.ptrs ++ fr.r.ptrs := by unfold Fr.kids; rw [F.ptrs_app, F.ptrs_app, List.append_assoc]
    show (plug (.node fr.b fr.kb fr.cap fr.al (fr.kids t) .nil) up).In w ↔ _
    rw [plug_in]
    simp only [F.In, FrsIn, F.ptrs, e1, e2]
    unfold Fr.kids
    rw [F.in_app, F.in_app]
    constructor
    · rintro ⟨⟨h1, h2, ⟨h3, h4, h5⟩, _⟩, h6⟩
      exact ⟨h4, h1, h2, h3, h5, h6⟩
    · rintro ⟨h4, h1, h2, h3, h5, h6⟩
      exact ⟨⟨h1, h2, ⟨h3, h4, h5⟩, trivial⟩, h6⟩
theorem plug_blks : ∀ (frs : List Fr) (t : F), (plug t frs).blks.Perm (t.blks ++ frsB frs)
  | [], t => by simp [plug, frsB]
  | fr :: up, t => by
    show (plug (.node fr.b fr.kb fr.cap fr.al (fr.kids t) .nil) up).blks.Perm _
    refine (plug_blks up _).trans ?_
    simp only [F.blks, List.append_nil, frsB, Fr.blks, kids_blks, List.cons_append]
    have p1 : (t.blks ++ (fr.b :: fr.kb :: (fr.l.blks ++ fr.r.blks ++ frsB up))).Perm (fr.b :: (t.blks ++ (fr.kb :: (fr.l.blks ++ fr.r.blks ++ frsB up)))) := List.perm_middle
    refine List.Perm.symm (p1.trans (List.Perm.cons _ (List.perm_middle.trans (List.Perm.cons _ ?_))))
    rw [← List.append_assoc, ← List.append_assoc, ← List.append_assoc]
    exact List.Perm.append_right _ (List.Perm.append_right _ List.perm_append_comm)
theorem plug_has1 : ∀ {frs : List Fr} {t : F}, (plug t frs).has1 → t.has1 ∧ ∀ fr ∈ frs, fr.l.has1 ∧ fr.r.has1
  | [], t, h => ⟨h, fun _ h => by cases h⟩
  | fr :: up, t, h => by
    obtain ⟨h1, h2⟩ := plug_has1 (frs := up) (t := .node fr.b fr.kb fr.cap fr.al (fr.kids t) .nil) h
    have h3 := F.has1_app.1 h1.2.1
    have h4 := F.has1_app.1 h3.2
    refine ⟨h4.1, fun x hx => ?_⟩
    rcases List.mem_cons.1 hx with rfl | hx
    · exact ⟨h3.1, h4.2⟩
    · exact h2 x hx
theorem plug_cnt : ∀ (frs : List Fr) (t : F), (plug t frs).cnt = t.cnt + frsC frs
  | [], t => rfl
  | fr :: up, t => by
    show (plug (.node fr.b fr.kb fr.cap fr.al (fr.kids t) .nil) up).cnt = _
    rw [plug_cnt up]
    simp only [F.cnt, frsC, kids_cnt]
    omega
theorem plug_ptrs : ∀ (frs : List Fr) (t : F), (plug t frs).ptrs = lastP t.ptrs frs
  | [], _ => rfl
  | _ :: up, _ => by
    show (plug (.node _ _ _ _ _ .nil) up).ptrs = _
    rw [plug_ptrs up]
    rfl
theorem frs_len : ∀ (frs : List Fr), frs.length ≤ (frsB frs).length
  | [] => Nat.le_refl _
  | fr :: up => by have := frs_len up; simp [frsB, Fr.blks]; omega
theorem frs_mem : ∀ {frs : List Fr}, ∀ b ∈ frs.map (·.b), b ∈ frsB frs
  | [], _, h => by cases h
  | fr :: up, b, h => by
    rcases List.mem_cons.1 h with rfl | h
    · simp [frsB, Fr.blks]
    · have := frs_mem b h
      simp [frsB, this]
end Go.Proofs.YtkanglfpiahecaaDoor.Lyt
/- A pane split. -/
namespace Go.Proofs.YtkanglfpiahecaaDoor.Lyt
open Go.RowKit

theorem eqnil_some (a : Addr) (n c : Nat) (w : World) : Sem.run Tryd.prog (binOp BinOp.eql 51 (.slice (some a) n c) (.slice none 0 0)) w = .ok (.bool false) w := by kernel_rfl
theorem eqnil_none (w : World) : Sem.run Tryd.prog (binOp BinOp.eql 51 (.slice none 0 0) (.slice none 0 0)) w = .ok (.bool true) w := by kernel_rfl
/-- What a split answers. -/
def splitA (l oth : List Value) (other size room : Int) (n : Nat) : Int :=
  if l = [] then 8 else if ¬ (1 ≤ other ∧ oth = []) ∨ size < 0 then 1 else if 32 ≤ n then 3 else if room < 3 ∨ room - 2 < size then 5 else 0
section
variable {T : F} {w : World} {tb : Nat} {pane other size : Int} {l oth : List Value}
set_option maxRecDepth 100000 in
set_option maxHeartbeats 8000000 in
theorem Split_no1 (ok : T.Ok) (hin : T.In w) (hv : T.ptrs[0]? = some (pV tb)) (hl : (T.ups pane)[0]? = some []) (x y : Bool) :
    Calls Tryd.prog 10 #[pV tb, .int .i64 pane, .int .i64 other, .bool x, .int .i64 size, .bool y] w fun e w' => e = .returned (.int .i64 8) ∧ Below w.heap.size w w' := by
  have ku := up_at (p := pane) T ok.one ok.big w hin 0 _ _ hv hl
  have KU := Lib.hid ku
  clear ku hin hv hl ok
  unfold pV at KU ⊢
  go_enter Tryd.func10, Tryd.ntmps10
  go_wp2_with fail
  refine KU.out.mono ?_
  rintro _ w1 ⟨u, rfl, hp, hb⟩
  obtain rfl := hp.2 rfl
  have hq := eqnil_none w1
  go_wp2_with fail
  go_ret
  exact ⟨rfl, hb⟩
set_option maxRecDepth 100000 in
set_option maxHeartbeats 8000000 in
theorem Split_no2 (ok : T.Ok) (hin : T.In w) (hv : T.ptrs[0]? = some (pV tb)) (hl : (T.ups pane)[0]? = some l) (hne : l ≠ []) (ho : (T.ups other)[0]? = some oth) (hbad : ¬ (1 ≤ other ∧ oth = []) ∨ size < 0) (x y : Bool) :
    Calls Tryd.prog 10 #[pV tb, .int .i64 pane, .int .i64 other, .bool x, .int .i64 size, .bool y] w fun e w' => e = .returned (.int .i64 1) ∧ Below w.heap.size w w' := by
  have ku := up_at (p := pane) T ok.one ok.big w hin 0 _ _ hv hl
  have km := fun V (hV : Below w.heap.size w V) => mayCome_at (p := other) ok.one ok.big (hin.below hV) hv ho
  obtain ⟨d, hd⟩ : ∃ d, decide (1 ≤ other ∧ oth = []) = d := ⟨_, rfl⟩
  rw [hd] at km
  have KU := Lib.hid ku
  have KM := Lib.hid km
  have HD := Lib.hid hd
  have HBAD := Lib.hid hbad
  clear ku hin hv hl ok km hd hbad
  unfold pV at KU KM ⊢
  go_enter Tryd.func10, Tryd.ntmps10
  go_wp2_with fail
  refine KU.out.mono ?_
  rintro _ w1 ⟨u, rfl, hp, hb⟩
  rcases hp.shape with ⟨h, _⟩ | ⟨_, g, c, rfl, hg⟩
  · exact absurd h hne
  have hq := eqnil_some ⟨g, 0, none⟩ l.length c w1
  cases d with
  | false =>
    go_wp2_with fail
    refine (KM.out _ hb).mono ?_
    rintro _ w2 ⟨rfl, hb2⟩
    go_wp2_with fail
    go_ret
    exact ⟨rfl, hb.trans (hb2.mono hb.size)⟩
  | true =>
    have hs : size < 0 := HBAD.out.resolve_left fun h => h (of_decide_eq_true HD.out)
    go_wp2_with fail
    refine (KM.out _ hb).mono ?_
    rintro _ w2 ⟨rfl, hb2⟩
    go_wp2_with fail
    go_ret
    exact ⟨rfl, hb.trans (hb2.mono hb.size)⟩
set_option maxRecDepth 100000 in
set_option maxHeartbeats 8000000 in
theorem Split_no3 (ok : T.Ok) (hin : T.In w) (hv : T.ptrs[0]? = some (pV tb)) (hl : (T.ups pane)[0]? = some l) (hne : l ≠ []) (ho : (T.ups other)[0]? = some oth) (hgood : 1 ≤ other ∧ oth = []) (hs : 0 ≤ size) {ps : List Int} (hps : T.pns[0]? = some ps) (hn : 32 ≤ ps.length) (hpl : ps.length ≤ 1000000) (x y : Bool) :
    Calls Tryd.prog 10 #[pV tb, .int .i64 pane, .int .i64 other, .bool x, .int .i64 size, .bool y] w fun e w' => e = .returned (.int .i64 3) ∧ Below w.heap.size w w' := by
  have ku := up_at (p := pane) T ok.one ok.big w hin 0 _ _ hv hl
  have km := fun V (hV : Below w.heap.size w V) => mayCome_at (p := other) ok.one ok.big (hin.below hV) hv ho
  have kp := fun V (hV : Below w.heap.size w V) => panes_at ok.one (hin.below hV) hv hps hpl
  have hd : decide (1 ≤ other ∧ oth = []) = true := decide_eq_true hgood
  rw [hd] at km
  have h32 : (32 : Int) ≤ (ps.length : Int) := by omega
  have KU := Lib.hid ku
  have KM := Lib.hid km
  have KP := Lib.hid kp
  clear ku hin hv hl ok km hd kp hps
  unfold pV at KU KM KP ⊢
  go_enter Tryd.func10, Tryd.ntmps10
  go_wp2_with fail
  refine KU.out.mono ?_
  rintro _ w1 ⟨u, rfl, hp, hb⟩
  rcases hp.shape with ⟨h, _⟩ | ⟨_, g, c, rfl, hg⟩
  · exact absurd h hne
  have hq := eqnil_some ⟨g, 0, none⟩ l.length c w1
  go_wp2_with fail
  refine (KM.out _ hb).mono ?_
  rintro _ w2 ⟨rfl, hb2⟩
  have hbb2 := hb.trans (hb2.mono hb.size)
  go_wp2_with fail
  refine (KP.out _ hbb2).mono ?_
  rintro _ w3 ⟨u3, rfl, hu3, hb3⟩
  obtain ⟨A3, c3, rfl⟩ := own_slice hu3
  go_wp2_with fail
  go_ret
  exact ⟨rfl, hbb2.trans (hb3.mono hbb2.size)⟩
end
end Go.Proofs.YtkanglfpiahecaaDoor.Lyt
/- A pane split: it is. -/
namespace Go.Proofs.YtkanglfpiahecaaDoor.Lyt
open Go.RowKit

/-- What lies there when a pane was split: a tree that is, but for its places, the one with t0 for the leaf and all splits above it made anew. -/
structure Splat (T : F) (w w' : World) (t0 : F) (frs : List Fr) : Prop where
  ex : ∃ T' : F, T'.In w' ∧ T'.has1 ∧ T'.blks.Nodup ∧ (∀ x ∈ T'.blks, x ∈ T.blks ∨ w.heap.size ≤ x) ∧ T'.ptrs = T.ptrs ∧ T'.bare = (rema t0 frs).bare ∧ T'.cnt = T.cnt + 1
  only : Only T.blks w w'
set_option maxRecDepth 100000 in
theorem split2_at {al : Int} {b kb c1 c2 : Nat} {p1 u1 v1 p2 u2 v2 : Int} {V : World} (h1 : BN V c1 (leafC p1 u1 v1)) (h2 : BN V c2 (leafC p2 u2 v2)) (hB : BL V kb 63 [pV c1, pV c2]) (hb : b < V.heap.size) (hb1 : b ≠ c1) (hb2 : b ≠ c2) :
    Calls Tryd.prog 29 #[.int .i64 al, .slice (some ⟨kb, 0, none⟩) 2 2] V fun e W' => ∃ q x0 x1 x2 x3 A n c, e = .returned (pV q) ∧ BN W' q [.int .i64 x0, .int .i64 x1, .int .i64 x2, .int .i64 x3, .slice A n c] ∧ Below V.heap.size V W' ∧
      ∀ X, BN X b [.int .i64 x0, .int .i64 x1, .int .i64 x2, .int .i64 x3, .slice A n c] → Only [b] W' X → ∃ kb2 cap2, V.heap.size ≤ kb2 ∧ kb2 < X.heap.size ∧ (F.remk b kb2 cap2 al (.leaf c1 p1 u1 v1 (.leaf c2 p2 u2 v2 .nil))).In X := by
  have hin : (F.leaf c1 p1 u1 v1 (.leaf c2 p2 u2 v2 .nil)).In V := ⟨h1, h2, trivial⟩
  refine (split_at (al := al) (kb := kb) (c := 2) (K := .leaf c1 p1 u1 v1 (.leaf c2 p2 u2 v2 .nil)) hin trivial (fun i v hi => by
    rw [hB.cell]
    exact hi) (by simp [F.cnt])).mono ?_
  rintro e W' ⟨u, hown, hbl, hb3, hor⟩
  obtain ⟨q, x0, x1, x2, x3, A, n, c, r1, r2, r3⟩ := res5 (b := b) rfl hin hb3 trivial (by simp [F.len]) hown hbl hor (by simp [F.blks, hb1, hb2]) hb
  exact ⟨q, x0, x1, x2, x3, A, n, c, r1, r2, hb3, r3⟩
theorem splat_make {T : F} {w w1 X : World} {b g c kb2 cap2 c1 c2 : Nat} {al p1 u1 v1 p2 u2 v2 p s0 s1 : Int} {l : List Value} {frs : List Fr} (hperm : T.blks.Perm ((F.leaf b p s0 s1 .nil).blks ++ frsB frs)) (hnod : T.blks.Nodup) (hptl : T.ptrs = lastP [pV b] frs) (hcnt : T.cnt = 1 + frsC frs) (hfew : T.cnt ≤ 100000) (hbig : T.blks.length ≤ 1000000)
    (hfh : ∀ fr ∈ frs, fr.l.has1 ∧ fr.r.has1) (hfr : FrsIn w [pV b] frs) (hin : T.In w) (ho : Only [b] w X) (hin9 : (F.remk b kb2 cap2 al (.leaf c1 p1 u1 v1 (.leaf c2 p2 u2 v2 .nil))).In X) (h1 : w.heap.size ≤ c1) (h2 : w.heap.size ≤ c2) (h12 : c1 ≠ c2) (hk : w.heap.size ≤ kb2) (hk1 : kb2 ≠ c1) (hk2 : kb2 ≠ c2)
    (hg : w.heap.size ≤ g) (hgX : g < X.heap.size) (hl : l = pV b :: frs.map (fun fr => pV fr.b)) (hcell : ∀ (j : Nat) u, l[j]? = some u → w1.cell? ((⟨g, 0, none⟩ : Addr).add j) = some u) (hw1 : X.heap[g]? = w1.heap[g]?) {o : Nat} (ho1 : o = 1 ∨ frs = []) :
    Calls Tryd.prog 30 #[.slice (some ⟨g, o, none⟩) frs.length c] X fun e w' => e = .returned (.tuple #[]) ∧ Splat T w w' (.node 0 0 0 al (.leaf 0 p1 u1 v1 (.leaf 0 p2 u2 v2 .nil)) .nil) frs := by
  have hrk : F.remk b kb2 cap2 al (.leaf c1 p1 u1 v1 (.leaf c2 p2 u2 v2 .nil)) = .node b kb2 cap2 al (.leaf c1 p1 u1 v1 (.leaf c2 p2 u2 v2 .nil)) .nil := by
    unfold F.remk
    rw [if_neg (by simp [F.flat, F.len])]
    rfl
  rw [hrk] at hin9
  have hbT : b ∈ T.blks := hperm.mem_iff.2 (by simp [F.blks])
  have hfT : ∀ x ∈ frsB frs, x ∈ T.blks := fun x hx => hperm.mem_iff.2 (by simp [hx])
  have hlt := hin.lt
  have hbl := hlt b hbT
  have hnod2 := hperm.nodup_iff.1 hnod
  have hbf : b ∉ frsB frs := fun hx => (List.nodup_append.1 hnod2).2.2 b (by simp [F.blks]) b hx rfl
  have hfl := frs_len frs
  have hlen : (frsB frs).length ≤ T.blks.length := by rw [hperm.length_eq, List.length_append]; omega
  have hrem := remake_at (w := X) (t0 := .node b kb2 cap2 al (.leaf c1 p1 u1 v1 (.leaf c2 p2 u2 v2 .nil)) .nil) (frs := frs) (g := g) (o := o) (c := c) (D := b :: kb2 :: c1 :: c2 :: frsB frs) hin9 ⟨by simp [F.len], trivial, trivial⟩
    (hfr.only ho fun x hx hm => by rw [List.mem_singleton] at hm; subst hm; exact hbf hx) hfh
    (by
      refine List.nodup_append.2 ⟨?_, (List.nodup_append.1 hnod2).2.1, fun x hx y hy => ?_⟩
      · simp only [F.blks, List.append_nil]
        simp only [List.nodup_cons, List.mem_cons, List.not_mem_nil, or_false, not_or, not_false_eq_true, List.nodup_nil, and_true]
        omega
      · rintro rfl
        have h3 := hlt x (hfT x hy)
        simp only [F.blks, List.append_nil, List.mem_cons, List.not_mem_nil, or_false] at hx
        rcases hx with rfl | rfl | rfl | rfl
        · exact hbf hy
        · omega
        · omega
        · omega)
    (fun x hx => by simpa [F.blks] using hx) (fun fr r _ => by show 1 ≤ fr.l.len + 1 + fr.r.len; omega) (by show 1 + (1 + 0) + 0 + frsC frs ≤ _; omega) (by omega) hgX
    (fun hm => by have := hlt _ (hfT _ (frs_mem _ hm)); omega)
    (fun i fr hi => by
      obtain rfl : o = 1 := ho1.resolve_right fun h => by rw [h] at hi; simp at hi
      have h3 := hcell (i + 1) (pV fr.b) (by rw [hl, List.getElem?_cons_succ, List.getElem?_map, hi]; rfl)
      have e2 : (⟨g, 0, none⟩ : Addr).add (i + 1) = ⟨g, 1 + i, none⟩ := by
        have : (⟨g, 0, none⟩ : Addr).add (i + 1) = ⟨g, 0 + (i + 1), none⟩ := by unfold Addr.add; split <;> simp_all
        rw [this]
        congr 1
        omega
      rw [e2] at h3
      exact (World.cell?_of_block (w := w1) (a := ⟨g, 1 + i, none⟩) hw1).trans h3)
  refine hrem.mono ?_
  rintro e w' ⟨rfl, T', hR⟩
  have hsame : T'.bare = (rema (.node 0 0 0 al (.leaf 0 p1 u1 v1 (.leaf 0 p2 u2 v2 .nil)) .nil) frs).bare := hR.same.trans (rema_bare (t := .node b kb2 cap2 al (.leaf c1 p1 u1 v1 (.leaf c2 p2 u2 v2 .nil)) .nil) (t2 := .node 0 0 0 al (.leaf 0 p1 u1 v1 (.leaf 0 p2 u2 v2 .nil)) .nil) rfl frs)
  refine ⟨rfl, ⟨T', hR.tin, hR.has1, by have := hR.nod; simpa [frsB] using this, fun x hx => ?_, ?_, hsame, ?_⟩, ?_⟩
  · rcases hR.dom x hx with h | h
    · simp only [List.mem_cons] at h
      rcases h with rfl | rfl | rfl | rfl | h
      · exact .inl hbT
      · exact .inr hk
      · exact .inr h1
      · exact .inr h2
      · exact .inl (hfT x h)
    · exact .inr (Nat.le_trans ho.size h)
  · rw [hptl]
    exact hR.last
  · have h3 : T'.cnt + 0 = (1 + (1 + 0) + 0) + frsC frs := hR.few
    omega
  · refine (ho.mono fun x hx => ?_).trans (hR.only.mono fun x hx => hfT x (frs_mem x hx))
    rw [List.mem_singleton] at hx
    rw [hx]
    exact hbT
end Go.Proofs.YtkanglfpiahecaaDoor.Lyt
