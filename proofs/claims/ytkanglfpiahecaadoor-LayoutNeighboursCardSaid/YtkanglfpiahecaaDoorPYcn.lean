/- A pane closed: the one behind a leaf of its own split. -/
import Derived.Test.YtkanglfpiahecaaDoorPYsh
import Derived.Test.YtkanglfpiahecaaDoorPYsq
import Derived.Test.YtkanglfpiahecaaDoorPYsa
import Derived.Test.YtkanglfpiahecaaDoorPYsb
namespace Go.Proofs.YtkanglfpiahecaaDoor.Lyt
open Go.RowKit

theorem plug_all {P : Int → Int → Int → Prop} : ∀ {frs : List Fr} {t : F}, (plug t frs).all P → t.all P ∧ ∀ fr ∈ frs, fr.l.all P ∧ fr.r.all P
  | [], _, h => ⟨h, fun _ h => by cases h⟩
  | fr :: up, t, h => by
    obtain ⟨h1, h2⟩ := plug_all (frs := up) (t := .node fr.b fr.kb fr.cap fr.al (fr.kids t) .nil) h
    have h3 := F.all_app.1 h1.1
    have h4 := F.all_app.1 h3.2
    refine ⟨h4.1, fun x hx => ?_⟩
    rcases List.mem_cons.1 hx with rfl | hx
    · exact ⟨h3.1, h4.2⟩
    · exact h2 x hx
theorem plug_ways : ∀ {frs : List Fr} {t : F}, (plug t frs).ways → t.ways ∧ ∀ fr ∈ frs, (fr.al = 0 ∨ fr.al = 1) ∧ fr.l.ways ∧ fr.r.ways
  | [], _, h => ⟨h, fun _ h => by cases h⟩
  | fr :: up, t, h => by
    obtain ⟨h1, h2⟩ := plug_ways (frs := up) (t := .node fr.b fr.kb fr.cap fr.al (fr.kids t) .nil) h
    have h3 := F.ways_app.1 h1.2.1
    have h4 := F.ways_app.1 h3.2
    refine ⟨h4.1, fun x hx => ?_⟩
    rcases List.mem_cons.1 hx with rfl | hx
    · exact ⟨h1.1, h3.1, h4.2⟩
    · exact h2 x hx
theorem Close_behind {T l0 : F} {w : World} {tb bg eb : Nat} {pane g0 g1 hp h0 h1 : Int} {fr : Fr} {up : List Fr} {l : List Value} (ok : T.Ok) (hin : T.In w) (hnod : T.blks.Nodup) (hv : T.ptrs[0]? = some (pV tb)) (hl : (T.ups pane)[0]? = some l) (hT : T = plug (.leaf bg pane g0 g1 .nil) (fr :: up)) (hlv : l = pV bg :: (fr :: up).map (fun fr => pV fr.b)) (hfl : fr.l = l0.app (.leaf eb hp h0 h1 .nil)) :
    Calls Tryd.prog 12 #[pV tb, .int .i64 pane] w fun e w' => e = .returned (.int .i64 0) ∧ Clat T w w' ({ fr with l := l0.app (.leaf eb hp (if fr.al = 0 then h0 + (g0 + 1) else h0) (if fr.al = 0 then h1 else h1 + (g1 + 1)) .nil) } :: up) := by
  have hu := up_at (p := pane) T ok.one ok.big w hin 0 _ l hv hl
  have hin2 := hin
  rw [hT] at hin2
  obtain ⟨hlf, hfr⟩ := plug_in.1 hin2
  have hsz := ok.siz
  rw [hT] at hsz
  obtain ⟨hs1, hs2⟩ := plug_all (P := fun _ s0 s1 => 0 ≤ s0 ∧ s0 ≤ 10000 ∧ 0 ≤ s1 ∧ s1 ≤ 10000) hsz
  have hg := hs1.1
  have hsl := (hs2 fr (by simp)).1
  rw [hfl] at hsl
  have hh := (F.all_app.1 hsl).2.1
  have hway := ok.way
  rw [hT] at hway
  have hal := ((plug_ways hway).2 fr (by simp)).1
  have hperm := plug_blks (fr :: up) (.leaf bg pane g0 g1 .nil)
  rw [← hT] at hperm
  have hnod2 := hperm.nodup_iff.1 hnod
  have hn3 := List.nodup_append.1 hnod2
  have hn4 := hn3.2.1
  simp only [frsB, Fr.blks, List.cons_append] at hn4
  have m1 := List.nodup_cons.1 hn4
  have m2 := List.nodup_cons.1 m1.2
  have hebl : eb ∈ fr.l.blks := by rw [hfl, F.blks_app]; simp [F.blks]
  have hd1 : eb ≠ fr.b := fun e => m1.1 (by rw [← e]; simp [hebl])
  have hd2 : eb ≠ fr.kb := fun e => m2.1 (by rw [← e]; simp [hebl])
  have hd3 : fr.kb ≠ fr.b := fun e => m1.1 (by rw [← e]; simp)
  have hlin := hfr.2.2.1
  have hE : BN w eb (leafC hp h0 h1) := by
    rw [hfl] at hlin
    exact (F.in_app.1 hlin).2.1
  have hlt0 : fr.l.tops.length = l0.len + 1 := by rw [F.tops_len, hfl, F.len_app]; rfl
  have hbsl : (fr.l.tops ++ bg :: fr.r.tops).length = fr.l.len + 1 + fr.r.len := by
    rw [List.length_append, List.length_cons, F.tops_len, F.tops_len]; omega
  have hmap : (fr.l.tops ++ bg :: fr.r.tops).map pV = fr.l.ptrs ++ [pV bg] ++ fr.r.ptrs := by
    rw [List.map_append, List.map_cons, ← F.tops_ptrs, ← F.tops_ptrs, List.append_assoc]; rfl
  have herase : ((fr.l.tops ++ bg :: fr.r.tops).map pV).eraseIdx (l0.len + 1) = fr.l.ptrs ++ fr.r.ptrs := by
    rw [List.map_append, List.map_cons, ← F.tops_ptrs, ← F.tops_ptrs, ← hlt0, F.tops_len, ← F.ptrs_len, List.eraseIdx_append_of_length_le (Nat.le_refl _), Nat.sub_self]
    rfl
  have hbk : (fr.l.tops ++ bg :: fr.r.tops)[l0.len + 1]? = some bg := by
    rw [List.getElem?_append_right (by omega), hlt0, Nat.sub_self]; rfl
  have hbh : (fr.l.tops ++ bg :: fr.r.tops)[l0.len]? = some eb := by
    rw [List.getElem?_append_left (by omega), hfl, F.tops_app, List.getElem?_append_right (by rw [F.tops_len]; omega), F.tops_len, Nat.sub_self]
    rfl
  have hne : ∀ j, j < l0.len + 1 → (fr.l.tops ++ bg :: fr.r.tops)[j]? ≠ some bg := fun j hj he => by
    rw [List.getElem?_append_left (by omega)] at he
    have hm := (F.tops_sub fr.l).subset (List.mem_of_getElem? he)
    exact hn3.2.2 bg (by simp [F.blks]) bg (by simp [frsB, Fr.blks, hm]) rfl
  have hbn : ∀ x ∈ fr.l.tops ++ bg :: fr.r.tops, ∃ cs, BN w x cs := fun x hx => by
    rcases List.mem_append.1 hx with hx | hx
    · exact F.tops_bn hfr.2.2.1 x hx
    · rcases List.mem_cons.1 hx with rfl | hx
      · exact ⟨_, hlf.1⟩
      · exact F.tops_bn hfr.2.2.2.1 x hx
  have hnn : fr.l.len + 1 + fr.r.len ≤ 1000000 := by
    have h3 := ok.big
    have h4 := hperm.length_eq
    have h5 := (F.tops_sub fr.l).length_le
    have h6 := (F.tops_sub fr.r).length_le
    rw [F.tops_len] at h5 h6
    simp only [frsB, Fr.blks, F.blks, List.length_append, List.length_cons, List.length_nil] at h4
    omega
  have hP : BN w fr.b (nodeC fr.kb (fr.l.len + 1 + fr.r.len) fr.cap fr.al) := hfr.1
  have hR : RowAt w fr.kb fr.cap ((fr.l.tops ++ bg :: fr.r.tops).map pV) := by rw [hmap]; exact hfr.2.1
  have hl2 : l = pV bg :: pV fr.b :: up.map (fun fr => pV fr.b) := hlv
  have hrem : ∀ (y0 y1 : Int) (X : World) (g c : Nat), BN X fr.b (nodeC fr.kb (fr.l.len + 1 + fr.r.len - 1) fr.cap fr.al) → RowAt X fr.kb fr.cap (((fr.l.tops ++ bg :: fr.r.tops).map pV).eraseIdx (l0.len + 1)) → BN X eb (leafC hp y0 y1) → Only [eb, fr.kb, fr.b] w X → w.heap.size ≤ g → g < X.heap.size → (∀ (i : Nat) u, l[i + 1]? = some u → X.cell? ⟨g, 1 + i, none⟩ = some u) →
      Calls Tryd.prog 30 #[.slice (some ⟨g, 1, none⟩) ((up.map fun fr => pV fr.b).length + 1) c] X fun e w' => e = .returned (.tuple #[]) ∧ Clat T w w' ({ fr with l := l0.app (.leaf eb hp y0 y1 .nil) } :: up) := fun y0 y1 X g c hP2 hR2 hE2 ho hg hgX hc => by
    refine close_make hin ok hnod hT hfl (by rw [show fr.l.len + 1 + fr.r.len - 1 = fr.l.len + fr.r.len by omega] at hP2; exact hP2) (by rw [herase] at hR2; exact hR2) hE2 ho hg hgX fun i u hi => hc i u ?_
    rw [hlv, List.getElem?_cons_succ]
    exact hi
  rcases hal with h | h
  · rw [h] at hP hrem
    simp only [h, if_true]
    exact Close_mema hu hl2 hP hR hbsl hnn hbk hbh hne hbn hlf.1 hE hd1 hd2 hd3 (by omega) (hrem _ _)
  · rw [h] at hP hrem
    simp only [h]
    exact Close_memb hu hl2 hP hR hbsl hnn hbk hbh hne hbn hlf.1 hE hd1 hd2 hd3 (by omega) (hrem _ _)
end Go.Proofs.YtkanglfpiahecaaDoor.Lyt
/- Trees whose splits go by turns: what is made anew is as it was. -/
namespace Go.Proofs.YtkanglfpiahecaaDoor.Lyt
open Go.RowKit

/-- The way of the split above. -/
def headAl (par : Int) : List Fr → Int
  | [] => par
  | fr :: _ => fr.al
def FNorm (par : Int) : List Fr → Prop
  | [] => True
  | fr :: up => fr.al ≠ headAl par up ∧ (fr.al = 0 ∨ fr.al = 1) ∧ 1 ≤ fr.l.len + fr.r.len ∧ fr.l.norm fr.al ∧ fr.r.norm fr.al ∧ FNorm par up
theorem plug_norm {par : Int} : ∀ {frs : List Fr} {t : F}, t.len = 1 → ((plug t frs).norm par ↔ t.norm (headAl par frs) ∧ FNorm par frs)
  | [], t, _ => by simp [plug, headAl, FNorm]
  | fr :: up, t, h => by
    have h2 : (fr.kids t).len = fr.l.len + 1 + fr.r.len := by rw [kids_len, h]
    show (plug (.node fr.b fr.kb fr.cap fr.al (fr.kids t) .nil) up).norm par ↔ _
    rw [plug_norm (frs := up) (t := .node fr.b fr.kb fr.cap fr.al (fr.kids t) .nil) rfl]
    show (fr.al ≠ headAl par up ∧ (fr.al = 0 ∨ fr.al = 1) ∧ 2 ≤ (fr.kids t).len ∧ (fr.kids t).norm fr.al ∧ True) ∧ FNorm par up ↔ t.norm fr.al ∧ fr.al ≠ headAl par up ∧ (fr.al = 0 ∨ fr.al = 1) ∧ 1 ≤ fr.l.len + fr.r.len ∧ fr.l.norm fr.al ∧ fr.r.norm fr.al ∧ FNorm par up
    rw [h2]
    unfold Fr.kids
    rw [F.norm_app, F.norm_app]
    constructor
    · rintro ⟨⟨a1, a2, a3, ⟨a4, a5, a6⟩, _⟩, a7⟩
      exact ⟨a5, a1, a2, by omega, a4, a6, a7⟩
    · rintro ⟨a5, a1, a2, a3, a4, a6, a7⟩
      exact ⟨⟨a1, a2, by omega, ⟨a4, a5, a6⟩, trivial⟩, a7⟩
theorem plug_bare {t t2 : F} (h : t.bare = t2.bare) : ∀ frs : List Fr, (plug t frs).bare = (plug t2 frs).bare
  | [] => h
  | fr :: up => plug_bare (t := .node fr.b fr.kb fr.cap fr.al (fr.kids t) .nil) (t2 := .node fr.b fr.kb fr.cap fr.al (fr.kids t2) .nil) (by simp [F.bare, kids_bare h]) up
/-- Kids that go the other way, two at the least: a split made anew is that split. -/
theorem remk_norm {b kb cap : Nat} {al : Int} {K : F} (h : K.norm al) (hl : 2 ≤ K.len) : F.remk b kb cap al K = .node b kb cap al K .nil := by
  unfold F.remk
  rw [F.norm_flat h, if_neg (by omega)]
/-- Made anew all the way up: as it was. -/
theorem rema_norm {par : Int} : ∀ {frs : List Fr} {t : F}, t.len = 1 → t.norm (headAl par frs) → FNorm par frs → (rema t frs).bare = (plug t frs).bare
  | [], _, _, _, _ => rfl
  | fr :: up, t, h, ht, hf => by
    have hK : (fr.kids t).norm fr.al := F.norm_app.2 ⟨hf.2.2.2.1, F.norm_app.2 ⟨ht, hf.2.2.2.2.1⟩⟩
    have hl : 2 ≤ (fr.kids t).len := by rw [kids_len, h]; have := hf.2.2.1; omega
    show (rema (F.remk fr.b 0 0 fr.al (fr.kids t)) up).bare = (plug (.node fr.b fr.kb fr.cap fr.al (fr.kids t) .nil) up).bare
    rw [remk_norm hK hl, rema_norm (frs := up) (t := .node fr.b 0 0 fr.al (fr.kids t) .nil) rfl ⟨hf.1, hf.2.1, hl, hK, trivial⟩ hf.2.2.2.2.2]
    exact plug_bare (by simp [F.bare]) up
/-- A leaf split, its parent going the other way: the split stands for the leaf. -/
theorem rema_split_other {par al : Int} {t0 : F} {frs : List Fr} {k1 k2 : F} (ht0 : t0 = .node 0 0 0 al (k1.app k2) .nil) (h1 : k1.len = 1) (h2 : k2.len = 1) (hn1 : k1.norm al) (hn2 : k2.norm al) (ha : al = 0 ∨ al = 1) (hne : al ≠ headAl par frs) (hf : FNorm par frs) :
    (rema t0 frs).bare = (plug t0 frs).bare := by
  subst ht0
  exact rema_norm rfl ⟨hne, ha, by rw [F.len_app]; omega, F.norm_app.2 ⟨hn1, hn2⟩, trivial⟩ hf
/-- A leaf split, its parent going the same way: the two stand among the parent's kids. -/
theorem rema_split_same {par : Int} {fr : Fr} {up : List Fr} {k : F} (hn : k.norm fr.al) (hk : 1 ≤ k.len) (hf : FNorm par (fr :: up)) :
    (rema (.node 0 0 0 fr.al k .nil) (fr :: up)).bare = (plug (.node fr.b fr.kb fr.cap fr.al (fr.l.app (k.app fr.r)) .nil) up).bare := by
  have hK : (fr.l.app (k.app fr.r)).norm fr.al := F.norm_app.2 ⟨hf.2.2.2.1, F.norm_app.2 ⟨hn, hf.2.2.2.2.1⟩⟩
  have hl : 2 ≤ (fr.l.app (k.app fr.r)).len := by rw [F.len_app, F.len_app]; have := hf.2.2.1; omega
  have hfa : ∀ f g : F, (f.app g).flat fr.al = (f.flat fr.al).app (g.flat fr.al) := by
    intro f g
    induction f with
    | nil => rfl
    | leaf b p s0 s1 r ih => simp [F.app, F.flat, ih]
    | node b kb cap a ks r _ ih =>
      show (if a = fr.al then ks.app ((r.app g).flat fr.al) else .node b kb cap a ks ((r.app g).flat fr.al)) = (if a = fr.al then ks.app (r.flat fr.al) else .node b kb cap a ks (r.flat fr.al)).app (g.flat fr.al)
      rw [ih]
      have happ : ∀ x y z : F, (x.app y).app z = x.app (y.app z) := by
        intro x y z
        induction x with
        | nil => rfl
        | leaf _ _ _ _ _ ih2 => simp [F.app, ih2]
        | node _ _ _ _ _ _ _ ih2 => simp [F.app, ih2]
      split
      · rw [happ]
      · rfl
  have hflat : (fr.kids (.node 0 0 0 fr.al k .nil)).flat fr.al = fr.l.app (k.app fr.r) := by
    unfold Fr.kids
    rw [hfa, F.norm_flat hf.2.2.2.1]
    show fr.l.app (if fr.al = fr.al then k.app (fr.r.flat fr.al) else _) = _
    rw [if_pos rfl, F.norm_flat hf.2.2.2.2.1]
  show (rema (F.remk fr.b 0 0 fr.al (fr.kids (.node 0 0 0 fr.al k .nil))) up).bare = _
  have hrk : F.remk fr.b 0 0 fr.al (fr.kids (.node 0 0 0 fr.al k .nil)) = .node fr.b 0 0 fr.al (fr.l.app (k.app fr.r)) .nil := by
    unfold F.remk
    rw [hflat, if_neg (by omega)]
  rw [hrk, rema_norm (par := par) (frs := up) (t := .node fr.b 0 0 fr.al (fr.l.app (k.app fr.r)) .nil) rfl ⟨hf.1, hf.2.1, hl, hK, trivial⟩ hf.2.2.2.2.2]
  exact plug_bare (by simp [F.bare]) up
end Go.Proofs.YtkanglfpiahecaaDoor.Lyt
/- A pane that stands once has one way up. -/
namespace Go.Proofs.YtkanglfpiahecaaDoor.Lyt
open Go.RowKit

/-- A pane stands there. -/
def F.inP (q : Int) : F → Prop
  | .nil => False
  | .leaf _ p _ _ r => p = q ∨ r.inP q
  | .node _ _ _ _ ks r => ks.inP q ∨ r.inP q
theorem F.inP_bare {q : Int} : ∀ {f : F}, f.bare.inP q ↔ f.inP q
  | .nil => Iff.rfl
  | .leaf _ _ _ _ r => by simp [F.bare, F.inP, F.inP_bare (f := r)]
  | .node _ _ _ _ ks r => by simp [F.bare, F.inP, F.inP_bare (f := r), F.inP_bare (f := ks)]
theorem F.inP_app {q : Int} {g : F} : ∀ {f : F}, (f.app g).inP q ↔ f.inP q ∨ g.inP q
  | .nil => by simp [F.app, F.inP]
  | .leaf _ _ _ _ r => by simp [F.app, F.inP, F.inP_app (f := r), or_assoc]
  | .node _ _ _ _ _ r => by simp [F.app, F.inP, F.inP_app (f := r), or_assoc]
theorem inP_plug {q : Int} : ∀ {frs : List Fr} {t : F}, (plug t frs).inP q ↔ t.inP q ∨ ∃ fr ∈ frs, fr.l.inP q ∨ fr.r.inP q
  | [], t => by simp [plug]
  | fr :: up, t => by
    show (plug (.node fr.b fr.kb fr.cap fr.al (fr.kids t) .nil) up).inP q ↔ _
    rw [inP_plug (frs := up)]
    show ((fr.kids t).inP q ∨ False) ∨ _ ↔ _
    unfold Fr.kids
    rw [F.inP_app, F.inP_app]
    simp only [List.mem_cons, exists_eq_or_imp]
    constructor
    · rintro (((h | h | h) | h) | h)
      · exact .inr (.inl (.inl h))
      · exact .inl h
      · exact .inr (.inl (.inr h))
      · exact h.elim
      · exact .inr (.inr h)
    · rintro (h | (h | h) | h)
      · exact .inl (.inl (.inr (.inl h)))
      · exact .inl (.inl (.inl h))
      · exact .inl (.inl (.inr (.inr h)))
      · exact .inr h
theorem mid_unique {q : Int} : ∀ {lA lB tA tB rA rB : F}, lA.app (tA.app rA) = lB.app (tB.app rB) → tA.len = 1 → tB.len = 1 → tA.inP q → tB.inP q → ¬ lA.inP q → ¬ rA.inP q → ¬ lB.inP q → ¬ rB.inP q → lA = lB ∧ tA = tB ∧ rA = rB := by
  have one : ∀ t : F, t.len = 1 → (∃ b p s0 s1, t = .leaf b p s0 s1 .nil) ∨ ∃ b kb cap al ks, t = .node b kb cap al ks .nil := fun t h => by
    cases t with
    | nil => simp [F.len] at h
    | leaf b p s0 s1 r => cases r with
      | nil => exact .inl ⟨_, _, _, _, rfl⟩
      | leaf _ _ _ _ _ => simp [F.len] at h
      | node _ _ _ _ _ _ => simp [F.len] at h
    | node b kb cap al ks r => cases r with
      | nil => exact .inr ⟨_, _, _, _, _, rfl⟩
      | leaf _ _ _ _ _ => simp [F.len] at h
      | node _ _ _ _ _ _ => simp [F.len] at h
  intro lA
  induction lA with
  | nil =>
    intro lB tA tB rA rB he hA hB iA iB _ nrA nlB nrB
    cases lB with
    | nil =>
      rcases one tA hA with ⟨b, p, s0, s1, rfl⟩ | ⟨b, kb, cap, al, ks, rfl⟩ <;> rcases one tB hB with ⟨b2, p2, u0, u1, rfl⟩ | ⟨b2, kb2, cap2, al2, ks2, rfl⟩ <;> simp [F.app] at he ⊢
      · obtain ⟨rfl, rfl, rfl, rfl, rfl⟩ := he; simp
      · obtain ⟨rfl, rfl, rfl, rfl, rfl, rfl⟩ := he; simp
    | leaf b p s0 s1 r =>
      rcases one tA hA with ⟨b2, p2, u0, u1, rfl⟩ | ⟨b2, kb2, cap2, al2, ks2, rfl⟩ <;> simp [F.app] at he
      obtain ⟨rfl, rfl, rfl, rfl, rfl⟩ := he
      simp [F.inP] at iA nlB
      exact absurd iA nlB.1
    | node b kb cap al ks r =>
      rcases one tA hA with ⟨b2, p2, u0, u1, rfl⟩ | ⟨b2, kb2, cap2, al2, ks2, rfl⟩ <;> simp [F.app] at he
      obtain ⟨rfl, rfl, rfl, rfl, rfl, rfl⟩ := he
      simp [F.inP] at iA nlB
      exact absurd iA nlB.1
  | leaf b p s0 s1 r ih =>
    intro lB tA tB rA rB he hA hB iA iB nlA nrA nlB nrB
    cases lB with
    | nil =>
      rcases one tB hB with ⟨b2, p2, u0, u1, rfl⟩ | ⟨b2, kb2, cap2, al2, ks2, rfl⟩ <;> simp [F.app] at he
      obtain ⟨rfl, rfl, rfl, rfl, _⟩ := he
      simp [F.inP] at iB nlA
      exact absurd iB nlA.1
    | leaf b2 p2 u0 u1 r2 =>
      simp [F.app] at he
      obtain ⟨rfl, rfl, rfl, rfl, he⟩ := he
      simp [F.inP] at nlA nlB
      obtain ⟨rfl, rfl, rfl⟩ := ih he hA hB iA iB nlA.2 nrA nlB.2 nrB
      exact ⟨rfl, rfl, rfl⟩
    | node _ _ _ _ _ _ => simp [F.app] at he
  | node b kb cap al ks r _ ih =>
    intro lB tA tB rA rB he hA hB iA iB nlA nrA nlB nrB
    cases lB with
    | nil =>
      rcases one tB hB with ⟨b2, p2, u0, u1, rfl⟩ | ⟨b2, kb2, cap2, al2, ks2, rfl⟩ <;> simp [F.app] at he
      obtain ⟨rfl, rfl, rfl, rfl, rfl, _⟩ := he
      simp [F.inP] at iB nlA
      exact absurd iB nlA.1
    | leaf _ _ _ _ _ => simp [F.app] at he
    | node b2 kb2 cap2 al2 ks2 r2 =>
      simp [F.app] at he
      obtain ⟨rfl, rfl, rfl, rfl, rfl, he⟩ := he
      simp [F.inP] at nlA nlB
      obtain ⟨rfl, rfl, rfl⟩ := ih he hA hB iA iB nlA.2 nrA nlB.2 nrB
      exact ⟨rfl, rfl, rfl⟩
def Fr.bare (fr : Fr) : Int × F × F := (fr.al, fr.l.bare, fr.r.bare)
theorem plug_len : ∀ {frs : List Fr} {t : F}, t.len = 1 → (plug t frs).len = 1
  | [], _, h => h
  | fr :: up, t, _ => plug_len (frs := up) (t := .node fr.b fr.kb fr.cap fr.al (fr.kids t) .nil) rfl
/-- One way up, but for the places. -/
theorem zip_unique {q a0 a1 c0 c1 : Int} {b c : Nat} : ∀ (n : Nat) {fA fB : List Fr}, fA.length = n → (plug (.leaf b q a0 a1 .nil) fA).bare = (plug (.leaf c q c0 c1 .nil) fB).bare → (∀ fr ∈ fA, ¬ fr.l.inP q ∧ ¬ fr.r.inP q) → (∀ fr ∈ fB, ¬ fr.l.inP q ∧ ¬ fr.r.inP q) → a0 = c0 ∧ a1 = c1 ∧ fA.map Fr.bare = fB.map Fr.bare
  | 0, fA, fB, hn, he, _, _ => by
    obtain rfl := List.eq_nil_of_length_eq_zero hn
    rcases List.eq_nil_or_concat fB with rfl | ⟨k, fr, rfl⟩
    · simp [plug, F.bare] at he
      exact ⟨he.1, he.2, rfl⟩
    · rw [List.concat_eq_append, plug_snoc] at he
      simp [plug, F.bare] at he
  | n + 1, fA, fB, hn, he, nA, nB => by
    rcases List.eq_nil_or_concat fA with rfl | ⟨k, fr, rfl⟩
    · simp at hn
    rcases List.eq_nil_or_concat fB with rfl | ⟨k2, fr2, rfl⟩
    · rw [List.concat_eq_append, plug_snoc] at he
      simp [plug, F.bare] at he
    rw [List.concat_eq_append] at he hn nA ⊢
    rw [List.concat_eq_append] at he nB ⊢
    rw [plug_snoc, plug_snoc] at he
    simp only [F.bare, F.node.injEq, true_and, and_true] at he
    obtain ⟨hal, hk⟩ := he
    unfold Fr.kids at hk
    rw [F.bare_app, F.bare_app, F.bare_app, F.bare_app] at hk
    have hA := nA fr (by simp)
    have hB := nB fr2 (by simp)
    have l1 : (plug (.leaf b q a0 a1 .nil) k).bare.len = 1 := by rw [F.bare_len]; exact plug_len rfl
    have l2 : (plug (.leaf c q c0 c1 .nil) k2).bare.len = 1 := by rw [F.bare_len]; exact plug_len rfl
    have i1 : (plug (.leaf b q a0 a1 .nil) k).bare.inP q := F.inP_bare.2 (inP_plug.2 (.inl (.inl rfl)))
    have i2 : (plug (.leaf c q c0 c1 .nil) k2).bare.inP q := F.inP_bare.2 (inP_plug.2 (.inl (.inl rfl)))
    obtain ⟨e1, e2, e3⟩ := mid_unique hk l1 l2 i1 i2 (fun h => hA.1 (F.inP_bare.1 h)) (fun h => hA.2 (F.inP_bare.1 h)) (fun h => hB.1 (F.inP_bare.1 h)) (fun h => hB.2 (F.inP_bare.1 h))
    obtain ⟨r1, r2, r3⟩ := zip_unique n (fA := k) (fB := k2) (by simpa using hn) e2 (fun fr hf => nA fr (by simp [hf])) (fun fr hf => nB fr (by simp [hf]))
    refine ⟨r1, r2, ?_⟩
    rw [List.map_append, List.map_append, r3]
    simp [Fr.bare, hal, e1, e3]
end Go.Proofs.YtkanglfpiahecaaDoor.Lyt
/- A split undone: plain words. -/
namespace Go.Proofs.YtkanglfpiahecaaDoor.Lyt
open Go.RowKit

theorem F.app_assoc (y z : F) : ∀ x : F, (x.app y).app z = x.app (y.app z)
  | .nil => rfl
  | .leaf _ _ _ _ r => by simp [F.app, F.app_assoc y z r]
  | .node _ _ _ _ _ r => by simp [F.app, F.app_assoc y z r]
theorem rema_congr : ∀ {fA fB : List Fr} {t t2 : F}, t.bare = t2.bare → fA.map Fr.bare = fB.map Fr.bare → (rema t fA).bare = (rema t2 fB).bare
  | [], [], _, _, h, _ => h
  | [], _ :: _, _, _, _, hf => by simp at hf
  | _ :: _, [], _, _, _, hf => by simp at hf
  | a :: fA, b :: fB, t, t2, h, hf => by
    rw [List.map_cons, List.map_cons, List.cons.injEq] at hf
    obtain ⟨h1, h2⟩ := hf
    simp only [Fr.bare, Prod.mk.injEq] at h1
    obtain ⟨e1, e2, e3⟩ := h1
    show (rema (F.remk a.b 0 0 a.al (a.kids t)) fA).bare = (rema (F.remk b.b 0 0 b.al (b.kids t2)) fB).bare
    refine rema_congr ?_ h2
    rw [e1]
    refine F.bare_remk ?_
    unfold Fr.kids
    rw [F.bare_app, F.bare_app, F.bare_app, F.bare_app, e2, e3, h]
/-- Trees that end with a leaf, but for the places. -/
theorem bare_end {p s0 s1 : Int} : ∀ {X A : F}, X.bare = A.app (.leaf 0 p s0 s1 .nil) → ∃ (l0 : F) (eb : Nat), X = l0.app (.leaf eb p s0 s1 .nil) ∧ l0.bare = A
  | .nil, A, h => by cases A <;> simp [F.bare, F.app] at h
  | .leaf b q u0 u1 r, A, h => by
    cases A with
    | nil =>
      simp [F.bare, F.app] at h
      obtain ⟨rfl, rfl, rfl, hr⟩ := h
      cases r with
      | nil => exact ⟨.nil, b, rfl, rfl⟩
      | leaf _ _ _ _ _ => simp [F.bare] at hr
      | node _ _ _ _ _ _ => simp [F.bare] at hr
    | leaf b2 q2 v0 v1 r2 =>
      simp [F.bare, F.app] at h
      obtain ⟨h0, h1, h2, h3, hr⟩ := h
      obtain ⟨l0, eb, e1, e2⟩ := bare_end hr
      exact ⟨.leaf b q u0 u1 l0, eb, by rw [e1]; rfl, by simp [F.bare, e2, h0, h1, h2, h3]⟩
    | node _ _ _ _ _ _ => simp [F.bare, F.app] at h
  | .node b kb cap al ks r, A, h => by
    cases A with
    | nil => simp [F.bare, F.app] at h
    | leaf _ _ _ _ _ => simp [F.bare, F.app] at h
    | node b2 kb2 cap2 al2 ks2 r2 =>
      simp [F.bare, F.app] at h
      obtain ⟨rfl, rfl, rfl, rfl, rfl, hr⟩ := h
      obtain ⟨l0, eb, e1, e2⟩ := bare_end hr
      exact ⟨.node b kb cap al ks l0, eb, by rw [e1]; rfl, by simp [F.bare, e2]⟩
/-- A leaf split, the new one behind it; the new one's end: all as it was. -/
theorem undo {par al p q s0 s1 sz m0 m1 : Int} {b bg : Nat} {frs fA : List Fr} {T1 : F} (hpar : par ≠ 0 ∧ par ≠ 1) (hal : al = 0 ∨ al = 1) (hnorm : (plug (.leaf b p s0 s1 .nil) frs).norm par) (hq : ¬ (plug (.leaf b p s0 s1 .nil) frs).inP q)
    (hT1 : T1.bare = (rema (.node 0 0 0 al (.leaf 0 p (if al = 0 then s0 - 1 - sz else s0) (if al = 0 then s1 else s1 - 1 - sz) (.leaf 0 q (if al = 0 then sz else s0) (if al = 0 then s1 else sz) .nil)) .nil) frs).bare)
    (hz : T1 = plug (.leaf bg q m0 m1 .nil) fA) (hA : ∀ fr ∈ fA, ¬ fr.l.inP q ∧ ¬ fr.r.inP q) :
    ∃ (fr1 : Fr) (up1 : List Fr) (l0 : F) (eb : Nat) (h0 h1 : Int), fA = fr1 :: up1 ∧ fr1.l = l0.app (.leaf eb p h0 h1 .nil) ∧
      (rema .nil ({ fr1 with l := l0.app (.leaf eb p (if fr1.al = 0 then h0 + (m0 + 1) else h0) (if fr1.al = 0 then h1 else h1 + (m1 + 1)) .nil) } :: up1)).bare = (plug (.leaf b p s0 s1 .nil) frs).bare := by
  obtain ⟨_, hF⟩ := (plug_norm (par := par) (frs := frs) (t := .leaf b p s0 s1 .nil) rfl).1 hnorm
  have hqf : ∀ fr ∈ frs, ¬ fr.l.inP q ∧ ¬ fr.r.inP q := fun fr hf => by
    have h := fun h => hq (inP_plug.2 (.inr ⟨fr, hf, h⟩))
    exact ⟨fun h1 => h (.inl h1), fun h1 => h (.inr h1)⟩
  have hpq : p ≠ q := fun e => hq (inP_plug.2 (.inl (.inl e)))
  obtain ⟨o0, ho0⟩ : ∃ x, x = (if al = 0 then s0 - 1 - sz else s0) := ⟨_, rfl⟩
  obtain ⟨o1, ho1⟩ : ∃ x, x = (if al = 0 then s1 else s1 - 1 - sz) := ⟨_, rfl⟩
  obtain ⟨n0, hn0⟩ : ∃ x, x = (if al = 0 then sz else s0) := ⟨_, rfl⟩
  obtain ⟨n1, hn1⟩ : ∃ x, x = (if al = 0 then s1 else sz) := ⟨_, rfl⟩
  rw [← ho0, ← ho1, ← hn0, ← hn1] at hT1
  have hy0 : (if al = 0 then o0 + (n0 + 1) else o0) = s0 := by rw [ho0, hn0]; split <;> omega
  have hy1 : (if al = 0 then o1 else o1 + (n1 + 1)) = s1 := by rw [ho1, hn1]; split <;> omega
  by_cases hh : ∃ fr up, frs = fr :: up ∧ fr.al = al
  · obtain ⟨fr, up, rfl, rfl⟩ := hh
    rw [rema_split_same (par := par) (k := .leaf 0 p o0 o1 (.leaf 0 q n0 n1 .nil)) trivial (by simp [F.len]) hF] at hT1
    have hexp : (plug (.node fr.b fr.kb fr.cap fr.al (fr.l.app ((F.leaf 0 p o0 o1 (.leaf 0 q n0 n1 .nil)).app fr.r)) .nil) up).bare = (plug (.leaf 0 q n0 n1 .nil) ({ fr with l := fr.l.app (.leaf 0 p o0 o1 .nil) } :: up)).bare := by
      show _ = (plug (.node fr.b fr.kb fr.cap fr.al ((fr.l.app (.leaf 0 p o0 o1 .nil)).app ((F.leaf 0 q n0 n1 .nil).app fr.r)) .nil) up).bare
      rw [F.app_assoc]
      rfl
    rw [hexp, hz] at hT1
    have hqfr := hqf fr (by simp)
    obtain ⟨r1, r2, r3⟩ := zip_unique _ rfl hT1 hA (fun f2 h2 => by
      rcases List.mem_cons.1 h2 with rfl | h2
      · refine ⟨fun h => ?_, hqfr.2⟩
        rcases F.inP_app.1 h with h | h
        · exact hqfr.1 h
        · rcases h with h | h
          · exact hpq h
          · exact h
      · exact hqf f2 (by simp [h2]))
    cases fA with
    | nil => simp at r3
    | cons fr1 up1 =>
      rw [List.map_cons, List.map_cons, List.cons.injEq] at r3
      obtain ⟨e1, e2⟩ := r3
      simp only [Fr.bare, Prod.mk.injEq, F.bare_app] at e1
      obtain ⟨f1, f2, f3⟩ := e1
      obtain ⟨l0, eb, g1, g2⟩ := bare_end (A := fr.l.bare) (by rw [f2]; rfl)
      refine ⟨fr1, up1, l0, eb, o0, o1, rfl, g1, ?_⟩
      rw [show (if fr1.al = 0 then o0 + (m0 + 1) else o0) = s0 by rw [f1, r1]; exact hy0, show (if fr1.al = 0 then o1 else o1 + (m1 + 1)) = s1 by rw [f1, r2]; exact hy1]
      have hc : (rema .nil ({ fr1 with l := l0.app (.leaf eb p s0 s1 .nil) } :: up1)).bare = (rema .nil ({ fr with l := fr.l.app (.leaf 0 p s0 s1 .nil) } :: up)).bare := by
        refine rema_congr rfl ?_
        rw [List.map_cons, List.map_cons, e2]
        simp only [Fr.bare, F.bare_app, f1, f3, g2]
        rfl
      rw [hc]
      have hK : (fr.l.app ((F.leaf 0 p s0 s1 .nil).app fr.r)).norm fr.al := F.norm_app.2 ⟨hF.2.2.2.1, hF.2.2.2.2.1⟩
      have hl : 2 ≤ (fr.l.app ((F.leaf 0 p s0 s1 .nil).app fr.r)).len := by rw [F.len_app]; have := hF.2.2.1; simp [F.app, F.len]; omega
      show (rema (F.remk fr.b 0 0 fr.al ((fr.l.app (.leaf 0 p s0 s1 .nil)).app (F.nil.app fr.r))) up).bare = _
      rw [show (fr.l.app (.leaf 0 p s0 s1 .nil)).app (F.nil.app fr.r) = fr.l.app ((F.leaf 0 p s0 s1 .nil).app fr.r) by rw [F.app_assoc]; rfl, remk_norm hK hl, rema_norm (par := par) (frs := up) (t := .node fr.b 0 0 fr.al (fr.l.app ((F.leaf 0 p s0 s1 .nil).app fr.r)) .nil) rfl ⟨hF.1, hF.2.1, hl, hK, trivial⟩ hF.2.2.2.2.2]
      exact plug_bare (by simp [F.bare, F.bare_app, F.app, Fr.kids]) up
  · have hne : al ≠ headAl par frs := fun e => by
      cases frs with
      | nil => have e2 : al = par := e; omega
      | cons fr up => exact hh ⟨fr, up, rfl, e.symm⟩
    have hso := rema_split_other (par := par) (al := al) (t0 := .node 0 0 0 al (.leaf 0 p o0 o1 (.leaf 0 q n0 n1 .nil)) .nil) (k1 := .leaf 0 p o0 o1 .nil) (k2 := .leaf 0 q n0 n1 .nil) rfl rfl rfl trivial trivial hal hne hF
    rw [hso] at hT1
    have hexp : (plug (.node 0 0 0 al (.leaf 0 p o0 o1 (.leaf 0 q n0 n1 .nil)) .nil) frs) = plug (.leaf 0 q n0 n1 .nil) (⟨0, 0, 0, al, .leaf 0 p o0 o1 .nil, .nil⟩ :: frs) := rfl
    rw [hexp, hz] at hT1
    obtain ⟨r1, r2, r3⟩ := zip_unique _ rfl hT1 hA (fun f2 h2 => by
      rcases List.mem_cons.1 h2 with rfl | h2
      · refine ⟨fun h => ?_, fun h => h⟩
        rcases h with h | h
        · exact hpq h
        · exact h
      · exact hqf f2 h2)
    cases fA with
    | nil => simp at r3
    | cons fr1 up1 =>
      rw [List.map_cons, List.map_cons, List.cons.injEq] at r3
      obtain ⟨e1, e2⟩ := r3
      simp only [Fr.bare, Prod.mk.injEq] at e1
      obtain ⟨f1, f2, f3⟩ := e1
      obtain ⟨l0, eb, g1, g2⟩ := bare_end (A := .nil) (by rw [f2]; rfl)
      refine ⟨fr1, up1, l0, eb, o0, o1, rfl, g1, ?_⟩
      rw [show (if fr1.al = 0 then o0 + (m0 + 1) else o0) = s0 by rw [f1, r1]; exact hy0, show (if fr1.al = 0 then o1 else o1 + (m1 + 1)) = s1 by rw [f1, r2]; exact hy1]
      have hc : (rema .nil ({ fr1 with l := l0.app (.leaf eb p s0 s1 .nil) } :: up1)).bare = (rema .nil (⟨0, 0, 0, al, .leaf 0 p s0 s1 .nil, .nil⟩ :: frs)).bare := by
        refine rema_congr rfl ?_
        rw [List.map_cons, List.map_cons, e2]
        simp only [Fr.bare, F.bare_app, f1, f3, g2]
        rfl
      rw [hc]
      show (rema (.leaf 0 p s0 s1 .nil) frs).bare = _
      have hfin := rema_norm (par := par) (frs := frs) (t := .leaf 0 p s0 s1 .nil) rfl trivial hF
      exact hfin.trans (plug_bare (t := .leaf 0 p s0 s1 .nil) (t2 := .leaf b p s0 s1 .nil) rfl frs)
end Go.Proofs.YtkanglfpiahecaaDoor.Lyt
/- Whether a pane stands there, by its way up. -/
namespace Go.Proofs.YtkanglfpiahecaaDoor.Lyt
open Go.RowKit

theorem lastUp_nil {u : Value} : ∀ {l : List (List Value)}, (lastUp u l = [] ↔ ∀ x ∈ l, x = []) := by
  intro l
  rcases List.eq_nil_or_concat l with rfl | ⟨k, x, rfl⟩
  · simp [lastUp]
  · induction hk : k.length generalizing k x with
    | zero =>
      obtain rfl := List.eq_nil_of_length_eq_zero hk
      rw [List.concat_eq_append, lastUp_app]
      by_cases hx : x = [] <;> simp [hx, lastUp]
    | succ n ih =>
      rw [List.concat_eq_append, lastUp_app]
      by_cases hx : x = []
      · rw [if_pos hx]
        rcases List.eq_nil_or_concat k with rfl | ⟨k2, y, rfl⟩
        · simp at hk
        · rw [ih k2 y (by simpa using hk)]
          subst hx
          simp only [List.concat_eq_append, List.mem_append, List.mem_singleton]
          constructor
          · rintro h x (hx | hx)
            · exact h x hx
            · exact hx
          · intro h x hx
            exact h x (.inl hx)
      · rw [if_neg hx]
        simp [hx]
theorem inP_ups {p : Int} : ∀ {f : F}, (f.inP p ↔ ∃ x ∈ f.ups p, x ≠ [])
  | .nil => by simp [F.inP, F.ups]
  | .leaf b q s0 s1 r => by
    simp only [F.inP, F.ups, List.mem_cons, exists_eq_or_imp]
    rw [inP_ups (f := r)]
    by_cases h : q = p <;> simp [h]
  | .node b kb cap al ks r => by
    simp only [F.inP, F.ups, List.mem_cons, exists_eq_or_imp]
    rw [inP_ups (f := r), inP_ups (f := ks)]
    have h := lastUp_nil (u := pV b) (l := ks.ups p)
    have h2 : lastUp (pV b) (ks.ups p) ≠ [] ↔ ∃ x ∈ ks.ups p, x ≠ [] := by
      rw [ne_eq, h]
      simp
    rw [h2]
/-- Of one tree. -/
theorem inP_one {p : Int} {T : F} {l : List Value} (hlen : T.len = 1) (hl : (T.ups p)[0]? = some l) : T.inP p ↔ l ≠ [] := by
  rw [inP_ups]
  have h1 : (T.ups p).length = 1 := by rw [F.ups_len]; exact hlen
  obtain ⟨x, hx⟩ := List.length_eq_one_iff.1 h1
  rw [hx] at hl ⊢
  obtain rfl : x = l := by simpa using hl
  simp
theorem one_self : ∀ {T : F}, T.len = 1 → T.one 0 = T
  | .nil, h => by simp [F.len] at h
  | .leaf _ _ _ _ r, h => by
    cases r with
    | nil => rfl
    | leaf _ _ _ _ _ => simp [F.len] at h
    | node _ _ _ _ _ _ => simp [F.len] at h
  | .node _ _ _ _ _ r, h => by
    cases r with
    | nil => rfl
    | leaf _ _ _ _ _ => simp [F.len] at h
    | node _ _ _ _ _ _ => simp [F.len] at h
/-- A pane that stands there has its way up. -/
theorem zip_one {p : Int} {T : F} {l : List Value} (hlen : T.len = 1) (hl : (T.ups p)[0]? = some l) (hne : l ≠ []) : ∃ (frs : List Fr) (b : Nat) (s0 s1 : Int), l = pV b :: frs.map (fun fr => pV fr.b) ∧ T = plug (.leaf b p s0 s1 .nil) frs := by
  obtain ⟨frs, b, s0, s1, h1, h2⟩ := F.zip T 0 l hl hne
  rw [one_self hlen] at h2
  exact ⟨frs, b, s0, s1, h1, h2⟩
end Go.Proofs.YtkanglfpiahecaaDoor.Lyt
/- A pane split, whatever it is told. -/
namespace Go.Proofs.YtkanglfpiahecaaDoor.Lyt
open Go.RowKit

/-- What stands for the leaf of a pane that is split. -/
def t0P (x y : Bool) (p q s0 s1 sz : Int) : F :=
  .node 0 0 0 (if x then 0 else 1) (if y then .leaf 0 q (if x then sz else s0) (if x then s1 else sz) (.leaf 0 p (if x then s0 - 1 - sz else s0) (if x then s1 else s1 - 1 - sz) .nil)
    else .leaf 0 p (if x then s0 - 1 - sz else s0) (if x then s1 else s1 - 1 - sz) (.leaf 0 q (if x then sz else s0) (if x then s1 else sz) .nil)) .nil
theorem Split_any {T : F} {w : World} {tb : Nat} {pane other size : Int} {l oth : List Value} {ps : List Int} (ok : T.Ok) (hlen : T.len = 1) (hin : T.In w) (hv : T.ptrs[0]? = some (pV tb)) (hnod : T.blks.Nodup) (hl : (T.ups pane)[0]? = some l) (ho : (T.ups other)[0]? = some oth) (hps : T.pns[0]? = some ps) (hpl : ps.length ≤ 1000000) (hs : 0 ≤ size) (x y : Bool) :
    Calls Tryd.prog 10 #[pV tb, .int .i64 pane, .int .i64 other, .bool x, .int .i64 size, .bool y] w fun e w' => ∃ ans, e = .returned (.int .i64 ans) ∧
      ((ans ≠ 0 ∧ Below w.heap.size w w') ∨ (ans = 0 ∧ l ≠ [] ∧ oth = [] ∧ ∃ (frs : List Fr) (b : Nat) (s0 s1 sz : Int), T = plug (.leaf b pane s0 s1 .nil) frs ∧ (0 ≤ sz ∧ 0 ≤ s0 ∧ s0 ≤ 10000 ∧ 0 ≤ s1 ∧ s1 ≤ 10000 ∧ sz ≤ (if x then s0 else s1) - 2) ∧ Splat T w w' (t0P x y pane other s0 s1 sz) frs)) := by
  by_cases h1 : l = []
  · subst h1
    exact (Split_no1 ok hin hv hl x y).mono fun e w' ⟨he, hb⟩ => ⟨8, he, .inl ⟨by decide, hb⟩⟩
  by_cases h2 : 1 ≤ other ∧ oth = []
  case neg => exact (Split_no2 ok hin hv hl h1 ho (.inl h2) x y).mono fun e w' ⟨he, hb⟩ => ⟨1, he, .inl ⟨by decide, hb⟩⟩
  by_cases h3 : ps.length < 32
  case neg => exact (Split_no3 ok hin hv hl h1 ho h2 hs hps (by omega) hpl x y).mono fun e w' ⟨he, hb⟩ => ⟨3, he, .inl ⟨by decide, hb⟩⟩
  obtain ⟨frs, b, s0, s1, hlv, hT⟩ := zip_one hlen hl h1
  have hsz := ok.siz
  rw [hT] at hsz
  have hg := (plug_all (P := fun _ s0 s1 => 0 ≤ s0 ∧ s0 ≤ 10000 ∧ 0 ≤ s1 ∧ s1 ≤ 10000) hsz).1.1
  cases x
  case true =>
    by_cases h4 : s0 < 3
    · exact (Split_no4a1 ok hin hv hl hT hlv ho h2 hs hps h3 h4 y).mono fun e w' ⟨he, hb⟩ => ⟨5, he, .inl ⟨by decide, hb⟩⟩
    by_cases h5 : s0 - 2 < size
    · exact (Split_no4a2 ok hin hv hl hT hlv ho h2 hs hps h3 (by omega) (by omega) h5 y).mono fun e w' ⟨he, hb⟩ => ⟨5, he, .inl ⟨by decide, hb⟩⟩
    by_cases h6 : size = 0
    · cases y
      · exact (Split_yesapz ok hin hv hl hT hlv ho h2 hs hps h3 (by omega) (by omega) (by omega) h6 rfl hnod).mono fun e w' ⟨he, hb⟩ => ⟨0, he, .inr ⟨rfl, h1, h2.2, frs, b, s0, s1, ((s0 - 1) / 2), hT, by simp only [if_true]; omega, hb⟩⟩
      · exact (Split_yesaqz ok hin hv hl hT hlv ho h2 hs hps h3 (by omega) (by omega) (by omega) h6 rfl hnod).mono fun e w' ⟨he, hb⟩ => ⟨0, he, .inr ⟨rfl, h1, h2.2, frs, b, s0, s1, ((s0 - 1) / 2), hT, by simp only [if_true]; omega, hb⟩⟩
    · cases y
      · exact (Split_yesapn ok hin hv hl hT hlv ho h2 hs hps h3 (by omega) (by omega) (by omega) h6 rfl hnod).mono fun e w' ⟨he, hb⟩ => ⟨0, he, .inr ⟨rfl, h1, h2.2, frs, b, s0, s1, size, hT, by simp only [if_true]; omega, hb⟩⟩
      · exact (Split_yesaqn ok hin hv hl hT hlv ho h2 hs hps h3 (by omega) (by omega) (by omega) h6 rfl hnod).mono fun e w' ⟨he, hb⟩ => ⟨0, he, .inr ⟨rfl, h1, h2.2, frs, b, s0, s1, size, hT, by simp only [if_true]; omega, hb⟩⟩
  case false =>
    by_cases h4 : s1 < 3
    · exact (Split_no4b1 ok hin hv hl hT hlv ho h2 hs hps h3 h4 y).mono fun e w' ⟨he, hb⟩ => ⟨5, he, .inl ⟨by decide, hb⟩⟩
    by_cases h5 : s1 - 2 < size
    · exact (Split_no4b2 ok hin hv hl hT hlv ho h2 hs hps h3 (by omega) (by omega) h5 y).mono fun e w' ⟨he, hb⟩ => ⟨5, he, .inl ⟨by decide, hb⟩⟩
    by_cases h6 : size = 0
    · cases y
      · exact (Split_yesbpz ok hin hv hl hT hlv ho h2 hs hps h3 (by omega) (by omega) (by omega) h6 rfl hnod).mono fun e w' ⟨he, hb⟩ => ⟨0, he, .inr ⟨rfl, h1, h2.2, frs, b, s0, s1, ((s1 - 1) / 2), hT, by simp only [if_false, Bool.false_eq_true]; omega, hb⟩⟩
      · exact (Split_yesbqz ok hin hv hl hT hlv ho h2 hs hps h3 (by omega) (by omega) (by omega) h6 rfl hnod).mono fun e w' ⟨he, hb⟩ => ⟨0, he, .inr ⟨rfl, h1, h2.2, frs, b, s0, s1, ((s1 - 1) / 2), hT, by simp only [if_false, Bool.false_eq_true]; omega, hb⟩⟩
    · cases y
      · exact (Split_yesbpn ok hin hv hl hT hlv ho h2 hs hps h3 (by omega) (by omega) (by omega) h6 rfl hnod).mono fun e w' ⟨he, hb⟩ => ⟨0, he, .inr ⟨rfl, h1, h2.2, frs, b, s0, s1, size, hT, by simp only [if_false, Bool.false_eq_true]; omega, hb⟩⟩
      · exact (Split_yesbqn ok hin hv hl hT hlv ho h2 hs hps h3 (by omega) (by omega) (by omega) h6 rfl hnod).mono fun e w' ⟨he, hb⟩ => ⟨0, he, .inr ⟨rfl, h1, h2.2, frs, b, s0, s1, size, hT, by simp only [if_false, Bool.false_eq_true]; omega, hb⟩⟩
end Go.Proofs.YtkanglfpiahecaaDoor.Lyt
/- A window's tree as a law has it; a pane of it split. -/
namespace Go.Proofs.YtkanglfpiahecaaDoor.Lyt
open Go.RowKit

section
variable {P : Int → Int → Int → Prop}
theorem F.all_flat (al : Int) : ∀ {f : F}, f.all P → (f.flat al).all P
  | .nil, _ => trivial
  | .leaf _ _ _ _ r, h => ⟨h.1, F.all_flat al (f := r) h.2⟩
  | .node b kb cap a ks r, h => by
    show (if a = al then ks.app (r.flat al) else F.node b kb cap a ks (r.flat al)).all P
    split
    · exact F.all_app.2 ⟨h.1, F.all_flat al (f := r) h.2⟩
    · exact ⟨h.1, F.all_flat al (f := r) h.2⟩
theorem F.all_move (b : Nat) : ∀ {f : F}, f.all P → (f.move b).all P
  | .nil, h => h
  | .leaf _ _ _ _ _, h => h
  | .node _ _ _ _ _ _, h => h
theorem remk_all {b kb cap : Nat} {al : Int} {K : F} (h : K.all P) : (F.remk b kb cap al K).all P := by
  unfold F.remk
  split
  · exact F.all_move b (F.all_flat al h)
  · exact ⟨F.all_flat al h, trivial⟩
theorem rema_all : ∀ {frs : List Fr} {t : F}, t.all P → (∀ fr ∈ frs, fr.l.all P ∧ fr.r.all P) → (rema t frs).all P
  | [], _, h, _ => h
  | fr :: up, t, h, hf => by
    have h1 := hf fr (List.mem_cons_self ..)
    exact rema_all (frs := up) (remk_all (F.all_app.2 ⟨h1.1, F.all_app.2 ⟨h, h1.2⟩⟩)) fun x hx => hf x (List.mem_cons_of_mem _ hx)
end
/-- How many leaves have that pane. -/
def F.num (q : Int) : F → Nat
  | .nil => 0
  | .leaf _ p _ _ r => (if p = q then 1 else 0) + r.num q
  | .node _ _ _ _ ks r => ks.num q + r.num q
section
variable {q : Int}
theorem F.num_app (g : F) : ∀ f : F, (f.app g).num q = f.num q + g.num q
  | .nil => by simp [F.app, F.num]
  | .leaf _ _ _ _ r => by simp [F.app, F.num, F.num_app g r]; omega
  | .node _ _ _ _ _ r => by simp [F.app, F.num, F.num_app g r]; omega
theorem F.num_bare : ∀ f : F, f.bare.num q = f.num q
  | .nil => rfl
  | .leaf _ _ _ _ r => by simp [F.bare, F.num, F.num_bare r]
  | .node _ _ _ _ ks r => by simp [F.bare, F.num, F.num_bare r, F.num_bare ks]
theorem F.num_flat (al : Int) : ∀ f : F, (f.flat al).num q = f.num q
  | .nil => rfl
  | .leaf _ _ _ _ r => by simp [F.flat, F.num, F.num_flat al r]
  | .node b kb cap a ks r => by
    show (if a = al then ks.app (r.flat al) else F.node b kb cap a ks (r.flat al)).num q = _
    split
    · rw [F.num_app, F.num_flat al r]; rfl
    · simp [F.num, F.num_flat al r]
theorem F.num_move (b : Nat) : ∀ f : F, (f.move b).num q = f.num q
  | .nil => rfl
  | .leaf _ _ _ _ _ => rfl
  | .node _ _ _ _ _ _ => rfl
theorem num_remk {b kb cap : Nat} {al : Int} {K : F} : (F.remk b kb cap al K).num q = K.num q := by
  unfold F.remk
  split
  · rw [F.num_move, F.num_flat]
  · simp [F.num, F.num_flat]
def frsN (q : Int) : List Fr → Nat
  | [] => 0
  | fr :: up => fr.l.num q + fr.r.num q + frsN q up
theorem num_kids {fr : Fr} {t : F} : (fr.kids t).num q = fr.l.num q + t.num q + fr.r.num q := by unfold Fr.kids; rw [F.num_app, F.num_app]; omega
theorem num_rema : ∀ (frs : List Fr) (t : F), (rema t frs).num q = t.num q + frsN q frs
  | [], _ => rfl
  | fr :: up, t => by
    show (rema (F.remk fr.b 0 0 fr.al (fr.kids t)) up).num q = _
    rw [num_rema up, num_remk, num_kids, frsN]; omega
theorem num_plug : ∀ (frs : List Fr) (t : F), (plug t frs).num q = t.num q + frsN q frs
  | [], _ => rfl
  | fr :: up, t => by
    show (plug (.node fr.b fr.kb fr.cap fr.al (fr.kids t) .nil) up).num q = _
    rw [num_plug up]
    show (fr.kids t).num q + 0 + _ = _
    rw [num_kids, frsN]; omega
theorem num_in : ∀ {f : F}, f.inP q ↔ 0 < f.num q
  | .nil => by simp [F.inP, F.num]
  | .leaf _ p _ _ r => by
    have := num_in (f := r)
    simp only [F.inP, F.num]
    by_cases hpq : p = q
    · rw [if_pos hpq]
      exact ⟨fun _ => by omega, fun _ => .inl hpq⟩
    · rw [if_neg hpq, Nat.zero_add, ← this]
      exact ⟨fun h => h.elim (fun h => absurd h hpq) id, .inr⟩
  | .node _ _ _ _ ks r => by
    have h1 := num_in (f := ks)
    have h2 := num_in (f := r)
    simp only [F.inP, F.num, h1, h2]
    omega
theorem frsN_no : ∀ {frs : List Fr}, frsN q frs = 0 → ∀ fr ∈ frs, ¬ fr.l.inP q ∧ ¬ fr.r.inP q
  | fr :: up, h, x, hx => by
    rw [frsN] at h
    rcases List.mem_cons.1 hx with rfl | hx
    · exact ⟨fun h1 => by have := num_in.1 h1; omega, fun h1 => by have := num_in.1 h1; omega⟩
    · exact frsN_no (frs := up) (by omega) x hx
end
/-- A tree as a law has it: its blocks are the call's own. -/
structure TS (w0 : World) (tb m M : Nat) (T : F) (wr : World) : Prop where
  tin : T.In wr
  siz : T.sized
  one : T.len = 1
  ptr : T.ptrs = [pV tb]
  nod : T.blks.Nodup
  norm : T.norm (-1)
  pns : T.all fun p _ _ => 1 ≤ p ∧ p ≤ (M : Int)
  lim : M ≤ 1000000
  uni : ∀ q, T.num q ≤ 1
  cnt : T.cnt ≤ m
  new : ∀ x ∈ T.blks, w0.heap.size ≤ x
  fr : Below w0.heap.size w0 wr
section
variable {w0 wr w' : World} {tb m M : Nat} {T : F}
theorem TS.ok (h : TS w0 tb m M T wr) (hm : m ≤ 40) : T.Ok := by
  have h1 := F.norm_blks h.norm
  have h2 := h.cnt
  exact ⟨F.norm_has1 h.norm, h.siz, by omega, F.norm_ways h.norm, F.all_mono (fun p _ _ hp => by have := h.lim; omega) h.pns, by omega⟩
theorem TS.below (h : TS w0 tb m M T wr) (hb : Below wr.heap.size wr w') : TS w0 tb m M T w' :=
  ⟨h.tin.below hb, h.siz, h.one, h.ptr, h.nod, h.norm, h.pns, h.lim, h.uni, h.cnt, h.new, h.fr.trans (hb.mono h.fr.size)⟩
theorem TS.hv (h : TS w0 tb m M T wr) : T.ptrs[0]? = some (pV tb) := by rw [h.ptr]; rfl
theorem one_of {α : Type} {l : List α} (h : l.length = 1) : ∃ x, l = [x] := by
  match l, h with
  | [x], _ => exact ⟨x, rfl⟩
theorem TS.vals (h : TS w0 tb m M T wr) (hm : m ≤ 40) : ∃ v0 v1, (T.vals 0 (szA 0))[0]? = some v0 ∧ (T.vals 1 (szA 1))[0]? = some v1 ∧ Within 0 0 v0 v1 := by
  obtain ⟨v0, e0⟩ := one_of ((F.vals_len 0 (szA 0) T).trans h.one)
  obtain ⟨v1, e1⟩ := one_of ((F.vals_len 1 (szA 1) T).trans h.one)
  have h1 := F.norm_has1 h.norm
  obtain ⟨_, k0⟩ := F.vals_in 0 (szA 0) T h1 (F.all_mono (fun p s0 s1 hs => by simp only [szA]; split <;> omega) h.siz)
  obtain ⟨_, k1⟩ := F.vals_in 1 (szA 1) T h1 (F.all_mono (fun p s0 s1 hs => by simp only [szA]; split <;> omega) h.siz)
  rw [e0] at k0
  rw [e1] at k1
  have hc := h.cnt
  simp only [List.sum_cons, List.sum_nil] at k0 k1
  exact ⟨v0, v1, by rw [e0]; rfl, by rw [e1]; rfl, by omega, by omega, by omega, by omega⟩
theorem TS.boxes (h : TS w0 tb m M T wr) : ∃ l : List Bx, (T.bxl 0 0)[0]? = some l ∧ 1 ≤ l.length ∧ l.length ≤ m := by
  obtain ⟨l, e0⟩ := one_of ((F.bxl_len T 0 0).trans h.one)
  obtain ⟨c, e1⟩ := one_of ((F.cnts_len T).trans h.one)
  have h1 := F.bxl_cnt T 0 0 0 l c (by rw [e0]; rfl) (by rw [e1]; rfl)
  have h2 := F.cnts_sum T
  rw [e1] at h2
  simp only [List.sum_cons, List.sum_nil] at h2
  have h3 := F.len_cnt T (F.norm_has1 h.norm)
  have h4 := h.one
  have h5 := h.cnt
  exact ⟨l, by rw [e0]; rfl, by omega, by omega⟩
/-- Its boxes told. -/
theorem ts_boxes (h : TS w0 tb m M T wr) (hm : m ≤ 40) :
    Calls Tryd.prog 8 #[pV tb] wr fun e w' => ∃ (l : List Bx) (g c : Nat), e = .returned (.slice (some ⟨g, 0, none⟩) l.length c) ∧ (T.bxl 0 0)[0]? = some l ∧ 1 ≤ l.length ∧ l.length ≤ m ∧ (wr.heap.size ≤ g ∧ g < w'.heap.size) ∧ (∀ (j : Nat) v, (l.flatMap bxC)[j]? = some v → w'.cell? ⟨g, j, none⟩ = some v) ∧ TS w0 tb m M T w' ∧ Below wr.heap.size wr w' := by
  obtain ⟨v0, v1, e0, e1, hw⟩ := h.vals hm
  obtain ⟨l, hl, h1, h2⟩ := h.boxes
  refine (Boxes_at (h.ok hm) h.tin h.hv e0 e1 hl hw).mono ?_
  rintro e w' ⟨u, he, hr, hb⟩
  obtain ⟨g, c, rfl, hg, hc⟩ := row_cells hr (by omega)
  exact ⟨l, g, c, he, hl, h1, h2, ⟨(hr.lt g rfl).1, hg⟩, hc, h.below hb, hb⟩
/-- What Print writes of a tree. -/
def prT (T : F) : Tx := printP ((T.txl 0 0).getD 0 [])
theorem prT_bare {T T' : F} (h : T.bare = T'.bare) : prT T = prT T' := by
  unfold prT
  rw [← F.txl_bare T, h, F.txl_bare]
theorem ts_print {B : Nat} (h : TS w0 tb m M T wr) (hm : m ≤ 40) (ht : Tab B wr) (hB : B ≤ wr.heap.size) :
    Calls Tryd.prog 9 #[pV tb] wr fun e w' => e = .returned (.string (bs (prT T))) ∧ TS w0 tb m M T w' ∧ Below wr.heap.size wr w' := by
  obtain ⟨v0, v1, e0, e1, hw⟩ := h.vals hm
  obtain ⟨t, e2⟩ := one_of ((F.txl_len T 0 0).trans h.one)
  refine (Print_at (t := t) (h.ok hm) ht hB h.tin h.hv e0 e1 (by rw [e2]; rfl) hw).mono ?_
  rintro e w' ⟨he, hb⟩
  refine ⟨?_, h.below hb, hb⟩
  rw [he]
  unfold prT
  rw [e2]
  rfl
theorem TS.ups (h : TS w0 tb m M T wr) (p : Int) : ∃ l, (T.ups p)[0]? = some l := by
  obtain ⟨l, e⟩ := one_of ((F.ups_len p T).trans h.one)
  exact ⟨l, by rw [e]; rfl⟩
theorem TS.new_ (hx : 1 ≤ m) (hM : 1 ≤ M ∧ M ≤ 1000000) {x y : Int} (h1 : 0 ≤ x ∧ x ≤ 10000) (h2 : 0 ≤ y ∧ y ≤ 10000) (hin : (F.leaf tb 1 x y .nil).In wr) (ht : w0.heap.size ≤ tb) (hb : Below w0.heap.size w0 wr) : TS w0 tb m M (.leaf tb 1 x y .nil) wr := by
  refine ⟨hin, ⟨⟨h1.1, h1.2, h2.1, h2.2⟩, trivial⟩, rfl, rfl, by simp [F.blks], trivial, ⟨⟨by omega, by omega⟩, trivial⟩, hM.2, (fun q => by simp only [F.num]; split <;> omega), by simp [F.cnt]; omega, ?_, hb⟩
  intro z hz
  obtain rfl : z = tb := by simpa [F.blks] using hz
  exact ht
/-- What a split leaves. -/
theorem TS.splat (h : TS w0 tb m M T wr) {pane q s0 s1 sz : Int} {b M' : Nat} {frs : List Fr} {x y : Bool} (hT : T = plug (.leaf b pane s0 s1 .nil) frs) (hsz : 0 ≤ sz ∧ 0 ≤ s0 ∧ s0 ≤ 10000 ∧ 0 ≤ s1 ∧ s1 ≤ 10000 ∧ sz ≤ (if x then s0 else s1) - 2) (hs : Splat T wr w' (t0P x y pane q s0 s1 sz) frs) (hq : 1 ≤ q ∧ q ≤ (M' : Int)) (hnq : ¬ T.inP q) (hM : M ≤ M') (hlim : M' ≤ 1000000) :
    ∃ T', TS w0 tb (m + 1) M' T' w' ∧ T'.bare = (rema (t0P x y pane q s0 s1 sz) frs).bare := by
  obtain ⟨⟨T', h1, h2, h3, h4, h5, h6, h7⟩, ho⟩ := hs
  have hsa := h.siz
  have hpa := h.pns
  have hn := h.norm
  rw [hT] at hsa hpa hn
  have a1 := plug_all hsa
  have a2 := plug_all hpa
  obtain ⟨-, hF⟩ := (plug_norm (par := -1) (frs := frs) (t := .leaf b pane s0 s1 .nil) rfl).1 hn
  have hp := a2.1.1
  have k1 : (t0P x y pane q s0 s1 sz).all fun _ s0 s1 => 0 ≤ s0 ∧ s0 ≤ 10000 ∧ 0 ≤ s1 ∧ s1 ≤ 10000 := by
    cases x <;> cases y <;> simp [t0P, F.all] at hsz ⊢ <;> omega
  have k2 : (t0P x y pane q s0 s1 sz).all fun p _ _ => 1 ≤ p ∧ p ≤ (M' : Int) := by
    cases x <;> cases y <;> simp [t0P, F.all] <;> omega
  refine ⟨T', ⟨h1, ?_, ?_, by rw [h5, h.ptr], h3, ?_, ?_, hlim, ?_, ?_, ?_, h.fr.trans (ho.below h.fr.size h.new)⟩, h6⟩
  · exact F.all_bare.1 (by rw [h6]; exact F.all_bare.2 (rema_all k1 a1.2))
  · have := congrArg List.length h5
    rw [F.ptrs_len, F.ptrs_len, h.one] at this
    exact this
  · rw [← F.norm_bare, h6]
    have hk : ∀ al, ((if y then F.leaf 0 q (if x then sz else s0) (if x then s1 else sz) (.leaf 0 pane (if x then s0 - 1 - sz else s0) (if x then s1 else s1 - 1 - sz) .nil)
      else .leaf 0 pane (if x then s0 - 1 - sz else s0) (if x then s1 else s1 - 1 - sz) (.leaf 0 q (if x then sz else s0) (if x then s1 else sz) .nil)) : F).norm al := fun al => by cases y <;> trivial
    have hl2 : ((if y then F.leaf 0 q (if x then sz else s0) (if x then s1 else sz) (.leaf 0 pane (if x then s0 - 1 - sz else s0) (if x then s1 else s1 - 1 - sz) .nil)
      else .leaf 0 pane (if x then s0 - 1 - sz else s0) (if x then s1 else s1 - 1 - sz) (.leaf 0 q (if x then sz else s0) (if x then s1 else sz) .nil)) : F).len = 2 := by cases y <;> rfl
    unfold t0P
    generalize ((if y then F.leaf 0 q (if x then sz else s0) (if x then s1 else sz) (.leaf 0 pane (if x then s0 - 1 - sz else s0) (if x then s1 else s1 - 1 - sz) .nil)
      else .leaf 0 pane (if x then s0 - 1 - sz else s0) (if x then s1 else s1 - 1 - sz) (.leaf 0 q (if x then sz else s0) (if x then s1 else sz) .nil)) : F) = k at *
    have ha : (if x then (0 : Int) else 1) = 0 ∨ (if x then (0 : Int) else 1) = 1 := by cases x <;> simp
    generalize (if x then (0 : Int) else 1) = al at *
    by_cases he : al = headAl (-1) frs
    · cases frs with
      | nil =>
        exfalso
        have : al = -1 := he
        omega
      | cons fr up =>
        obtain rfl : al = fr.al := he
        rw [rema_split_same (par := -1) (hk _) (by omega) hF, F.norm_bare]
        refine (plug_norm (frs := up) (t := .node fr.b fr.kb fr.cap fr.al (fr.l.app (k.app fr.r)) .nil) rfl).2 ⟨⟨hF.1, hF.2.1, ?_, F.norm_app.2 ⟨hF.2.2.2.1, F.norm_app.2 ⟨hk _, hF.2.2.2.2.1⟩⟩, trivial⟩, hF.2.2.2.2.2⟩
        rw [F.len_app, F.len_app]
        omega
    · rw [rema_norm (par := -1) (frs := frs) (t := .node 0 0 0 al k .nil) rfl ⟨he, ha, by omega, hk _, trivial⟩ hF, F.norm_bare]
      exact (plug_norm (frs := frs) (t := .node 0 0 0 al k .nil) rfl).2 ⟨⟨he, ha, by omega, hk _, trivial⟩, hF⟩
  · exact F.all_bare.1 (by rw [h6]; exact F.all_bare.2 (rema_all k2 fun fr hf => ⟨F.all_mono (fun p _ _ hp => by omega) (a2.2 fr hf).1, F.all_mono (fun p _ _ hp => by omega) (a2.2 fr hf).2⟩))
  · intro z
    have u1 := h.uni z
    rw [hT, num_plug] at u1
    rw [← F.num_bare, h6, F.num_bare, num_rema]
    have u2 : (t0P x y pane q s0 s1 sz).num z = (if pane = z then 1 else 0) + (if q = z then 1 else 0) := by
      cases x <;> cases y <;> simp [t0P, F.num] <;> omega
    have u3 : (F.leaf b pane s0 s1 .nil).num z = if pane = z then 1 else 0 := by simp [F.num]
    rw [u3] at u1
    rw [u2]
    by_cases hz : q = z
    · subst hz
      have u4 : T.num q = 0 := by
        rcases Nat.eq_zero_or_pos (T.num q) with h0 | h0
        · exact h0
        · exact absurd (num_in.2 h0) hnq
      rw [hT, num_plug, u3] at u4
      rw [if_pos rfl]
      omega
    · rw [if_neg hz]
      omega
  · have := h.cnt
    omega
  · intro z hz
    rcases h4 z hz with h8 | h8
    · exact h.new z h8
    · have := h.fr.size; omega
/-- A pane split: unchanged, or one pane more. -/
theorem ts_split (h : TS w0 tb m M T wr) (hm : m ≤ 39) {pane q size : Int} {M' : Nat} (hq : 1 ≤ q ∧ q ≤ (M' : Int)) (hM : M ≤ M') (hlim : M' ≤ 1000000) (hs : 0 ≤ size) (x y : Bool) :
    Calls Tryd.prog 10 #[pV tb, .int .i64 pane, .int .i64 q, .bool x, .int .i64 size, .bool y] wr fun e w' => ∃ ans, e = .returned (.int .i64 ans) ∧ Only T.blks wr w' ∧
      ((ans ≠ 0 ∧ TS w0 tb m M T w' ∧ Below wr.heap.size wr w') ∨ (ans = 0 ∧ ¬ T.inP q ∧ ∃ (frs : List Fr) (b : Nat) (s0 s1 sz : Int) (T' : F), T = plug (.leaf b pane s0 s1 .nil) frs ∧ TS w0 tb (m + 1) M' T' w' ∧ T'.bare = (rema (t0P x y pane q s0 s1 sz) frs).bare)) := by
  obtain ⟨l, hl⟩ := h.ups pane
  obtain ⟨o, ho⟩ := h.ups q
  obtain ⟨ps, e⟩ := one_of ((F.pns_len T).trans h.one)
  have hpl : ps.length ≤ 1000000 := by
    have h1 := F.pns_cnt T
    rw [e] at h1
    simp only [List.flatten_cons, List.flatten_nil, List.append_nil] at h1
    have := h.cnt
    omega
  refine (Split_any (h.ok (by omega)) h.one h.tin h.hv h.nod hl ho (by rw [e]; rfl) hpl hs x y).mono ?_
  rintro e w' ⟨ans, he, ⟨h1, h2⟩ | ⟨h1, -, h3, frs, b, s0, s1, sz, hT, hsz, hsp⟩⟩
  · exact ⟨ans, he, Only.of_below h2, .inl ⟨h1, h.below h2, h2⟩⟩
  · obtain ⟨T', h4, h5⟩ := h.splat hT hsz hsp hq (fun hi => (inP_one h.one ho).1 hi h3) hM hlim
    exact ⟨ans, he, hsp.only, .inr ⟨h1, fun hi => (inP_one h.one ho).1 hi h3, frs, b, s0, s1, sz, T', hT, h4, h5⟩⟩
end
end Go.Proofs.YtkanglfpiahecaaDoor.Lyt
