/- A leaf shrunk; which way a sign goes. -/
import Derived.Test.YtkanglfpiahecaaDoorPYat
import Derived.Test.YtkanglfpiahecaaDoorPYsp
import Derived.Test.YtkanglfpiahecaaDoorPShelf
import Derived.Lib.AppendIntMem
import Derived.Laws.BitsLemmas
import Derived.Laws.Bits64
import Derived.Lib.ItoaLen
namespace Go.Proofs.YtkanglfpiahecaaDoor.Lyt
open Go.RowKit

set_option maxRecDepth 100000 in
set_option maxHeartbeats 4000000 in
theorem shrink_leaf {a : Int} (ha : a = 0 ∨ a = 1) {b : Nat} {p s0 s1 by_ : Int} {w : World} (hN : BN w b (leafC p s0 s1)) (hb : -1000000000000 ≤ s0 - by_ ∧ s0 - by_ ≤ 1000000000000 ∧ -1000000000000 ≤ s1 - by_ ∧ s1 - by_ ≤ 1000000000000) :
    Calls Tryd.prog 41 #[pV b, .int .i64 a, .int .i64 by_] w fun e w' => e = .returned (.tuple #[]) ∧ BN w' b (leafC p (if a = 0 then s0 - by_ else s0) (if a = 0 then s1 else s1 - by_)) ∧ Only [b] w w' := by
  have hb0 : Below w.heap.size w ((w.alloc (.cells #[.int .i64 a] 50)).alloc (.cells #[.int .i64 by_] 3)) := ((Below.refl _ _).alloc (Nat.le_refl _) _).alloc (by simp) _
  have hA := (BL.new w 50 [.int .i64 a]).alloc (.cells #[.int .i64 by_] 3)
  have hB := BL.new (w.alloc (.cells #[.int .i64 a] 50)) 3 [.int .i64 by_]
  rw [size_alloc] at hB
  have hN2 := hN.only (Only.of_below (F := []) hb0) (by simp)
  have j1 : IntKind.i64.wrap (s0 - by_) = s0 - by_ := IntWalk.i64_in _ ⟨by omega, by omega⟩
  have j2 : IntKind.i64.wrap (s1 - by_) = s1 - by_ := IntWalk.i64_in _ ⟨by omega, by omega⟩
  clear hN
  unfold pV
  rcases ha with rfl | rfl
  · go_enter Tryd.func41, Tryd.ntmps41
    go_upto_region 2 with fail
    generalize ((w.alloc (.cells #[.int .i64 0] 50)).alloc (.cells #[.int .i64 by_] 3)) = X at *
    have c4 : X.cell? ⟨b, 4, none⟩ = some (.slice none 0 0) := hN2.cell 4
    go_wp2_with fail
    refine (isLeaf_at b 0 0 none _ c4).mono ?_
    rintro _ w1 ⟨rfl, rfl⟩
    go_upto_region 3 with fail
    have a0 : X.cell? ⟨w.heap.size, 0, none⟩ = some (.int .i64 0) := hA.cell 0
    have b0 : X.cell? ⟨w.heap.size + 1, 0, none⟩ = some (.int .i64 by_) := hB.cell 0
    have e1 : X.cell? ⟨b, 1, none⟩ = some (.int .i64 s0) := hN2.cell 1
    have f1 : X.frozen? ⟨b, 1, none⟩ = false := hN2.frozen 1
    have HN := Lib.hid hN2
    have HB0 := Lib.hid hb0
    clear hN2 hA hB hb0
    go_region
    go_wp2_with fail
    exact body_end rfl rfl ⟨rfl, HN.out.set_ 1 (.int .i64 (s0 - by_)), ((Only.of_below HB0.out).setCell (p := ⟨b, 1, none⟩) (.inl (by simp)) _).drew⟩
  · go_enter Tryd.func41, Tryd.ntmps41
    go_upto_region 2 with fail
    generalize ((w.alloc (.cells #[.int .i64 1] 50)).alloc (.cells #[.int .i64 by_] 3)) = X at *
    have c4 : X.cell? ⟨b, 4, none⟩ = some (.slice none 0 0) := hN2.cell 4
    go_wp2_with fail
    refine (isLeaf_at b 0 0 none _ c4).mono ?_
    rintro _ w1 ⟨rfl, rfl⟩
    go_upto_region 3 with fail
    have a0 : X.cell? ⟨w.heap.size, 0, none⟩ = some (.int .i64 1) := hA.cell 0
    have b0 : X.cell? ⟨w.heap.size + 1, 0, none⟩ = some (.int .i64 by_) := hB.cell 0
    have e2 : X.cell? ⟨b, 2, none⟩ = some (.int .i64 s1) := hN2.cell 2
    have f2 : X.frozen? ⟨b, 2, none⟩ = false := hN2.frozen 2
    have HN := Lib.hid hN2
    have HB0 := Lib.hid hb0
    clear hN2 hA hB hb0
    go_region
    go_wp2_with fail
    exact body_end rfl rfl ⟨rfl, HN.out.set_ 2 (.int .i64 (s1 - by_)), ((Only.of_below HB0.out).setCell (p := ⟨b, 2, none⟩) (.inl (by simp)) _).drew⟩
/-- Along what a sign goes, and whether onward. -/
def towP (c : Int) : Int × Bool := if c = 76 then (0, false) else if c = 82 then (0, true) else if c = 85 then (1, false) else if c = 68 then (1, true) else (-1, false)
set_option maxRecDepth 100000 in
theorem towards_at (c : Int) (w : World) : Calls Tryd.prog 36 #[.int .u8 c] w fun e w' => e = .returned (.tuple #[.int .i64 (towP c).1, .bool (towP c).2]) ∧ w = w' := by
  unfold towP
  by_cases h1 : c = 76
  · subst h1
    go_enter Tryd.func36, Tryd.ntmps36
    go_wp2_with fail
    go_ret2
    exact ⟨rfl, rfl⟩
  have g1 : (c == 76) = false := by simpa using h1
  by_cases h2 : c = 82
  · subst h2
    go_enter Tryd.func36, Tryd.ntmps36
    go_wp2_with fail
    go_ret2
    exact ⟨rfl, rfl⟩
  have g2 : (c == 82) = false := by simpa using h2
  by_cases h3 : c = 85
  · subst h3
    go_enter Tryd.func36, Tryd.ntmps36
    go_wp2_with fail
    go_ret2
    exact ⟨rfl, rfl⟩
  have g3 : (c == 85) = false := by simpa using h3
  by_cases h4 : c = 68
  · subst h4
    go_enter Tryd.func36, Tryd.ntmps36
    go_wp2_with fail
    go_ret2
    exact ⟨rfl, rfl⟩
  have g4 : (c == 68) = false := by simpa using h4
  rw [if_neg h1, if_neg h2, if_neg h3, if_neg h4]
  go_enter Tryd.func36, Tryd.ntmps36
  go_wp2_with fail
  go_ret2
  exact ⟨rfl, rfl⟩
end Go.Proofs.YtkanglfpiahecaaDoor.Lyt
/- Kids made anew: a kid that goes the same way gives its own. -/
namespace Go.Proofs.YtkanglfpiahecaaDoor.Lyt
open Go.RowKit

def F.app : F → F → F
  | .nil, g => g
  | .leaf b p s0 s1 r, g => .leaf b p s0 s1 (r.app g)
  | .node b kb cap al ks r, g => .node b kb cap al ks (r.app g)
/-- Kids of a split that goes that way. -/
def F.flat (al : Int) : F → F
  | .nil => .nil
  | .leaf b p s0 s1 r => .leaf b p s0 s1 (r.flat al)
  | .node b kb cap a ks r => if a = al then ks.app (r.flat al) else .node b kb cap a ks (r.flat al)
def F.flatP (al : Int) : F → List (List Value)
  | .nil => []
  | .leaf b _ _ _ r => [pV b] :: r.flatP al
  | .node b _ _ a ks r => (if a = al then ks.ptrs else [pV b]) :: r.flatP al
theorem F.ptrs_app (g : F) : ∀ f : F, (f.app g).ptrs = f.ptrs ++ g.ptrs
  | .nil => rfl
  | .leaf _ _ _ _ r => by simp [F.app, F.ptrs, F.ptrs_app g r]
  | .node _ _ _ _ _ r => by simp [F.app, F.ptrs, F.ptrs_app g r]
theorem F.len_app (g : F) : ∀ f : F, (f.app g).len = f.len + g.len
  | .nil => by simp [F.app, F.len]
  | .leaf _ _ _ _ r => by simp [F.app, F.len, F.len_app g r]; omega
  | .node _ _ _ _ _ r => by simp [F.app, F.len, F.len_app g r]; omega
theorem F.blks_app (g : F) : ∀ f : F, (f.app g).blks = f.blks ++ g.blks
  | .nil => rfl
  | .leaf _ _ _ _ r => by simp [F.app, F.blks, F.blks_app g r]
  | .node _ _ _ _ _ r => by simp [F.app, F.blks, F.blks_app g r]
theorem F.cnt_app (g : F) : ∀ f : F, (f.app g).cnt = f.cnt + g.cnt
  | .nil => by simp [F.app, F.cnt]
  | .leaf _ _ _ _ r => by simp [F.app, F.cnt, F.cnt_app g r]; omega
  | .node _ _ _ _ _ r => by simp [F.app, F.cnt, F.cnt_app g r]; omega
theorem F.in_app {w : World} {g : F} : ∀ {f : F}, (f.app g).In w ↔ f.In w ∧ g.In w
  | .nil => by simp [F.app, F.In]
  | .leaf _ _ _ _ r => by simp [F.app, F.In, F.in_app (f := r), and_assoc]
  | .node _ _ _ _ _ r => by simp [F.app, F.In, F.in_app (f := r), and_assoc]
theorem F.has1_app {g : F} : ∀ {f : F}, (f.app g).has1 ↔ f.has1 ∧ g.has1
  | .nil => by simp [F.app, F.has1]
  | .leaf _ _ _ _ r => by simp [F.app, F.has1, F.has1_app (f := r)]
  | .node _ _ _ _ _ r => by simp [F.app, F.has1, F.has1_app (f := r), and_assoc]
theorem F.all_app {P : Int → Int → Int → Prop} {g : F} : ∀ {f : F}, (f.app g).all P ↔ f.all P ∧ g.all P
  | .nil => by simp [F.app, F.all]
  | .leaf _ _ _ _ r => by simp [F.app, F.all, F.all_app (f := r), and_assoc]
  | .node _ _ _ _ _ r => by simp [F.app, F.all, F.all_app (f := r), and_assoc]
theorem F.ways_app {g : F} : ∀ {f : F}, (f.app g).ways ↔ f.ways ∧ g.ways
  | .nil => by simp [F.app, F.ways]
  | .leaf _ _ _ _ r => by simp [F.app, F.ways, F.ways_app (f := r)]
  | .node _ _ _ _ _ r => by simp [F.app, F.ways, F.ways_app (f := r), and_assoc]
theorem F.flat_ptrs (al : Int) : ∀ f : F, (f.flat al).ptrs = (f.flatP al).flatten
  | .nil => rfl
  | .leaf _ _ _ _ r => by simp [F.flat, F.flatP, F.ptrs, F.flat_ptrs al r]
  | .node b _ _ a ks r => by
    unfold F.flat F.flatP
    split
    · rw [F.ptrs_app, F.flat_ptrs al r]; rfl
    · simp [F.ptrs, F.flat_ptrs al r]
theorem F.flat_in {w : World} (al : Int) : ∀ {f : F}, f.In w → (f.flat al).In w
  | .nil, _ => trivial
  | .leaf _ _ _ _ r, h => ⟨h.1, F.flat_in al h.2⟩
  | .node _ _ _ a ks r, h => by
    unfold F.flat
    split
    · exact F.in_app.2 ⟨h.2.2.1, F.flat_in al h.2.2.2⟩
    · exact ⟨h.1, h.2.1, h.2.2.1, F.flat_in al h.2.2.2⟩
theorem F.flat_has1 (al : Int) : ∀ {f : F}, f.has1 → (f.flat al).has1
  | .nil, _ => trivial
  | .leaf _ _ _ _ r, h => F.flat_has1 al (f := r) h
  | .node _ _ _ a ks r, h => by
    unfold F.flat
    split
    · exact F.has1_app.2 ⟨h.2.1, F.flat_has1 al h.2.2⟩
    · exact ⟨h.1, h.2.1, F.flat_has1 al h.2.2⟩
theorem F.flatP_len (al : Int) : ∀ f : F, (f.flatP al).length = f.len
  | .nil => rfl
  | .leaf _ _ _ _ r => by simp [F.flatP, F.len, F.flatP_len al r]
  | .node _ _ _ _ _ r => by simp [F.flatP, F.len, F.flatP_len al r]
theorem F.flat_cnt (al : Int) : ∀ f : F, (f.flat al).cnt = f.cnt
  | .nil => rfl
  | .leaf _ _ _ _ r => by simp [F.flat, F.cnt, F.flat_cnt al r]
  | .node _ _ _ a ks r => by
    unfold F.flat
    split
    · rw [F.cnt_app, F.flat_cnt al r]; rfl
    · simp [F.cnt, F.flat_cnt al r]
/-- What lies at a kid, and what it gives. -/
theorem F.look {w : World} (al : Int) : ∀ (f : F), f.In w → f.has1 → ∀ (i : Nat) v ps, f.ptrs[i]? = some v → (f.flatP al)[i]? = some ps → ∃ b, v = pV b ∧
    ((∃ p s0 s1, BN w b (leafC p s0 s1) ∧ ps = [pV b]) ∨ ∃ kb n cap a, BN w b (nodeC kb n cap a) ∧ 1 ≤ n ∧ (a ≠ al ∧ ps = [pV b] ∨ a = al ∧ ps.length = n ∧ ∀ (j : Nat) u, ps[j]? = some u → w.cell? ⟨kb, j, none⟩ = some u))
  | .nil, _, _, i, v, ps, hv, _ => by simp [F.ptrs] at hv
  | .leaf b p s0 s1 r, hin, h1, i, v, ps, hv, hps => by
    cases i with
    | succ i => exact F.look al r hin.2 h1 i v ps hv hps
    | zero =>
      obtain rfl : pV b = v := by simpa [F.ptrs] using hv
      obtain rfl : [pV b] = ps := by simpa [F.flatP] using hps
      exact ⟨b, rfl, .inl ⟨p, s0, s1, hin.1, rfl⟩⟩
  | .node b kb cap a ks r, hin, h1, i, v, ps, hv, hps => by
    cases i with
    | succ i => exact F.look al r hin.2.2.2 h1.2.2 i v ps hv hps
    | zero =>
      obtain rfl : pV b = v := by simpa [F.ptrs] using hv
      have hps2 : (if a = al then ks.ptrs else [pV b]) = ps := by simpa [F.flatP] using hps
      refine ⟨b, rfl, .inr ⟨kb, ks.len, cap, a, hin.1, h1.1, ?_⟩⟩
      by_cases ha : a = al
      · rw [if_pos ha] at hps2
        subst hps2
        refine .inr ⟨ha, F.ptrs_len ks, fun j u hu => ?_⟩
        rw [hin.2.1.cell (List.getElem?_eq_some_iff.1 hu).1]
        exact hu
      · rw [if_neg ha] at hps2
        exact .inl ⟨ha, hps2.symm⟩
set_option maxRecDepth 100000 in
theorem goes_at (b n c : Nat) (A : Option Addr) (a al : Int) (w : World) (h4 : w.cell? ⟨b, 4, none⟩ = some (.slice A n c)) (h3 : w.cell? ⟨b, 3, none⟩ = some (.int .i64 a)) :
    Calls Tryd.prog 54 #[pV b, .int .i64 al] w fun e w' => e = .returned (.bool (decide (n ≠ 0 ∧ a = al))) ∧ w = w' := by
  have il := isLeaf_at b n c A w h4
  obtain ⟨d, hd⟩ : ∃ d, decide (n ≠ 0 ∧ a = al) = d := ⟨_, rfl⟩
  rw [hd]
  have HD := Lib.hid hd
  clear hd
  unfold pV
  by_cases hn : n = 0
  · obtain rfl : false = d := by rw [← HD.out]; simp [hn]
    have e : decide (n = 0) = true := by simp [hn]
    rw [e] at il
    have HI := Lib.hid il
    clear il HD e hn h4
    go_enter Tryd.func54, Tryd.ntmps54
    go_wp2_with (first | (go_at_call 42; refine HI.out.mono ?_; rintro _ w1 ⟨rfl, rfl⟩))
    go_ret
    exact ⟨rfl, rfl⟩
  · have e : decide (n = 0) = false := by simp [hn]
    rw [e] at il
    have HI := Lib.hid il
    by_cases ha : a = al
    · obtain rfl : true = d := by rw [← HD.out]; simp [hn, ha]
      clear il HD e hn h4
      subst ha
      go_enter Tryd.func54, Tryd.ntmps54
      go_wp2_with (first | (go_at_call 42; refine HI.out.mono ?_; rintro _ w1 ⟨rfl, rfl⟩))
      go_ret
      exact ⟨rfl, rfl⟩
    · obtain rfl : false = d := by rw [← HD.out]; simp [ha]
      have hab : (a == al) = false := by simpa using ha
      clear il HD e hn h4
      go_enter Tryd.func54, Tryd.ntmps54
      go_wp2_with (first | (go_at_call 42; refine HI.out.mono ?_; rintro _ w1 ⟨rfl, rfl⟩))
      go_ret
      exact ⟨rfl, rfl⟩
end Go.Proofs.YtkanglfpiahecaaDoor.Lyt
/- A way up through a tree: plain words. -/
namespace Go.Proofs.YtkanglfpiahecaaDoor.Lyt
open Go.RowKit

/-- Trees without their places in memory. -/
def F.bare : F → F
  | .nil => .nil
  | .leaf _ p s0 s1 r => .leaf 0 p s0 s1 r.bare
  | .node _ _ _ al ks r => .node 0 0 0 al ks.bare r.bare
theorem F.bare_app (g : F) : ∀ f : F, (f.app g).bare = f.bare.app g.bare
  | .nil => rfl
  | .leaf _ _ _ _ r => by simp [F.app, F.bare, F.bare_app g r]
  | .node _ _ _ _ _ r => by simp [F.app, F.bare, F.bare_app g r]
theorem F.bare_len : ∀ f : F, f.bare.len = f.len
  | .nil => rfl
  | .leaf _ _ _ _ r => by simp [F.bare, F.len, F.bare_len r]
  | .node _ _ _ _ _ r => by simp [F.bare, F.len, F.bare_len r]
theorem F.bare_flat (al : Int) : ∀ f : F, (f.flat al).bare = f.bare.flat al
  | .nil => rfl
  | .leaf _ _ _ _ r => by simp [F.flat, F.bare, F.bare_flat al r]
  | .node b kb cap a ks r => by
    show (if a = al then ks.app (r.flat al) else F.node b kb cap a ks (r.flat al)).bare = if a = al then ks.bare.app (r.bare.flat al) else .node 0 0 0 a ks.bare (r.bare.flat al)
    split
    · rw [F.bare_app, F.bare_flat al r]
    · rw [← F.bare_flat al r]; rfl
/-- The first tree at another block. -/
def F.move (b : Nat) : F → F
  | .nil => .nil
  | .leaf _ p s0 s1 r => .leaf b p s0 s1 r
  | .node _ kb cap al ks r => .node b kb cap al ks r
theorem F.bare_move (b : Nat) : ∀ f : F, (f.move b).bare = f.bare
  | .nil => rfl
  | .leaf _ _ _ _ _ => rfl
  | .node _ _ _ _ _ _ => rfl
/-- A split made anew of kids. -/
def F.remk (b kb cap : Nat) (al : Int) (K : F) : F := if (K.flat al).len = 1 then (K.flat al).move b else .node b kb cap al (K.flat al) .nil
theorem F.bare_remk {b kb cap b2 kb2 cap2 : Nat} {al : Int} {K K2 : F} (h : K.bare = K2.bare) : (F.remk b kb cap al K).bare = (F.remk b2 kb2 cap2 al K2).bare := by
  have e : (K.flat al).bare = (K2.flat al).bare := by rw [F.bare_flat, F.bare_flat, h]
  have el : (K.flat al).len = (K2.flat al).len := by rw [← F.bare_len, e, F.bare_len]
  unfold F.remk
  rw [el]
  split
  · rw [F.bare_move, F.bare_move, e]
  · simp [F.bare, e]
/-- A split on the way up, but for the kid that the way comes from. -/
structure Fr where
  b : Nat
  kb : Nat
  cap : Nat
  al : Int
  l : F
  r : F
def Fr.kids (fr : Fr) (t : F) : F := fr.l.app (t.app fr.r)
/-- All splits on the way up made anew. -/
def rema (t : F) : List Fr → F
  | [] => t
  | fr :: up => rema (F.remk fr.b 0 0 fr.al (fr.kids t)) up
/-- The tree. -/
def plug (t : F) : List Fr → F
  | [] => t
  | fr :: up => plug (.node fr.b fr.kb fr.cap fr.al (fr.kids t) .nil) up
theorem kids_bare {fr : Fr} {t t2 : F} (h : t.bare = t2.bare) : (fr.kids t).bare = (fr.kids t2).bare := by
  unfold Fr.kids
  rw [F.bare_app, F.bare_app, F.bare_app, F.bare_app, h]
theorem rema_bare {t t2 : F} (h : t.bare = t2.bare) : ∀ (frs : List Fr), (rema t frs).bare = (rema t2 frs).bare
  | [] => h
  | _ :: up => rema_bare (F.bare_remk (kids_bare h)) up
/-- How the way up lies in memory, from the kids' pointers ps on. -/
def FrsIn (w : World) (ps : List Value) : List Fr → Prop
  | [] => True
  | fr :: up => BN w fr.b (nodeC fr.kb (fr.l.len + ps.length + fr.r.len) fr.cap fr.al) ∧ RowAt w fr.kb fr.cap (fr.l.ptrs ++ ps ++ fr.r.ptrs) ∧ fr.l.In w ∧ fr.r.In w ∧ FrsIn w [pV fr.b] up
def Fr.blks (fr : Fr) : List Nat := fr.b :: fr.kb :: (fr.l.blks ++ fr.r.blks)
def frsB : List Fr → List Nat
  | [] => []
  | fr :: up => fr.blks ++ frsB up
theorem FrsIn.only {w w' : World} {G : List Nat} : ∀ {frs : List Fr} {ps : List Value}, FrsIn w ps frs → Only G w w' → (∀ x ∈ frsB frs, x ∉ G) → FrsIn w' ps frs
  | [], _, _, _, _ => trivial
  | fr :: up, ps, h, ho, hG => ⟨h.1.only ho (hG _ (by simp [frsB, Fr.blks])), h.2.1.only ho (hG _ (by simp [frsB, Fr.blks])), h.2.2.1.only ho fun x hx => hG x (by simp [frsB, Fr.blks, hx]), h.2.2.2.1.only ho fun x hx => hG x (by simp [frsB, Fr.blks, hx]), FrsIn.only h.2.2.2.2 ho fun x hx => hG x (by simp [frsB, hx])⟩
theorem FrsIn.lt {w : World} : ∀ {frs : List Fr} {ps : List Value}, FrsIn w ps frs → ∀ x ∈ frsB frs, x < w.heap.size
  | [], _, _, x, hx => by simp [frsB] at hx
  | fr :: up, ps, h, x, hx => by
    simp only [frsB, Fr.blks, List.mem_append, List.mem_cons] at hx
    rcases hx with (rfl | rfl | hx | hx) | hx
    · exact h.1.lt
    · exact h.2.1.lt
    · exact h.2.2.1.lt x hx
    · exact h.2.2.2.1.lt x hx
    · exact FrsIn.lt h.2.2.2.2 x hx
theorem FrsIn.kids {w : World} {t : F} {fr : Fr} {up : List Fr} (ht : t.In w) (h : FrsIn w t.ptrs (fr :: up)) : (F.node fr.b fr.kb fr.cap fr.al (fr.kids t) .nil).In w := by
  have e1 : (fr.kids t).len = fr.l.len + t.ptrs.length + fr.r.len := by unfold Fr.kids; rw [F.len_app, F.len_app, F.ptrs_len]; omega
  have e2 : (fr.kids t).ptrs = fr.l.ptrs ++ t.ptrs ++ fr.r.ptrs := by unfold Fr.kids; rw [F.ptrs_app, F.ptrs_app, List.append_assoc]
  exact ⟨by rw [e1]; exact h.1, by rw [e2]; exact h.2.1, F.in_app.2 ⟨h.2.2.1, F.in_app.2 ⟨ht, h.2.2.2.1⟩⟩, trivial⟩
theorem F.flat_sub (al : Int) : ∀ f : F, List.Sublist (f.flat al).blks f.blks
  | .nil => List.Sublist.refl _
  | .leaf b _ _ _ r => (F.flat_sub al r).cons_cons b
  | .node b kb _ a ks r => by
    unfold F.flat
    split
    · rw [F.blks_app]
      exact (((List.Sublist.refl ks.blks).append (F.flat_sub al r)).cons kb).cons b
    · exact (((List.Sublist.refl ks.blks).append (F.flat_sub al r)).cons_cons kb).cons_cons b
theorem F.flat_ge (al : Int) : ∀ f : F, f.has1 → f.len ≤ (f.flat al).len
  | .nil, _ => Nat.le_refl _
  | .leaf _ _ _ _ r, h => by have := F.flat_ge al r h; simp [F.flat, F.len]; omega
  | .node _ _ _ a ks r, h => by
    have h1 := F.flat_ge al r h.2.2
    have h2 := h.1
    unfold F.flat
    split
    · rw [F.len_app]; simp [F.len]; omega
    · simp [F.len]; omega
/-- A row of the call's own as a row of kids. -/
theorem RowAt.of_own {w : World} {B g n c : Nat} {xs : List Value} (h : w.ownsRow B 63 1 (.slice (some ⟨g, 0, none⟩) n c) n xs) : RowAt w g c xs := by
  have hl : xs.length = n := by have := h.1; omega
  rcases h.2 with ⟨he, _⟩ | ⟨g', cap, cur, he, _, hh, h1, _, h2, h3⟩
  · cases he
  · injection he with e1 _ e2
    have e3 : g = g' := by injection e1 with e1; injection e1
    subst e3 e2
    refine ⟨by omega, cur.toList.drop n, by rw [List.length_drop, Array.length_toList]; omega, ?_⟩
    have e4 : xs ++ cur.toList.drop n = cur.toList := by
      rw [← h3, Nat.mul_one, List.take_append_drop]
    unfold BL
    rw [e4, hh]
end Go.Proofs.YtkanglfpiahecaaDoor.Lyt
/- A text's sum. -/
namespace Go.Proofs.YtkanglfpiahecaaDoor.Lyt
open Go.RowKit

def sumS (z : Int) (b : UInt8) : Int := IntKind.u16.wrap (bits BinOp.or IntKind.u16 (z / 2) (IntKind.u16.wrap (z * 32768)) + IntKind.u16.wrap (b.toNat : Int))
/-- A text's sum. -/
def sumP (l : List UInt8) : Int := l.foldl sumS 0
theorem u16_in (z : Int) : 0 ≤ IntKind.u16.wrap z ∧ IntKind.u16.wrap z < 65536 := by
  have e : IntKind.u16.wrap z = z % 65536 := by simp [IntKind.wrap, IntKind.bits, IntKind.signed]
  rw [e]
  omega
theorem sumP_snoc (l : List UInt8) (b : UInt8) : sumP (l ++ [b]) = sumS (sumP l) b := by simp [sumP, List.foldl_append]
theorem sumP_in (l : List UInt8) : 0 ≤ sumP l ∧ sumP l < 65536 := by
  rcases List.eq_nil_or_concat l with rfl | ⟨k, b, rfl⟩
  · show (0 : Int) ≤ 0 ∧ (0 : Int) < 65536
    omega
  · rw [List.concat_eq_append, sumP_snoc]
    exact u16_in _
set_option maxRecDepth 100000 in
set_option maxHeartbeats 4000000 in
theorem Sum_at (s : ByteArray) (w : World) (hs : s.size ≤ 1000000000) :
    Calls Tryd.prog 19 #[.string s] w fun e w' => e = .returned (.int .i64 (sumP s.data.toList)) ∧ w' = w := by
  obtain ⟨l, hl⟩ : ∃ l, l = s.data.toList := ⟨_, rfl⟩
  rw [← hl]
  have hll : l.length = s.size := by rw [hl]; exact Array.length_toList
  have hget : ∀ j (h : j < s.size), l[j]? = some s[j] := fun j h => by
    rw [hl]
    have : j < s.data.size := h
    rw [Array.getElem?_toList, Array.getElem?_eq_getElem this]
    rfl
  have HG := Lib.hid hget
  have HL := Lib.hid hll
  clear hget hl hll
  go_enter Tryd.func19, Tryd.ntmps19
  go_wp2_with fail
  go_loopw [3, 7] (fun i t wr => ∃ (j : Nat), j ≤ s.size ∧ t = .int .i64 (j : Int) ∧ i = .int .u16 (sumP (l.take j)) ∧ wr = w) (fun _ t _ => s.size - (intOf t).toNat)
  case atStart => exact ⟨0, Nat.zero_le _, rfl, rfl, rfl⟩
  case round =>
    obtain ⟨j, hj, rfl, rfl, rfl⟩ := hrel
    have hz := sumP_in (l.take j)
    by_cases hlt : j < s.size
    · have j1 : (j : Int) < (s.size : Int) := by omega
      have hsn : l.take (j + 1) = l.take j ++ [s[j]] := by
        have := HG.out j hlt
        obtain ⟨h1, h2⟩ := List.getElem?_eq_some_iff.1 this
        rw [← h2]
        exact List.take_succ_eq_append_getElem h1
      have hz2 : sumS (sumP (l.take j)) s[j] = sumP (l.take (j + 1)) := by rw [hsn, sumP_snoc]
      have HZ := Lib.hid hz2
      clear hz2 hsn
      generalize sumP (l.take j) = z at *
      go_wp2_with fail
      go_roundw
      case rel => exact ⟨j + 1, by omega, by go_num, by rw [← HZ.out]; rfl, trivial⟩
      case measure => simp [intOf]; omega
    · obtain rfl : j = s.size := by omega
      rw [← HL.out, List.take_length] at hz ⊢
      have j1 : IntKind.i64.wrap (sumP l) = sumP l := IntWalk.i64_in _ ⟨by omega, by omega⟩
      go_wp2_with fail
      go_ret
      exact ⟨rfl, rfl⟩
end Go.Proofs.YtkanglfpiahecaaDoor.Lyt
/- Numbers as texts: the library's tables, decimal, and base 16. -/
namespace Go.Proofs.YtkanglfpiahecaaDoor.Lyt
open Go.RowKit

abbrev Tx := List UInt8
/-- A list of bytes as a text. -/
def bs (l : Tx) : ByteArray := ⟨l.toArray⟩
theorem bs_app (a b : Tx) : bs a ++ bs b = bs (a ++ b) := by
  unfold bs
  exact ByteArray.ext (by simp)
theorem bs_list (l : Tx) : (bs l).data.toList = l := by simp [bs]
theorem bs_size (l : Tx) : (bs l).size = l.length := by show (bs l).data.size = _; rw [← Array.length_toList, bs_list]
theorem bs_of (s : ByteArray) : s = bs s.data.toList := by cases s; simp [bs]
theorem bs_inj {a b : Tx} (h : bs a = bs b) : a = b := by rw [← bs_list a, h, bs_list]
def dbl : List Nat := [0, 1, 56, 2, 57, 49, 28, 3, 61, 58, 42, 50, 38, 29, 17, 4, 62, 47, 59, 36, 45, 43, 51, 22, 53, 39, 33, 30, 24, 18, 12, 5, 63, 55, 48, 27, 60, 41, 37, 16, 46, 35, 44, 21, 52, 32, 23, 11, 54, 26, 40, 15, 34, 20, 31, 10, 25, 14, 19, 9, 13, 8, 7, 6]
def dbCells : Array Value := (dbl.map fun k => Value.int .u8 ((k : Nat) : Int)).toArray
def u10Cells : Array Value := (Lib.pow10Tab.map fun z => Value.int .u64 z).toArray
/-- The library's two tables lie below block B. -/
structure Tab (B : Nat) (w : World) : Prop where
  low : 0 < B ∧ 3 < B
  u10 : ∃ t fr, w.heap[0]? = some (.cells u10Cells t fr)
  db : ∃ t fr, w.heap[3]? = some (.cells dbCells t fr)
theorem Tab.below {B : Nat} {w w' : World} (h : Tab B w) (hb : Below B w w') : Tab B w' := by
  obtain ⟨l, ⟨t2, f2, h2⟩, ⟨t3, f3, h3⟩⟩ := h
  exact ⟨l, ⟨t2, f2, (hb.block _ l.1).trans h2⟩, ⟨t3, f3, (hb.block _ l.2).trans h3⟩⟩
theorem Tab.on {B : Nat} {w w' : World} (h : Tab B w) (hB : B ≤ w.heap.size) (hb : Below w.heap.size w w') : Tab B w' := h.below (hb.mono hB)
theorem gU10 : Tryd.prog.globalNamed "internal/strconv.uint64pow10" = some 0 := by kernel_rfl
theorem Tab.tabIs {B : Nat} {w : World} (h : Tab B w) : Lib.TabIs Tryd.prog w "internal/strconv.uint64pow10" .u64 Lib.pow10Tab := by
  obtain ⟨t, fr, h2⟩ := h.u10
  unfold Lib.TabIs World.var?
  rw [gU10]
  simp only [Option.bind_some, h2]
  rfl
theorem itoa_at {B : Nat} (n : Int) (h0 : -9223372036854775808 ≤ n) (h1 : n ≤ 9223372036854775807) (w : World) (ht : Tab B w) :
    Calls Tryd.prog 45 #[.int .i64 n] w fun e w' => e = .returned (.string (bs (Lib.itoa n))) ∧ Below w.heap.size w w' :=
  (Tryd.strconv_Itoa n h0 h1 w ht.tabIs).mono fun e w' ⟨he, k, os, hw⟩ => ⟨he, by rw [hw]; exact Lib.below_grow _ _ (Nat.le_refl _) _ _⟩
theorem zeros_4 {B : Nat} (w : World) (ht : Tab B w) :
    Calls Tryd.prog 87 #[.int .u64 16] w fun e w' => e = .returned (.int .i64 4) ∧ w = w' := by
  obtain ⟨t, fr, h1⟩ := ht.db
  have hc : w.cell? ⟨3, 15, none⟩ = some (.int .u8 4) := cell_of_row w _ 15 _ t fr h1
  clear h1 ht
  have b0 : IntKind.u64.wrap (-16) = 18446744073709551600 := by kernel_rfl
  have b1 : bits .and .u64 16 18446744073709551600 = 16 := by kernel_rfl
  have b2 : IntKind.u64.wrap 4573923408821661840 = 4573923408821661840 := by kernel_rfl
  go_enter Tryd.func87, Tryd.ntmps87
  go_wp2
  go_ret
  exact ⟨rfl, rfl⟩
/-- A block that is just these cells. -/
def Blk (w : World) (g : Nat) (t : TypeId) (cs : Array Value) : Prop := w.heap[g]? = some (.cells cs t (0, 0))
section
variable {w w' : World} {g : Nat} {t : TypeId} {cs : Array Value}
theorem Blk.lt (h : Blk w g t cs) : g < w.heap.size := by
  rcases Nat.lt_or_ge g w.heap.size with hlt | hge
  · exact hlt
  · unfold Blk at h; rw [Array.getElem?_eq_none hge] at h; cases h
theorem Blk.cell (h : Blk w g t cs) (i : Nat) : w.cell? ⟨g, i, none⟩ = cs[i]? := cell_of_row w g i cs t (0, 0) h
theorem Blk.frozen (h : Blk w g t cs) (i : Nat) : w.frozen? ⟨g, i, none⟩ = false := by
  unfold Blk at h
  simp [World.frozen?, h]
theorem Blk.new (w : World) (t : TypeId) (cs : Array Value) : Blk (w.alloc (.cells cs t)) w.heap.size t cs := heap_alloc_new w _
theorem Blk.alloc (h : Blk w g t cs) (o : Obj) : Blk (w.alloc o) g t cs := (Below.heap_alloc w o g h.lt).trans h
theorem Blk.set_ (h : Blk w g t cs) (i : Nat) (u : Value) : Blk (w.setCell ⟨g, i, none⟩ u) g t (cs.setIfInBounds i u) := by
  unfold Blk at h ⊢
  simp [World.setCell, Array.getElem?_modify, h]
theorem Blk.far (h : Blk w g t cs) {p : Addr} (hp : g ≠ p.block) (u : Value) : Blk (w.setCell p u) g t cs := (Below.heap_setCell w p u g hp).trans h
theorem Blk.below {B : Nat} (h : Blk w g t cs) (hb : Below B w w') (hg : g < B) : Blk w' g t cs := (hb.block g hg).trans h
end
/-- One digit to the base 16. -/
def hx (d : Nat) : UInt8 := UInt8.ofNat (if d < 10 then 48 + d else 87 + d)
/-- The k lowest digits to the base 16, the highest ahead. -/
def hexk : Nat → Nat → Tx
  | 0, _ => []
  | k + 1, n => hx (n / 16 ^ k % 16) :: hexk k n
theorem hexk_length (k n : Nat) : (hexk k n).length = k := by induction k with | zero => rfl | succ k ih => simp [hexk, ih]
/-- A number's digits to the base 16. -/
def hexT (n : Nat) : Tx := if n < 16 then hexk 1 n else if n < 256 then hexk 2 n else if n < 4096 then hexk 3 n else hexk 4 n
theorem hexT_len (n : Nat) : 1 ≤ (hexT n).length ∧ (hexT n).length ≤ 4 := by
  unfold hexT
  repeat' split
  all_goals rw [hexk_length]; omega
abbrev lits : ByteArray := { data := #[48, 49, 50, 51, 52, 53, 54, 55, 56, 57, 97, 98, 99, 100, 101, 102, 103, 104, 105, 106, 107, 108, 109, 110, 111, 112, 113, 114, 115, 116, 117, 118, 119, 120, 121, 122] }
theorem lits_at (d : Nat) (hd : d < 16) (h : d < lits.size) : (lits[d]'h).toNat = (hx d).toNat := by
  have : ∀ d, d < 16 → ∀ h : d < lits.size, (lits[d]'h).toNat = (hx d).toNat := by decide
  exact this d hd h
theorem u64_small (n : Int) (h₀ : 0 ≤ n) (h₁ : n < 2 ^ 63) : IntKind.u64.wrap n = n := by rw [IntKind.wrap_u64]; omega
theorem low4 (x : Nat) (h : x < 16777216) : bits .and .u64 (x : Int) 15 = ((x % 16 : Nat) : Int) := by
  have h := bits_mask .u64 63 (by decide) u64_small 4 (by decide) (x : Int) (by omega) (by omega)
  have e : ((2 : Int) ^ 4 - 1) = 15 := by decide
  have e2 : ((2 : Int) ^ 4) = 16 := by decide
  rw [e, e2] at h
  rw [h]
  omega

/-- The array behind j digits. -/
def hexCells (j n : Nat) : Array Value := (List.replicate (65 - j) (Value.int .u8 0) ++ (hexk j n).map fun b => Value.int .u8 (b.toNat : Int)).toArray
theorem hexCells_size (j n : Nat) (hj : j ≤ 65) : (hexCells j n).size = 65 := by
  simp [hexCells, hexk_length]; omega
theorem hexCells_step (j n : Nat) (hj : j < 65) : (hexCells j n).setIfInBounds (64 - j) (.int .u8 ((hx (n / 16 ^ j % 16)).toNat : Int)) = hexCells (j + 1) n := by
  unfold hexCells
  obtain ⟨m, hm⟩ : ∃ m, 65 - j = m + 1 := ⟨64 - j, by omega⟩
  have e1 : 64 - j = m := by omega
  have e2 : 65 - (j + 1) = m := by omega
  rw [hm, e1, e2, hexk, List.replicate_succ']
  rw [List.setIfInBounds_toArray]
  congr 1
  rw [List.append_assoc, List.set_append_right _ _ (by simp)]
  simp
theorem hexCells_get (j n i : Nat) (x : UInt8) (hx : (hexk j n)[i]? = some x) : (hexCells j n)[65 - j + i]? = some (.int .u8 (x.toNat : Int)) := by
  unfold hexCells
  rw [List.getElem?_toArray, List.getElem?_append_right (by simp)]
  simp [hx]
theorem pow_div (n j : Nat) : n / 16 ^ j / 16 = n / 16 ^ (j + 1) := by rw [Nat.div_div_eq_div_mul, Nat.pow_succ]
theorem pos16 (w : World) : Calls Tryd.prog 86 #[.int .i64 16] w fun e w' => e = .returned (.bool true) ∧ w = w' := by
  have b1 : bits .and .i64 16 15 = 0 := by kernel_rfl
  go_enter Tryd.func86, Tryd.ntmps86
  go_wp2
  go_ret
  exact ⟨rfl, rfl⟩

set_option maxRecDepth 100000 in
set_option maxHeartbeats 800000 in
theorem formatBits_16 {B : Nat} (n : Nat) (hn : n < 16777216) (w : World) (ht : Tab B w) (hB : B ≤ w.heap.size) :
    Calls Tryd.prog 79 #[.slice none 0 0, .int .u64 n, .int .i64 16, .bool false, .bool false] w fun e w' =>
      (∃ j, j < 6 ∧ n / 16 ^ j < 16 ∧ (∀ i, i < j → 16 ≤ n / 16 ^ i) ∧ e = .returned (.tuple #[.slice none 0 0, .string (bs (hexk (j + 1) n))])) ∧ Below w.heap.size w w' := by
  go_enter Tryd.func79, Tryd.ntmps79
  go_wp2_with (first
    | (go_at_call 86; refine (pos16 _).mono ?_; rintro e w' ⟨rfl, rfl⟩)
    | (go_at_call 87; refine (zeros_4 _ (ht.on hB ((Below.refl _ _).alloc (Nat.le_refl _) _))).mono ?_; rintro e w' ⟨rfl, rfl⟩))
  go_loopw [1, 13] (fun u i wr => ∃ j m : Nat, j < 6 ∧ m + 1 + j = 65 ∧ u = .int .u64 ((n / 16 ^ j : Nat) : Int) ∧ i = .int .i64 ((m : Int) + 1) ∧ n / 16 ^ j < 16 ^ (6 - j) ∧ Hid (∀ i, i < j → 16 ≤ n / 16 ^ i) ∧ Blk wr w.heap.size 123 (hexCells j n) ∧ Below w.heap.size w wr) (fun u _ _ => (intOf u).toNat)
  case atStart => exact ⟨0, 64, by omega, by omega, by simp, rfl, by simpa using hn, Lib.hid (fun i hi => absurd hi (Nat.not_lt_zero i)), Blk.new w _ _, (Below.refl _ _).alloc (Nat.le_refl _) _⟩
  case round =>
    obtain ⟨j, m, hj, hm, rfl, rfl, hlt, hmin, hblk, hb⟩ := hrel
    have hbs := hb.size
    have hlt2 := hblk.lt
    have hstep := hexCells_step j n (by omega)
    have e64 : 64 - j = m := by omega
    rw [e64] at hstep
    have hle : n / 16 ^ j < 16777216 := Nat.lt_of_le_of_lt (Nat.div_le_self _ _) hn
    have hpd := pow_div n j
    have hc0 : wr.cell? ⟨w.heap.size, m, none⟩ = some ((hexCells j n)[m]'(by rw [hexCells_size _ _ (by omega)]; omega)) := by rw [hblk.cell m]; exact Array.getElem?_eq_getElem _
    have hf0 := hblk.frozen m
    have hset := hblk.set_ m (.int .u8 ((hx (n / 16 ^ j % 16)).toNat : Int))
    rw [hstep] at hset
    generalize hq : n / 16 ^ j = q at *
    generalize hq2 : n / 16 ^ (j + 1) = q2 at *
    have HQ := Lib.hid hq
    have HQ2 := Lib.hid hq2
    have HPD := Lib.hid hpd
    clear hq hq2 hpd hstep
    by_cases h16 : 16 ≤ q
    · have hl4 := low4 q hle
      have hix := lits_at (q % 16) (by omega) (Nat.lt_of_lt_of_le (Nat.mod_lt _ (by omega)) (by decide : 16 ≤ lits.size))
      go_wp2
      go_roundw
      case rel =>
        have hj5 : j = 0 ∨ j = 1 ∨ j = 2 ∨ j = 3 ∨ j = 4 ∨ j = 5 := by omega
        have hj1 : j + 1 < 6 ∧ q / 16 < 16 ^ (6 - (j + 1)) := by
          rcases hj5 with rfl | rfl | rfl | rfl | rfl | rfl <;> simp at hlt ⊢ <;> omega
        refine ⟨j + 1, m - 1, hj1.1, by omega, ?_, ?_, ?_, Lib.hid (fun i hi => ?_), hset, hb.setCell (by simp) _⟩
        · rw [HQ2.out, ← HPD.out]; go_num
        · go_num
        · rw [HQ2.out, ← HPD.out]; exact hj1.2
        · rcases Nat.lt_or_ge i j with h | h
          · exact hmin.out i h
          · obtain rfl : i = j := by omega
            rw [HQ.out]; exact h16
      case measure => simp [intOf]; omega
    · have hm16 : q % 16 = q := by omega
      have hix := lits_at q (by omega) (Nat.lt_of_lt_of_le (by omega : q < 16) (by decide : 16 ≤ lits.size))
      rw [hm16] at hset
      have hv : ∀ i (hi : i < (hexk (j + 1) n).length), (wr.setCell { block := w.heap.size, off := m } (Value.int IntKind.u8 ↑(hx q).toNat)).cell? (Addr.add ⟨w.heap.size, m, none⟩ i) = some (.int .u8 (((hexk (j + 1) n)[i]).toNat : Int)) := fun i hi => by
        have e2 : (⟨w.heap.size, m, none⟩ : Addr).add i = ⟨w.heap.size, m + i, none⟩ := by unfold Addr.add; split <;> simp_all
        rw [e2, hset.cell]
        have := hexCells_get (j + 1) n i _ (List.getElem?_eq_getElem hi)
        rwa [show 65 - (j + 1) + i = m + i by omega] at this
      have hcv := run_convert_bytes_back (P := Tryd.prog) _ 97 9 5 ⟨w.heap.size, m, none⟩ (65 - m) (hexk (j + 1) n) Tryd.underlying97 Tryd.underlying5 Tryd.underlying9 hv
      rw [hexk_length] at hcv
      clear hv hset
      have hq2 : n / 16 ^ j < 16 := by rw [HQ.out]; omega
      have hbb := hb.setCell (p := ⟨w.heap.size, m, none⟩) (by simp) (Value.int IntKind.u8 ↑(hx q).toNat)
      have HQ3 := Lib.hid hq2
      clear hq2
      have hj6 : j = 0 ∨ j = 1 ∨ j = 2 ∨ j = 3 ∨ j = 4 ∨ j = 5 := by omega
      rcases hj6 with rfl | rfl | rfl | rfl | rfl | rfl
      · obtain rfl : m = 64 := by omega
        go_wp2
        go_ret2
        exact ⟨⟨0, by omega, HQ3.out, hmin.out, rfl⟩, hbb⟩
      · obtain rfl : m = 63 := by omega
        go_wp2
        go_ret2
        exact ⟨⟨1, by omega, HQ3.out, hmin.out, rfl⟩, hbb⟩
      · obtain rfl : m = 62 := by omega
        go_wp2
        go_ret2
        exact ⟨⟨2, by omega, HQ3.out, hmin.out, rfl⟩, hbb⟩
      · obtain rfl : m = 61 := by omega
        go_wp2
        go_ret2
        exact ⟨⟨3, by omega, HQ3.out, hmin.out, rfl⟩, hbb⟩
      · obtain rfl : m = 60 := by omega
        go_wp2
        go_ret2
        exact ⟨⟨4, by omega, HQ3.out, hmin.out, rfl⟩, hbb⟩
      · obtain rfl : m = 59 := by omega
        go_wp2
        go_ret2
        exact ⟨⟨5, by omega, HQ3.out, hmin.out, rfl⟩, hbb⟩
set_option maxRecDepth 100000 in
set_option maxHeartbeats 800000 in
theorem hex_at {B : Nat} (n : Nat) (hn : n < 65536) (w : World) (ht : Tab B w) (hB : B ≤ w.heap.size) :
    Calls Tryd.prog 49 #[.int .i64 n, .int .i64 16] w fun e w' => e = .returned (.string (bs (hexT n))) ∧ Below w.heap.size w w' := by
  have hk : Calls Tryd.prog 79 #[.slice none 0 0, .int .u64 n, .int .i64 16, .bool false, .bool false] w fun e w' => e = .returned (.tuple #[.slice none 0 0, .string (bs (hexT n))]) ∧ Below w.heap.size w w' := (formatBits_16 n (by omega) w ht hB).mono (by
    rintro e w' ⟨⟨j, hj, h1, h2, rfl⟩, hb⟩
    refine ⟨?_, hb⟩
    have hj6 : j = 0 ∨ j = 1 ∨ j = 2 ∨ j = 3 ∨ j = 4 ∨ j = 5 := by omega
    have q0 := h2 0
    have q1 := h2 1
    have q2 := h2 2
    have q3 := h2 3
    rcases hj6 with rfl | rfl | rfl | rfl | rfl | rfl <;> simp at h1 q0 q1 q2 q3
    · unfold hexT; rw [if_pos h1]
    · unfold hexT; rw [if_neg (by omega), if_pos (by omega)]
    · unfold hexT; rw [if_neg (by omega), if_neg (by omega), if_pos (by omega)]
    · unfold hexT; rw [if_neg (by omega), if_neg (by omega), if_neg (by omega)]
    · omega
    · omega)
  have j1 : IntKind.u64.wrap (n : Int) = (n : Int) := u64_small n (by omega) (by omega)
  have HK := Lib.hid hk
  clear hk
  have hi : Calls Tryd.prog 69 #[.int .i64 n, .int .i64 16] w fun e w' => e = .returned (.string (bs (hexT n))) ∧ Below w.heap.size w w' := by
    go_enter Tryd.func69, Tryd.ntmps69
    go_wp2_with (first
      | (go_at_call 79; refine HK.out.mono ?_; rintro e w' ⟨rfl, hb⟩))
    go_ret
    exact ⟨rfl, hb⟩
  have HI := Lib.hid hi
  clear hi HK
  go_enter Tryd.func49, Tryd.ntmps49
  go_wp2_with (first
    | (go_at_call 69; refine HI.out.mono ?_; rintro e w' ⟨rfl, hb⟩))
  go_ret
  exact ⟨rfl, hb⟩
end Go.Proofs.YtkanglfpiahecaaDoor.Lyt
/- A tree's text: plain words. -/
namespace Go.Proofs.YtkanglfpiahecaaDoor.Lyt
open Go.RowKit

/-- A split's size along a way. -/
def F.valN (a al : Int) (ks : F) : Int := if al = a then (ks.vals a (szA a)).sum + ((ks.len : Int) - 1) else maxL (ks.vals a (szA a))
/-- What a text begins with: the size, the place. -/
def headP (v0 v1 x y : Int) : Tx := Lib.itoa v0 ++ [120] ++ Lib.itoa v1 ++ [44] ++ Lib.itoa x ++ [44] ++ Lib.itoa y
def foldP (al : Int) (h all : Tx) : Tx := if al = 0 then h ++ [123] ++ all ++ [125] else h ++ [91] ++ all ++ [93]
/-- The text of each of some trees, if it lies there. -/
def F.txl : F → Int → Int → List Tx
  | .nil, _, _ => []
  | .leaf _ p s0 s1 r, x, y => (headP s0 s1 x y ++ [44] ++ Lib.itoa p) :: r.txl x y
  | .node _ _ _ al ks r, x, y => foldP al (headP (F.valN 0 al ks) (F.valN 1 al ks) x y) (Lib.join ((List.range ks.len).map fun i => (ks.txl (ks.kx al x y i).1 (ks.kx al x y i).2).getD i []) [44]) :: r.txl x y
theorem F.txl_len : ∀ (f : F) (x y : Int), (f.txl x y).length = f.len
  | .nil, _, _ => rfl
  | .leaf _ _ _ _ r, x, y => by simp [F.txl, F.len, F.txl_len r]
  | .node _ _ _ _ _ r, x, y => by simp [F.txl, F.len, F.txl_len r]
theorem join_le (xs : List Tx) : (Lib.join xs [44]).length ≤ (xs.map fun t => t.length + 1).sum := by
  cases xs with
  | nil => simp [Lib.join_nil]
  | cons x r =>
    rw [Lib.join_cons, List.length_append, List.map_cons, List.sum_cons]
    have : (Lib.joinTail [44] r).length = (r.map fun t => t.length + 1).sum := by
      unfold Lib.joinTail
      induction r with
      | nil => rfl
      | cons y r ih => rw [List.map_cons, List.flatten_cons, List.length_append, ih, List.map_cons, List.sum_cons, List.length_append, List.length_cons, List.length_nil]; omega
    omega
/-- How long their texts are at the most, with a comma. -/
def F.szs : F → List Nat
  | .nil => []
  | .leaf _ _ _ _ r => 120 :: r.szs
  | .node _ _ _ _ ks r => (100 + ks.szs.sum) :: r.szs
theorem F.szs_len : ∀ f : F, f.szs.length = f.len
  | .nil => rfl
  | .leaf _ _ _ _ r => by simp [F.szs, F.len, F.szs_len r]
  | .node _ _ _ _ _ r => by simp [F.szs, F.len, F.szs_len r]
theorem F.szs_sum : ∀ f : F, f.szs.sum ≤ 120 * f.blks.length
  | .nil => by simp [F.szs]
  | .leaf _ _ _ _ r => by have := F.szs_sum r; simp [F.szs, F.blks]; omega
  | .node _ _ _ _ ks r => by have := F.szs_sum ks; have := F.szs_sum r; simp [F.szs, F.blks]; omega
theorem map_le (l : List Nat) (g : Nat → Nat) (h : ∀ i c, l[i]? = some c → g i ≤ c) : ((List.range l.length).map g).sum ≤ l.sum := by
  induction l generalizing g with
  | nil => simp
  | cons c l ih =>
    rw [List.length_cons, List.range_succ_eq_map, List.map_cons, List.sum_cons, List.sum_cons, List.map_map]
    have h0 := h 0 c rfl
    have h1 := ih (fun i => g (i + 1)) fun i d hd => h (i + 1) d (by simpa using hd)
    have e : (List.range l.length).map (g ∘ Nat.succ) = (List.range l.length).map fun i => g (i + 1) := rfl
    rw [e]
    omega
theorem head_le {v0 v1 x y : Int} (h0 : 0 ≤ v0 ∧ v0 ≤ 1000000000000) (h1 : 0 ≤ v1 ∧ v1 ≤ 1000000000000) (hx : 0 ≤ x ∧ x ≤ 1000000000000) (hy : 0 ≤ y ∧ y ≤ 1000000000000) : (headP v0 v1 x y).length ≤ 87 := by
  have a0 := Lib.itoa_length_le v0 (by omega) (by omega)
  have a1 := Lib.itoa_length_le v1 (by omega) (by omega)
  have a2 := Lib.itoa_length_le x (by omega) (by omega)
  have a3 := Lib.itoa_length_le y (by omega) (by omega)
  unfold headP
  simp only [List.length_append, List.length_cons, List.length_nil]
  omega
theorem val_nn {ks : F} (h : ks.Ok) (hl : 1 ≤ ks.len) (a al : Int) : 0 ≤ ks.valN a al := by
  have n0 := (small_le (a := a) (g := szA a) h.one (F.all_mono (fun p s0 s1 h => by unfold szA; split <;> omega) h.siz) h.few).1
  have := sum_nn n0
  have := maxL_in n0
  unfold F.valN
  split <;> omega
theorem F.txl_le : ∀ (f : F), f.Ok → ∀ (i : Nat) (x y v0 v1 : Int) (t : Tx) (c : Nat), (f.vals 0 (szA 0))[i]? = some v0 → (f.vals 1 (szA 1))[i]? = some v1 → Within x y v0 v1 → (f.txl x y)[i]? = some t → f.szs[i]? = some c → t.length + 1 ≤ c
  | .nil, _, i, x, y, v0, v1, t, c, h, _, _, _, _ => by simp [F.vals] at h
  | .leaf b p s0 s1 r, ok, i, x, y, v0, v1, t, c, h0, h1, hw, ht, hc => by
    cases i with
    | succ i => exact F.txl_le r ok.rest i x y v0 v1 t c h0 h1 hw ht hc
    | zero =>
      obtain rfl : headP s0 s1 x y ++ [44] ++ Lib.itoa p = t := by simpa [F.txl] using ht
      obtain rfl : 120 = c := by simpa [F.szs] using hc
      obtain rfl : s0 = v0 := by simpa [F.vals, szA] using h0
      obtain rfl : s1 = v1 := by simpa [F.vals, szA] using h1
      have hs := ok.siz.1
      have hp := ok.pan.1
      unfold Within at hw
      have a0 := head_le (v0 := s0) (v1 := s1) (x := x) (y := y) (by omega) (by omega) (by omega) (by omega)
      have a1 := Lib.itoa_length_le p (by omega) (by omega)
      simp only [List.length_append, List.length_cons, List.length_nil]
      omega
  | .node b kb cap al ks r, ok, i, x, y, v0, v1, t, c, h0, h1, hw, ht, hc => by
    cases i with
    | succ i => exact F.txl_le r ok.rest2 i x y v0 v1 t c h0 h1 hw ht hc
    | zero =>
      have kok := ok.kids
      obtain rfl : foldP al (headP (F.valN 0 al ks) (F.valN 1 al ks) x y) (Lib.join ((List.range ks.len).map fun i => (ks.txl (ks.kx al x y i).1 (ks.kx al x y i).2).getD i []) [44]) = t := by simpa [F.txl] using ht
      obtain rfl : 100 + ks.szs.sum = c := by simpa [F.szs] using hc
      have hz0 : F.valN 0 al ks = v0 := by simpa [F.vals, F.valN] using h0
      have hz1 : F.valN 1 al ks = v1 := by simpa [F.vals, F.valN] using h1
      have hn0 := val_nn kok ok.one.1 0 al
      have hn1 := val_nn kok ok.one.1 1 al
      rw [hz0] at hn0 ⊢
      rw [hz1] at hn1 ⊢
      have hww := hw
      unfold Within at hw
      have a0 := head_le (v0 := v0) (v1 := v1) (x := x) (y := y) (by omega) (by omega) (by omega) (by omega)
      have hj := join_le ((List.range ks.len).map fun i => (ks.txl (ks.kx al x y i).1 (ks.kx al x y i).2).getD i [])
      rw [List.map_map] at hj
      have hk := map_le ks.szs (fun i => ((ks.txl (ks.kx al x y i).1 (ks.kx al x y i).2).getD i []).length + 1) fun i d hd => by
        have hi : i < ks.len := by rw [← F.szs_len ks]; exact (List.getElem?_eq_some_iff.1 hd).1
        have q0 : i < (ks.vals 0 (szA 0)).length := by rw [F.vals_len]; exact hi
        have q1 : i < (ks.vals 1 (szA 1)).length := by rw [F.vals_len]; exact hi
        have q2 : i < (ks.txl (ks.kx al x y i).1 (ks.kx al x y i).2).length := by rw [F.txl_len]; exact hi
        refine F.txl_le ks kok i (ks.kx al x y i).1 (ks.kx al x y i).2 _ _ _ d (List.getElem?_eq_getElem q0) (List.getElem?_eq_getElem q1) (kid_within ok.way.1 kok.one kok.siz kok.few hz0 hz1 (List.getElem?_eq_getElem q0) (List.getElem?_eq_getElem q1) hww) ?_ hd
        rw [List.getD_eq_getElem?_getD, List.getElem?_eq_getElem q2]
        rfl
      rw [F.szs_len] at hk
      have hjk := Nat.le_trans hj hk
      generalize Lib.join ((List.range ks.len).map fun i => (ks.txl (ks.kx al x y i).1 (ks.kx al x y i).2).getD i []) [44] = J at *
      unfold foldP
      split
      · simp only [List.length_append, List.length_cons, List.length_nil]; omega
      · simp only [List.length_append, List.length_cons, List.length_nil]; omega
end Go.Proofs.YtkanglfpiahecaaDoor.Lyt
/- The panes of a tree. -/
namespace Go.Proofs.YtkanglfpiahecaaDoor.Lyt
open Go.RowKit

def intC (l : List Int) : List Value := l.map fun n => .int .i64 n
/-- What a visit leaves as it was: what lies under B, and what is neither a list of numbers nor such a list's cells. -/
structure Fe (B : Nat) (w w' : World) : Prop where
  below : Below B w w'
  others : ∀ k t xs, BL w k t xs → t ≠ 60 → t ≠ 3 → BL w' k t xs
theorem Fe.trans {B : Nat} {a b c : World} (h : Fe B a b) (k : Fe B b c) : Fe B a c := ⟨h.below.trans k.below, fun x t xs h1 h2 h3 => k.others x t xs (h.others x t xs h1 h2 h3) h2 h3⟩
theorem Fe.of_below {B : Nat} {a b : World} (hB : B ≤ a.heap.size) (h : Below a.heap.size a b) : Fe B a b := ⟨h.mono hB, fun _ _ _ h1 _ _ => h1.only (F := []) (Only.of_below h) (by simp)⟩
theorem Fe.refl {B : Nat} (a : World) : Fe B a a := ⟨Below.refl _ _, fun _ _ _ h _ _ => h⟩
/-- The panes so far, and where they are gathered. -/
def PnAt (n0 C : Nat) (l : List Int) (w : World) : Prop := n0 < C ∧ C ≤ w.heap.size ∧ ∃ u, BL w n0 60 [u] ∧ w.ownsRow C 3 1 u l.length (intC l)
theorem PnAt.below {n0 C : Nat} {l : List Int} {w w' : World} (h : PnAt n0 C l w) (hb : Below w.heap.size w w') : PnAt n0 C l w' := by
  obtain ⟨h1, h2, u, h3, h4⟩ := h
  exact ⟨h1, Nat.le_trans h2 hb.size, u, h3.only (F := []) (Only.of_below hb) (by simp), own_below h4 hb⟩
set_option maxRecDepth 100000 in
set_option maxHeartbeats 4000000 in
theorem panes1_at {n0 C B b : Nat} {l : List Int} {p s0 s1 : Int} {W : World} (hN : BN W b (leafC p s0 s1)) (hp : PnAt n0 C l W) (hl : l.length ≤ 1000000) (hB : B ≤ n0) :
    Calls Tryd.prog 53 #[pV b, pV n0] W fun e W' => e = .returned (.tuple #[]) ∧ PnAt n0 C (l ++ [p]) W' ∧ Fe B W W' := by
  obtain ⟨hC, hCW, u, h0, hu⟩ := hp
  have e0 : W.drew.cell? ⟨b, 0, none⟩ = some (.int .i64 p) := hN.cell 0
  have d0 : W.drew.cell? ⟨n0, 0, none⟩ = some u := h0.drew.cell 0
  have hone : ∀ q ∈ [Value.int .i64 p], q.oneCell' = true := by
    intro q hq
    rw [List.mem_singleton] at hq
    rw [hq]
    rfl
  have hic : intC (l ++ [p]) = intC l ++ [.int .i64 p] := by simp [intC]
  have hA : BL (W.drew.alloc (.cells #[.int .i64 p] 3)) n0 60 [u] := h0.drew.alloc _
  have hbA : Below W.heap.size W (W.drew.alloc (.cells #[.int .i64 p] 3)) := ((Below.refl _ _).drew).alloc (Nat.le_refl _) _
  have a0 : (W.alloc (.cells #[.int .i64 p] 3)).cell? ⟨n0, 0, none⟩ = some u := (h0.alloc _).cell 0
  have hown : (W.drew.alloc (.cells #[.int .i64 p] 3)).ownsRow C 3 1 u l.length (intC l) := own_below hu hbA
  have hsA : C ≤ (W.drew.alloc (.cells #[.int .i64 p] 3)).heap.size := Nat.le_trans hCW hbA.size
  have HONE := Lib.hid hone
  have HIC := Lib.hid hic
  have HA := Lib.hid hA
  have HB := Lib.hid hbA
  have HOWN := Lib.hid hown
  have H0 := Lib.hid h0
  have HU := Lib.hid hu
  clear hN h0 hu hone hic hA hbA hown
  unfold pV
  go_enter Tryd.func53, Tryd.ntmps53
  go_region_law
    (first
      | (refine step_app info_int Tryd.underlying60 rfl (by decide) (by decide) rfl (.tmp 3) (.tmp 8) rfl C u l.length (intC l) W.heap.size 1 1 [.int .i64 p] rfl HOWN.out rfl rfl (cell_one_new _ _ _) HONE.out (by omega) hsA (by omega) ?_; intro g4 c4 w4 hown4 hb4 hw4 hgr4; have h04 := HA.out.keep (hb4.block n0 hC); have s2 := h04.cell 0; have s2f := h04.frozen 0; have H04 := Lib.hid h04; clear h04))
  all_goals
    have h2b := H04.out.set_ 0 (.slice (some ⟨g4, 0, none⟩) (l.length + 1) c4)
    refine body_end rfl rfl ⟨rfl, ⟨hC, by simp [World.setCell]; exact Nat.le_trans hsA hb4.size, _, h2b, ?_⟩, ?_⟩
    · rw [List.length_append, HIC.out]
      refine own_only (G := [n0]) hown4 ((Only.refl _ _).setCell (p := ⟨n0, 0, none⟩) (.inl (by simp)) _) fun k hk => ?_
      have : g4 = k := Option.some.inj hk
      have := (hown4.lt g4 rfl).1
      simp; omega
    · refine ⟨?_, fun k t xs hk ht1 ht2 => ?_⟩
      · exact ((HB.out.mono (by omega)).trans (hb4.mono (by omega))).setCell (p := ⟨n0, 0, none⟩) hB _
      · have hk1 : BL (W.drew.alloc (.cells #[.int .i64 p] 3)) k t xs := hk.drew.alloc _
        have hk2 : BL w4 k t xs := hk1.keep (hgr4.block k hk1.lt fun e => own_type HOWN.out hk1 ht2 e.symm)
        refine hk2.only ((Only.refl [n0] w4).setCell (p := ⟨n0, 0, none⟩) (.inl (by simp)) _) fun hm => ?_
        rw [List.mem_singleton] at hm
        subst hm
        have e1 := Option.some.inj (hk2.symm.trans H04.out)
        injection e1 with _ e2
        exact ht1 e2
end Go.Proofs.YtkanglfpiahecaaDoor.Lyt
/- The panes of a tree: all of them. -/
namespace Go.Proofs.YtkanglfpiahecaaDoor.Lyt
open Go.RowKit

/-- The panes of each of some trees. -/
def F.pns : F → List (List Int)
  | .nil => []
  | .leaf _ p _ _ r => [p] :: r.pns
  | .node _ _ _ _ ks r => ks.pns.flatten :: r.pns
theorem F.pns_len : ∀ f : F, f.pns.length = f.len
  | .nil => rfl
  | .leaf _ _ _ _ r => by simp [F.pns, F.len, F.pns_len r]
  | .node _ _ _ _ _ r => by simp [F.pns, F.len, F.pns_len r]
theorem F.pns_cnt : ∀ f : F, f.pns.flatten.length = f.cnt
  | .nil => rfl
  | .leaf _ _ _ _ r => by simp only [F.pns, F.cnt, List.flatten_cons, List.length_append, F.pns_cnt r, List.length_cons, List.length_nil]; omega
  | .node _ _ _ _ ks r => by simp only [F.pns, F.cnt, List.flatten_cons, List.length_append, F.pns_cnt r, F.pns_cnt ks]
theorem flatten_take_le (l : List (List Int)) (i : Nat) : (l.take i).flatten.length ≤ l.flatten.length := by
  have e : l.flatten = (l.take i).flatten ++ (l.drop i).flatten := by rw [← List.flatten_append, List.take_append_drop]
  rw [e, List.length_append]
  omega
set_option maxRecDepth 100000 in
set_option maxHeartbeats 4000000 in
theorem eachLeaf_at {n0 C B : Nat} (hB : B ≤ n0) (f : F) : f.has1 → ∀ w, f.In w → (∀ x ∈ f.blks, x < B) → ∀ (i : Nat) v ps l, f.ptrs[i]? = some v → f.pns[i]? = some ps → PnAt n0 C l w → l.length + ps.length ≤ 1000000 →
    Calls Tryd.prog 52 #[v, .func (.func 53) #[] #[pV n0]] w fun e w' => e = .returned (.tuple #[]) ∧ PnAt n0 C (l ++ ps) w' ∧ Fe B w w' := by
  induction f with
  | nil => intro _ w _ _ i v ps l hv; simp [F.ptrs] at hv
  | leaf b p s0 s1 r ih =>
    intro h1 w hin hlo i v ps l hv hps hP hl
    cases i with
    | succ i => exact ih h1 w hin.2 (fun x hx => hlo x (by simp [F.blks, hx])) i v ps l hv hps hP hl
    | zero =>
      obtain rfl : pV b = v := by simpa [F.ptrs] using hv
      obtain rfl : [p] = ps := by simpa [F.pns] using hps
      have hll : l.length ≤ 1000000 := by omega
      have hbB : b < B := hlo b (by simp [F.blks])
      have hBw : B ≤ w.heap.size := by have := hP.1; have := hP.2.1; omega
      have hb0 : Below w.heap.size w (w.alloc (.cells #[.func (.func 53) #[] #[pV n0]] 89)) := (Below.refl _ _).alloc (Nat.le_refl _) _
      have hA := BL.new w 89 [.func (.func 53) #[] #[pV n0]]
      have hN2 := hin.1.only (Only.of_below (F := []) hb0) (by simp)
      have hk := panes1_at hN2 (hP.below hb0) hll hB
      have c4 := hN2.cell 4
      have c0 := hA.cell 0
      have HK := Lib.hid hk
      have HN := Lib.hid hN2
      have HP := Lib.hid hP
      have HB0 := Lib.hid hb0
      clear hk hN2 hA hP hb0 ih hin hv hps
      unfold pV at c0 HK HN HB0 ⊢
      go_enter Tryd.func52, Tryd.ntmps52
      go_wp2_with fail
      refine (isLeaf_at b 0 0 none _ c4).mono ?_
      rintro _ w1 ⟨rfl, rfl⟩
      go_wp2_with fail
      refine HK.out.mono ?_
      rintro _ w2 ⟨rfl, hp2, hf2⟩
      have e4 : w2.cell? ⟨b, 4, none⟩ = some (.slice none 0 0) := by
        obtain ⟨t, h⟩ := HN.out
        exact (h.keep (hf2.below.block b hbB)).cell 4
      have ke := each_at b 0 0 0 none 70 #[pV w.heap.size] (fun _ => undef) (fun _ V => V = w2) w2 (enters_of Tryd.func70 (by kernel_rfl) rfl) e4 (fun h => absurd h (Nat.lt_irrefl 0)) (fun i V h _ => absurd h (Nat.not_lt_zero i)) (fun i V h _ => absurd h (Nat.not_lt_zero i)) rfl (by omega)
      have KE := Lib.hid ke
      clear ke e4 c0 c4
      unfold pV at KE
      go_wp2_with fail
      refine KE.out.mono ?_
      rintro _ w3 ⟨rfl, rfl⟩
      go_wp2_with fail
      exact body_end rfl rfl ⟨rfl, hp2, (Fe.of_below hBw HB0.out).trans hf2⟩
  | node b kb cap al ks r ihk ihr =>
    intro h1 w hin hlo i v ps l hv hps hP hl
    cases i with
    | succ i => exact ihr h1.2.2 w hin.2.2.2 (fun x hx => hlo x (by simp [F.blks, hx])) i v ps l hv hps hP hl
    | zero =>
      obtain rfl : pV b = v := by simpa [F.ptrs] using hv
      obtain rfl : ks.pns.flatten = ps := by simpa [F.pns] using hps
      have hls : l.length + ks.pns.flatten.length ≤ 1000000 := hl
      have hbB : b < B := hlo b (by simp [F.blks])
      have hkB : kb < B := hlo kb (by simp [F.blks])
      have hBw : B ≤ w.heap.size := by have := hP.1; have := hP.2.1; omega
      have hpl := F.ptrs_len ks
      have hpn := F.pns_len ks
      have hlen : ks.len ≤ 1000000 := by have := F.len_cnt ks h1.2.1; have := F.pns_cnt ks; omega
      have hnf : decide (ks.len = 0) = false := decide_eq_false (by have := h1.1; omega)
      have hb0 : Below w.heap.size w (w.alloc (.cells #[.func (.func 53) #[] #[pV n0]] 89)) := (Below.refl _ _).alloc (Nat.le_refl _) _
      have hA := BL.new w 89 [.func (.func 53) #[] #[pV n0]]
      have hin2 : (F.node b kb cap al ks .nil).In w := ⟨hin.1, hin.2.1, hin.2.2.1, trivial⟩
      have HIN := Lib.hid hin2
      have hkid := fun V hV i v ps l => ihk h1.2.1 V hV (fun x hx => hlo x (by simp [F.blks, hx])) i v ps l
      have HKID := Lib.hid hkid
      have HP := Lib.hid hP
      have hlk : ∀ x ∈ ks.blks, x < B := fun x hx => hlo x (by simp [F.blks, hx])
      have HLO := Lib.hid hlk
      clear hlk hin hin2 hkid ihk ihr hv hps hP hl hlo h1
      unfold pV at hA hb0 ⊢
      go_enter Tryd.func52, Tryd.ntmps52
      go_upto_region 1 with fail
      generalize w.alloc (.cells #[.func (.func 53) #[] #[.pointer (some ⟨n0, 0, none⟩)]] 89) = X at *
      have il := isLeaf_at b ks.len cap (some ⟨kb, 0, none⟩) X ((HIN.out.1.only (Only.of_below (F := []) hb0) (by simp)).cell 4)
      rw [hnf] at il
      have e4 : X.cell? ⟨b, 4, none⟩ = some (.slice (some ⟨kb, 0, none⟩) ks.len cap) := (HIN.out.1.only (Only.of_below (F := []) hb0) (by simp)).cell 4
      have ke := each_at b kb ks.len cap (some ⟨kb, 0, none⟩) 70 #[pV w.heap.size] (fun i => ks.ptrs.getD i undef)
        (fun i V => BL V w.heap.size 89 [.func (.func 53) #[] #[pV n0]] ∧ PnAt n0 C (l ++ (ks.pns.take i).flatten) V ∧ Fe B w V) X
        (enters_of Tryd.func70 (by kernel_rfl) rfl) e4 (fun _ => rfl)
        (fun i V hi hV => by
          obtain ⟨h0, t, h1, h2⟩ := HIN.out.2.1
          have hr := RowAt.cell (w := V) (kb := kb) (cap := cap) ⟨h0, t, h1, h2.keep (hV.2.2.below.block kb hkB)⟩ (i := i) (by omega)
          exact hr.trans (getD_some (by omega)))
        (fun i V hi hV => by
          obtain ⟨q0, q1, q2⟩ := hV
          have hiv : i < ks.pns.length := by omega
          have htk : ks.pns.take (i + 1) = ks.pns.take i ++ [ks.pns[i]] := List.take_succ_eq_append_getElem hiv
          have hle := flatten_take_le ks.pns (i + 1)
          have hinV : ks.In V := HIN.out.2.2.1.onlyB (L := []) (B := B) (OnlyB.of_below q2.below) fun x hx => ⟨HLO.out x hx, by simp⟩
          have hk := HKID.out V hinV i (ks.ptrs.getD i undef) ks.pns[i] (l ++ (ks.pns.take i).flatten) (getD_some (by omega)) (List.getElem?_eq_getElem hiv) q1 (by
            rw [htk, List.flatten_append, List.length_append] at hle
            simp only [List.flatten_cons, List.flatten_nil, List.append_nil] at hle
            rw [List.length_append]
            omega)
          have f0 := q0.cell 0
          have HK := Lib.hid hk
          have Q0 := Lib.hid q0
          have HQ2 := Lib.hid q2
          have HTK := Lib.hid htk
          clear hk q0 q1 q2 htk hinV
          generalize ks.ptrs.getD i undef = v at *
          generalize ks.pns[i] = pi at *
          unfold pV at f0 HK ⊢
          go_enter Tryd.func70, Tryd.ntmps70
          go_wp2_with fail
          refine HK.out.mono ?_
          rintro _ w5 ⟨rfl, hp5, hf5⟩
          go_wp2_with fail
          refine body_end rfl rfl ⟨rfl, hf5.others _ _ _ Q0.out (by decide) (by decide), ?_, HQ2.out.trans hf5⟩
          rw [HTK.out, List.flatten_append]
          simp only [List.flatten_cons, List.flatten_nil, List.append_nil]
          rw [← List.append_assoc]
          exact hp5)
        ⟨hA, by simpa using HP.out.below hb0, Fe.of_below hBw hb0⟩ (by omega)
      have KE := Lib.hid ke
      clear ke hA e4
      unfold pV at KE
      go_wp2_with fail
      refine il.mono ?_
      rintro _ w1 ⟨rfl, rfl⟩
      go_wp2_with fail
      refine KE.out.mono ?_
      rintro _ w2 ⟨rfl, q0, q1, q2⟩
      rw [← hpn, List.take_length] at q1
      go_wp2_with fail
      exact body_end rfl rfl ⟨rfl, q1, q2⟩
set_option maxRecDepth 100000 in
set_option maxHeartbeats 4000000 in
/-- A tree's panes, in order. -/
theorem panes_at {f : F} (h1 : f.has1) {w : World} (hin : f.In w) {i : Nat} {v : Value} {ps : List Int} (hv : f.ptrs[i]? = some v) (hps : f.pns[i]? = some ps) (hl : ps.length ≤ 1000000) :
    Calls Tryd.prog 25 #[v] w fun e w' => ∃ u, e = .returned u ∧ w'.ownsRow w.heap.size 3 1 u ps.length (intC ps) ∧ Below w.heap.size w w' := by
  have hb0 : Below w.heap.size w (w.alloc (.cells #[.slice none 0 0] 60)) := (Below.refl _ _).alloc (Nat.le_refl _) _
  have hA := BL.new w 60 [.slice none 0 0]
  have hs : w.heap.size + 1 ≤ (w.alloc (.cells #[.slice none 0 0] 60)).heap.size := by simp
  have hk := eachLeaf_at (n0 := w.heap.size) (C := w.heap.size + 1) (B := w.heap.size) (Nat.le_refl _) f h1 _ (hin.below hb0) (fun x hx => hin.lt x hx) i v ps [] hv hps ⟨Nat.lt_succ_self _, hs, _, hA, World.ownsRow_nil _ _ _ _⟩ (by simpa using hl)
  have HK := Lib.hid hk
  clear hk hA hin hv hps h1
  unfold pV at HK
  go_enter Tryd.func25, Tryd.ntmps25
  go_wp2_with fail
  refine HK.out.mono ?_
  rintro _ w2 ⟨rfl, ⟨_, _, u, q1, q2⟩, hf⟩
  have d1 := q1.cell 0
  rw [List.nil_append] at q2
  obtain ⟨A, c, rfl⟩ := own_slice q2
  have Q2 := Lib.hid q2
  clear q1 q2 HK
  go_wp2_with fail
  go_ret
  exact ⟨_, rfl, own_raise Q2.out fun k hk => by have := (Q2.out.lt k hk).1; omega, hb0.trans hf.below⟩
end Go.Proofs.YtkanglfpiahecaaDoor.Lyt
