/- The examples' steps. -/
import Derived.Test.YtgnlfikkmomghaaGreatDoorOx1
namespace Go.Proofs.YtgnlfikkmomghaaGreatDoor.Opt
open Go.RowKit Go.Maps

/-- What the examples have made: a server's set, a session's over it; all of it the call's own. -/
structure St (w0 w : World) (a b : Nat) (own : Value) : Prop where
  A : SetB w a 1 (.map none) none
  B : SetB w b 2 own (some ⟨a, 1, none⟩)
  la : w0.heap.size ≤ a
  lb : w0.heap.size ≤ b
  ne : a ≠ b
  kept : Below w0.heap.size w0 w
theorem St.below {w0 w w' : World} {a b : Nat} {own : Value} (h : St w0 w a b own) (hb : Below w.heap.size w w') : St w0 w' a b own :=
  ⟨BL.keep h.A (hb.block _ (BL.lt h.A)), BL.keep h.B (hb.block _ (BL.lt h.B)), h.la, h.lb, h.ne, h.kept.trans (hb.mono h.kept.size)⟩
theorem St.tabs {B : Nat} {w0 w : World} {a b : Nat} {own : Value} (h : St w0 w a b own) (ht : Tabs B w0) (hB : B ≤ w0.heap.size) : Tabs B w ∧ B ≤ w.heap.size := ⟨ht.below (h.kept.mono hB), Nat.le_trans hB h.kept.size⟩
theorem St.lv {w0 w : World} {a b : Nat} {own : Value} {D : DataW Value} {n : Nat} (h : St w0 w a b own) (ho : OwnAt w own D n) : LvAt w (some ⟨b, 1, none⟩) [D, D0] :=
  ⟨b, own, _, n, rfl, BL.cell h.B 1, BL.cell h.B 2, ho, a, .map none, none, 0, rfl, BL.cell h.A 1, BL.cell h.A 2, .inl ⟨rfl, rfl⟩, rfl⟩
section
variable {B : Nat} {w0 w : World} {a b : Nat}
theorem s_get0 (ht : Tabs B w0) (hB : B ≤ w0.heap.size) (h : St w0 w a b (.map none)) :
    Calls Tryz.prog 37 #[.pointer (some ⟨b, 0, none⟩), .string (bs statusT)] w fun e w' => e = .returned (.tuple #[.string (bs onT), .int .i64 0]) ∧ Below w.heap.size w w' := by
  obtain ⟨t1, t2⟩ := h.tabs ht hB
  exact get_of b statusT o1 (-1) _ 0 w (find_first b 2 _ _ [D0, D0] statusT o1 (by decide) w t1 t2 h.B (h.lv (n := 0) (.inl ⟨rfl, rfl⟩)) n1 (by decide) (by decide) lk0 u1)
theorem s_set1 (ht : Tabs B w0) (hB : B ≤ w0.heap.size) (h : St w0 w a b (.map none)) :
    Calls Tryz.prog 18 #[.pointer (some ⟨b, 0, none⟩), .string (bs statusT), .string (bs noT)] w fun e w' => e = .returned (.int .i64 0) ∧ ∃ m, m ≠ b ∧ w0.heap.size ≤ m ∧ St w0 w' a b (.map (some m)) ∧ w'.ownsMap Tryz.prog 9 heldR m 1 D1 := by
  obtain ⟨t1, t2⟩ := h.tabs ht hB
  have hs := set_of b statusT noT o1 (-1) w (fun w1 w' => St w0 w1 a b (.map none) ∧ ∃ m, w1.heap.size ≤ m ∧ SetB w' b 2 (.map (some m)) (some ⟨a, 1, none⟩) ∧ w'.ownsMap Tryz.prog 9 heldR m 1 D1 ∧ Only [b] w1 w')
    (open_ok b 2 _ _ statusT noT o1 (-1) (by decide) (by decide) w t1 t2 h.B n1 (by decide))
    (fun w1 hb1 => fill_of b statusT 2 flagK onT 0 0 [] (-1) noT (bs offT) none 0 0 w1 _
      (fun w2 hb2 => value_ok _ statusT 2 flagK onT 0 0 [] noT (bs offT) (by decide) (by decide) w2 (fun w3 _ => made_flag statusT 2 onT 0 0 [] w3))
      (fun w2 hb2 => (hasRoom_nil b 2 _ statusT (bs offT) none 0 0 (by omega) w2 ((h.below hb1).below hb2).B).mono (fun e w' h => h))
      (fun w2 hb2 => (put_nil b 2 _ statusT (by decide) (bs offT) none 0 0 w2 ((h.below hb1).below hb2).B).mono (fun e w' ⟨he, hm⟩ => ⟨he, (h.below hb1).below hb2, hm⟩)))
  refine hs.mono ?_
  rintro e w' ⟨rfl, w1, _, hst, m, hm, hset, hown, hon⟩
  have hbl : b < w1.heap.size := BL.lt hst.B
  refine ⟨rfl, m, by omega, Nat.le_trans hst.kept.size hm, ⟨BL.only hst.A hon (by simp; exact hst.ne), hset, hst.la, hst.lb, hst.ne, hst.kept.trans (hon.below hst.kept.size (by simp; exact hst.lb))⟩, hown⟩
theorem s_get1 (ht : Tabs B w0) (hB : B ≤ w0.heap.size) {m n : Nat} (h : St w0 w a b (.map (some m))) (ho : w.ownsMap Tryz.prog 9 heldR m n D1) :
    Calls Tryz.prog 37 #[.pointer (some ⟨b, 0, none⟩), .string (bs statusT)] w fun e w' => e = .returned (.tuple #[.string (bs offT), .int .i64 0]) ∧ Below w.heap.size w w' := by
  obtain ⟨t1, t2⟩ := h.tabs ht hB
  exact get_of b statusT o1 (-1) _ 0 w (find_has b 2 _ _ [D1, D0] statusT o1 (bs offT) none 0 0 (by decide) w t1 t2 h.B (h.lv (.inr ⟨m, rfl, ho⟩)) n1 (by decide) (by decide) lk1)
theorem s_set2 (ht : Tabs B w0) (hB : B ≤ w0.heap.size) {m : Nat} (hmb : m ≠ b) (hm0 : w0.heap.size ≤ m) (h : St w0 w a b (.map (some m))) (ho : w.ownsMap Tryz.prog 9 heldR m 1 D1) :
    Calls Tryz.prog 18 #[.pointer (some ⟨b, 0, none⟩), .string (bs baseT), .string (bs o7T)] w fun e w' => e = .returned (.int .i64 0) ∧ St w0 w' a b (.map (some m)) ∧ w'.ownsMap Tryz.prog 9 heldR m 2 D2 := by
  obtain ⟨t1, t2⟩ := h.tabs ht hB
  have hk : ∀ {w1 : World}, Below w.heap.size w w1 → w1.ownsMap Tryz.prog 9 heldR m 1 D1 := fun {w1} hb => by
    obtain ⟨es, cl, h1, h2⟩ := ho
    exact ⟨es, cl, (hb.block _ (Array.getElem?_eq_some_iff.1 h1).1).trans h1, h2⟩
  have hs := set_of b baseT o7T o2 (-1) w (fun w1 w' => (St w0 w1 a b (.map (some m)) ∧ w1.ownsMap Tryz.prog 9 heldR m 1 D1) ∧ SetB w' b 2 (.map (some m)) (some ⟨a, 1, none⟩) ∧ w'.ownsMap Tryz.prog 9 heldR m 2 D2 ∧ Only [m] w1 w')
    (open_ok b 2 _ _ baseT o7T o2 (-1) (by decide) (by decide) w t1 t2 h.B n2 (by decide))
    (fun w1 hb1 => fill_of b baseT 2 numK [48] 0 9999 [] (-1) o7T (bs [55]) none 0 0 w1 _
      (fun w2 hb2 => value_ok _ baseT 2 numK [48] 0 9999 [] o7T (bs [55]) (by decide) (by decide) w2 (fun w3 hb3 => made_number baseT 2 [48] 0 9999 [] o7T [55] w3
        (fun w4 hb4 => by
          have hst := (((h.below hb1).below hb2).below hb3).below hb4
          obtain ⟨t3, t4⟩ := hst.tabs ht hB
          have := number_ok baseT 2 numK [48] 0 9999 [] o7T o7T 7 (by decide) nb1 (by decide) (by decide) nb2 nb3 (by decide) (by decide) (by decide) (by decide) w4 t3 t4
          rw [nb4] at this
          exact this)))
      (fun w2 hb2 => (hasRoom_map b 2 _ m 1 D1 baseT (bs [55]) none 0 0 (by omega) w2 ((h.below hb1).below hb2).B (hk (hb1.trans (hb2.mono hb1.size))) (by rw [sz1]; omega) sl1).mono (fun e w' ⟨he, hb⟩ => ⟨by rw [he, rm1]; rfl, hb⟩))
      (fun w2 hb2 => (put_map b 2 _ m 1 D1 baseT (by decide) (bs [55]) none 0 0 w2 ((h.below hb1).below hb2).B (hk (hb1.trans (hb2.mono hb1.size))) (by omega)).mono (fun e w' ⟨he, hm⟩ => ⟨he, ⟨(h.below hb1).below hb2, hk (hb1.trans (hb2.mono hb1.size))⟩, hm⟩)))
  refine hs.mono ?_
  rintro e w' ⟨rfl, w1, _, ⟨hst, hown1⟩, hset, hown, hon⟩
  have ham : a ≠ m := fun e => by
    obtain ⟨es, cl, h1, _⟩ := hown1
    have := hst.A; subst e; unfold SetB BL at this; rw [this] at h1; cases h1
  refine ⟨rfl, ⟨BL.only hst.A hon (by simp; exact ham), hset, hst.la, hst.lb, hst.ne, hst.kept.trans (hon.below hst.kept.size (by simp; exact hm0))⟩, hown⟩
theorem s_num (ht : Tabs B w0) (hB : B ≤ w0.heap.size) {m n : Nat} (h : St w0 w a b (.map (some m))) (ho : w.ownsMap Tryz.prog 9 heldR m n D2) :
    Calls Tryz.prog 39 #[.pointer (some ⟨b, 0, none⟩), .string (bs baseT)] w fun e w' => e = .returned (.tuple #[.int .i64 7, .int .i64 0]) ∧ Below w.heap.size w w' := by
  obtain ⟨t1, t2⟩ := h.tabs ht hB
  exact number_of b baseT o2 (-1) [55] 7 w t1 t2 (by decide) rfl nb5 (find_has b 2 _ _ [D2, D0] baseT o2 (bs [55]) none 0 0 (by decide) w t1 t2 h.B (h.lv (.inr ⟨m, rfl, ho⟩)) n2 (by decide) (by decide) lk2)
theorem s_known (ht : Tabs B w) (hB : B ≤ w.heap.size) :
    Calls Tryz.prog 14 #[.string (bs histT)] w fun e w' => e = .returned (.tuple #[.string (bs [104, 105, 115, 116, 111, 114, 121, 45, 108, 105, 109, 105, 116]), .string (bs numK), .int .i64 0]) ∧ Below w.heap.size w w' := by
  have := known_any histT (by decide) w ht hB
  rw [k1] at this
  exact this
theorem s_stat (ht : Tabs B w0) (hB : B ≤ w0.heap.size) {own : Value} (h : St w0 w a b own) (t : Tx) :
    Calls Tryz.prog 18 #[.pointer (some ⟨b, 0, none⟩), .string (bs statT), .string (bs t)] w fun e w' => e = .returned (.int .i64 6) ∧ Below w.heap.size w w' := by
  obtain ⟨t1, t2⟩ := h.tabs ht hB
  exact set_no b statT t 6 (by decide) w (open_no b statT t (by decide) w t1 t2 n3)
theorem s_names {m n : Nat} (h : St w0 w a b (.map (some m))) (ho : w.ownsMap Tryz.prog 9 heldR m n D2) :
    Calls Tryz.prog 12 #[.pointer (some ⟨b, 0, none⟩)] w fun e w' => (∃ A c, e = .returned (.slice A 2 c)) ∧ Below w.heap.size w w' := by
  refine (names_map b 2 _ m n D2 w h.B ho (by rw [sz2]; omega)).mono ?_
  rintro e w' ⟨v, ss, rfl, hp, hrow, hnil, hb⟩
  have hl : ss.length = 2 := by rw [hp.length_eq, size_keys, sz2]
  rcases hrow.2 with ⟨_, hz⟩ | ⟨g, cap, cur, rfl, _⟩
  · omega
  · rw [hl]; exact ⟨⟨_, _, rfl⟩, hb⟩
end
end Go.Proofs.YtgnlfikkmomghaaGreatDoor.Opt
