/- A raw number as one of so many; a screen of a raw size. -/
import Derived.Test.YtjklnnklgkihlaaGreatDoorPbf
import Derived.Test.YtjklnnklgkihlaaGreatDoorPbh
namespace Go.Proofs.YtjklnnklgkihlaaGreatDoor.Scr
open Go.RowKit Cel Sty Grd

set_option maxRecDepth 100000 in
theorem pick6 (n m : Int) (h0 : -9223372036854775808 ≤ n) (h1 : n ≤ 9223372036854775807) (hm0 : 0 < m) (hm1 : m ≤ 16777216) (w : World) :
    Calls Tryz.prog 13 #[.int .i64 n, .int .i64 m] w fun e w' => e = .returned (.int .i64 (pickS n m)) ∧ w = w' := by
  by_cases hn : n < 0
  · have HE : Hid (pickS n m = -((n + 1).tmod m)) := by show _ = _; unfold pickS; rw [if_pos hn, ← Int.neg_tmod, Int.tmod_eq_emod_of_nonneg (by omega)]
    have hmz : m ≠ 0 := by omega
    go_enter Tryz.func13, Tryz.ntmps13
    go_wp2_with fail
    go_ret
    exact ⟨by rw [HE.out]; rfl, rfl⟩
  · have HE : Hid (pickS n m = n % m) := by show _ = _; unfold pickS; rw [if_neg hn]
    have hmz : m ≠ 0 := by omega
    go_enter Tryz.func13, Tryz.ntmps13
    go_wp2_with fail
    go_ret
    exact ⟨by rw [HE.out]; rfl, rfl⟩
theorem pickS_in (n m : Int) (hm : 0 < m) : ∃ k : Nat, pickS n m = (k : Int) ∧ (k : Int) < m := by
  have h : 0 ≤ pickS n m ∧ pickS n m < m := by
    unfold pickS
    split
    · exact ⟨Int.emod_nonneg _ (by omega), Int.emod_lt_of_pos _ hm⟩
    · exact ⟨Int.emod_nonneg _ (by omega), Int.emod_lt_of_pos _ hm⟩
  exact ⟨(pickS n m).toNat, by omega, by omega⟩
set_option maxRecDepth 100000 in
set_option maxHeartbeats 1000000 in
theorem made6 (x y z : Int) (hx0 : -9223372036854775808 ≤ x) (hx1 : x ≤ 9223372036854775807) (hy0 : -9223372036854775808 ≤ y) (hy1 : y ≤ 9223372036854775807) (hz0 : -9223372036854775808 ≤ z) (hz1 : z ≤ 9223372036854775807) (w : World) :
    Calls Tryz.prog 6 #[.int .i64 x, .int .i64 y, .int .i64 z] w fun e w' => ∃ (c r h : Nat) (sb g : Nat) (F : List Nat) (pb db tb : Nat), 1 ≤ c ∧ c ≤ 40 ∧ 1 ≤ r ∧ r ≤ 15 ∧ (h : Int) = pickS z 40 ∧ e = .returned (ptrV sb) ∧ NewS w w' sb g F c h r pb db tb := by
  obtain ⟨c, hc, hc2⟩ := pickS_in x 40 (by decide)
  obtain ⟨r, hr, hr2⟩ := pickS_in y 15 (by decide)
  obtain ⟨h, hh, hh2⟩ := pickS_in z 40 (by decide)
  have kx := pick6 x 40 hx0 hx1 (by decide) (by decide) w
  have ky := pick6 y 15 hy0 hy1 (by decide) (by decide) w
  have kz := pick6 z 40 hz0 hz1 (by decide) (by decide) w
  rw [hc] at kx
  rw [hr] at ky
  rw [hh] at kz
  have kn := new_screen (c + 1) (r + 1) h (by omega) (by omega) (by omega) (by omega) (by omega) w
  have e1 : ((c + 1 : Nat) : Int) = 1 + (c : Int) := by omega
  have e2 : ((r + 1 : Nat) : Int) = 1 + (r : Int) := by omega
  rw [e1, e2] at kn
  have j1 : IntKind.i64.wrap (1 + (c : Int)) = 1 + (c : Int) := IntWalk.i64_in _ ⟨by omega, by omega⟩
  have j2 : IntKind.i64.wrap (1 + (r : Int)) = 1 + (r : Int) := IntWalk.i64_in _ ⟨by omega, by omega⟩
  have HN := Lib.hid kn
  clear kn e1 e2
  go_enter Tryz.func6, Tryz.ntmps6
  go_wp2_with fail
  refine kx.mono ?_
  rintro _ w1 ⟨rfl, rfl⟩
  go_wp2_with fail
  refine ky.mono ?_
  rintro _ w1 ⟨rfl, rfl⟩
  go_wp2_with fail
  refine kz.mono ?_
  rintro _ w1 ⟨rfl, rfl⟩
  go_wp2_with fail
  refine HN.out.mono ?_
  rintro _ w1 ⟨sb, g, F, pb, db, tb, rfl, hn⟩
  have HNN := Lib.hid hn
  clear hn
  unfold ptrV
  go_wp2_with fail
  go_ret
  exact ⟨c + 1, r + 1, h, sb, g, F, pb, db, tb, by omega, by omega, by omega, by omega, hh.symm, rfl, HNN.out⟩
end Go.Proofs.YtjklnnklgkihlaaGreatDoor.Scr
/- A screen whose pen is known; a Feed that turns it. -/
namespace Go.Proofs.YtjklnnklgkihlaaGreatDoor.Scr
open Go.RowKit Cel Grd

theorem Tabled.up {B C : Nat} {w : World} (h : Tabled B w) (hB : B ≤ C) : Tabled C w :=
  ⟨⟨h.tab.spans, Nat.lt_of_lt_of_le h.tab.low hB⟩, ⟨h.att.att, Nat.lt_of_lt_of_le h.att.low hB⟩, h.vt, Nat.le_trans h.low hB⟩
theorem Tabled.sty {B : Nat} {w : World} (h : Tabled B w) : Sty.Tabs B w :=
  ⟨by have := h.low; unfold Cel.low at this; omega, h.vt.u10⟩
/-- A block of another type than the list's is not the list's. -/
theorem own_type {w : World} {base e size n : Nat} {v : Value} {xs : List Value} (h : w.ownsRow base e size v n xs) {k : Nat} {t : TypeId} {cs : Array Value} (hk : Sty.Blk w k t cs) (hne : t ≠ e) : v.ownBlock ≠ some k := fun hv => by
  rcases h.2 with ⟨rfl, _⟩ | ⟨g, cap, cur, rfl, _, hh, _⟩
  · cases hv
  · have hg : g = k := Option.some.inj hv
    subst hg
    have e1 := Option.some.inj (hh.symm.trans hk)
    injection e1 with _ e2
    exact hne e2.symm
/-- A screen with a parser that waits for nothing, in blocks from B on; its pen; looks that lie apart from it. -/
def PenAt (B : Nat) (w : World) (sb : Nat) (p : Grd.St) (K : List (Nat × Array Value)) : Prop := ∃ g F c lim pb db pv tp tv M, Scr0 B w sb g F c lim pb db pv tp tv M Vt.ps0 ∧ M.S.now.pen = p ∧ ∀ k ∈ K, Sty.Blk w k.1 23 k.2 ∧ k.1 ∉ sb :: F ++ mineL pb db pv tp
section
variable {B sb : Nat} {w w1 : World} {p q : Grd.St} {K : List (Nat × Array Value)}
theorem PenAt.below (h : PenAt B w sb p K) (hb : Below w.heap.size w w1) : PenAt B w1 sb p K := by
  obtain ⟨g, F, c, lim, pb, db, pv, tp, tv, M, h1, h2, h3⟩ := h
  exact ⟨g, F, c, lim, pb, db, pv, tp, tv, M, h1.below hb, h2, fun k hk => ⟨(h3 k hk).1.below hb (h3 k hk).1.lt, (h3 k hk).2⟩⟩
theorem PenAt.blk (h : PenAt B w sb p K) {k : Nat} {cs : Array Value} (hk : (k, cs) ∈ K) : Sty.Blk w k 23 cs := by
  obtain ⟨g, F, c, lim, pb, db, pv, tp, tv, M, h1, h2, h3⟩ := h
  exact (h3 _ hk).1
theorem PenAt.add (h : PenAt B w sb p K) (cs : Array Value) : PenAt B (w.alloc (.cells cs 23)) sb p ((w.heap.size, cs) :: K) := by
  obtain ⟨g, F, c, lim, pb, db, pv, tp, tv, M, h1, h2, h3⟩ := h
  have hb : Below w.heap.size w (w.alloc (.cells cs 23)) := (Below.refl _ _).alloc (Nat.le_refl _) _
  refine ⟨g, F, c, lim, pb, db, pv, tp, tv, M, h1.below hb, h2, fun k hk => ?_⟩
  rcases List.mem_cons.1 hk with rfl | hk
  · exact ⟨Sty.Blk.new w _ cs, fun hm => Nat.lt_irrefl _ (h1.lt _ hm)⟩
  · exact ⟨(h3 k hk).1.below hb (h3 k hk).1.lt, (h3 k hk).2⟩
theorem pen_new {g : Nat} {F : List Nat} {c lim r pb db tb : Nat} (h : NewS w w1 sb g F c lim r pb db tb) (hB : B ≤ w.heap.size) : PenAt B w1 sb (-1, -1, 0) [] :=
  ⟨_, _, _, _, _, _, _, _, _, _, new_scr h hB, rfl, fun _ hk => by simp at hk⟩
theorem pen_style (h : PenAt B w sb p K) : Calls Tryz.prog 11 #[ptrV sb] w fun e w' => e = .returned (.agg #[.int .i64 p.1, .int .i64 p.2.1, .int .i64 p.2.2]) ∧ Below w.heap.size w w' := by
  obtain ⟨g, F, c, lim, pb, db, pv, tp, tv, M, h1, rfl, _⟩ := h
  exact style_at h1.scr.blk
theorem pen_feed (h : PenAt B w sb p K) (ht : Tabled B w) (hB : B ≤ w.heap.size) {l : List UInt8} (hq : Turns l p q) (hl : l.length ≤ 1000000) (hb : Below w.heap.size w w1) {A : Option Addr} (hin : Vt.InB w1 A l) (hA : ∀ g o, A = some ⟨g, o, none⟩ → w.heap.size ≤ g) (cp : Nat) :
    Calls Tryz.prog 8 #[ptrV sb, .slice A l.length cp] w1 fun e w' => ∃ A' c', e = .returned (.slice A' 0 c') ∧ PenAt B w' sb q K ∧ Below B w w' := by
  obtain ⟨g, F, c, lim, pb, db, pv, tp, tv, M, h1, rfl, h3⟩ := h
  refine (feed_turn h1 ht l hq A cp hb hin (fun g o e => new_apart h1.par (hA g o e)) hl).mono ?_
  rintro e w' ⟨ov, rfl, hA0, hO, F', pv', tp', hS, hP, hd, hF, hbl⟩
  obtain ⟨A2, c2, rfl⟩ := Vt.own_slice hA0
  refine ⟨A2, c2, rfl, ⟨g, F', c, lim, pb, db, pv', tp', tv, _, ⟨hS, hP, fun x hx => (hF x hx).elim (h1.far x) fun q => Nat.le_trans hB q, h1.own, hd⟩, rfl, fun k hk => ?_⟩, hbl⟩
  obtain ⟨k1, k2⟩ := h3 k hk
  have k3 : Sty.Blk w' k.1 23 k.2 := (hO.block _ k1.lt k2).trans k1
  refine ⟨k3, fun hm => ?_⟩
  rcases List.mem_append.1 hm with hm | hm
  · rcases List.mem_cons.1 hm with e | hm
    · exact k2 (by rw [e]; simp)
    · rcases hF _ hm with hm | hm
      · exact k2 (by simp [hm])
      · exact absurd hm (Nat.not_le_of_lt k1.lt)
  · rcases mem_mineL.1 hm with e | e | e | e
    · exact k2 (List.mem_append.2 (.inr (mem_mineL.2 (.inl e))))
    · exact k2 (List.mem_append.2 (.inr (mem_mineL.2 (.inr (.inl e)))))
    · exact own_type hP.prm k3 (by decide) e
    · exact own_type hP.txt k3 (by decide) e
end
/-- A text's bytes, in a new block. -/
theorem text_bytes (w : World) (l : List UInt8) : ∃ A c w1, (convert 9 28 (.string (Sty.bs l))).run Tryz.prog w = .ok (.slice A l.length c) w1 ∧ Below w.heap.size w w1 ∧ Vt.InB w1 A l ∧ (∀ g o, A = some ⟨g, o, none⟩ → w.heap.size ≤ g) := by
  have h := run_bytes_of_string (P := Tryz.prog) w 9 28 5 (Sty.bs l) Tryz.underlying9 Tryz.underlying28 Tryz.underlying5
  rw [Sty.bs_size] at h
  refine ⟨_, _, _, h, ((Below.refl _ w).drew).alloc (Nat.le_refl _) _, fun i hi => ⟨w.heap.size, 0, _, _, rfl, heap_alloc_new w.drew _, ?_⟩, fun g o e => by injection e with e; injection e with e; omega⟩
  unfold bytesRow
  rw [Nat.zero_add, Array.getElem?_append_left (by simp [Sty.bs]; exact hi)]
  simp [Sty.bs, List.getElem?_eq_getElem hi, List.getD_eq_getElem?_getD]
theorem orP_same {a b c : Int} (h : Sty.rightS a b c = true) : Sty.orP a b c = (a, b, c) := by unfold Sty.orP; rw [if_pos h]
theorem sgr_len (f t : Grd.St) : (Sty.sgrS f t).length ≤ 100000 := by
  unfold Sty.sgrS
  split
  · simp
  · have h1 := Sty.join_len [59] 20 (Sty.codesOf f t) (fun x hx => by
      unfold Sty.codesOf at hx
      simp only [List.mem_append] at hx
      rcases hx with ((hx | hx) | hx) | hx
      · rw [mem_if hx]; simp
      · unfold Sty.onCodes at hx
        obtain ⟨i, _, rfl⟩ := List.mem_map.1 hx
        simp [Sty.digitAt]
      · rw [mem_if hx]; exact Sty.codeS_len _ _
      · rw [mem_if hx]; exact Sty.codeS_len _ _)
    have h2 : (Sty.codesOf f t).length ≤ 100 := by
      unfold Sty.codesOf
      simp only [List.length_append]
      have h3 := fun a b => Sty.onCodes_len a b 8
      have h4 : ∀ (p : Prop) [Decidable p] (x : List UInt8), (if p then [x] else []).length ≤ 1 := fun p _ x => by split <;> simp
      have a1 := h4 (decide (Sty.an f.2.2.toNat t.2.2.toNat ≠ 0) = true) [48]
      have a2 := h4 (t.1 ≠ (if decide (Sty.an f.2.2.toNat t.2.2.toNat ≠ 0) = true then ((-1, -1, 0) : Grd.St) else f).1) (Sty.codeS t.1 30)
      have a3 := h4 (t.2.1 ≠ (if decide (Sty.an f.2.2.toNat t.2.2.toNat ≠ 0) = true then ((-1, -1, 0) : Grd.St) else f).2.1) (Sty.codeS t.2.1 40)
      have a4 := h3 t.2.2.toNat (if decide (Sty.an f.2.2.toNat t.2.2.toNat ≠ 0) = true then ((-1, -1, 0) : Grd.St) else f).2.2.toNat
      omega
    simp only [List.length_append, List.length_cons, List.length_nil]
    simp only [List.length_cons, List.length_nil] at h1
    have : (Sty.codesOf f t).length * (20 + (0 + 1)) ≤ 100 * 21 := Nat.mul_le_mul_right _ h2
    omega
/-- Sgr of two right looks, as a text of bytes that turns a pen. -/
theorem sgr_text {B : Nat} (a1 a2 a3 b1 b2 b3 : Int) (ha : Sty.rightS a1 a2 a3 = true) (hb : Sty.rightS b1 b2 b3 = true) : ∃ l : List UInt8, l.length ≤ 100000 ∧ Turns l (a1, a2, a3) (b1, b2, b3) ∧ ∀ w, Sty.Tabs B w → B ≤ w.heap.size →
    Calls Tryz.prog 9 #[.agg #[.int .i64 a1, .int .i64 a2, .int .i64 a3], .agg #[.int .i64 b1, .int .i64 b2, .int .i64 b3]] w fun e w' => e = .returned (.string (Sty.bs l)) ∧ Below w.heap.size w w' := by
  refine ⟨Sty.sgrS (a1, a2, a3) (b1, b2, b3), sgr_len _ _, sgr_turns _ _ ha hb, fun w ht hB => ?_⟩
  have := Sty.sgr_any a1 a2 a3 b1 b2 b3 w ht hB
  rw [orP_same ha, orP_same hb] at this
  exact this
end Go.Proofs.YtjklnnklgkihlaaGreatDoor.Scr
