/- Actions appended to a list of them; pieces of a text. The walk of the law that it makes no difference into which pieces a terminal's bytes are cut. The walk of the law that it makes no difference into which pieces a terminal's bytes are cut (the law itself). -/
import Derived.Test.YtmhmbeofcedjjaaDoorLbd
namespace Go.Proofs.YtmhmbeofcedjjaaDoor.Vt
open Go.RowKit
open Cel (Blk Kept Tabs low Owns At good enc)

section
variable {ops : Array Oper} {rest : List Oper} {op : Oper} {a : Act} {w : World} {Q : Exit → Act → World → Prop}
theorem flat_one {l : List To} (h : ∀ t ∈ l, t.2.oneCell' = true) : ∀ u ∈ flat l, u.oneCell' = true := fun u hu => by
  unfold flat at hu
  obtain ⟨t, ht, hu⟩ := List.mem_flatMap.1 hu
  have h1 := h t ht
  simp only [acL, List.mem_cons, List.not_mem_nil, or_false] at hu
  rcases hu with rfl | rfl | rfl | rfl | rfl | rfl <;> first | rfl | exact h1
theorem wpList_append_acts (hgd : op.guard = none) (s x : Operand) (ho : op.op = .call { callee := .builtin .append, args := #[s, x], argTypes := #[22, 22] })
    (base base' : Nat) (v u : Value) (l k : List To) (hs : a.eval s = v) (hown : w.ownsRow base 38 6 v l.length (flat l)) (hx : a.eval x = u) (hu : w.ownsRow base' 38 6 u k.length (flat k)) (h1c : ∀ t ∈ k, t.2.oneCell' = true) (hbase : base ≤ w.heap.size) (hn : l.length + k.length ≤ 4294967296)
    (h : ∀ v' w', w'.ownsRow base 38 6 v' (l ++ k).length (flat (l ++ k)) → Kept w w' (fun j => v.ownBlock = some j) → (v'.ownBlock = v.ownBlock ∨ ∃ j, v'.ownBlock = some j ∧ w.heap.size ≤ j) → wpList Tryd.prog ops Q rest (a.put op.dst v') w') :
    wpList Tryd.prog ops Q (op :: rest) a w := by
  obtain ⟨i0, hi0, hz0, hz1, hz2⟩ := info_parts info_act
  by_cases hk : k = []
  · subst hk
    rcases hu.2 with ⟨rfl, _⟩ | ⟨g, cap, cur, rfl, _, hh, _⟩
    · refine wpList_append_own_none hgd s x 22 ho base 38 i0 6 Tryd.underlying22 hi0 v l.length (flat l) hs hown hx ?_
      exact h v w (by rw [List.append_nil]; exact hown) (Kept.refl _ _) (.inl rfl)
    · refine wpList_append_own_at _ hgd s x 22 ho base 38 i0 _ 6 72 Tryd.underlying22 hi0 hz0 hz1 hz2 rfl (by decide) v l.length (flat l) hs hown ⟨g, 0, none⟩ 0 cap [] hx rfl (by intro j u hj; simp at hj)
        (by intro u hu; simp at hu) (by unfold maxLen; simp at hn; omega) (by simp at hn; omega) hbase ?_
      intro v' w' h1 h2 _ h4
      refine h v' w' ?_ ((Kept.refl w _).grown h2 fun j hj _ => hj) ?_
      · rw [List.append_nil]
        simpa using h1
      · rcases h4 with h4 | h4
        · exact .inl h4
        · exact .inr ⟨_, h4, Nat.le_refl _⟩
  · rcases hu.2 with ⟨rfl, h0⟩ | ⟨g, cap, cur, rfl, _, hh, _⟩
    · exact absurd (List.eq_nil_of_length_eq_zero h0) hk
    · refine wpList_append_own_at _ hgd s x 22 ho base 38 i0 _ 6 72 Tryd.underlying22 hi0 hz0 hz1 hz2 rfl (by decide) v l.length (flat l) hs hown ⟨g, 0, none⟩ k.length cap (flat k) hx (flat_len k) (hu.cells (g := g) rfl)
        (flat_one h1c) (by unfold maxLen; omega) (by omega) hbase ?_
      intro v' w' h1 h2 _ h4
      refine h v' w' ?_ ((Kept.refl w _).grown h2 fun j hj _ => hj) ?_
      · rw [List.length_append, flat_app]
        exact h1
      · rcases h4 with h4 | h4
        · exact .inl h4
        · exact .inr ⟨_, h4, Nat.le_refl _⟩
end
theorem run_slice_mid (w : World) (l : Tx) (i r : Nat) (h : i + r ≤ l.length) : (Instr.slice 9 (.string (bs l)) (some (.int .i64 (i : Int))) (some (.int .i64 ((i : Int) + (r : Int)))) none).run Tryd.prog w = .ok (.string (bs ((l.drop i).take r))) w := by
  have hs := bs_size l
  rw [run_slice_string_if w 9 (bs l) .i64 .i64 (i : Int) ((i : Int) + (r : Int)) Tryd.underlying9, if_pos ⟨by omega, by omega⟩, if_pos ⟨by omega, by omega⟩]
  have e : (bs l).extract (i : Int).toNat ((i : Int) + (r : Int)).toNat = bs ((l.drop i).take r) := by
    refine ByteArray.ext ?_
    apply Array.ext'
    rw [Lib.extract_data]
    have e1 : ((i : Int) + (r : Int)).toNat = i + r := by omega
    rw [e1, bs_list, Int.toNat_natCast, bs_list]
    rw [show i + r - i = r by omega]
  rw [e]
theorem run_slice_rest (w : World) (l : Tx) (i : Nat) (h : i ≤ l.length) : (Instr.slice 9 (.string (bs l)) (some (.int .i64 (i : Int))) none none).run Tryd.prog w = .ok (.string (bs (l.drop i))) w := by
  have hs := bs_size l
  rw [run_slice_string_from_if w 9 (bs l) .i64 (i : Int) Tryd.underlying9, if_pos ⟨by omega, by omega⟩]
  have e : (bs l).extract (i : Int).toNat (bs l).size = bs (l.drop i) := by
    refine ByteArray.ext ?_
    apply Array.ext'
    rw [Lib.extract_data, bs_list, hs, bs_list, Int.toNat_natCast]
    exact List.take_of_length_le (by simp)
  rw [e]
theorem run_piece (S : Ps) (l : Tx) (i r : Nat) : run S (l.take (i + r)) = ((run (run S (l.take i)).1 ((l.drop i).take r)).1, (run S (l.take i)).2 ++ (run (run S (l.take i)).1 ((l.drop i).take r)).2) := by
  rw [List.take_add, run_app]
theorem run_rest (S : Ps) (l : Tx) (i : Nat) : run S l = ((run (run S (l.take i)).1 (l.drop i)).1, (run S (l.take i)).2 ++ (run (run S (l.take i)).1 (l.drop i)).2) := by
  rw [← run_app, List.take_append_drop]
end Go.Proofs.YtmhmbeofcedjjaaDoor.Vt
namespace Go.Proofs.YtmhmbeofcedjjaaDoor.Vt
open Go.RowKit
open Cel (Blk Kept Tabs low Owns At good enc)

/-- One piece more: where the parser stands, and what it has told. -/
structure Pie (w : World) (B qb eb : Nat) (F : Nat) (l : Tx) (i : Nat) (qv uv ov : Value) (out : List To) : Prop where
  q : PAt w B qb eb qv uv (run ps0 (l.take i)).1
  m : ∀ k, mine qb eb qv uv k → mine qb eb nilV nilV k ∨ F ≤ k
  L : Lst w F ov out
  e : outs out = (run ps0 (l.take i)).2
  a : Apt qv out
/-- What stays while the other parser is fed. -/
structure Sid (w : World) (B pb db : Nat) (pv tv : Value) (S : Ps) (C F : Nat) (ov : Value) (out : List To) : Prop where
  p : PAt w B pb db pv tv S
  L : Lst w C ov out
  lt : ∀ k, mine pb db pv tv k → k < F
  l1 : ∀ k, ov.ownBlock = some k → k < F
  l2 : ∀ t ∈ out, ∀ k, t.2.ownBlock = some k → k < F
theorem Sid.fed {w w' : World} {B pb db C F qb eb : Nat} {pv tv qv uv ov : Value} {S : Ps} {out : List To} (h : Sid w B pb db pv tv S C F ov out) (dis : Dis pb db pv tv qb eb nilV nilV) (hq : ∀ k, mine qb eb nilV nilV k → k < C) (hm : ∀ k, mine qb eb qv uv k → mine qb eb nilV nilV k ∨ F ≤ k) (k : Kept w w' (mine qb eb qv uv)) : Sid w' B pb db pv tv S C F ov out := by
  refine ⟨h.p.keep k fun i hi hx => ?_, h.L.keep k (fun i hi hx => ?_) fun t ht i hi hx => ?_, h.lt, h.l1, h.l2⟩
  · rcases hm i hx with q | q
    · exact dis i hi q
    · have := h.lt i hi; omega
  · rcases hm i hx with q | q
    · have := hq i q; have := (h.L.1.lt i hi).1; omega
    · have := h.l1 i hi; omega
  · rcases hm i hx with q | q
    · have := hq i q; have := ((h.L.2 t ht).lt i hi).1; omega
    · have := h.l2 t ht i hi; omega
theorem Sid.grown {w w' : World} {B pb db C F : Nat} {pv tv ov v : Value} {S : Ps} {out : List To} (h : Sid w B pb db pv tv S C F ov out) (hv : ∀ i, v.ownBlock = some i → F ≤ i) (k : Kept w w' (fun i => v.ownBlock = some i)) : Sid w' B pb db pv tv S C F ov out := by
  refine ⟨h.p.keep k fun i hi hx => ?_, h.L.keep k (fun i hi hx => ?_) fun t ht i hi hx => ?_, h.lt, h.l1, h.l2⟩
  · have := h.lt i hi; have := hv i hx; omega
  · have := h.l1 i hi; have := hv i hx; omega
  · have := h.l2 t ht i hi; have := hv i hx; omega
/-- A piece has been fed, and its list appended. -/
theorem Pie.next {w w1 w2 : World} {B qb eb F i r : Nat} {l : Tx} {qv uv ov ov2 qv' uv' v' : Value} {out out2 : List To} (h : Pie w B qb eb F l i qv uv ov out) (hF : F ≤ w.heap.size) (Q : PAt w1 B qb eb qv' uv' (run (run ps0 (l.take i)).1 ((l.drop i).take r)).1) (L2 : Lst w1 w.heap.size ov2 out2)
    (he : outs out2 = (run (run ps0 (l.take i)).1 ((l.drop i).take r)).2) (ha : Apt qv' out2) (k1 : Kept w w1 (mine qb eb qv uv)) (hm : ∀ k, mine qb eb qv' uv' k → mine qb eb qv uv k ∨ w.heap.size ≤ k)
    (ho : w2.ownsRow F 38 6 v' (out ++ out2).length (flat (out ++ out2))) (k2 : Kept w1 w2 (fun j => ov.ownBlock = some j)) : Pie w2 B qb eb F l (i + r) qv' uv' v' (out ++ out2) := by
  have L1 := h.L.fed h.q h.a k1
  have A1 := h.a.fed h.L h.q hm
  have hr := run_piece ps0 l i r
  refine ⟨?_, fun k hk => ?_, ⟨ho, fun t ht => ?_⟩, ?_, fun t ht => ?_⟩
  · rw [hr]
    exact Q.keep k2 fun j hj hx => mine_far' Q L1.1 j hx hj
  · rcases hm k hk with q | q
    · exact h.m k q
    · exact .inr (by omega)
  · rcases List.mem_append.1 ht with ht | ht
    · exact k2.owns (L1.2 t ht) fun j hj hx => own_apart (L1.2 t ht) L1.1 (by decide) j hj hx
    · exact k2.owns (own_raise (L2.2 t ht) fun j hj => Nat.le_trans hF ((L2.2 t ht).lt j hj).1) fun j hj hx => own_apart (L2.2 t ht) L1.1 (by decide) j hj hx
  · rw [outs_app, hr, h.e, he]
  · rcases List.mem_append.1 ht with ht | ht
    · exact A1 t ht
    · exact ha t ht
end Go.Proofs.YtmhmbeofcedjjaaDoor.Vt
namespace Go.Proofs.YtmhmbeofcedjjaaDoor.Vt
open Go.RowKit
open Cel (Blk Kept Tabs low Owns At good enc)

/-- A cut as a place: below 0 it counts from the other side. -/
def cutOf (z : Int) : Int := if z < 0 then -(z + 1) else z
set_option maxRecDepth 100000 in
set_option maxHeartbeats 8000000 in
theorem lawPieces_walk (ls : Tx) (Ac : Option Addr) (cc : Nat) (zs : List Int) (w : World) (ht : Tabs w) (hlow : low ≤ w.heap.size) (hls : ls.length ≤ 140737488355328) (hzl : zs.length ≤ 9223372036854775807) (hrd : RdI w Ac zs) (hzb : ∀ z ∈ zs, -9223372036854775808 ≤ z ∧ z ≤ 9223372036854775807) :
    Calls Tryd.prog 4 #[.string (bs ls), .slice Ac zs.length cc] w fun e w' => e = .returned (.bool true) ∧ Below w.heap.size w w' := by
  have HY : Hid ((bs ls).size = ls.length) := bs_size ls
  have HTS := Lib.hid (fun (w : World) => to_bytes w ls)
  have HSM := Lib.hid (fun (w : World) (i r : Nat) (h : i + r ≤ ls.length) => run_slice_mid w ls i r h)
  have HSR := Lib.hid (fun (w : World) (i : Nat) (h : i ≤ ls.length) => run_slice_rest w ls i h)
  generalize bs ls = Y at *
  have hsh := shown_any w ht hlow
  have HRD := Lib.hid hrd
  have HZB := Lib.hid hzb
  clear hrd hzb
  go_enter Tryd.func4, Tryd.ntmps4
  go_wp2_with fail
  refine hsh.mono ?_
  rintro e w1 ⟨rfl, hb1⟩
  have ht1 := ht.below hb1 hlow
  have hn1 := new_any w1 w.heap.size hb1.size
  go_wp2_with fail
  refine hn1.mono ?_
  rintro e w2 ⟨rfl, P2, hb2', hz2⟩
  have hs1 := hb1.size
  have hb2 : Below w.heap.size w w2 := hb1.trans (hb2'.mono hs1)
  have ht2 := ht.below hb2 hlow
  have hs2 := hb2.size
  have HP2 := P2.lt
  have hn2 := new_any w2 w2.heap.size (Nat.le_refl _)
  generalize w1.heap.size + 1 = pb at *
  generalize w1.heap.size = db at *
  have HZ2 := Lib.hid hz2
  clear hz2 hb2' hb1 ht1 hs1 hn1
  go_wp2_with fail
  refine hn2.mono ?_
  rintro e w3 ⟨rfl, Q3, hb3', hz3⟩
  have P3 := P2.later hb3'
  have dis : Dis pb db nilV nilV (w2.heap.size + 1) w2.heap.size nilV nilV := fun k h1 h2 => by
    have := (HP2 k h1).2
    have := (Q3.lt k h2).1
    omega
  have hb3 : Below w.heap.size w w3 := hb2.trans (hb3'.mono hs2)
  have ht3 := ht.below hb3 hlow
  have hs3 := hb3.size
  have hlq : low ≤ w2.heap.size := Nat.le_trans hlow hs2
  have Q3 := Q3.lower (B' := w.heap.size) hs2
  generalize w2.heap.size + 1 = qb at *
  generalize w2.heap.size = eb at *
  clear P2 hb2 ht2 hb3' hn2 hz3 hlq HP2
  by_cases hc : 20000 < ls.length
  · have i1 : (20000 : Int) < (Y.size : Int) := by have := HY.out; omega
    have i2 : (Y.size : Int) ≤ 140737488355328 := by have := HY.out; omega
    clear hc
    go_wp2
    go_ret
    exact ⟨rfl, hb3⟩
  · have i2 : (Y.size : Int) ≤ 20000 := by have := HY.out; omega
    obtain ⟨A, c, w4, hcv, hk4, hin4, hnew4⟩ := HTS.out w3
    have HF := Lib.hid (feed_in P3 ht3 hlow hk4 A c ls hin4 hnew4 (by omega))
    have htl := told_len ls
    have hc : ls.length ≤ 20000 := by omega
    clear hin4 hnew4
    go_wp2_with fail
    refine HF.out.mono ?_
    rintro e w5 ⟨ov1, out1, pv1, tv1, rfl, P5, L5, ho5, ap5, k1, m1⟩
    have Q5 := Q3.other dis k1
    have dis5 := dis.feed Q3 m1
    have hb5 := hb3.trans (kept_below P3 k1)
    have hs5 := hb5.size
    have hq3 : ∀ k, mine qb eb nilV nilV k → k < w3.heap.size := fun k hk => (Q3.lt k hk).2
    have sid : Sid w5 w.heap.size pb db pv1 tv1 (run ps0 ls).1 w3.heap.size w5.heap.size ov1 out1 := ⟨P5, L5, fun k hk => (P5.lt k hk).2, fun k hk => (L5.1.lt k hk).2, fun t ht k hk => ((L5.2 t ht).lt k hk).2⟩
    have pie : Pie w5 w.heap.size qb eb w5.heap.size ls 0 nilV nilV nilV [] := ⟨Q5, fun k hk => .inl hk, ⟨World.ownsRow_nil _ _ _ _, fun t h => (by cases h)⟩, rfl, fun t h => (by cases h)⟩
    have HO5 := Lib.hid ho5
    have HD := Lib.hid dis5
    have HQ3 := Lib.hid hq3
    have HL1 : Hid (out1.length ≤ 20000) := by show _ ≤ _; have h1 := congrArg List.length ho5; rw [outs_len] at h1; omega
    have HTB := Lib.hid (told_bd ls)
    have HTP : Hid (∀ i, (run ps0 (ls.take i)).2.length ≤ 20000) := fun i => by have := told_len (ls.take i); rw [List.length_take] at this; omega
    have HRR := Lib.hid (fun i => run_rest ps0 ls i)
    clear ho5 hcv hk4 P3 Q3 k1 m1 dis hb3 ht3 P5 L5 ap5 htl Q5 dis5 hq3
    go_wp2_with fail
    go_loopw [9, 10, 11] (fun ov t i wr => ∃ (k m : Nat) (qv uv : Value) (out : List To), k ≤ zs.length ∧ m ≤ ls.length ∧ i = .int .i64 k ∧ t = .int .i64 m ∧ Sid wr w.heap.size pb db pv1 tv1 (run ps0 ls).1 w3.heap.size w5.heap.size ov1 out1 ∧ Pie wr w.heap.size qb eb w5.heap.size ls m qv uv ov out ∧ Below w.heap.size w wr ∧ w5.heap.size ≤ wr.heap.size) (fun _ _ i _ => zs.length - (intOf i).toNat)
    case atStart => exact ⟨0, 0, nilV, nilV, [], Nat.zero_le _, Nat.zero_le _, rfl, rfl, sid, pie, hb5, Nat.le_refl _⟩
    case round =>
      obtain ⟨k, m, qv, uv, out, hk, hm, rfl, rfl, sd, pi, hb, hF⟩ := hrel
      have hbs := hb.size
      have htr := ht.below hb hlow
      by_cases hgo : k < zs.length ∧ m < ls.length
      · obtain ⟨hkl, hml⟩ := hgo
        obtain ⟨g, o, rfl, _, hcell⟩ := (HRD.out.kept hb) k hkl
        have hz := HZB.out zs[k] (List.getElem_mem _)
        generalize zs[k] = z at *
        obtain ⟨hz0, hz1⟩ := hz
        have hmy : m < Y.size := by have := HY.out; omega
        have hd0 : (0 : Int) < (Y.size : Int) - (m : Int) + 1 := by have := HY.out; omega
        have j0 : (m : Int) ≤ 20000 := by omega
        have j1 : (0 : Int) ≤ (m : Int) := by omega
        have j2 : (0 : Int) ≤ (k : Int) := by omega
        have j3 : (k : Int) < (zs.length : Int) := by omega
        have j4 : (k : Int) ≤ 9223372036854775806 := by omega
        have hx0 := Int.emod_nonneg (cutOf z) (show (Y.size : Int) - (m : Int) + 1 ≠ 0 by omega)
        have hx1 := Int.emod_lt_of_pos (cutOf z) hd0
        obtain ⟨r, hr⟩ : ∃ r : Nat, cutOf z % ((Y.size : Int) - (m : Int) + 1) = (r : Int) := ⟨(cutOf z % ((Y.size : Int) - (m : Int) + 1)).toNat, by omega⟩
        have hrm : m + r ≤ ls.length := by have := HY.out; omega
        rw [hr] at hx0 hx1
        have hsl := fun w => HSM.out w m r hrm
        have j5 : (r : Int) ≤ 20000 := by omega
        have hcase : (z < 0 ∧ IntKind.i64.wrap (z + 1) = z + 1 ∧ IntKind.i64.wrap (-(z + 1)) = -(z + 1) ∧ (z + 1).tmod ((Y.size : Int) - (m : Int) + 1) = -(r : Int)) ∨ (0 ≤ z ∧ z.tmod ((Y.size : Int) - (m : Int) + 1) = (r : Int)) := by
          by_cases hneg : z < 0
          · have hc1 : cutOf z = -(z + 1) := by unfold cutOf; rw [if_pos hneg]
            rw [hc1] at hr
            refine .inl ⟨hneg, IntWalk.i64_in _ (by omega), IntWalk.i64_in _ (by omega), ?_⟩
            have h1 : (-(z + 1)).tmod ((Y.size : Int) - (m : Int) + 1) = (r : Int) := by rw [Int.tmod_eq_emod_of_nonneg (by omega)]; exact hr
            rw [Int.neg_tmod] at h1
            omega
          · have hc1 : cutOf z = z := by unfold cutOf; rw [if_neg hneg]
            rw [hc1] at hr
            exact .inr ⟨by omega, by rw [Int.tmod_eq_emod_of_nonneg (by omega)]; exact hr⟩
        obtain ⟨A8, c8, w8, hcv8, hk8, hin8, hnew8⟩ := to_bytes wr ((ls.drop m).take r)
        have hlr : ((ls.drop m).take r).length = r := by rw [List.length_take, List.length_drop]; omega
        have hf8 := feed_in pi.q htr hlow hk8 A8 c8 ((ls.drop m).take r) hin8 hnew8 (by omega)
        rw [hlr] at hcv8 hf8
        have HF8 := Lib.hid hf8
        have hlo : out.length ≤ 20000 := by have h1 := congrArg List.length pi.e; rw [outs_len] at h1; have := HTP.out m; omega
        have hlp : (run (run ps0 (ls.take m)).1 ((ls.drop m).take r)).2.length ≤ 20000 := by have h1 := HTP.out (m + r); rw [run_piece] at h1; simp only [List.length_append] at h1; omega
        clear hr hx0 hx1 hd0 hk8 hin8 hnew8 hlr hf8
        rcases hcase with ⟨hneg, hw1, hw2, htm⟩ | ⟨hneg, htm⟩
        all_goals
          go_wp2_with fail
          refine HF8.out.mono ?_
          rintro e w9 ⟨ov2, out2, qv2, uv2, rfl, Q9, L9, ho9, ap9, k9, m9⟩
          have hl2 : out2.length ≤ 20000 := by have h1 := congrArg List.length ho9; rw [outs_len] at h1; omega
          have L19 := pi.L.fed pi.q pi.a k9
          have sd9 := sd.fed HD.out HQ3.out pi.m k9
          have hF9 : w5.heap.size ≤ w9.heap.size := Nat.le_trans hF k9.size
          have h1c : ∀ t ∈ out2, t.2.oneCell' = true := fun t ht => own_one (L9.2 t ht)
          have hb9 : Below w.heap.size w w9 := hb.trans (kept_below pi.q k9)
          clear htm hcv8
          go_wp2_with (at_builtin; refine wpList_append_acts rfl (.tmp 84) (.tmp 85) rfl w5.heap.size wr.heap.size u9 ov2 out out2 rfl L19.1 rfl L9.1 h1c hF9 (by omega) ?_; intro v10 w10 ho10 hk10 hat10)
          go_roundw
          case rel =>
            refine ⟨k + 1, m + r, qv2, uv2, out ++ out2, by omega, hrm, by go_num, by go_num, sd9.grown (fun i hi => (L19.1.lt i hi).1) hk10, pi.next hF Q9 L9 ho9 ap9 k9 m9 ho10 hk10, ?_, Nat.le_trans hF9 hk10.size⟩
            exact hb9.trans (hk10.below (Nat.le_trans hs5 hF9) fun i hi hx => by have := (L19.1.lt i hx).1; omega)
          case measure => simp [intOf]; omega
      · obtain ⟨r, hrm⟩ : ∃ r, m + r = ls.length := ⟨ls.length - m, by omega⟩
        have hdt : (ls.drop m).take r = ls.drop m := List.take_of_length_le (by rw [List.length_drop]; omega)
        have hsr := fun w => HSR.out w m hm
        rw [← hdt] at hsr
        obtain ⟨A8, c8, w8, hcv8, hk8, hin8, hnew8⟩ := to_bytes wr ((ls.drop m).take r)
        have hlr : ((ls.drop m).take r).length = r := by rw [List.length_take, List.length_drop]; omega
        have hf8 := feed_in pi.q htr hlow hk8 A8 c8 ((ls.drop m).take r) hin8 hnew8 (by omega)
        rw [hlr] at hcv8 hf8
        have HF8 := Lib.hid hf8
        have hlo : out.length ≤ 20000 := by have h1 := congrArg List.length pi.e; rw [outs_len] at h1; have := HTP.out m; omega
        have hlp : (run (run ps0 (ls.take m)).1 ((ls.drop m).take r)).2.length ≤ 20000 := by have h1 := HTP.out (m + r); rw [run_piece] at h1; simp only [List.length_append] at h1; omega
        have HRM := Lib.hid hrm
        have hcase : (¬ k < zs.length) ∨ (k < zs.length ∧ ¬ m < Y.size) := by
          by_cases h : k < zs.length
          · exact .inr ⟨h, by have := HY.out; omega⟩
          · exact .inl h
        have j1 : (0 : Int) ≤ (m : Int) := by omega
        have j2 : (0 : Int) ≤ (k : Int) := by omega
        clear hk8 hin8 hnew8 hlr hf8 hdt hgo hrm
        rcases hcase with hex | ⟨hex0, hex⟩
        all_goals
          go_wp2_with fail
          refine HF8.out.mono ?_
          rintro e w9 ⟨ov2, out2, qv2, uv2, rfl, Q9, L9, ho9, ap9, k9, m9⟩
          have hl2 : out2.length ≤ 20000 := by have h1 := congrArg List.length ho9; rw [outs_len] at h1; omega
          have L19 := pi.L.fed pi.q pi.a k9
          have sd9 := sd.fed HD.out HQ3.out pi.m k9
          have hF9 : w5.heap.size ≤ w9.heap.size := Nat.le_trans hF k9.size
          have h1c : ∀ t ∈ out2, t.2.oneCell' = true := fun t ht => own_one (L9.2 t ht)
          have hb9 : Below w.heap.size w w9 := hb.trans (kept_below pi.q k9)
          clear hcv8
          go_wp2_with (at_builtin; refine wpList_append_acts rfl (.tmp 96) (.tmp 97) rfl w5.heap.size wr.heap.size u9 ov2 out out2 rfl L19.1 rfl L9.1 h1c hF9 (by omega) ?_; intro v10 w10 ho10 hk10 hat10)
          have sd10 := sd9.grown (fun i hi => (L19.1.lt i hi).1) hk10
          have pi10 := pi.next hF Q9 L9 ho9 ap9 k9 m9 ho10 hk10
          have hb10 : Below w.heap.size w w10 := hb9.trans (hk10.below (Nat.le_trans hs5 hF9) fun i hi hx => by have := (L19.1.lt i hx).1; omega)
          rw [HRM.out] at pi10
          have hq10 := pi10.q
          have he10 := pi10.e
          rw [List.take_of_length_le (Nat.le_refl _)] at hq10 he10
          have hl1 := HL1.out
          have hal := all_true ov1 v10 out1 (out ++ out2) w10 sd10.L.1 pi10.L.1 sd10.L.2 pi10.L.2 (by rw [HO5.out, he10]) (by omega) (fun t ht => Nat.le_trans (ps_of HO5.out HTB.out t ht) (by decide))
          have HAL := Lib.hid hal
          clear hal L9 L19 k9 hk10 ho10 ho9 hat10 ap9 m9 he10 Q9 sd9 pi10 hb9 hl1
          refine HAL.out.mono ?_
          rintro e w11 ⟨rfl, hb11⟩
          have hsp := state_any (sd10.p.later hb11)
          have hsq := state_any (hq10.later hb11)
          generalize (run ps0 ls).1.s = ss at *
          go_wp2_with (first | (go_at_call 14; refine hsp.mono ?_; rintro e w' ⟨rfl, rfl⟩) | (go_at_call 14; refine hsq.mono ?_; rintro e w' ⟨rfl, rfl⟩))
          go_ret
          exact ⟨rfl, hb10.trans (hb11.mono hb10.size)⟩
end Go.Proofs.YtmhmbeofcedjjaaDoor.Vt
