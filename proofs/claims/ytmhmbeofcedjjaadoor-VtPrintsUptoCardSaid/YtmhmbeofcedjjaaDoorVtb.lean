/- The walk of a Feed's telling of what was begun. -/
import Derived.Test.YtmhmbeofcedjjaaDoorVcl
namespace Go.Proofs.YtmhmbeofcedjjaaDoor.Vt
open Go.RowKit
open Cel (Blk Kept Tabs low Owns At)

theorem convert_byts {w : World} {B : Nat} {v : Value} {l : Tx} (h : Byts w B v l) : (convert 24 9 v).run Tryd.prog w = .ok (.string (bs l)) w := by
  rcases h.2 with ⟨rfl, h0⟩ | ⟨g, cap, cur, rfl, _⟩
  · have e : l = [] := List.eq_nil_of_length_eq_zero h0
    subst e
    exact run_convert_bytes_nil (P := Tryd.prog) w 24 5 Tryd.underlying24 Tryd.underlying5 0 0 9 Tryd.underlying9
  · refine run_convert_bytes_back (P := Tryd.prog) w 24 9 5 ⟨g, 0, none⟩ cap l Tryd.underlying24 Tryd.underlying5 Tryd.underlying9 fun j hj => ?_
    exact h.cells (g := g) rfl j _ (by simp [byts, hj])
theorem ints_cut {w : World} {B : Nat} {A : Option Addr} {n c : Nat} {l : List Int} (h : Ints w B (.slice A n c) l) (m : Nat) (hm : m ≤ l.length) : Ints w B (.slice A m c) (l.take m) := by
  refine ⟨by rw [ints_len]; omega, ?_⟩
  rcases h.2 with ⟨e, h0⟩ | ⟨g, cap, cur, e, hg, hh, hc, h1, h2, h3⟩
  · have : m = 0 := by omega
    subst this
    injection e with e1 _ e3
    subst e1; subst e3
    exact .inl ⟨rfl, by simp⟩
  · injection e with e1 e2 e3
    subst e1; subst e3
    have hl : (l.take m).length = m := by rw [List.length_take]; omega
    refine .inr ⟨g, c, cur, by rw [hl], hg, hh, by omega, h1, h2, ?_⟩
    rw [hl]
    unfold ints at h3 ⊢
    rw [List.map_take, ← h3, List.take_take]
    congr 1
    omega
/-- The parser has dropped what was begun. -/
theorem Sys.drop {K : Ctx} {w w' : World} {C : Cfg} (h : Sys K w C) (k : Kept w w' (fun i => i = K.pb ∨ i = K.db)) (hb : Blk w' K.pb 47 (parL ps0 nilV nilV K.db).toArray) (hd : At w' K.db Cel.zero) :
    Sys K w' { C with S := ps0, pv := nilV, tv := nilV } ∧ Fr K w C w' { C with S := ps0, pv := nilV, tv := nilV } := by
  have s := h.sep
  refine ⟨⟨⟨hb, hd, ints_nil _ _, fun _ => rfl, byts_nil _ _, bd0, h.P.pB, h.P.dB⟩, k.blk h.fee (by rintro (e | e); exact s.pf e.symm; exact s.df e.symm), k.blk h.var (by rintro (e | e); exact s.po e.symm; exact s.dO e.symm),
    k.owns h.out fun i hi => (by rintro (e | e); exact s.op (by rw [hi, e]); exact s.od (by rw [hi, e])), fun t ht => k.owns (h.told t ht) fun i hi => (by have := s.told t ht i hi; rintro (e | e); exact this.1 e; exact this.2.1 e), (fun t ht i hi e => by cases e),
    h.inpK k fun hl g o e => (by have := s.inp hl g o e; rintro (q | q); exact this.1 q; exact this.2.1 q), (fun _ g o e e2 => by cases e2), h.tabsK k (by rintro i (e | e); exact e ▸ h.P.pB; exact e ▸ h.P.dB), h.low, h.fB, h.oB, h.jl, h.ll, h.x0, h.x1⟩,
    ⟨k.more (by rintro i (e | e); exact .inl (.inl e); exact .inl (.inr (.inl e))), ?_, fun t ht => .inl ht, fun _ h => .inl h⟩⟩
  rintro i ((e | e | e | e) | e | e | e)
  · exact .inl (.inl (.inl e))
  · exact .inl (.inl (.inr (.inl e)))
  · cases e
  · cases e
  · exact .inl (.inr (.inl e))
  · exact .inl (.inr (.inr (.inl e)))
  · exact .inl (.inr (.inr (.inr e)))
theorem take_min (l : List Int) : l.take (min l.length 32) = l.take 32 := by
  by_cases h : l.length ≤ 32
  · rw [Nat.min_eq_left h, List.take_length, List.take_of_length_le h]
  · rw [Nat.min_eq_right (by omega)]
theorem own_slice3 {w : World} {base e size n : Nat} {v : Value} {xs : List Value} (h : w.ownsRow base e size v n xs) : ∃ A m c, v = .slice A m c := by
  obtain ⟨A, c, e⟩ := own_slice h
  exact ⟨A, _, c, e⟩
set_option maxRecDepth 100000 in
set_option maxHeartbeats 400000 in
/-- What was begun is told, and is over. -/
theorem tellBegun_any {K : Ctx} {w : World} {C : Cfg} (hS : Sys K w C) (hn : C.out.length ≤ 4294967290) :
    Calls Tryd.prog 41 #[ptr K.fb] w fun e w' => e = .returned (.tuple #[]) ∧ ∃ C' v', Sys K w' C' ∧ Fr K w C w' C' ∧ C'.j = C.j ∧ C'.x = C.x ∧ C'.S = ps0 ∧ C'.out = C.out ++ [(act C.S, v')] := by
  have c0 : w.cell? ⟨K.fb, 0, none⟩ = some (ptr K.pb) := hS.fee.cell 0
  have hp   := hS.P.par
  have hr : w.rangeAt K.pb 2 [.int .i64 C.S.k, .int .i32 0, .int .u8 C.S.b, C.pv, .string (bs C.S.it), .string (bs [])] := fun j v hj => by
    rw [hp.cell]
    have hj6 : j < 6 := (List.getElem?_eq_some_iff.1 hj).1
    rw [← hj]
    match j, hj6 with
    | 0, _ => rfl
    | 1, _ => rfl
    | 2, _ => rfl
    | 3, _ => rfl
    | 4, _ => rfl
    | 5, _ => rfl
    | n + 6, h => exact absurd h (by omega)
  obtain ⟨A, c, hpv⟩ := own_slice hS.P.prm
  have hprm   := hS.P.prm
  have hpl   := hS.P.bd.pl
  have hcap : C.S.ps.length ≤ c := by
    rcases hprm.2 with ⟨e, h0⟩ | ⟨g, cap, cur, e, _, _, hc, _⟩
    · omega
    · rw [hpv] at e; injection e with _ _ e; omega
  have hcut := ints_cut (hpv ▸ hprm) (min C.S.ps.length 32) (by omega)
  rw [take_min] at hcut
  have hcn : C.S.ps.take 32 = [] → Value.slice A (min C.S.ps.length 32) c = nilV := fun e => by
    have e2 : C.S.ps = [] := by
      have := congrArg List.length e
      rw [List.length_take] at this
      simp at this
      exact this
    have := hpv.symm.trans (hS.P.pnil e2)
    rw [e2] at this ⊢
    exact this
  obtain ⟨o, ho⟩ : ∃ o, o = Obj.cells #[.int .i64 C.S.k, .int .i32 0, .int .u8 C.S.b, C.pv, .string (bs C.S.it), .string (bs [])] 38 := ⟨_, rfl⟩
  have hbg : Blk (w.alloc o) w.heap.size 38 #[.int .i64 C.S.k, .int .i32 0, .int .u8 C.S.b, C.pv, .string (bs C.S.it), .string (bs [])] := by rw [ho]; exact Blk.new _ _ _
  have hcl := clone_any (hcut.alloc o) hcn (by rw [List.length_take]; omega)
  rw [hpv] at hr hbg ho
  have HO := Lib.hid ho
  have HPV := Lib.hid hpv
  clear hpv hcut hcn hp ho hprm
  have hbs0 : w.heap.size < (w.alloc o).heap.size := by simp
  by_cases h32 : C.S.ps.length ≤ 32
  all_goals
    first
      | rw [Nat.min_eq_left h32] at hcl
      | rw [Nat.min_eq_right (by omega)] at hcl
    go_enter Tryd.func41, Tryd.ntmps41
    go_wp2_with (refine wpList_load_mid rfl 38 (.tmp 9) rfl K.pb 2 rfl _ _ hr Tryd.underlying38 rfl (by show _ = some 6; kernel_rfl) ?_)
    rw [← HO.out]
    refine hcl.mono ?_
    rintro e w2 ⟨v2, rfl, ho2, hb2⟩
    have hB2 := hbg.below hb2 (by simp)
    have hs2 := hb2.size
    have hk2 : Kept w w2 (fun i => w.heap.size ≤ i) := ((Kept.refl w _).alloc o).trans (Cel.below_kept hb2 fun i => w.heap.size ≤ i) fun _ _ q => q
    have hS2 := hS.same hk2 fun _ q => q
    obtain ⟨A2, m2, c2, rfl⟩ := own_slice3 ho2
    clear hcl hr c0 hbg
    have c0 : w2.cell? ⟨K.fb, 0, none⟩ = some (ptr K.pb) := hS2.fee.cell 0
    have c8 : w2.cell? ⟨K.pb, 8, none⟩ = some C.tv := hS2.P.par.cell 8
    have g3 := hB2.frozen 3
    have g5 := hB2.frozen 5
    have x3 := hB2.cell 3
    have x5 := hB2.cell 5
    have lf := (hS.lt K.fb (.inr (.inl rfl))).2
    have lp := (hS.lt K.pb (.inl (.inl rfl))).2
    have ho3 : ∀ W, Kept w2 W (fun i => i = w.heap.size) → Byts W K.B C.tv C.S.tx := fun W k => k.owns hS2.P.txt fun i hi e => by have := (hS.P.txt.lt i hi).2; omega
    have k3 : Kept w2 (w2.setCell ⟨w.heap.size, 3, none⟩ (.slice A2 m2 c2)) (fun i => i = w.heap.size) := Kept.setCell (p := fun i => i = w.heap.size) (Kept.refl w2 _) (a := ⟨w.heap.size, 3, none⟩) rfl _
    have hcv := convert_byts (ho3 _ k3)
    have hB3 := hB2.set_ 3 (.slice A2 m2 c2)
    have y5 := hB3.cell 5
    have y5f := hB3.frozen 5
    have k5 : Kept w2 ((w2.setCell ⟨w.heap.size, 3, none⟩ (.slice A2 m2 c2)).setCell ⟨w.heap.size, 5, none⟩ (.string (bs C.S.tx))) (fun i => i = w.heap.size) := k3.setCell (a := ⟨w.heap.size, 5, none⟩) rfl _
    have hB5 := hB3.set_ 5 (.string (bs C.S.tx))
    have kw := hk2.trans k5 fun i _ q => Nat.le_of_eq q.symm
    have hS5 := hS.same kw fun _ q => q
    have hF5 : Fr K w C _ C := Fr.same kw fun _ q => q
    have hi5 := k5.owns (Cel.own_rebase ho2 (base' := K.B) fun i hi => by have := (ho2.lt i hi).1; have := (hS.lt K.pb (.inl (.inl rfl))).1; omega) fun i hi q => by have := (ho2.lt i hi).1; omega
    have hnw : ∀ i, (Value.slice A2 m2 c2).ownBlock = some i → w.heap.size ≤ i := fun i hi => by have := (ho2.lt i hi).1; omega
    have hpo : ∀ i, C.pv.ownBlock = some i → i < w.heap.size := fun i hi => (hS.P.prm.lt i hi).2
    go_wp2_with fail
    generalize (w2.setCell ⟨w.heap.size, 3, none⟩ (.slice A2 m2 c2)).setCell ⟨w.heap.size, 5, none⟩ (.string (bs C.S.tx)) = W at *
    clear hcv y5 y5f x3 x5 g3 g5 c0 c8 k3 k5 hB3 hB2 ho3 hk2 hb2 hS2 kw
    have z0 := hB5.cell 0
    have z1 := hB5.cell 1
    have z2 := hB5.cell 2
    have z3 := hB5.cell 3
    have z4 := hB5.cell 4
    have z5 := hB5.cell 5
    have c4 : W.cell? ⟨K.fb, 4, none⟩ = some (tellV K.ob) := hS5.fee.cell 4
    have ht : Calls Tryd.prog 20 #[.agg #[.int .i64 C.S.k, .int .i32 0, .int .u8 C.S.b, .slice A2 m2 c2, .string (bs C.S.it), .string (bs C.S.tx)], ptr K.ob] W.drew (Told K w C C [(act C.S, .slice A2 m2 c2)]) := tell_any hS5.drew (hF5.trans (Fr.same (p := fun _ => False) (Kept.refl W _).drew fun _ hf => hf.elim)) (act C.S, .slice A2 m2 c2) hi5.drew (fun i hi e => by have := hnw i hi; have := hpo i e; omega) hnw (by omega)
    go_still_tail 5, (by kernel_rfl)
    change wpList _ _ _ _ _ W.drew
    go_wp2_with fail
    refine ht.mono ?_
    rintro e w6 ⟨rfl, ov6, s6, f6⟩
    have d0 : w6.cell? ⟨K.fb, 0, none⟩ = some (ptr K.pb) := s6.fee.cell 0
    clear ht c4 z0 z1 z2 z3 z4 z5 hB5 hS5 hF5 hi5
    go_wp2_with fail
    refine (drop_any s6.P.par s6.P.dec s6.P.bd.di).mono ?_
    rintro e w7 ⟨rfl, q1, q2, q3⟩
    obtain ⟨s7, f7⟩ := s6.drop q3 q1 q2
    go_wp2
    go_end0
    exact ⟨rfl, _, _, s7, f6.trans f7, rfl, rfl, rfl, rfl⟩
end Go.Proofs.YtmhmbeofcedjjaaDoor.Vt
