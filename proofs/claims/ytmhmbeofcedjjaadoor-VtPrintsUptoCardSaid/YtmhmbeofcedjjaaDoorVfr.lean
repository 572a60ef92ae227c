/- A Feed's memory behind a change of one of its parts. -/
import Derived.Test.YtmhmbeofcedjjaaDoorVmm
namespace Go.Proofs.YtmhmbeofcedjjaaDoor.Vt
open Go.RowKit
open Cel (Blk Kept Tabs low Owns At)

section
variable {K : Ctx} {w w' : World} {C : Cfg}
/-- No two of the blocks are one. -/
structure Sep (K : Ctx) (C : Cfg) : Prop where
  pd : K.pb ≠ K.db
  pf : K.pb ≠ K.fb
  po : K.pb ≠ K.ob
  df : K.db ≠ K.fb
  dO : K.db ≠ K.ob
  fo : K.fb ≠ K.ob
  vp : C.pv.ownBlock ≠ some K.pb
  vd : C.pv.ownBlock ≠ some K.db
  vf : C.pv.ownBlock ≠ some K.fb
  vo : C.pv.ownBlock ≠ some K.ob
  tp : C.tv.ownBlock ≠ some K.pb
  td : C.tv.ownBlock ≠ some K.db
  tf : C.tv.ownBlock ≠ some K.fb
  tO : C.tv.ownBlock ≠ some K.ob
  op : C.ov.ownBlock ≠ some K.pb
  od : C.ov.ownBlock ≠ some K.db
  of : C.ov.ownBlock ≠ some K.fb
  oo : C.ov.ownBlock ≠ some K.ob
  vt : ∀ k, C.pv.ownBlock = some k → C.tv.ownBlock ≠ some k
  vov : ∀ k, C.pv.ownBlock = some k → C.ov.ownBlock ≠ some k
  tov : ∀ k, C.tv.ownBlock = some k → C.ov.ownBlock ≠ some k
  told : ∀ t ∈ C.out, ∀ k, t.2.ownBlock = some k → k ≠ K.pb ∧ k ≠ K.db ∧ k ≠ K.fb ∧ k ≠ K.ob ∧ C.pv.ownBlock ≠ some k ∧ C.tv.ownBlock ≠ some k ∧ C.ov.ownBlock ≠ some k
  inp : K.l ≠ [] → ∀ g o, K.A = some ⟨g, o, none⟩ → g ≠ K.pb ∧ g ≠ K.db ∧ g ≠ K.fb ∧ g ≠ K.ob ∧ C.pv.ownBlock ≠ some g ∧ C.tv.ownBlock ≠ some g ∧ C.ov.ownBlock ≠ some g
theorem Sys.sep (h : Sys K w C) : Sep K C where
  pd := Blk.far' h.P.par h.P.dec (by decide)
  pf := Blk.far' h.P.par h.fee (by decide)
  po := Blk.far' h.P.par h.var (by decide)
  df := Blk.far' h.P.dec h.fee (by decide)
  dO := Blk.far' h.P.dec h.var (by decide)
  fo := Blk.far' h.fee h.var (by decide)
  vp := own_far h.P.prm h.P.par (by decide)
  vd := own_far h.P.prm h.P.dec (by decide)
  vf := own_far h.P.prm h.fee (by decide)
  vo := own_far h.P.prm h.var (by decide)
  tp := own_far h.P.txt h.P.par (by decide)
  td := own_far h.P.txt h.P.dec (by decide)
  tf := own_far h.P.txt h.fee (by decide)
  tO := own_far h.P.txt h.var (by decide)
  op := own_far h.out h.P.par (by decide)
  od := own_far h.out h.P.dec (by decide)
  of := own_far h.out h.fee (by decide)
  oo := own_far h.out h.var (by decide)
  vt := own_apart h.P.prm h.P.txt (by decide)
  vov := own_apart h.P.prm h.out (by decide)
  tov := own_apart h.P.txt h.out (by decide)
  told := fun t ht k hk => ⟨fun e => own_far (h.told t ht) h.P.par (by decide) (by rw [hk, e]), fun e => own_far (h.told t ht) h.P.dec (by decide) (by rw [hk, e]), fun e => own_far (h.told t ht) h.fee (by decide) (by rw [hk, e]),
    fun e => own_far (h.told t ht) h.var (by decide) (by rw [hk, e]), h.tap t ht k hk, own_apart (h.told t ht) h.P.txt (by decide) k hk, own_apart (h.told t ht) h.out (by decide) k hk⟩
  inp := fun hl g o e => by
    obtain ⟨cs, fr, hg⟩ := h.inp.ne hl e
    have ty : ∀ {g' t c}, Blk w g' t c → t ≠ 5 → g ≠ g' := fun hb ht e' => by
      subst e'; unfold Blk at hb; rw [hg] at hb; injection hb with e1; injection e1 with _ e2; exact ht e2.symm
    have own : ∀ {base e' size v n xs}, w.ownsRow base e' size v n xs → e' ≠ 5 → v.ownBlock ≠ some g := fun ho ht e' => by
      rcases ho.2 with ⟨rfl, _⟩ | ⟨k, cap, cur, rfl, _, hk, _⟩
      · cases e'
      · injection e' with e'; exact ty (show Blk w k _ cur from hk) ht e'.symm
    exact ⟨ty h.P.par (by decide), ty h.P.dec (by decide), ty h.fee (by decide), ty h.var (by decide), own h.P.prm (by decide), h.iap hl g o e, own h.out (by decide)⟩
theorem InB.of_nil (w : World) (A : Option Addr) : InB w A [] := fun i hi => by cases hi
theorem Sys.inpK (h : Sys K w C) {p : Nat → Prop} (k : Kept w w' p) (hp : K.l ≠ [] → ∀ g o, K.A = some ⟨g, o, none⟩ → ¬ p g) : InB w' K.A K.l := by
  by_cases hl : K.l = []
  · rw [hl]; exact InB.of_nil _ _
  · exact h.inp.keep k (hp hl)
theorem Sys.tabsK (h : Sys K w C) {p : Nat → Prop} (k : Kept w w' p) (hp : ∀ i, p i → K.B ≤ i) : Tabs w' := by
  have hlow := h.low
  have hl := (h.lt K.pb (.inl (.inl rfl)))
  exact h.tabs.kept k (fun i hi hpi => by have := hp i hpi; omega) (by omega)

/-- What a Feed's own work does not touch. -/
theorem Sys.same (h : Sys K w C) {p : Nat → Prop} (k : Kept w w' p) (hp : ∀ i, p i → w.heap.size ≤ i) : Sys K w' C := by
  have hf : ∀ i, whole K C i → ¬ p i := fun i hi hpi => by have := (h.lt i hi).2; have := hp i hpi; omega
  exact ⟨h.P.keep k fun i hi => hf i (.inl hi), k.blk h.fee (hf _ (.inr (.inl rfl))), k.blk h.var (hf _ (.inr (.inr (.inl rfl)))), k.owns h.out fun i hi => hf i (.inr (.inr (.inr hi))),
    fun t ht => k.owns (h.told t ht) fun i hi hpi => by have := ((h.told t ht).lt i hi).2; have := hp i hpi; omega, h.tap,
    h.inpK k fun hl g o e hpi => by obtain ⟨cs, fr, hg⟩ := h.inp.ne hl e; have := (Array.getElem?_eq_some_iff.1 hg).1; have := hp g hpi; omega,
    h.iap, h.tabsK k fun i hpi => by have := hp i hpi; have := h.lt _ (.inl (.inl rfl)); omega, h.low, h.fB, h.oB, h.jl, h.ll, h.x0, h.x1⟩
theorem Sys.alloc (h : Sys K w C) (o : Obj) : Sys K (w.alloc o) C := h.same (p := fun _ => False) ((Kept.refl w _).alloc o) fun _ hf => hf.elim
theorem Sys.drew (h : Sys K w C) : Sys K w.drew C := h.same (p := fun _ => False) (Kept.refl w _).drew fun _ hf => hf.elim
theorem Fr.same {p : Nat → Prop} (k : Kept w w' p) (hp : ∀ i, p i → w.heap.size ≤ i) : Fr K w C w' C :=
  ⟨⟨k.os, k.tape, k.output, k.size, fun i hi _ => k.block i hi fun hpi => by have := hp i hpi; omega⟩, fun _ h => .inl h, fun _ h => .inl h, fun _ h => .inl h⟩

/-- The parser's own block has turned: its state, what was begun. -/
theorem Sys.setP (h : Sys K w C) (k : Kept w w' (fun i => i = K.pb)) (S' : Ps) (pv' tv' : Value) (hb : Blk w' K.pb 47 (parL S' pv' tv' K.db).toArray) (hd : S'.d = C.S.d) (hbd : Bd S')
    (hp : (pv' = C.pv ∧ S'.ps = C.S.ps) ∨ (pv' = nilV ∧ S'.ps = [])) (ht : (tv' = C.tv ∧ S'.tx = C.S.tx) ∨ (tv' = nilV ∧ S'.tx = [])) :
    Sys K w' { C with S := S', pv := pv', tv := tv' } ∧ Fr K w C w' { C with S := S', pv := pv', tv := tv' } := by
  have s := h.sep
  have nv : ∀ i, pv'.ownBlock = some i → C.pv.ownBlock = some i := fun i hi => by rcases hp with ⟨rfl, _⟩ | ⟨rfl, _⟩; exact hi; cases hi
  have nt : ∀ i, tv'.ownBlock = some i → C.tv.ownBlock = some i := fun i hi => by rcases ht with ⟨rfl, _⟩ | ⟨rfl, _⟩; exact hi; cases hi
  refine ⟨⟨⟨hb, ?_, ?_, ?_, ?_, hbd, h.P.pB, h.P.dB⟩, k.blk h.fee fun e => s.pf e.symm, k.blk h.var fun e => s.po e.symm, k.owns h.out fun i hi e => s.op (by rw [hi, e]),
    fun t ht => k.owns (h.told t ht) fun i hi e => (s.told t ht i hi).1 e, fun t ht i hi e => h.tap t ht i hi (nv i e),
    h.inpK k fun hl g o e => (s.inp hl g o e).1, fun hl g o e hh => h.iap hl g o e (nt g hh), h.tabsK k fun i e => e ▸ h.P.pB, h.low, h.fB, h.oB, h.jl, h.ll, h.x0, h.x1⟩, ⟨k.more fun i e => .inl (.inl e), ?_, fun t ht => .inl ht, fun _ h => .inl h⟩⟩
  · show At w' K.db S'.d
    rw [hd]; exact k.blk h.P.dec fun e => s.pd e.symm
  · rcases hp with ⟨rfl, e⟩ | ⟨rfl, e⟩
    · show Ints w' K.B C.pv S'.ps
      rw [e]; exact k.owns h.P.prm fun i hi e => s.vp (by rw [hi, e])
    · show Ints w' K.B nilV S'.ps
      rw [e]; exact ints_nil _ _
  · intro e
    rcases hp with ⟨rfl, e'⟩ | ⟨rfl, _⟩
    · exact h.P.pnil (e' ▸ e)
    · rfl
  · rcases ht with ⟨rfl, e⟩ | ⟨rfl, e⟩
    · show Byts w' K.B C.tv S'.tx
      rw [e]; exact k.owns h.P.txt fun i hi e => s.tp (by rw [hi, e])
    · show Byts w' K.B nilV S'.tx
      rw [e]; exact byts_nil _ _
  · rintro i ((e | e | e | e) | e | e | e)
    · exact .inl (.inl (.inl e))
    · exact .inl (.inl (.inr (.inl e)))
    · exact .inl (.inl (.inr (.inr (.inl (nv i e)))))
    · exact .inl (.inl (.inr (.inr (.inr (nt i e)))))
    · exact .inl (.inr (.inl e))
    · exact .inl (.inr (.inr (.inl e)))
    · exact .inl (.inr (.inr (.inr e)))

theorem Bd.setD {S : Ps} (h : Bd S) {d : Cel.Dec} (hi : Cel.Inv d) : Bd { S with d := d } := ⟨h.s1, h.k0, h.k1, h.b0, h.b1, h.pl, h.pz, h.il, h.tl, hi⟩
/-- The decoder has turned. -/
theorem Sys.setD (h : Sys K w C) (k : Kept w w' (fun i => i = K.db)) (d : Cel.Dec) (hb : At w' K.db d) (hi : Cel.Inv d) :
    Sys K w' { C with S := { C.S with d := d } } ∧ Fr K w C w' { C with S := { C.S with d := d } } := by
  have s := h.sep
  exact ⟨⟨⟨k.blk h.P.par fun e => s.pd e, hb, k.owns h.P.prm fun i hi e => s.vd (by rw [hi, e]), h.P.pnil, k.owns h.P.txt fun i hi e => s.td (by rw [hi, e]), h.P.bd.setD hi, h.P.pB, h.P.dB⟩,
    k.blk h.fee fun e => s.df e.symm, k.blk h.var fun e => s.dO e.symm, k.owns h.out fun i hi e => s.od (by rw [hi, e]), fun t ht => k.owns (h.told t ht) fun i hi e => (s.told t ht i hi).2.1 e, h.tap,
    h.inpK k fun hl g o e => (s.inp hl g o e).2.1, h.iap, h.tabsK k fun i e => e ▸ h.P.dB, h.low, h.fB, h.oB, h.jl, h.ll, h.x0, h.x1⟩, ⟨k.more fun i e => .inl (.inr (.inl e)), fun i hi => .inl hi, fun t ht => .inl ht, fun _ h => .inl h⟩⟩

/-- Which byte is at hand has turned. -/
theorem Sys.setF (h : Sys K w C) (k : Kept w w' (fun i => i = K.fb)) (j : Nat) (x : Int) (hb : Blk w' K.fb 50 (feeL K { C with j := j, x := x }).toArray) (hj : j ≤ K.l.length) (hx0 : 0 ≤ x) (hx1 : x ≤ 255) :
    Sys K w' { C with j := j, x := x } ∧ Fr K w C w' { C with j := j, x := x } := by
  have s := h.sep
  exact ⟨⟨h.P.keep k (by rintro i (e | e | e | e) rfl; exact s.pf e.symm; exact s.df e.symm; exact s.vf e; exact s.tf e),
    hb, k.blk h.var fun e => s.fo e.symm, k.owns h.out fun i hi e => s.of (by rw [hi, e]), fun t ht => k.owns (h.told t ht) fun i hi e => (s.told t ht i hi).2.2.1 e, h.tap,
    h.inpK k fun hl g o e => (s.inp hl g o e).2.2.1, h.iap, h.tabsK k fun i e => e ▸ h.fB, h.low, h.fB, h.oB, hj, h.ll, hx0, hx1⟩, ⟨k.more fun i e => .inr (.inl e), fun i hi => .inl hi, fun t ht => .inl ht, fun _ h => .inl h⟩⟩

/-- An action more has been told: the list's row grew, then the variable was set. -/
theorem Sys.tell (h : Sys K w C) (k : Kept w w' (fun i => i = K.ob ∨ C.ov.ownBlock = some i)) (t : To) (ov' : Value) (hv : Blk w' K.ob 22 #[ov']) (ho : w'.ownsRow K.B 38 6 ov' (C.out ++ [t]).length (flat (C.out ++ [t])))
    (hat : ov'.ownBlock = C.ov.ownBlock ∨ ∃ i, ov'.ownBlock = some i ∧ w.heap.size ≤ i) (ht : Ints w K.B t.2 t.1.ps) (hta : ∀ i, t.2.ownBlock = some i → C.pv.ownBlock ≠ some i) (htn : ∀ i, t.2.ownBlock = some i → K.ob ≠ i ∧ C.ov.ownBlock ≠ some i)
    (w0 : World) (C0 : Cfg) (hfr : Fr K w0 C0 w C) (ht0 : ∀ i, t.2.ownBlock = some i → w0.heap.size ≤ i) :
    Sys K w' { C with ov := ov', out := C.out ++ [t] } ∧ Fr K w0 C0 w' { C with ov := ov', out := C.out ++ [t] } := by
  have s := h.sep
  have hs := hfr.kept.size
  refine ⟨⟨h.P.keep k (by rintro i (e | e | e | e) (q | q); exact s.po (e.symm.trans q); exact s.op (by rw [q, e]); exact s.dO (e.symm.trans q); exact s.od (by rw [q, e]); exact s.vo (by rw [e, q]); exact s.vov i e q; exact s.tO (by rw [e, q]); exact s.tov i e q),
    k.blk h.fee (by rintro (q | q); exact s.fo q; exact s.of q), hv, ho, fun u hu => ?_, fun u hu => ?_,
    h.inpK k fun hl g o e => by have := s.inp hl g o e; rintro (q | q); exact this.2.2.2.1 q; exact this.2.2.2.2.2.2 q, h.iap, h.tabsK k (by rintro i (q | q); exact q ▸ h.oB; exact (h.out.lt i q).1), h.low, h.fB, h.oB, h.jl, h.ll, h.x0, h.x1⟩, ⟨?_, ?_, ?_, ?_⟩⟩
  · rcases List.mem_append.1 hu with hu | hu
    · exact k.owns (h.told u hu) fun i hi => by have := s.told u hu i hi; rintro (q | q); exact this.2.2.2.1 q; exact this.2.2.2.2.2.2 q
    · simp at hu; subst hu
      exact k.owns ht fun i hi => by have := htn i hi; rintro (q | q); exact this.1 q.symm; exact this.2 q
  · rcases List.mem_append.1 hu with hu | hu
    · exact h.tap u hu
    · simp at hu; subst hu; exact hta
  · exact hfr.kept.trans k fun i hi => by
      rintro (q | q)
      · exact (hfr.mine i (.inr (.inr (.inl q)))).resolve_right (by omega)
      · exact (hfr.mine i (.inr (.inr (.inr q)))).resolve_right (by omega)
  · rintro i (e | e | e | e)
    · exact hfr.mine i (.inl e)
    · exact hfr.mine i (.inr (.inl e))
    · exact hfr.mine i (.inr (.inr (.inl e)))
    · rcases hat with q | ⟨q, hq, hq2⟩
      · exact hfr.mine i (.inr (.inr (.inr (q ▸ e))))
      · have : i = q := by have e' : ov'.ownBlock = some i := e; rw [hq] at e'; injection e' with e'; exact e'.symm
        exact .inr (by omega)
  · intro u hu
    rcases List.mem_append.1 hu with hu | hu
    · exact hfr.told u hu
    · simp at hu; subst hu; exact .inr ht0
  · intro i e
    rcases hat with q | ⟨q, hq, hq2⟩
    · exact hfr.ovb i (q ▸ e)
    · have : i = q := by have e' : ov'.ownBlock = some i := e; rw [hq] at e'; injection e' with e'; exact e'.symm
      exact .inr (by omega)
end
end Go.Proofs.YtmhmbeofcedjjaaDoor.Vt
