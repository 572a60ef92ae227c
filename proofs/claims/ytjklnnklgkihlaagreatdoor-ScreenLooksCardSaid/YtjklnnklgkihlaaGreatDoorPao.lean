/- The walk of a Feed's telling of what was begun. -/
import Derived.Test.YtjklnnklgkihlaaGreatDoorPaf
import Derived.Deep.AppendLies
import Derived.Deep.RegionLaw
import Derived.BigRegion
import Derived.Laws.OwnMore
namespace Go.Proofs.YtjklnnklgkihlaaGreatDoor.Vt
open Go.RowKit
open Cel (Blk Kept Tabs low Owns At)

theorem convert_byts {w : World} {B : Nat} {v : Value} {l : Tx} (h : Byts w B v l) : (convert 28 9 v).run Tryz.prog w = .ok (.string (bs l)) w := by
  rcases h.2 with ⟨rfl, h0⟩ | ⟨g, cap, cur, rfl, _⟩
  · have e : l = [] := List.eq_nil_of_length_eq_zero h0
    subst e
    exact run_convert_bytes_nil (P := Tryz.prog) w 28 5 Tryz.underlying28 Tryz.underlying5 0 0 9 Tryz.underlying9
  · refine run_convert_bytes_back (P := Tryz.prog) w 28 9 5 ⟨g, 0, none⟩ cap l Tryz.underlying28 Tryz.underlying5 Tryz.underlying9 fun j hj => ?_
    exact h.cells (g := g) rfl j _ (by simp [byts, hj])
theorem ints_cut {w : World} {B : Nat} {A : Option Addr} {n c : Nat} {l : List Int} (h : Ints w B (.slice A n c) l) (m : Nat) (hm : m ≤ l.length) : Ints w B (.slice A m c) (l.take m) := by
  refine ⟨by rw [ints_len]; omega, ?_⟩
  rcases h.2 with ⟨e, h0⟩ | ⟨g, cap, cur, e, hg, hh, hc, h1, h2, h3⟩
  · have : m = 0 := by omega
    subst this
    injection e with e1 _ e3
    subst e1; subst e3
    exact .inl ⟨rfl, by simp⟩
  · injection e with e1 e2 e3
    subst e1; subst e3
    have hl : (l.take m).length = m := by rw [List.length_take]; omega
    refine .inr ⟨g, c, cur, by rw [hl], hg, hh, by omega, h1, h2, ?_⟩
    rw [hl]
    unfold ints at h3 ⊢
    rw [List.map_take, ← h3, List.take_take]
    congr 1
    omega
/-- The parser has dropped what was begun. -/
theorem Sys.drop {K : Ctx} {w w' : World} {C : Cfg} (h : Sys K w C) (k : Kept w w' (fun i => i = K.pb ∨ i = K.db)) (hb : Blk w' K.pb 101 (parL ps0 nilV nilV K.db).toArray) (hd : At w' K.db Cel.zero) :
    Sys K w' { C with S := ps0, pv := nilV, tv := nilV } ∧ Fr K w C w' { C with S := ps0, pv := nilV, tv := nilV } := by
  have s := h.sep
  refine ⟨⟨⟨hb, hd, ints_nil _ _, fun _ => rfl, byts_nil _ _, bd0, h.P.pB, h.P.dB⟩, k.blk h.fee (by rintro (e | e); exact s.pf e.symm; exact s.df e.symm), k.blk h.var (by rintro (e | e); exact s.po e.symm; exact s.dO e.symm),
    k.owns h.out fun i hi => (by rintro (e | e); exact s.op (by rw [hi, e]); exact s.od (by rw [hi, e])), fun t ht => k.owns (h.told t ht) fun i hi => (by have := s.told t ht i hi; rintro (e | e); exact this.1 e; exact this.2.1 e), (fun t ht i hi e => by cases e),
    h.inpK k fun hl g o e => (by have := s.inp hl g o e; rintro (q | q); exact this.1 q; exact this.2.1 q), (fun _ g o e e2 => by cases e2), h.tabsK k (by rintro i (e | e); exact e ▸ h.P.pB; exact e ▸ h.P.dB), h.low, h.fB, h.oB, h.jl, h.ll, h.x0, h.x1⟩,
    ⟨k.more (by rintro i (e | e); exact .inl (.inl e); exact .inl (.inr (.inl e))), ?_, fun t ht => .inl ht, fun _ h => .inl h⟩⟩
  rintro i ((e | e | e | e) | e | e | e)
  · exact .inl (.inl (.inl e))
  · exact .inl (.inl (.inr (.inl e)))
  · cases e
  · cases e
  · exact .inl (.inr (.inl e))
  · exact .inl (.inr (.inr (.inl e)))
  · exact .inl (.inr (.inr (.inr e)))
theorem take_min (l : List Int) : l.take (min l.length 32) = l.take 32 := by
  by_cases h : l.length ≤ 32
  · rw [Nat.min_eq_left h, List.take_length, List.take_of_length_le h]
  · rw [Nat.min_eq_right (by omega)]
theorem own_slice3 {w : World} {base e size n : Nat} {v : Value} {xs : List Value} (h : w.ownsRow base e size v n xs) : ∃ A m c, v = .slice A m c := by
  obtain ⟨A, c, e⟩ := own_slice h
  exact ⟨A, _, c, e⟩
set_option maxRecDepth 100000 in
set_option maxHeartbeats 400000 in
/-- What was begun is told, and is over. -/
theorem tellBegun_any {K : Ctx} {w : World} {C : Cfg} (hS : Sys K w C) (hn : C.out.length ≤ 4294967290) :
    Calls Tryz.prog 71 #[ptr K.fb] w fun e w' => e = .returned (.tuple #[]) ∧ ∃ C' v', Sys K w' C' ∧ Fr K w C w' C' ∧ C'.j = C.j ∧ C'.x = C.x ∧ C'.S = ps0 ∧ C'.out = C.out ++ [(act C.S, v')] := by
  have c0 : w.cell? ⟨K.fb, 0, none⟩ = some (ptr K.pb) := hS.fee.cell 0
  have hp   := hS.P.par
  have hr : w.rangeAt K.pb 2 [.int .i64 C.S.k, .int .i32 0, .int .u8 C.S.b, C.pv, .string (bs C.S.it), .string (bs [])] := fun j v hj => by
    rw [hp.cell]
    have hj6 : j < 6 := (List.getElem?_eq_some_iff.1 hj).1
    rw [← hj]
    match j, hj6 with
    | 0, _ => rfl
    | 1, _ => rfl
    | 2, _ => rfl
    | 3, _ => rfl
    | 4, _ => rfl
    | 5, _ => rfl
    | n + 6, h => exact absurd h (by omega)
  obtain ⟨A, c, hpv⟩ := own_slice hS.P.prm
  have hprm   := hS.P.prm
  have hpl   := hS.P.bd.pl
  have hcap : C.S.ps.length ≤ c := by
    rcases hprm.2 with ⟨e, h0⟩ | ⟨g, cap, cur, e, _, _, hc, _⟩
    · omega
    · rw [hpv] at e; injection e with _ _ e; omega
  have hcut := ints_cut (hpv ▸ hprm) (min C.S.ps.length 32) (by omega)
  rw [take_min] at hcut
  have hcn : C.S.ps.take 32 = [] → Value.slice A (min C.S.ps.length 32) c = nilV := fun e => by
    have e2 : C.S.ps = [] := by
      have := congrArg List.length e
      rw [List.length_take] at this
      simp at this
      exact this
    have := hpv.symm.trans (hS.P.pnil e2)
    rw [e2] at this ⊢
    exact this
  obtain ⟨o, ho⟩ : ∃ o, o = Obj.cells #[.int .i64 C.S.k, .int .i32 0, .int .u8 C.S.b, C.pv, .string (bs C.S.it), .string (bs [])] 65 := ⟨_, rfl⟩
  have hbg : Blk (w.alloc o) w.heap.size 65 #[.int .i64 C.S.k, .int .i32 0, .int .u8 C.S.b, C.pv, .string (bs C.S.it), .string (bs [])] := by rw [ho]; exact Blk.new _ _ _
  have hcl := clone_any (hcut.alloc o) hcn (by rw [List.length_take]; omega)
  rw [hpv] at hr hbg ho
  have HO := Lib.hid ho
  have HPV := Lib.hid hpv
  clear hpv hcut hcn hp ho hprm
  have hbs0 : w.heap.size < (w.alloc o).heap.size := by simp
  by_cases h32 : C.S.ps.length ≤ 32
  all_goals
    first
      | rw [Nat.min_eq_left h32] at hcl
      | rw [Nat.min_eq_right (by omega)] at hcl
    go_enter Tryz.func71, Tryz.ntmps71
    go_wp2_with (refine wpList_load_mid rfl 65 (.tmp 9) rfl K.pb 2 rfl _ _ hr Tryz.underlying65 rfl (by show _ = some 6; kernel_rfl) ?_)
    rw [← HO.out]
    refine hcl.mono ?_
    rintro e w2 ⟨v2, rfl, ho2, hb2⟩
    have hB2 := hbg.below hb2 (by simp)
    have hs2 := hb2.size
    have hk2 : Kept w w2 (fun i => w.heap.size ≤ i) := ((Kept.refl w _).alloc o).trans (Cel.below_kept hb2 fun i => w.heap.size ≤ i) fun _ _ q => q
    have hS2 := hS.same hk2 fun _ q => q
    obtain ⟨A2, m2, c2, rfl⟩ := own_slice3 ho2
    clear hcl hr c0 hbg
    have c0 : w2.cell? ⟨K.fb, 0, none⟩ = some (ptr K.pb) := hS2.fee.cell 0
    have c8 : w2.cell? ⟨K.pb, 8, none⟩ = some C.tv := hS2.P.par.cell 8
    have g3 := hB2.frozen 3
    have g5 := hB2.frozen 5
    have x3 := hB2.cell 3
    have x5 := hB2.cell 5
    have lf := (hS.lt K.fb (.inr (.inl rfl))).2
    have lp := (hS.lt K.pb (.inl (.inl rfl))).2
    have ho3 : ∀ W, Kept w2 W (fun i => i = w.heap.size) → Byts W K.B C.tv C.S.tx := fun W k => k.owns hS2.P.txt fun i hi e => by have := (hS.P.txt.lt i hi).2; omega
    have k3 : Kept w2 (w2.setCell ⟨w.heap.size, 3, none⟩ (.slice A2 m2 c2)) (fun i => i = w.heap.size) := Kept.setCell (p := fun i => i = w.heap.size) (Kept.refl w2 _) (a := ⟨w.heap.size, 3, none⟩) rfl _
    have hcv := convert_byts (ho3 _ k3)
    have hB3 := hB2.set_ 3 (.slice A2 m2 c2)
    have y5 := hB3.cell 5
    have y5f := hB3.frozen 5
    have k5 : Kept w2 ((w2.setCell ⟨w.heap.size, 3, none⟩ (.slice A2 m2 c2)).setCell ⟨w.heap.size, 5, none⟩ (.string (bs C.S.tx))) (fun i => i = w.heap.size) := k3.setCell (a := ⟨w.heap.size, 5, none⟩) rfl _
    have hB5 := hB3.set_ 5 (.string (bs C.S.tx))
    have kw := hk2.trans k5 fun i _ q => Nat.le_of_eq q.symm
    have hS5 := hS.same kw fun _ q => q
    have hF5 : Fr K w C _ C := Fr.same kw fun _ q => q
    have hi5 := k5.owns (Cel.own_rebase ho2 (base' := K.B) fun i hi => by have := (ho2.lt i hi).1; have := (hS.lt K.pb (.inl (.inl rfl))).1; omega) fun i hi q => by have := (ho2.lt i hi).1; omega
    have hnw : ∀ i, (Value.slice A2 m2 c2).ownBlock = some i → w.heap.size ≤ i := fun i hi => by have := (ho2.lt i hi).1; omega
    have hpo : ∀ i, C.pv.ownBlock = some i → i < w.heap.size := fun i hi => (hS.P.prm.lt i hi).2
    go_wp2_with fail
    generalize (w2.setCell ⟨w.heap.size, 3, none⟩ (.slice A2 m2 c2)).setCell ⟨w.heap.size, 5, none⟩ (.string (bs C.S.tx)) = W at *
    clear hcv y5 y5f x3 x5 g3 g5 c0 c8 k3 k5 hB3 hB2 ho3 hk2 hb2 hS2 kw
    have z0 := hB5.cell 0
    have z1 := hB5.cell 1
    have z2 := hB5.cell 2
    have z3 := hB5.cell 3
    have z4 := hB5.cell 4
    have z5 := hB5.cell 5
    have c4 : W.cell? ⟨K.fb, 4, none⟩ = some (tellV K.ob) := hS5.fee.cell 4
    have ht : Calls Tryz.prog 40 #[.agg #[.int .i64 C.S.k, .int .i32 0, .int .u8 C.S.b, .slice A2 m2 c2, .string (bs C.S.it), .string (bs C.S.tx)], ptr K.ob] W.drew (Told K w C C [(act C.S, .slice A2 m2 c2)]) := tell_any hS5.drew (hF5.trans (Fr.same (p := fun _ => False) (Kept.refl W _).drew fun _ hf => hf.elim)) (act C.S, .slice A2 m2 c2) hi5.drew (fun i hi e => by have := hnw i hi; have := hpo i e; omega) hnw (by omega)
    go_still_tail 5, (by kernel_rfl)
    change wpList _ _ _ _ _ W.drew
    go_wp2_with fail
    refine ht.mono ?_
    rintro e w6 ⟨rfl, ov6, s6, f6⟩
    have d0 : w6.cell? ⟨K.fb, 0, none⟩ = some (ptr K.pb) := s6.fee.cell 0
    clear ht c4 z0 z1 z2 z3 z4 z5 hB5 hS5 hF5 hi5
    go_wp2_with fail
    refine (drop_any s6.P.par s6.P.dec s6.P.bd.di).mono ?_
    rintro e w7 ⟨rfl, q1, q2, q3⟩
    obtain ⟨s7, f7⟩ := s6.drop q3 q1 q2
    go_wp2
    go_end0
    exact ⟨rfl, _, _, s7, f6.trans f7, rfl, rfl, rfl, rfl⟩
end Go.Proofs.YtjklnnklgkihlaaGreatDoor.Vt
/- The walks of a Feed's own methods: an ESC, its end, what is passed over. -/
namespace Go.Proofs.YtjklnnklgkihlaaGreatDoor.Vt
open Go.RowKit
open Cel (Blk Kept Tabs low Owns At)

theorem s8 {s : Nat} (hs : s ≤ 7) : s = 0 ∨ s = 1 ∨ s = 2 ∨ s = 3 ∨ s = 4 ∨ s = 5 ∨ s = 6 ∨ s = 7 := by omega
theorem nm_is (s : Nat) (hs : s ≤ 7) :
    ((nm s).toList == [103, 114, 111, 117, 110, 100]) = decide (s = 0) ∧ ((nm s).toList == [111, 115, 99]) = decide (s = 1) ∧ ((nm s).toList == [100, 97, 116, 97]) = decide (s = 2) ∧ ((nm s).toList == [115, 116, 114, 105, 110, 103]) = decide (s = 3) ∧
    ((nm s).toList == [101, 115, 99, 97, 112, 101]) = decide (s = 4) ∧ ((nm s).toList == [99, 115, 105]) = decide (s = 5) ∧ ((nm s).toList == [100, 99, 115]) = decide (s = 6) ∧ ((nm s).toList == [105, 103, 110, 111, 114, 101]) = decide (s = 7) := by
  rcases s8 hs with rfl | rfl | rfl | rfl | rfl | rfl | rfl | rfl <;> simp [nm]
/-- What is told, without the values. -/
def outs (l : List To) : List Ac := l.map (·.1)
theorem outs_app (a b : List To) : outs (a ++ b) = outs a ++ outs b := by simp [outs]
theorem outs_prts (l : List Int) : outs (prts l) = l.map prt := by simp [outs, prts, Function.comp_def]
theorem outs_len (l : List To) : (outs l).length = l.length := by simp [outs]
/-- What a method leaves: the parser in state S, new told; j and x as they were. -/
def Left (K : Ctx) (w : World) (C : Cfg) (S : Ps) (new : List Ac) (e : Ending) (w' : World) : Prop :=
  e = .returned (.tuple #[]) ∧ ∃ C', Sys K w' C' ∧ Fr K w C w' C' ∧ C'.j = C.j ∧ C'.x = C.x ∧ C'.S = S ∧ outs C'.out = outs C.out ++ new
theorem tellBegun_left {K : Ctx} {w : World} {C : Cfg} (h : Sys K w C) (hn : C.out.length ≤ 4294967290) :
    Calls Tryz.prog 71 #[ptr K.fb] w (Left K w C ps0 [act C.S]) :=
  (tellBegun_any h hn).mono fun e w' ⟨he, C', v', h1, h2, h3, h4, h5, h6⟩ => ⟨he, C', h1, h2, h3, h4, h5, by rw [h6, outs_app]; rfl⟩
theorem control_left {K : Ctx} {w : World} {C : Cfg} (h : Sys K w C) (hn : C.out.length ≤ 4294967290) :
    Calls Tryz.prog 112 #[ptr K.fb] w (Left K w C { C.S with d := Cel.zero } ((Cel.lost C.S.d).map prt ++ [ctl C.x])) :=
  (control_any h hn).mono fun e w' ⟨he, C', h1, h2, h3, h4, h5, h6⟩ => ⟨he, C', h1, h2, h3, h4, h5, by rw [h6, outs_app, outs_app, outs_prts]; rfl⟩

theorem Bd.esc {S : Ps} : Bd (escP S) := ⟨by show 4 ≤ 7; omega, by show (0 : Int) ≤ 3; omega, by show (3 : Int) ≤ 6; omega, by show (0 : Int) ≤ 0; omega, by show (0 : Int) ≤ 255; omega, by show (0 : Nat) ≤ 33; omega, (fun p hp => by cases hp), by show (0 : Nat) ≤ 3; omega, by show (0 : Nat) ≤ 1024; omega, Cel.inv_zero⟩
/-- A sequence has begun. -/
theorem esc_sys {K : Ctx} {w w' : World} {C : Cfg} (h : Sys K w C) (hb : Blk w' K.pb 101 (parL { C.S with k := 3, b := 0, ps := [], it := [], tx := [], af := false } nilV nilV K.db).toArray) (k : Kept w w' (fun i => i = K.pb)) (hd : C.S.d = Cel.zero) (af : Bool) :
    ∃ C', Sys K ((w'.setCell ⟨K.pb, 9, none⟩ (.bool af)).setCell ⟨K.pb, 0, none⟩ (.string { data := #[101, 115, 99, 97, 112, 101] })) C' ∧ Fr K w C ((w'.setCell ⟨K.pb, 9, none⟩ (.bool af)).setCell ⟨K.pb, 0, none⟩ (.string { data := #[101, 115, 99, 97, 112, 101] })) C' ∧
      C'.j = C.j ∧ C'.x = C.x ∧ C'.S = ⟨4, Cel.zero, 3, 0, [], [], [], af⟩ ∧ C'.out = C.out := by
  have hb2 := (hb.set_ 9 (.bool af)).set_ 0 (.string { data := #[101, 115, 99, 97, 112, 101] })
  have k2 := (k.setCell (a := ⟨K.pb, 9, none⟩) rfl (.bool af)).setCell (a := ⟨K.pb, 0, none⟩) rfl (.string { data := #[101, 115, 99, 97, 112, 101] })
  have e : (((parL { C.S with k := 3, b := 0, ps := [], it := [], tx := [], af := false } nilV nilV K.db).toArray.setIfInBounds 9 (.bool af)).setIfInBounds 0 (.string { data := #[101, 115, 99, 97, 112, 101] })) = (parL ⟨4, Cel.zero, 3, 0, [], [], [], af⟩ nilV nilV K.db).toArray := by
    unfold parL
    generalize nm C.S.s = z
    simp [nm]
  rw [e] at hb2
  have hbd : Bd ⟨4, Cel.zero, 3, 0, [], [], [], af⟩ := ⟨by show 4 ≤ 7; omega, by show (0 : Int) ≤ 3; omega, by show (3 : Int) ≤ 6; omega, by show (0 : Int) ≤ 0; omega, by show (0 : Int) ≤ 255; omega, by show (0 : Nat) ≤ 33; omega, (fun p hp => by cases hp), by show (0 : Nat) ≤ 3; omega, by show (0 : Nat) ≤ 1024; omega, Cel.inv_zero⟩
  obtain ⟨s, f⟩ := h.setP k2 ⟨4, Cel.zero, 3, 0, [], [], [], af⟩ nilV nilV hb2 hd.symm hbd (.inr ⟨rfl, rfl⟩) (.inr ⟨rfl, rfl⟩)
  exact ⟨_, s, f, rfl, rfl, rfl, rfl⟩
set_option maxRecDepth 100000 in
set_option maxHeartbeats 2000000 in
theorem escape_any {K : Ctx} {w : World} {C : Cfg} (hS : Sys K w C) (hn : C.out.length ≤ 4294967280) :
    Calls Tryz.prog 110 #[ptr K.fb] w (Left K w C (escP C.S) (escA C.S)) := by
  have c0 : w.cell? ⟨K.fb, 0, none⟩ = some (ptr K.pb) := hS.fee.cell 0
  have c1 : w.cell? ⟨K.pb, 0, none⟩ = some (.string (nm C.S.s)) := hS.P.par.cell 0
  have c2 : w.cell? ⟨K.pb, 1, none⟩ = some (ptr K.db) := hS.P.par.cell 1
  have hl : (Cel.lost C.S.d).length ≤ 1 := by unfold Cel.lost; split <;> simp
  have he := Cel.end_any C.S.d hS.P.bd.di K.db w hS.P.dec
  have hit := isText_any C.S.s hS.P.bd.s1 w
  obtain ⟨_, q1, q2, _⟩ := nm_is C.S.s hS.P.bd.s1
  have HP : Hid (escP C.S = ⟨4, Cel.zero, 3, 0, [], [], [], isTx C.S.s⟩) := rfl
  rw [HP.out]
  clear HP
  generalize isTx C.S.s = af at *
  have hcase : (decide (C.S.s = 1) = true ∧ C.S.s = 1) ∨ (decide (C.S.s = 1) = false ∧ decide (C.S.s = 2) = true ∧ C.S.s = 2) ∨ (decide (C.S.s = 1) = false ∧ decide (C.S.s = 2) = false ∧ ¬ (C.S.s = 1 ∨ C.S.s = 2)) := by simp; omega
  rcases hcase with ⟨r1, hs⟩ | ⟨r1, r2, hs⟩ | ⟨r1, r2, hs⟩
  · rw [r1] at q1
    have HA : Hid (escA C.S = (Cel.lost C.S.d).map prt ++ [act C.S]) := by show _ = _; unfold escA; rw [if_pos (.inl hs)]
    rw [HA.out]
    clear r1 hs HA
    go_enter Tryz.func110, Tryz.ntmps110
    go_wp2_with fail
    refine hit.mono ?_
    rintro e w' ⟨rfl, rfl⟩
    go_wp2_with fail
    refine he.mono ?_
    rintro e w1 ⟨v, rfl, hz, ho, hk⟩
    obtain ⟨s1, f1⟩ := hS.setD hk Cel.zero hz Cel.inv_zero
    have hn1 : C.out.length + (Cel.lost C.S.d).length ≤ 4294967296 := by omega
    have hp := print_any s1 w.heap.size v _ ho hn1
    clear he c0 c1 c2 hit
    go_wp2_with fail
    refine hp.mono ?_
    rintro e w2 ⟨rfl, ov2, s2, f2⟩
    have c0 : w2.cell? ⟨K.fb, 0, none⟩ = some (ptr K.pb) := s2.fee.cell 0
    have c1 : w2.cell? ⟨K.pb, 0, none⟩ = some (.string (nm C.S.s)) := s2.P.par.cell 0
    clear hp ho hz hk
    have hn2 : (C.out ++ prts (Cel.lost C.S.d)).length ≤ 4294967290 := by rw [List.length_append, prts_len]; omega
    have ht := tellBegun_any s2 hn2
    go_wp2_with fail
    refine ht.mono ?_
    rintro e w3 ⟨rfl, C3, v3, s3, f3, j3, x3, S3, o3⟩
    have d0 : w3.cell? ⟨K.fb, 0, none⟩ = some (ptr K.pb) := s3.fee.cell 0
    have J3 := Lib.hid j3
    have X3 := Lib.hid x3
    have T3 := Lib.hid S3
    have O3 := Lib.hid o3
    clear c0 c1 ht q1 q2 j3 x3 S3 o3
    go_wp2_with fail
    refine (begin_any s3.P.par 3).mono ?_
    rintro e w4 ⟨rfl, hb4, hk4⟩
    have e0 : w4.cell? ⟨K.fb, 0, none⟩ = some (ptr K.pb) := (hk4.blk s3.fee fun e => s3.sep.pf e.symm).cell 0
    have e9 := hb4.cell 9
    have e9f := hb4.frozen 9
    have e1 := hb4.cell 0
    have e1f := hb4.frozen 0
    have hpf := s3.sep.pf
    obtain ⟨C5, s5, f5, j5, x5, S5, o5⟩ := esc_sys s3 hb4 hk4 (by rw [T3.out]; rfl) af
    have J5 := Lib.hid j5
    have X5 := Lib.hid x5
    have T5 := Lib.hid S5
    have O5 := Lib.hid o5
    clear d0 hb4 hk4 j5 x5 S5 o5
    go_wp2
    go_end0
    refine ⟨rfl, C5, s5, ((f1.trans f2).trans f3).trans f5, J5.out.trans J3.out, X5.out.trans X3.out, T5.out, ?_⟩
    rw [O5.out, O3.out, outs_app, outs_app, outs_prts, List.append_assoc]
    rfl
  · rw [r1] at q1
    rw [r2] at q2
    have HA : Hid (escA C.S = (Cel.lost C.S.d).map prt ++ [act C.S]) := by show _ = _; unfold escA; rw [if_pos (.inr hs)]
    rw [HA.out]
    clear r1 r2 hs HA
    go_enter Tryz.func110, Tryz.ntmps110
    go_wp2_with fail
    refine hit.mono ?_
    rintro e w' ⟨rfl, rfl⟩
    go_wp2_with fail
    refine he.mono ?_
    rintro e w1 ⟨v, rfl, hz, ho, hk⟩
    obtain ⟨s1, f1⟩ := hS.setD hk Cel.zero hz Cel.inv_zero
    have hn1 : C.out.length + (Cel.lost C.S.d).length ≤ 4294967296 := by omega
    have hp := print_any s1 w.heap.size v _ ho hn1
    clear he c0 c1 c2 hit
    go_wp2_with fail
    refine hp.mono ?_
    rintro e w2 ⟨rfl, ov2, s2, f2⟩
    have c0 : w2.cell? ⟨K.fb, 0, none⟩ = some (ptr K.pb) := s2.fee.cell 0
    have c1 : w2.cell? ⟨K.pb, 0, none⟩ = some (.string (nm C.S.s)) := s2.P.par.cell 0
    clear hp ho hz hk
    have hn2 : (C.out ++ prts (Cel.lost C.S.d)).length ≤ 4294967290 := by rw [List.length_append, prts_len]; omega
    have ht := tellBegun_any s2 hn2
    go_wp2_with fail
    refine ht.mono ?_
    rintro e w3 ⟨rfl, C3, v3, s3, f3, j3, x3, S3, o3⟩
    have d0 : w3.cell? ⟨K.fb, 0, none⟩ = some (ptr K.pb) := s3.fee.cell 0
    have J3 := Lib.hid j3
    have X3 := Lib.hid x3
    have T3 := Lib.hid S3
    have O3 := Lib.hid o3
    clear c0 c1 ht q1 q2 j3 x3 S3 o3
    go_wp2_with fail
    refine (begin_any s3.P.par 3).mono ?_
    rintro e w4 ⟨rfl, hb4, hk4⟩
    have e0 : w4.cell? ⟨K.fb, 0, none⟩ = some (ptr K.pb) := (hk4.blk s3.fee fun e => s3.sep.pf e.symm).cell 0
    have e9 := hb4.cell 9
    have e9f := hb4.frozen 9
    have e1 := hb4.cell 0
    have e1f := hb4.frozen 0
    have hpf := s3.sep.pf
    obtain ⟨C5, s5, f5, j5, x5, S5, o5⟩ := esc_sys s3 hb4 hk4 (by rw [T3.out]; rfl) af
    have J5 := Lib.hid j5
    have X5 := Lib.hid x5
    have T5 := Lib.hid S5
    have O5 := Lib.hid o5
    clear d0 hb4 hk4 j5 x5 S5 o5
    go_wp2
    go_end0
    refine ⟨rfl, C5, s5, ((f1.trans f2).trans f3).trans f5, J5.out.trans J3.out, X5.out.trans X3.out, T5.out, ?_⟩
    rw [O5.out, O3.out, outs_app, outs_app, outs_prts, List.append_assoc]
    rfl
  · rw [r1] at q1
    rw [r2] at q2
    have HA : Hid (escA C.S = (Cel.lost C.S.d).map prt) := by show _ = _; unfold escA; rw [if_neg hs, List.append_nil]
    rw [HA.out]
    clear r1 r2 hs HA
    go_enter Tryz.func110, Tryz.ntmps110
    go_wp2_with fail
    refine hit.mono ?_
    rintro e w' ⟨rfl, rfl⟩
    go_wp2_with fail
    refine he.mono ?_
    rintro e w1 ⟨v, rfl, hz, ho, hk⟩
    obtain ⟨s1, f1⟩ := hS.setD hk Cel.zero hz Cel.inv_zero
    have hn1 : C.out.length + (Cel.lost C.S.d).length ≤ 4294967296 := by omega
    have hp := print_any s1 w.heap.size v _ ho hn1
    clear he c0 c1 c2 hit
    go_wp2_with fail
    refine hp.mono ?_
    rintro e w2 ⟨rfl, ov2, s2, f2⟩
    have c0 : w2.cell? ⟨K.fb, 0, none⟩ = some (ptr K.pb) := s2.fee.cell 0
    have c1 : w2.cell? ⟨K.pb, 0, none⟩ = some (.string (nm C.S.s)) := s2.P.par.cell 0
    clear hp ho hz hk
    have s3 := s2
    have f3 := Fr.refl K w2 { C with S := { C.S with d := Cel.zero }, ov := ov2, out := C.out ++ prts (Cel.lost C.S.d) }
    have d0 := c0
    go_wp2_with fail
    refine (begin_any s3.P.par 3).mono ?_
    rintro e w4 ⟨rfl, hb4, hk4⟩
    have e0 : w4.cell? ⟨K.fb, 0, none⟩ = some (ptr K.pb) := (hk4.blk s3.fee fun e => s3.sep.pf e.symm).cell 0
    have e9 := hb4.cell 9
    have e9f := hb4.frozen 9
    have e1 := hb4.cell 0
    have e1f := hb4.frozen 0
    have hpf := s3.sep.pf
    obtain ⟨C5, s5, f5, j5, x5, S5, o5⟩ := esc_sys s3 hb4 hk4 rfl af
    have J5 := Lib.hid j5
    have X5 := Lib.hid x5
    have T5 := Lib.hid S5
    have O5 := Lib.hid o5
    clear d0 c0 c1 q1 q2 hb4 hk4 j5 x5 S5 o5
    go_wp2
    go_end0
    refine ⟨rfl, C5, s5, (f1.trans f2).trans f5, J5.out, X5.out, T5.out, ?_⟩
    rw [O5.out, outs_app, outs_prts]
end Go.Proofs.YtjklnnklgkihlaaGreatDoor.Vt
/- The walks of a Feed's methods on a head: its end when ignored, an ESC's, what is final, what fits. -/
namespace Go.Proofs.YtjklnnklgkihlaaGreatDoor.Vt
open Go.RowKit
open Cel (Blk Kept Tabs low Owns At)

def ign (S : Ps) : Ps := if S.k = 6 then { ps0 with s := 3 } else ps0
theorem endIgnored_any {K : Ctx} {w : World} {C : Cfg} (hS : Sys K w C) : Calls Tryz.prog 74 #[ptr K.fb] w (Left K w C (ign C.S) []) := by
  have c0 : w.cell? ⟨K.fb, 0, none⟩ = some (ptr K.pb) := hS.fee.cell 0
  have c2 : w.cell? ⟨K.pb, 2, none⟩ = some (.int .i64 C.S.k) := hS.P.par.cell 2
  have hd := drop_any hS.P.par hS.P.dec hS.P.bd.di
  by_cases hk : C.S.k = 6
  · have hkb : (C.S.k == 6) = true := by simp [hk]
    have HI : Hid (ign C.S = { ps0 with s := 3 }) := by show _ = _; unfold ign; rw [if_pos hk]
    rw [HI.out]
    clear hk HI
    go_enter Tryz.func74, Tryz.ntmps74
    go_wp2_with fail
    refine hd.mono ?_
    rintro e w1 ⟨rfl, q1, q2, q3⟩
    obtain ⟨s1, f1⟩ := hS.drop q3 q1 q2
    have d0 : w1.cell? ⟨K.fb, 0, none⟩ = some (ptr K.pb) := s1.fee.cell 0
    have e0 : w1.cell? ⟨K.pb, 0, none⟩ = some (.string (nm 0)) := s1.P.par.cell 0
    have e1 := s1.P.par.frozen 0
    have hb2 := s1.P.par.set_ 0 (.string { data := #[115, 116, 114, 105, 110, 103] })
    have hk2 : Kept w1 (w1.setCell ⟨K.pb, 0, none⟩ (.string { data := #[115, 116, 114, 105, 110, 103] })) (fun i => i = K.pb) := Kept.setCell (p := fun i => i = K.pb) (Kept.refl w1 _) (a := ⟨K.pb, 0, none⟩) rfl _
    obtain ⟨s2, f2⟩ := s1.setP hk2 { ps0 with s := 3 } nilV nilV hb2 rfl ⟨by show 3 ≤ 7; omega, bd0.k0, bd0.k1, bd0.b0, bd0.b1, bd0.pl, bd0.pz, bd0.il, bd0.tl, bd0.di⟩ (.inr ⟨rfl, rfl⟩) (.inr ⟨rfl, rfl⟩)
    clear c0 c2 hd q1 q2 q3 hb2 hk2
    go_wp2
    go_end0
    exact ⟨rfl, _, s2, f1.trans f2, rfl, rfl, rfl, (List.append_nil _).symm⟩
  · have hkb : (C.S.k == 6) = false := by simp [hk]
    have HI : Hid (ign C.S = ps0) := by show _ = _; unfold ign; rw [if_neg hk]
    rw [HI.out]
    clear hk HI
    go_enter Tryz.func74, Tryz.ntmps74
    go_wp2_with fail
    refine hd.mono ?_
    rintro e w1 ⟨rfl, q1, q2, q3⟩
    obtain ⟨s1, f1⟩ := hS.drop q3 q1 q2
    clear c0 c2 hd q1 q2 q3
    go_wp2
    go_end0
    exact ⟨rfl, _, s1, f1, rfl, rfl, rfl, (List.append_nil _).symm⟩
/-- What an ESC's final byte tells, if it opens nothing. -/
def escEnd (S : Ps) (x : Int) : List Ac := if S.af = true ∧ S.it = [] ∧ x = 92 then [] else [act S]
theorem tellEscape_any {K : Ctx} {w : World} {C : Cfg} (hS : Sys K w C) (hn : C.out.length ≤ 4294967290) : Calls Tryz.prog 70 #[ptr K.fb] w (Left K w C ps0 (escEnd C.S C.x)) := by
  have c0 : w.cell? ⟨K.fb, 0, none⟩ = some (ptr K.pb) := hS.fee.cell 0
  have c3 : w.cell? ⟨K.fb, 3, none⟩ = some (.int .u8 C.x) := hS.fee.cell 3
  have c9 : w.cell? ⟨K.pb, 9, none⟩ = some (.bool C.S.af) := hS.P.par.cell 9
  have c6 : w.cell? ⟨K.pb, 6, none⟩ = some (.string (bs C.S.it)) := hS.P.par.cell 6
  have ht := tellBegun_left hS hn
  have hd := drop_any hS.P.par hS.P.dec hS.P.bd.di
  have tell : ∀ {a : Prop} [Decidable a], ¬ a → (if a then [] else [act C.S]) = [act C.S] := fun h => if_neg h
  cases haf : C.S.af with
  | false =>
    have HE : Hid (escEnd C.S C.x = [act C.S]) := by show _ = _; unfold escEnd; rw [if_neg (by rw [haf]; simp)]
    rw [haf] at c9
    rw [HE.out]
    clear haf tell HE
    go_enter Tryz.func70, Tryz.ntmps70
    go_wp2_with fail
    refine ht.mono ?_
    rintro e w1 ⟨rfl, hr⟩
    go_wp2
    go_end0
    exact ⟨rfl, hr⟩
  | true =>
    rw [haf] at c9
    by_cases hit : C.S.it = []
    · rw [hit] at c6
      by_cases hx : C.x = 92
      · have hxb : (C.x == 92) = true := by simp [hx]
        have HE : Hid (escEnd C.S C.x = []) := by show _ = _; unfold escEnd; rw [if_pos ⟨haf, hit, hx⟩]
        rw [HE.out]
        rw [bs_nil] at c6
        clear haf tell hit hx HE
        go_enter Tryz.func70, Tryz.ntmps70
        go_wp2_with fail
        refine hd.mono ?_
        rintro e w1 ⟨rfl, q1, q2, q3⟩
        obtain ⟨s1, f1⟩ := hS.drop q3 q1 q2
        go_wp2
        go_end0
        exact ⟨rfl, _, s1, f1, rfl, rfl, rfl, (List.append_nil _).symm⟩
      · have hxb : (C.x == 92) = false := by simp [hx]
        have HE : Hid (escEnd C.S C.x = [act C.S]) := by show _ = _; unfold escEnd; rw [if_neg (by omega)]
        rw [HE.out]
        rw [bs_nil] at c6
        clear haf tell hit hx HE
        go_enter Tryz.func70, Tryz.ntmps70
        go_wp2_with fail
        refine ht.mono ?_
        rintro e w1 ⟨rfl, hr⟩
        go_wp2
        go_end0
        exact ⟨rfl, hr⟩
    · have HE : Hid (escEnd C.S C.x = [act C.S]) := by show _ = _; unfold escEnd; rw [if_neg (fun h => hit h.2.1)]
      have he1 : (bs C.S.it).toList.isEmpty = false := by rw [bs_tl]; cases hq : C.S.it with | nil => exact absurd hq hit | cons => rfl
      have he2 : ((bs C.S.it).toList == []) = false := by rw [bs_tl]; cases hq : C.S.it with | nil => exact absurd hq hit | cons => rfl
      rw [HE.out]
      clear haf tell hit HE
      go_enter Tryz.func70, Tryz.ntmps70
      go_wp2_with fail
      refine ht.mono ?_
      rintro e w1 ⟨rfl, hr⟩
      go_wp2
      go_end0
      exact ⟨rfl, hr⟩
theorem opened_any {K : Ctx} {w : World} {C : Cfg} (hS : Sys K w C) : Calls Tryz.prog 68 #[ptr K.fb] w fun e w' => e = .returned (.string (nm (opened C.S C.x))) ∧ w = w' := by
  have c0 : w.cell? ⟨K.fb, 0, none⟩ = some (ptr K.pb) := hS.fee.cell 0
  have c3 : w.cell? ⟨K.fb, 3, none⟩ = some (.int .u8 C.x) := hS.fee.cell 3
  have c6 : w.cell? ⟨K.pb, 6, none⟩ = some (.string (bs C.S.it)) := hS.P.par.cell 6
  have ho := opens_any C.x w
  by_cases hit : C.S.it = []
  · have HE : Hid (opened C.S C.x = opens C.x) := by show _ = _; unfold opened; rw [if_neg (fun h => h hit)]
    rw [hit, bs_nil] at c6
    rw [HE.out]
    clear hit HE
    go_enter Tryz.func68, Tryz.ntmps68
    go_wp2_with fail
    refine ho.mono ?_
    rintro e w1 ⟨rfl, rfl⟩
    go_wp2
    go_ret
    exact ⟨rfl, rfl⟩
  · have HE : Hid (opened C.S C.x = 0) := by show _ = _; unfold opened; rw [if_pos hit]
    have he1 : (bs C.S.it).toList.isEmpty = false := by rw [bs_tl]; cases hq : C.S.it with | nil => exact absurd hq hit | cons => rfl
    have he2 : ((bs C.S.it).toList == []) = false := by rw [bs_tl]; cases hq : C.S.it with | nil => exact absurd hq hit | cons => rfl
    rw [HE.out]
    clear hit HE
    go_enter Tryz.func68, Tryz.ntmps68
    go_wp2
    go_ret
    exact ⟨rfl, rfl⟩
theorem final_any {K : Ctx} {w : World} {C : Cfg} (hS : Sys K w C) : Calls Tryz.prog 73 #[ptr K.fb] w fun e w' => e = .returned (.bool (isFin C.S.k C.x)) ∧ ∃ n, w' = w.drewN n := by
  have c0 : w.cell? ⟨K.fb, 0, none⟩ = some (ptr K.pb) := hS.fee.cell 0
  have c3 : w.cell? ⟨K.fb, 3, none⟩ = some (.int .u8 C.x) := hS.fee.cell 3
  have c2 : w.cell? ⟨K.pb, 2, none⟩ = some (.int .i64 C.S.k) := hS.P.par.cell 2
  have ho := fun w => isFinal_any C.S.k C.x w
  go_enter Tryz.func73, Tryz.ntmps73
  go_wp2_with fail
  go_quiet ((go_at_call 113; exact Calls.quiet_of_same ((ho _).mono fun _ _ h => ⟨h.1, h.2.symm⟩)))
  go_wp2
  go_ret
  exact ⟨rfl, _, rfl⟩
end Go.Proofs.YtjklnnklgkihlaaGreatDoor.Vt
/- The walks of a Feed's methods that add a byte: to a text, to what stands between, to the numbers. -/
namespace Go.Proofs.YtjklnnklgkihlaaGreatDoor.Vt
open Go.RowKit
open Cel (Blk Kept Tabs low Owns At)

/-- The text has grown: its row first, then the parser's cell. -/
theorem Sys.setT {K : Ctx} {w w1 : World} {C : Cfg} (h : Sys K w C) (k : Kept w w1 (fun i => C.tv.ownBlock = some i)) (tv' : Value) (S' : Ps) (ht : Byts w1 K.B tv' S'.tx) (hat : ∀ i, tv'.ownBlock = some i → C.tv.ownBlock = some i ∨ w.heap.size ≤ i)
    (hS : S' = { C.S with tx := S'.tx }) (hbd : Bd S') :
    Sys K (w1.setCell ⟨K.pb, 8, none⟩ tv') { C with S := S', tv := tv' } ∧ Fr K w C (w1.setCell ⟨K.pb, 8, none⟩ tv') { C with S := S', tv := tv' } := by
  have s := h.sep
  have hb1 := k.blk h.P.par fun e => s.tp e
  have kp : Kept w1 (w1.setCell ⟨K.pb, 8, none⟩ tv') (fun i => i = K.pb) := Kept.setCell (p := fun i => i = K.pb) (Kept.refl w1 _) (a := ⟨K.pb, 8, none⟩) rfl _
  have kk : Kept w (w1.setCell ⟨K.pb, 8, none⟩ tv') (fun i => i = K.pb ∨ C.tv.ownBlock = some i) := (k.more fun _ e => .inr e).trans kp fun _ _ e => .inl e
  have e : (parL C.S C.pv C.tv K.db).toArray.setIfInBounds 8 tv' = (parL S' C.pv tv' K.db).toArray := by
    rw [hS]; unfold parL; generalize nm C.S.s = z; simp
  have hd : S'.d = C.S.d := by rw [hS]
  have hp : S'.ps = C.S.ps := by rw [hS]
  have tnew : ∀ i, tv'.ownBlock = some i → i ≠ K.pb := fun i hi q => by
    rcases hat i hi with q2 | q2
    · exact s.tp (by rw [q2, q])
    · have := h.P.par.lt; omega
  refine ⟨⟨⟨blk_of (hb1.set_ 8 tv') e, ?_, ?_, ?_, kp.owns ht tnew, hbd, h.P.pB, h.P.dB⟩, kk.blk h.fee (by rintro (q | q); exact s.pf q.symm; exact s.tf q), kk.blk h.var (by rintro (q | q); exact s.po q.symm; exact s.tO q),
    kk.owns h.out fun i hi => (by rintro (q | q); exact s.op (by rw [hi, q]); exact s.tov i q hi), fun t ht => kk.owns (h.told t ht) fun i hi => (by have := s.told t ht i hi; rintro (q | q); exact this.1 q; exact this.2.2.2.2.2.1 q), h.tap,
    h.inpK kk fun hl g o e => (by have := s.inp hl g o e; rintro (q | q); exact this.1 q; exact this.2.2.2.2.2.1 q), ?_, h.tabsK kk (by rintro i (q | q); exact q ▸ h.P.pB; exact (h.P.txt.lt i q).1), h.low, h.fB, h.oB, h.jl, h.ll, h.x0, h.x1⟩,
    ⟨kk.more (by rintro i (q | q); exact .inl (.inl q); exact .inl (.inr (.inr (.inr q)))), ?_, fun t ht => .inl ht, fun _ h => .inl h⟩⟩
  · show At _ K.db S'.d
    rw [hd]; exact kk.blk h.P.dec (by rintro (q | q); exact s.pd q.symm; exact s.td q)
  · show Ints _ K.B C.pv S'.ps
    rw [hp]; exact kk.owns h.P.prm fun i hi => (by rintro (q | q); exact s.vp (by rw [hi, q]); exact s.vt i hi q)
  · show S'.ps = [] → _
    rw [hp]; exact h.P.pnil
  · intro hl g o e q
    have q' : tv'.ownBlock = some g := q
    rcases hat g q' with q2 | q2
    · exact h.iap hl g o e q2
    · obtain ⟨cs, fr, hg⟩ := h.inp.ne hl e
      have := (Array.getElem?_eq_some_iff.1 hg).1
      omega
  · rintro i ((q | q | q | q) | q | q | q)
    · exact .inl (.inl (.inl q))
    · exact .inl (.inl (.inr (.inl q)))
    · exact .inl (.inl (.inr (.inr (.inl q))))
    · rcases hat i q with q2 | q2
      · exact .inl (.inl (.inr (.inr (.inr q2))))
      · exact .inr q2
    · exact .inl (.inr (.inl q))
    · exact .inl (.inr (.inr (.inl q)))
    · exact .inl (.inr (.inr (.inr q)))
/-- The numbers have turned: their row first, then the parser's cell. -/
theorem Sys.setN {K : Ctx} {w w1 : World} {C : Cfg} (h : Sys K w C) (k : Kept w w1 (fun i => C.pv.ownBlock = some i)) (pv' : Value) (S' : Ps) (hp : Ints w1 K.B pv' S'.ps) (hat : ∀ i, pv'.ownBlock = some i → C.pv.ownBlock = some i ∨ w.heap.size ≤ i)
    (hS : S' = { C.S with ps := S'.ps }) (hne : S'.ps ≠ []) (hbd : Bd S') :
    Sys K (w1.setCell ⟨K.pb, 5, none⟩ pv') { C with S := S', pv := pv' } ∧ Fr K w C (w1.setCell ⟨K.pb, 5, none⟩ pv') { C with S := S', pv := pv' } := by
  have s := h.sep
  have hb1 := k.blk h.P.par fun e => s.vp e
  have kp : Kept w1 (w1.setCell ⟨K.pb, 5, none⟩ pv') (fun i => i = K.pb) := Kept.setCell (p := fun i => i = K.pb) (Kept.refl w1 _) (a := ⟨K.pb, 5, none⟩) rfl _
  have kk : Kept w (w1.setCell ⟨K.pb, 5, none⟩ pv') (fun i => i = K.pb ∨ C.pv.ownBlock = some i) := (k.more fun _ e => .inr e).trans kp fun _ _ e => .inl e
  have e : (parL C.S C.pv C.tv K.db).toArray.setIfInBounds 5 pv' = (parL S' pv' C.tv K.db).toArray := by
    rw [hS]; unfold parL; generalize nm C.S.s = z; simp
  have hd : S'.d = C.S.d := by rw [hS]
  have ht : S'.tx = C.S.tx := by rw [hS]
  have pnew : ∀ i, pv'.ownBlock = some i → i ≠ K.pb := fun i hi q => by
    rcases hat i hi with q2 | q2
    · exact s.vp (by rw [q2, q])
    · have := h.P.par.lt; omega
  refine ⟨⟨⟨blk_of (hb1.set_ 5 pv') e, ?_, kp.owns hp pnew, fun q => absurd q hne, ?_, hbd, h.P.pB, h.P.dB⟩, kk.blk h.fee (by rintro (q | q); exact s.pf q.symm; exact s.vf q), kk.blk h.var (by rintro (q | q); exact s.po q.symm; exact s.vo q),
    kk.owns h.out fun i hi => (by rintro (q | q); exact s.op (by rw [hi, q]); exact s.vov i q hi), fun t ht => kk.owns (h.told t ht) fun i hi => (by have := s.told t ht i hi; rintro (q | q); exact this.1 q; exact this.2.2.2.2.1 q), fun t ht i hi q => ?_,
    h.inpK kk fun hl g o e => (by have := s.inp hl g o e; rintro (q | q); exact this.1 q; exact this.2.2.2.2.1 q), h.iap, h.tabsK kk (by rintro i (q | q); exact q ▸ h.P.pB; exact (h.P.prm.lt i q).1), h.low, h.fB, h.oB, h.jl, h.ll, h.x0, h.x1⟩,
    ⟨kk.more (by rintro i (q | q); exact .inl (.inl q); exact .inl (.inr (.inr (.inl q)))), ?_, fun t ht => .inl ht, fun _ h => .inl h⟩⟩
  · show At _ K.db S'.d
    rw [hd]; exact kk.blk h.P.dec (by rintro (q | q); exact s.pd q.symm; exact s.vd q)
  · show Byts _ K.B C.tv S'.tx
    rw [ht]; exact kk.owns h.P.txt fun i hi => (by rintro (q | q); exact s.tp (by rw [hi, q]); exact s.vt i q hi)
  · have q' : pv'.ownBlock = some i := q
    rcases hat i q' with q2 | q2
    · exact h.tap t ht i hi q2
    · have := (h.told t ht).lt i hi; omega
  · rintro i ((q | q | q | q) | q | q | q)
    · exact .inl (.inl (.inl q))
    · exact .inl (.inl (.inr (.inl q)))
    · rcases hat i q with q2 | q2
      · exact .inl (.inl (.inr (.inr (.inl q2))))
      · exact .inr q2
    · exact .inl (.inl (.inr (.inr (.inr q))))
    · exact .inl (.inr (.inl q))
    · exact .inl (.inr (.inr (.inl q)))
    · exact .inl (.inr (.inr (.inr q)))
theorem info_u8 : (Tryz.prog.info? 5).map (fun i => (i.zero, i.size, i.bytes)) = some (some (.int .u8 0), 1, 1) := by kernel_rfl
theorem byts_one (l : Tx) : ∀ u ∈ byts l, u.oneCell' = true := by
  intro u hu
  obtain ⟨z, _, rfl⟩ := List.mem_map.1 hu
  rfl
theorem step_append_byte {ops : Array Oper} {o : Oper} {a : Act} {w : World} {K : Act → World → Prop} {Q : Exit → Act → World → Prop} {E : Prop} (hgd : o.guard = none) (s x : Operand) (ho : o.op = .call { callee := .builtin .append, args := #[s, x], argTypes := #[28, 28] })
    (base : Nat) (v : Value) (l : Tx) (u : UInt8) (hs : a.eval s = v) (hown : Byts w base v l) (g c : Nat) (hx : a.eval x = .slice (some ⟨g, 0, none⟩) 1 c) (hg : w.cell? ⟨g, 0, none⟩ = some (.int .u8 (u.toNat : Int))) (hn : l.length ≤ 4294967296) (hbase : base ≤ w.heap.size)
    (h : ∀ g m cap w', Byts w' base (.slice (some ⟨g, 0, none⟩) m cap) (l ++ [u]) → Kept w w' (fun k => v.ownBlock = some k) → (v.ownBlock = some g ∨ w.heap.size ≤ g) → K (a.put o.dst (.slice (some ⟨g, 0, none⟩) m cap)) w') :
    if Region.wanted o (yielded ops a.tmps) = true then Oper.wp Tryz.prog o a w K Q else E := by
  obtain ⟨i0, hi0, hz0, hz1, hz2⟩ := info_parts info_u8
  refine step_append_lies w hgd s x 28 ho base 5 i0 _ 1 1 Tryz.underlying28 hi0 hz0 hz1 hz2 rfl (by decide) v l.length (byts l) hs hown ⟨g, 0, none⟩ 1 c (byts [u]) hx rfl ?_ (byts_one [u]) (by omega) (by unfold maxLen; omega) (by omega) hbase w.heap.size rfl ?_
  · intro j u' hj
    match j, hj with
    | 0, hj =>
      simp [byts] at hj
      subst hj
      show w.cell? ((⟨g, 0, none⟩ : Addr).add 0) = _
      simpa [Addr.add] using hg
    | j + 1, hj => simp [byts] at hj
  · intro g2 cap w' h1 h2 h3 _
    refine h g2 _ cap w' ?_ ((Kept.refl w _).grown h2 fun j hj _ => hj) (h3.imp id fun e => Nat.le_of_eq e.symm)
    show w'.ownsRow base _ 1 _ (l ++ [u]).length (byts (l ++ [u]))
    rw [List.length_append, byts_app]
    exact h1
theorem put_end {K : Ctx} {w w3 : World} {C : Cfg} {A : Option Addr} {c g m cap : Nat} {o : Obj} {u : UInt8} (hS : Sys K w C) (htv : C.tv = .slice A C.S.tx.length c)
    (hbd : Bd { C.S with tx := C.S.tx ++ [u] }) (ho3 : Byts w3 K.B (.slice (some ⟨g, 0, none⟩) m cap) (C.S.tx ++ [u])) (hk3 : Kept (w.alloc o).drew w3 fun k => (Value.slice A C.S.tx.length c).ownBlock = some k)
    (hg3 : (Value.slice A C.S.tx.length c).ownBlock = some g ∨ (w.alloc o).drew.heap.size ≤ g) :
    Left K w C { C.S with tx := C.S.tx ++ [u] } [] (.returned (.tuple #[])) (w3.setCell ⟨K.pb, 8, none⟩ (.slice (some ⟨g, 0, none⟩) m cap)) := by
  have hk : Kept w w3 (fun i => C.tv.ownBlock = some i) := by
    rw [htv]
    exact (((Kept.refl w _).alloc o).drew).trans hk3 fun i _ h => h
  have sz : (w.alloc o).drew.heap.size = w.heap.size + 1 := by simp
  obtain ⟨s, f⟩ := hS.setT hk (.slice (some ⟨g, 0, none⟩) m cap) { C.S with tx := C.S.tx ++ [u] } ho3 (by
    intro i hi
    have hi : g = i := by simpa [Value.ownBlock] using hi
    rw [htv, ← hi]
    rcases hg3 with q | q
    · exact .inl q
    · exact .inr (by omega)) rfl hbd
  exact ⟨rfl, _, s, f, rfl, rfl, rfl, (List.append_nil _).symm⟩
set_option maxRecDepth 100000 in
set_option maxHeartbeats 4000000 in
/-- A byte put to the text, if there is room. -/
theorem put_any {K : Ctx} {w : World} {C : Cfg} (hS : Sys K w C) (u : UInt8) (hu : C.x = (u.toNat : Int)) : Calls Tryz.prog 77 #[ptr K.fb] w (Left K w C (put C.S u) []) := by
  have c0 : w.cell? ⟨K.fb, 0, none⟩ = some (ptr K.pb) := hS.fee.cell 0
  have c3 : w.cell? ⟨K.fb, 3, none⟩ = some (.int .u8 (u.toNat : Int)) := by rw [← hu]; exact hS.fee.cell 3
  obtain ⟨A, c, htv⟩ := own_slice hS.P.txt
  have c8 : w.cell? ⟨K.pb, 8, none⟩ = some C.tv := hS.P.par.cell 8
  rw [htv] at c8
  by_cases hl : C.S.tx.length < 1024
  · have HP : Hid (put C.S u = { C.S with tx := C.S.tx ++ [u] }) := by show _ = _; unfold put; rw [if_pos hl]
    have hbd := put_bd (u := u) hS.P.bd
    rw [HP.out] at hbd
    rw [HP.out]
    obtain ⟨o, ho⟩ : ∃ o, o = Obj.cells #[.int .u8 (u.toNat : Int)] 5 := ⟨_, rfl⟩
    have htx : Byts (w.alloc o).drew K.B (.slice A C.S.tx.length c) C.S.tx := htv ▸ (hS.P.txt.alloc o).drew
    have hcell : (w.alloc o).drew.cell? ⟨w.heap.size, 0, none⟩ = some (.int .u8 (u.toNat : Int)) := by
      have := (show Blk (w.alloc o).drew w.heap.size 5 #[.int .u8 (u.toNat : Int)] by rw [ho]; exact Blk.new w _ _).cell 0
      simpa using this
    have hpa : Blk (w.alloc o).drew K.pb 101 (parL C.S C.pv C.tv K.db).toArray := hS.P.par.alloc o
    have hnp : ∀ i, (Value.slice A C.S.tx.length c).ownBlock = some i → i ≠ K.pb := fun i hi q => hS.sep.tp (by rw [htv, hi, q])
    have hsz := (hS.lt K.pb (.inl (.inl rfl)))
    have lp := hsz.2
    have lf := (hS.lt K.fb (.inr (.inl rfl))).2
    have hfe : Blk (w.alloc o).drew K.fb 95 (feeL K C).toArray := hS.fee.alloc o
    have hnf : ∀ i, (Value.slice A C.S.tx.length c).ownBlock = some i → i ≠ K.fb := fun i hi q => hS.sep.tf (by rw [htv, hi, q])
    have HU := Lib.hid hu
    have HT := Lib.hid htv
    have HO := Lib.hid ho
    clear hu htv HP ho
    go_enter Tryz.func77, Tryz.ntmps77
    go_wp2_with fail
    go_region_law (first | ((try rw [← HO.out]); refine step_append_byte rfl (.tmp 23) (.tmp 28) rfl K.B (.slice A C.S.tx.length c) C.S.tx u rfl htx w.heap.size 1 rfl hcell (by omega) (by simp; omega) ?_; intro g2 m2 cap2 w3 ho3 hk3 hg3; have hp3 := hk3.blk hpa (fun e => hnp _ e rfl); have p3 : w3.cell? ⟨K.pb, 8, none⟩ = some C.tv := hp3.cell 8; have r3 : w3.cell? ⟨K.fb, 0, none⟩ = some (ptr K.pb) := (hk3.blk hfe (fun e => hnf _ e rfl)).cell 0; have p3f : w3.frozen? ⟨K.pb, 8, none⟩ = false := hp3.frozen 8))
    all_goals
      go_end0
      exact put_end hS HT.out hbd ho3 hk3 hg3
  · have HP : Hid (put C.S u = C.S) := by show _ = _; unfold put; rw [if_neg hl]
    rw [HP.out]
    clear HP hu htv
    go_enter Tryz.func77, Tryz.ntmps77
    go_wp2
    go_end0
    exact ⟨rfl, C, hS, Fr.refl _ _ _, rfl, rfl, rfl, (List.append_nil _).symm⟩
end Go.Proofs.YtjklnnklgkihlaaGreatDoor.Vt
/- The walk of withByte: numbers, and a digit or a ; behind. -/
namespace Go.Proofs.YtjklnnklgkihlaaGreatDoor.Vt
open Go.RowKit
open Cel (Blk Kept Tabs low Owns At)

/-- What withByte leaves. -/
def Wb (w : World) (B : Nat) (v : Value) (l : List Int) (x : Int) (e : Ending) (w' : World) : Prop :=
  ∃ v', e = .returned v' ∧ Ints w' B v' (withB l x) ∧ Kept w w' (fun i => v.ownBlock = some i) ∧ ∀ i, v'.ownBlock = some i → v.ownBlock = some i ∨ w.heap.size ≤ i
theorem wb_store {w : World} {B g m cap : Nat} {l0 : List Int} {z x y : Int} (h : Ints w B (.slice (some ⟨g, 0, none⟩) (m + 1) cap) (l0 ++ [z])) (hm : l0.length = m) (hx : x ≠ 59) (hy : y = min (max z 0 * 10 + (x - 48)) 9999) :
    Ints (w.setCell ⟨g, m, none⟩ (.int .i64 y)) B (.slice (some ⟨g, 0, none⟩) (m + 1) cap) (withB (l0 ++ [z]) x) ∧ Kept w (w.setCell ⟨g, m, none⟩ (.int .i64 y)) (fun i => (Value.slice (some ⟨g, 0, none⟩) (m + 1) cap).ownBlock = some i) := by
  have hl : (l0 ++ [z]).length = m + 1 := by simp [hm]
  have h2 : w.ownsRow B 3 1 (.slice (some ⟨g, 0, none⟩) (m + 1) cap) (m + 1) (ints (l0 ++ [z])) := by have := h; rw [Ints, hl] at this; exact this
  have e : withB (l0 ++ [z]) x = l0 ++ [y] := by
    have e1 : more1 (l0 ++ [z]) = l0 ++ [z] := by unfold more1; rw [if_neg (by simp)]
    have e2 : lastOf (l0 ++ [z]) = z := by unfold lastOf; rw [hl, Nat.add_sub_cancel, List.getD_eq_getElem?_getD, List.getElem?_append_right (by omega)]; simp [hm]
    unfold withB
    rw [if_pos hx, e1]
    unfold digit
    rw [e2, hl, Nat.add_sub_cancel, ← hy, List.set_append_right _ _ (by omega)]
    simp [hm]
  obtain ⟨a, b⟩ := World.ownsRow.stored h2 m (.int .i64 y)
  refine ⟨?_, (Kept.refl w _).grown b fun k hk _ => hk⟩
  rw [e]
  show World.ownsRow _ _ _ _ _ (l0 ++ [y]).length _
  have hl2 : (l0 ++ [y]).length = m + 1 := by simp [hm]
  rw [hl2]
  have e3 : (ints (l0 ++ [z])).set m (.int .i64 y) = ints (l0 ++ [y]) := by
    rw [ints_app, ints_app, List.set_append_right _ _ (by rw [ints_len]; omega), ints_len, hm]
    simp [ints]
  rw [← e3]
  exact a
theorem wb_c {w : World} {B g m cap : Nat} {l0 : List Int} {z x y : Int} (h : Ints w B (.slice (some ⟨g, 0, none⟩) (m + 1) cap) (l0 ++ [z])) (hm : l0.length = m) (hx : x ≠ 59) (hy : y = min (max z 0 * 10 + (x - 48)) 9999) :
    Wb w B (.slice (some ⟨g, 0, none⟩) (m + 1) cap) (l0 ++ [z]) x (.returned (.slice (some ⟨g, 0, none⟩) (m + 1) cap)) (w.setCell ⟨g, m, none⟩ (.int .i64 y)) := by
  obtain ⟨a, b⟩ := wb_store h hm hx hy
  exact ⟨_, rfl, a, b, fun i hi => .inl hi⟩
set_option maxRecDepth 100000 in
/-- A digit, behind numbers. -/
theorem withByte_c {w : World} {B g m cap : Nat} {l0 : List Int} {z x : Int} (h : Ints w B (.slice (some ⟨g, 0, none⟩) (m + 1) cap) (l0 ++ [z])) (hm : l0.length = m) (hm2 : m ≤ 40) (hz0 : -1 ≤ z) (hz1 : z ≤ 9999) (hx : x ≠ 59) (hx0 : 48 ≤ x) (hx1 : x ≤ 255) :
    Calls Tryz.prog 152 #[.slice (some ⟨g, 0, none⟩) (m + 1) cap, .int .u8 x] w (Wb w B (.slice (some ⟨g, 0, none⟩) (m + 1) cap) (l0 ++ [z]) x) := by
  have hc := ints_cell h m z (by rw [← hm]; simp)
  have hf : w.frozen? ⟨g, m, none⟩ = false := World.ownsRow.frozenAt (n := m + 1) (by have := h; simp only [Ints, List.length_append, List.length_singleton, hm] at this; exact this) m
  have H := Lib.hid h
  clear h
  go_enter Tryz.func152, Tryz.ntmps152
  go_wp2
  all_goals
    go_ret
    refine wb_c H.out hm hx ?_
    omega
theorem new_one (w : World) (B : Nat) (hB : B ≤ w.heap.size) (z : Int) : Ints (w.alloc (.cells #[.int .i64 z] 3)) B (.slice (some ⟨w.heap.size, 0, none⟩) 1 1) [z] :=
  ⟨rfl, .inr ⟨w.heap.size, 1, #[.int .i64 z], rfl, hB, Blk.new w _ _, Nat.le_refl _, by unfold maxLen; omega, rfl, rfl⟩⟩
set_option maxRecDepth 100000 in
/-- A digit, the first of all. -/
theorem withByte_a {w : World} {B : Nat} {x : Int} (hB : B ≤ w.heap.size) (hx : x ≠ 59) (hx0 : 48 ≤ x) (hx1 : x ≤ 255) :
    Calls Tryz.prog 152 #[nilV, .int .u8 x] w (Wb w B nilV [] x) := by
  obtain ⟨o, ho⟩ : ∃ o, o = Obj.cells #[.int .i64 (-1)] 3 := ⟨_, rfl⟩
  have h : Ints (w.alloc o) B (.slice (some ⟨w.heap.size, 0, none⟩) 1 1) [-1] := by rw [ho]; exact new_one w B hB (-1)
  have hc := ints_cell (l := [-1]) h 0 (-1) rfl
  have hf : (w.alloc o).frozen? ⟨w.heap.size, 0, none⟩ = false := World.ownsRow.frozenAt (n := 1) h 0
  have H := Lib.hid h
  have HO := Lib.hid ho
  clear h ho
  go_enter Tryz.func152, Tryz.ntmps152
  go_wp2_with (rw [← HO.out])
  all_goals
    have e : withB [] x = withB ([] ++ [-1]) x := by unfold withB more1; simp
    rw [show Wb w B nilV [] x = fun e' w' => ∃ v', e' = .returned v' ∧ Ints w' B v' (withB ([] ++ [-1]) x) ∧ Kept w w' (fun i => nilV.ownBlock = some i) ∧ ∀ i, v'.ownBlock = some i → nilV.ownBlock = some i ∨ w.heap.size ≤ i from by funext e' w'; unfold Wb; rw [e]]
    obtain ⟨a, b⟩ := wb_store (y := min (max (-1) 0 * 10 + (x - 48)) 9999) (l0 := []) (m := 0) H.out rfl hx rfl
    rw [show min (max (-1) 0 * 10 + (x - 48)) 9999 = x - 48 by omega] at a b
    go_ret
    refine ⟨_, rfl, a, ?_, ?_⟩
    · refine ((Kept.refl w _).alloc o).trans b ?_
      intro i hi q
      have q : w.heap.size = i := by simpa [Value.ownBlock] using q
      omega
    · intro i q
      have q : w.heap.size = i := by simpa [Value.ownBlock] using q
      exact .inr (by omega)
set_option maxRecDepth 100000 in
/-- A semicolon, behind numbers; there is room. -/
theorem withByte_d {w : World} {B g m cap : Nat} {l : List Int} (hB : B ≤ w.heap.size) (h : Ints w B (.slice (some ⟨g, 0, none⟩) (m + 1) cap) l) (hm : l.length = m + 1) (hm2 : m < 32) :
    Calls Tryz.prog 152 #[.slice (some ⟨g, 0, none⟩) (m + 1) cap, .int .u8 59] w (Wb w B (.slice (some ⟨g, 0, none⟩) (m + 1) cap) l 59) := by
  obtain ⟨o, ho⟩ : ∃ o, o = Obj.cells #[.int .i64 (-1)] 3 := ⟨_, rfl⟩
  have h1 : Ints (w.alloc o) B (.slice (some ⟨w.heap.size, 0, none⟩) 1 1) [-1] := by rw [ho]; exact new_one w B hB (-1)
  have h2 := h.alloc o
  have hsrc : ∀ (j : Nat) (z : Int), [(-1 : Int)][j]? = some z → (w.alloc o).cell? ⟨w.heap.size, j, none⟩ = some (.int .i64 z) := fun j z hj => ints_cell h1 j z hj
  have e : withB l 59 = l ++ [-1] := by
    have hne : l ≠ [] := fun q => by rw [q] at hm; simp at hm
    unfold withB more1
    rw [if_neg (by decide), if_neg hne, if_pos (by omega)]
  have HE := Lib.hid e
  have HO := Lib.hid ho
  have HB : B ≤ (w.alloc o).heap.size := by simp; omega
  have HL : l.length + [(-1 : Int)].length ≤ 4294967296 := by simp; omega
  clear h1 h e ho hm
  go_enter Tryz.func152, Tryz.ntmps152
  go_wp2_with (first | (at_builtin; refine wpList_append_ints rfl (.tmp 33) (.tmp 34) rfl B (.slice (some ⟨g, 0, none⟩) (m + 1) cap) l [-1] w.heap.size 1 1 rfl h2 rfl rfl hsrc HB HL ?_; intro v' w2 ho2 hk2 hat2) | rw [← HO.out])
  go_ret
  refine ⟨v', rfl, by rw [HE.out]; exact ho2, ((Kept.refl w _).alloc o).trans hk2 fun i _ q => q, fun i hi => ?_⟩
  rcases hat2 with q | ⟨j, q, q2⟩
  · rw [q] at hi; exact .inl hi
  · rw [q] at hi
    injection hi with hi
    have : (w.alloc o).heap.size = w.heap.size + 1 := by simp
    exact .inr (by omega)
set_option maxRecDepth 100000 in
/-- A semicolon, the first of all. -/
theorem withByte_b {w : World} {B : Nat} (hB : B ≤ w.heap.size) :
    Calls Tryz.prog 152 #[nilV, .int .u8 59] w (Wb w B nilV [] 59) := by
  obtain ⟨o, ho⟩ : ∃ o, o = Obj.cells #[.int .i64 (-1)] 3 := ⟨_, rfl⟩
  have h1 : Ints (w.alloc o) B (.slice (some ⟨w.heap.size, 0, none⟩) 1 1) [-1] := by rw [ho]; exact new_one w B hB (-1)
  have sz : (w.alloc o).heap.size = w.heap.size + 1 := by simp
  have h2 : Ints ((w.alloc o).alloc o) B (.slice (some ⟨w.heap.size + 1, 0, none⟩) 1 1) [-1] := by rw [← sz]; rw [ho]; exact new_one _ B (by simp; omega) (-1)
  have h3 := h1.alloc o
  have hsrc : ∀ (j : Nat) (z : Int), [(-1 : Int)][j]? = some z → ((w.alloc o).alloc o).cell? ⟨w.heap.size + 1, j, none⟩ = some (.int .i64 z) := fun j z hj => ints_cell h2 j z hj
  have HE : Hid (withB [] 59 = [-1] ++ [-1]) := by show _ = _; decide
  have HO := Lib.hid ho
  have HB : B ≤ ((w.alloc o).alloc o).heap.size := by simp; omega
  have HL : [(-1 : Int)].length + [(-1 : Int)].length ≤ 4294967296 := by simp
  clear h1 h2 ho
  go_enter Tryz.func152, Tryz.ntmps152
  go_wp2_with (first | (at_builtin; refine wpList_append_ints rfl (.tmp 33) (.tmp 34) rfl B (.slice (some ⟨w.heap.size, 0, none⟩) 1 1) [-1] [-1] (w.heap.size + 1) 1 1 rfl h3 rfl rfl hsrc HB HL ?_; intro v' w2 ho2 hk2 hat2) | rw [← HO.out])
  go_ret
  refine ⟨v', rfl, by rw [HE.out]; exact ho2, (((Kept.refl w _).alloc o).alloc o).trans hk2 fun i hi q => ?_, fun i hi => ?_⟩
  · have q : w.heap.size = i := by simpa [Value.ownBlock] using q
    omega
  · rcases hat2 with q | ⟨j, q, q2⟩
    · rw [q] at hi
      have hi : w.heap.size = i := by simpa [Value.ownBlock] using hi
      exact .inr (by omega)
    · rw [q] at hi
      injection hi with hi
      have : ((w.alloc o).alloc o).heap.size = w.heap.size + 2 := by simp
      exact .inr (by omega)
set_option maxRecDepth 100000 in
/-- A semicolon where there is no room. -/
theorem withByte_e {w : World} {B g m cap : Nat} {l : List Int} (h : Ints w B (.slice (some ⟨g, 0, none⟩) (m + 1) cap) l) (hm : l.length = m + 1) (hm2 : ¬ m < 32) (hm3 : m ≤ 1000) :
    Calls Tryz.prog 152 #[.slice (some ⟨g, 0, none⟩) (m + 1) cap, .int .u8 59] w (Wb w B (.slice (some ⟨g, 0, none⟩) (m + 1) cap) l 59) := by
  have e : withB l 59 = l := by
    have hne : l ≠ [] := fun q => by rw [q] at hm; simp at hm
    unfold withB more1
    rw [if_neg (by decide), if_neg hne, if_neg (by omega)]
  have HE := Lib.hid e
  clear e hm
  go_enter Tryz.func152, Tryz.ntmps152
  go_wp2
  go_ret
  exact ⟨_, rfl, by rw [HE.out]; exact h, Kept.refl _ _, fun i hi => .inl hi⟩
/-- Numbers, and a digit or a semicolon behind. -/
theorem withByte_any {w : World} {B : Nat} {v : Value} {l : List Int} (hB : B ≤ w.heap.size) (h : Ints w B v l) (hnil : l = [] → v = nilV) (hl : l.length ≤ 33) (hz : ∀ p ∈ l, -1 ≤ p ∧ p ≤ 9999) {x : Int} (hx0 : 48 ≤ x) (hx1 : x ≤ 255) :
    Calls Tryz.prog 152 #[v, .int .u8 x] w (Wb w B v l x) := by
  by_cases h0 : l = []
  · subst h0
    rw [hnil rfl]
    by_cases hx : x = 59
    · rw [hx]; exact withByte_b hB
    · exact withByte_a hB hx hx0 hx1
  · obtain ⟨g, m, cap, rfl, e2⟩ := own_some2 h (fun e => h0 (List.eq_nil_of_length_eq_zero e))
    obtain ⟨k, rfl⟩ : ∃ k, m = k + 1 := ⟨m - 1, by have := List.length_pos_iff.2 h0; omega⟩
    by_cases hx : x = 59
    · rw [hx]
      by_cases hk : k < 32
      · exact withByte_d hB h e2.symm hk
      · exact withByte_e h e2.symm hk (by omega)
    · obtain ⟨l0, z, rfl⟩ : ∃ l0 z, l = l0 ++ [z] := ⟨l.dropLast, l.getLast h0, (List.dropLast_concat_getLast h0).symm⟩
      rw [List.length_append, List.length_singleton] at e2
      have hz' := hz z (by simp)
      rw [List.length_append, List.length_singleton] at hl
      exact withByte_c h (by omega) (by omega) hz'.1 hz'.2 hx hx0 hx1
end Go.Proofs.YtjklnnklgkihlaaGreatDoor.Vt
