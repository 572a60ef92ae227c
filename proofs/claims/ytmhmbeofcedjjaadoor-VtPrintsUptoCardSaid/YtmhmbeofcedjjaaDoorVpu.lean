/- The walks of a Feed's methods that add a byte: to a text, to what stands between, to the numbers. -/
import Derived.Test.YtmhmbeofcedjjaaDoorVhe
import Derived.Deep.AppendLies
import Derived.Deep.RegionLaw
import Derived.BigRegion
namespace Go.Proofs.YtmhmbeofcedjjaaDoor.Vt
open Go.RowKit
open Cel (Blk Kept Tabs low Owns At)

/-- The text has grown: its row first, then the parser's cell. -/
theorem Sys.setT {K : Ctx} {w w1 : World} {C : Cfg} (h : Sys K w C) (k : Kept w w1 (fun i => C.tv.ownBlock = some i)) (tv' : Value) (S' : Ps) (ht : Byts w1 K.B tv' S'.tx) (hat : ∀ i, tv'.ownBlock = some i → C.tv.ownBlock = some i ∨ w.heap.size ≤ i)
    (hS : S' = { C.S with tx := S'.tx }) (hbd : Bd S') :
    Sys K (w1.setCell ⟨K.pb, 8, none⟩ tv') { C with S := S', tv := tv' } ∧ Fr K w C (w1.setCell ⟨K.pb, 8, none⟩ tv') { C with S := S', tv := tv' } := by
  have s := h.sep
  have hb1 := k.blk h.P.par fun e => s.tp e
  have kp : Kept w1 (w1.setCell ⟨K.pb, 8, none⟩ tv') (fun i => i = K.pb) := Kept.setCell (p := fun i => i = K.pb) (Kept.refl w1 _) (a := ⟨K.pb, 8, none⟩) rfl _
  have kk : Kept w (w1.setCell ⟨K.pb, 8, none⟩ tv') (fun i => i = K.pb ∨ C.tv.ownBlock = some i) := (k.more fun _ e => .inr e).trans kp fun _ _ e => .inl e
  have e : (parL C.S C.pv C.tv K.db).toArray.setIfInBounds 8 tv' = (parL S' C.pv tv' K.db).toArray := by
    rw [hS]; unfold parL; generalize nm C.S.s = z; simp
  have hd : S'.d = C.S.d := by rw [hS]
  have hp : S'.ps = C.S.ps := by rw [hS]
  have tnew : ∀ i, tv'.ownBlock = some i → i ≠ K.pb := fun i hi q => by
    rcases hat i hi with q2 | q2
    · exact s.tp (by rw [q2, q])
    · have := h.P.par.lt; omega
  refine ⟨⟨⟨blk_of (hb1.set_ 8 tv') e, ?_, ?_, ?_, kp.owns ht tnew, hbd, h.P.pB, h.P.dB⟩, kk.blk h.fee (by rintro (q | q); exact s.pf q.symm; exact s.tf q), kk.blk h.var (by rintro (q | q); exact s.po q.symm; exact s.tO q),
    kk.owns h.out fun i hi => (by rintro (q | q); exact s.op (by rw [hi, q]); exact s.tov i q hi), fun t ht => kk.owns (h.told t ht) fun i hi => (by have := s.told t ht i hi; rintro (q | q); exact this.1 q; exact this.2.2.2.2.2.1 q), h.tap,
    h.inpK kk fun hl g o e => (by have := s.inp hl g o e; rintro (q | q); exact this.1 q; exact this.2.2.2.2.2.1 q), ?_, h.tabsK kk (by rintro i (q | q); exact q ▸ h.P.pB; exact (h.P.txt.lt i q).1), h.low, h.fB, h.oB, h.jl, h.ll, h.x0, h.x1⟩,
    ⟨kk.more (by rintro i (q | q); exact .inl (.inl q); exact .inl (.inr (.inr (.inr q)))), ?_, fun t ht => .inl ht, fun _ h => .inl h⟩⟩
  · show At _ K.db S'.d
    rw [hd]; exact kk.blk h.P.dec (by rintro (q | q); exact s.pd q.symm; exact s.td q)
  · show Ints _ K.B C.pv S'.ps
    rw [hp]; exact kk.owns h.P.prm fun i hi => (by rintro (q | q); exact s.vp (by rw [hi, q]); exact s.vt i hi q)
  · show S'.ps = [] → _
    rw [hp]; exact h.P.pnil
  · intro hl g o e q
    have q' : tv'.ownBlock = some g := q
    rcases hat g q' with q2 | q2
    · exact h.iap hl g o e q2
    · obtain ⟨cs, fr, hg⟩ := h.inp.ne hl e
      have := (Array.getElem?_eq_some_iff.1 hg).1
      omega
  · rintro i ((q | q | q | q) | q | q | q)
    · exact .inl (.inl (.inl q))
    · exact .inl (.inl (.inr (.inl q)))
    · exact .inl (.inl (.inr (.inr (.inl q))))
    · rcases hat i q with q2 | q2
      · exact .inl (.inl (.inr (.inr (.inr q2))))
      · exact .inr q2
    · exact .inl (.inr (.inl q))
    · exact .inl (.inr (.inr (.inl q)))
    · exact .inl (.inr (.inr (.inr q)))
/-- The numbers have turned: their row first, then the parser's cell. -/
theorem Sys.setN {K : Ctx} {w w1 : World} {C : Cfg} (h : Sys K w C) (k : Kept w w1 (fun i => C.pv.ownBlock = some i)) (pv' : Value) (S' : Ps) (hp : Ints w1 K.B pv' S'.ps) (hat : ∀ i, pv'.ownBlock = some i → C.pv.ownBlock = some i ∨ w.heap.size ≤ i)
    (hS : S' = { C.S with ps := S'.ps }) (hne : S'.ps ≠ []) (hbd : Bd S') :
    Sys K (w1.setCell ⟨K.pb, 5, none⟩ pv') { C with S := S', pv := pv' } ∧ Fr K w C (w1.setCell ⟨K.pb, 5, none⟩ pv') { C with S := S', pv := pv' } := by
  have s := h.sep
  have hb1 := k.blk h.P.par fun e => s.vp e
  have kp : Kept w1 (w1.setCell ⟨K.pb, 5, none⟩ pv') (fun i => i = K.pb) := Kept.setCell (p := fun i => i = K.pb) (Kept.refl w1 _) (a := ⟨K.pb, 5, none⟩) rfl _
  have kk : Kept w (w1.setCell ⟨K.pb, 5, none⟩ pv') (fun i => i = K.pb ∨ C.pv.ownBlock = some i) := (k.more fun _ e => .inr e).trans kp fun _ _ e => .inl e
  have e : (parL C.S C.pv C.tv K.db).toArray.setIfInBounds 5 pv' = (parL S' pv' C.tv K.db).toArray := by
    rw [hS]; unfold parL; generalize nm C.S.s = z; simp
  have hd : S'.d = C.S.d := by rw [hS]
  have ht : S'.tx = C.S.tx := by rw [hS]
  have pnew : ∀ i, pv'.ownBlock = some i → i ≠ K.pb := fun i hi q => by
    rcases hat i hi with q2 | q2
    · exact s.vp (by rw [q2, q])
    · have := h.P.par.lt; omega
  refine ⟨⟨⟨blk_of (hb1.set_ 5 pv') e, ?_, kp.owns hp pnew, fun q => absurd q hne, ?_, hbd, h.P.pB, h.P.dB⟩, kk.blk h.fee (by rintro (q | q); exact s.pf q.symm; exact s.vf q), kk.blk h.var (by rintro (q | q); exact s.po q.symm; exact s.vo q),
    kk.owns h.out fun i hi => (by rintro (q | q); exact s.op (by rw [hi, q]); exact s.vov i q hi), fun t ht => kk.owns (h.told t ht) fun i hi => (by have := s.told t ht i hi; rintro (q | q); exact this.1 q; exact this.2.2.2.2.1 q), fun t ht i hi q => ?_,
    h.inpK kk fun hl g o e => (by have := s.inp hl g o e; rintro (q | q); exact this.1 q; exact this.2.2.2.2.1 q), h.iap, h.tabsK kk (by rintro i (q | q); exact q ▸ h.P.pB; exact (h.P.prm.lt i q).1), h.low, h.fB, h.oB, h.jl, h.ll, h.x0, h.x1⟩,
    ⟨kk.more (by rintro i (q | q); exact .inl (.inl q); exact .inl (.inr (.inr (.inl q)))), ?_, fun t ht => .inl ht, fun _ h => .inl h⟩⟩
  · show At _ K.db S'.d
    rw [hd]; exact kk.blk h.P.dec (by rintro (q | q); exact s.pd q.symm; exact s.vd q)
  · show Byts _ K.B C.tv S'.tx
    rw [ht]; exact kk.owns h.P.txt fun i hi => (by rintro (q | q); exact s.tp (by rw [hi, q]); exact s.vt i q hi)
  · have q' : pv'.ownBlock = some i := q
    rcases hat i q' with q2 | q2
    · exact h.tap t ht i hi q2
    · have := (h.told t ht).lt i hi; omega
  · rintro i ((q | q | q | q) | q | q | q)
    · exact .inl (.inl (.inl q))
    · exact .inl (.inl (.inr (.inl q)))
    · rcases hat i q with q2 | q2
      · exact .inl (.inl (.inr (.inr (.inl q2))))
      · exact .inr q2
    · exact .inl (.inl (.inr (.inr (.inr q))))
    · exact .inl (.inr (.inl q))
    · exact .inl (.inr (.inr (.inl q)))
    · exact .inl (.inr (.inr (.inr q)))
theorem info_u8 : (Tryd.prog.info? 5).map (fun i => (i.zero, i.size, i.bytes)) = some (some (.int .u8 0), 1, 1) := by kernel_rfl
theorem byts_one (l : Tx) : ∀ u ∈ byts l, u.oneCell' = true := by
  intro u hu
  obtain ⟨z, _, rfl⟩ := List.mem_map.1 hu
  rfl
theorem step_append_byte {ops : Array Oper} {o : Oper} {a : Act} {w : World} {K : Act → World → Prop} {Q : Exit → Act → World → Prop} {E : Prop} (hgd : o.guard = none) (s x : Operand) (ho : o.op = .call { callee := .builtin .append, args := #[s, x], argTypes := #[24, 24] })
    (base : Nat) (v : Value) (l : Tx) (u : UInt8) (hs : a.eval s = v) (hown : Byts w base v l) (g c : Nat) (hx : a.eval x = .slice (some ⟨g, 0, none⟩) 1 c) (hg : w.cell? ⟨g, 0, none⟩ = some (.int .u8 (u.toNat : Int))) (hn : l.length ≤ 4294967296) (hbase : base ≤ w.heap.size)
    (h : ∀ g m cap w', Byts w' base (.slice (some ⟨g, 0, none⟩) m cap) (l ++ [u]) → Kept w w' (fun k => v.ownBlock = some k) → (v.ownBlock = some g ∨ w.heap.size ≤ g) → K (a.put o.dst (.slice (some ⟨g, 0, none⟩) m cap)) w') :
    if Region.wanted o (yielded ops a.tmps) = true then Oper.wp Tryd.prog o a w K Q else E := by
  obtain ⟨i0, hi0, hz0, hz1, hz2⟩ := info_parts info_u8
  refine step_append_lies w hgd s x 24 ho base 5 i0 _ 1 1 Tryd.underlying24 hi0 hz0 hz1 hz2 rfl (by decide) v l.length (byts l) hs hown ⟨g, 0, none⟩ 1 c (byts [u]) hx rfl ?_ (byts_one [u]) (by omega) (by unfold maxLen; omega) (by omega) hbase w.heap.size rfl ?_
  · intro j u' hj
    match j, hj with
    | 0, hj =>
      simp [byts] at hj
      subst hj
      show w.cell? ((⟨g, 0, none⟩ : Addr).add 0) = _
      simpa [Addr.add] using hg
    | j + 1, hj => simp [byts] at hj
  · intro g2 cap w' h1 h2 h3 _
    refine h g2 _ cap w' ?_ ((Kept.refl w _).grown h2 fun j hj _ => hj) (h3.imp id fun e => Nat.le_of_eq e.symm)
    show w'.ownsRow base _ 1 _ (l ++ [u]).length (byts (l ++ [u]))
    rw [List.length_append, byts_app]
    exact h1
theorem put_end {K : Ctx} {w w3 : World} {C : Cfg} {A : Option Addr} {c g m cap : Nat} {o : Obj} {u : UInt8} (hS : Sys K w C) (htv : C.tv = .slice A C.S.tx.length c)
    (hbd : Bd { C.S with tx := C.S.tx ++ [u] }) (ho3 : Byts w3 K.B (.slice (some ⟨g, 0, none⟩) m cap) (C.S.tx ++ [u])) (hk3 : Kept (w.alloc o).drew w3 fun k => (Value.slice A C.S.tx.length c).ownBlock = some k)
    (hg3 : (Value.slice A C.S.tx.length c).ownBlock = some g ∨ (w.alloc o).drew.heap.size ≤ g) :
    Left K w C { C.S with tx := C.S.tx ++ [u] } [] (.returned (.tuple #[])) (w3.setCell ⟨K.pb, 8, none⟩ (.slice (some ⟨g, 0, none⟩) m cap)) := by
  have hk : Kept w w3 (fun i => C.tv.ownBlock = some i) := by
    rw [htv]
    exact (((Kept.refl w _).alloc o).drew).trans hk3 fun i _ h => h
  have sz : (w.alloc o).drew.heap.size = w.heap.size + 1 := by simp
  obtain ⟨s, f⟩ := hS.setT hk (.slice (some ⟨g, 0, none⟩) m cap) { C.S with tx := C.S.tx ++ [u] } ho3 (by
    intro i hi
    have hi : g = i := by simpa [Value.ownBlock] using hi
    rw [htv, ← hi]
    rcases hg3 with q | q
    · exact .inl q
    · exact .inr (by omega)) rfl hbd
  exact ⟨rfl, _, s, f, rfl, rfl, rfl, (List.append_nil _).symm⟩
set_option maxRecDepth 100000 in
set_option maxHeartbeats 4000000 in
/-- A byte put to the text, if there is room. -/
theorem put_any {K : Ctx} {w : World} {C : Cfg} (hS : Sys K w C) (u : UInt8) (hu : C.x = (u.toNat : Int)) : Calls Tryd.prog 47 #[ptr K.fb] w (Left K w C (put C.S u) []) := by
  have c0 : w.cell? ⟨K.fb, 0, none⟩ = some (ptr K.pb) := hS.fee.cell 0
  have c3 : w.cell? ⟨K.fb, 3, none⟩ = some (.int .u8 (u.toNat : Int)) := by rw [← hu]; exact hS.fee.cell 3
  obtain ⟨A, c, htv⟩ := own_slice hS.P.txt
  have c8 : w.cell? ⟨K.pb, 8, none⟩ = some C.tv := hS.P.par.cell 8
  rw [htv] at c8
  by_cases hl : C.S.tx.length < 1024
  · have HP : Hid (put C.S u = { C.S with tx := C.S.tx ++ [u] }) := by show _ = _; unfold put; rw [if_pos hl]
    have hbd := put_bd (u := u) hS.P.bd
    rw [HP.out] at hbd
    rw [HP.out]
    obtain ⟨o, ho⟩ : ∃ o, o = Obj.cells #[.int .u8 (u.toNat : Int)] 5 := ⟨_, rfl⟩
    have htx : Byts (w.alloc o).drew K.B (.slice A C.S.tx.length c) C.S.tx := htv ▸ (hS.P.txt.alloc o).drew
    have hcell : (w.alloc o).drew.cell? ⟨w.heap.size, 0, none⟩ = some (.int .u8 (u.toNat : Int)) := by
      have := (show Blk (w.alloc o).drew w.heap.size 5 #[.int .u8 (u.toNat : Int)] by rw [ho]; exact Blk.new w _ _).cell 0
      simpa using this
    have hpa : Blk (w.alloc o).drew K.pb 47 (parL C.S C.pv C.tv K.db).toArray := hS.P.par.alloc o
    have hnp : ∀ i, (Value.slice A C.S.tx.length c).ownBlock = some i → i ≠ K.pb := fun i hi q => hS.sep.tp (by rw [htv, hi, q])
    have hsz := (hS.lt K.pb (.inl (.inl rfl)))
    have lp := hsz.2
    have lf := (hS.lt K.fb (.inr (.inl rfl))).2
    have hfe : Blk (w.alloc o).drew K.fb 50 (feeL K C).toArray := hS.fee.alloc o
    have hnf : ∀ i, (Value.slice A C.S.tx.length c).ownBlock = some i → i ≠ K.fb := fun i hi q => hS.sep.tf (by rw [htv, hi, q])
    have HU := Lib.hid hu
    have HT := Lib.hid htv
    have HO := Lib.hid ho
    clear hu htv HP ho
    go_enter Tryd.func47, Tryd.ntmps47
    go_wp2_with fail
    go_region_law (first | ((try rw [← HO.out]); refine step_append_byte rfl (.tmp 23) (.tmp 28) rfl K.B (.slice A C.S.tx.length c) C.S.tx u rfl htx w.heap.size 1 rfl hcell (by omega) (by simp; omega) ?_; intro g2 m2 cap2 w3 ho3 hk3 hg3; have hp3 := hk3.blk hpa (fun e => hnp _ e rfl); have p3 : w3.cell? ⟨K.pb, 8, none⟩ = some C.tv := hp3.cell 8; have r3 : w3.cell? ⟨K.fb, 0, none⟩ = some (ptr K.pb) := (hk3.blk hfe (fun e => hnf _ e rfl)).cell 0; have p3f : w3.frozen? ⟨K.pb, 8, none⟩ = false := hp3.frozen 8))
    all_goals
      go_end0
      exact put_end hS HT.out hbd ho3 hk3 hg3
  · have HP : Hid (put C.S u = C.S) := by show _ = _; unfold put; rw [if_neg hl]
    rw [HP.out]
    clear HP hu htv
    go_enter Tryd.func47, Tryd.ntmps47
    go_wp2
    go_end0
    exact ⟨rfl, C, hS, Fr.refl _ _ _, rfl, rfl, rfl, (List.append_nil _).symm⟩
end Go.Proofs.YtmhmbeofcedjjaaDoor.Vt
