/- The walks of a Feed's telling: an action, runes, a control, what was begun. -/
import Derived.Test.YtmhmbeofcedjjaaDoorVpr
namespace Go.Proofs.YtmhmbeofcedjjaaDoor.Vt
open Go.RowKit
open Cel (Blk Kept Tabs low Owns At)

theorem info_act : (Tryd.prog.info? 38).map (fun i => (i.zero, i.size, i.bytes)) = some (some (.agg #[.int .i64 0, .int .i32 0, .int .u8 0, nilV, .string { data := #[] }, .string { data := #[] }]), 6, 72) := by kernel_rfl
/-- What a call leaves that has told l behind C. -/
def Told (K : Ctx) (w0 : World) (C0 : Cfg) (C : Cfg) (l : List To) (e : Ending) (w' : World) : Prop :=
  e = .returned (.tuple #[]) ∧ ∃ ov', Sys K w' { C with ov := ov', out := C.out ++ l } ∧ Fr K w0 C0 w' { C with ov := ov', out := C.out ++ l }

section
variable {ops : Array Oper} {rest : List Oper} {op : Oper} {a : Act} {w : World} {Q : Exit → Act → World → Prop}
/-- One action appended to a list of the call's own. -/
theorem wpList_append_act (hgd : op.guard = none) (s x : Operand) (ho : op.op = .call { callee := .builtin .append, args := #[s, x], argTypes := #[22, 22] })
    (base : Nat) (v : Value) (l : List To) (t : To) (g c : Nat) (hs : a.eval s = v) (hown : w.ownsRow base 38 6 v l.length (flat l)) (hx : a.eval x = .slice (some ⟨g, 0, none⟩) 1 c) (hg : Blk w g 38 (acL t).toArray) (hbase : base ≤ w.heap.size) (h1c : t.2.oneCell' = true) (hn : l.length ≤ 4294967296)
    (h : ∀ v' w', w'.ownsRow base 38 6 v' (l ++ [t]).length (flat (l ++ [t])) → Kept w w' (fun k => v.ownBlock = some k) → (v'.ownBlock = v.ownBlock ∨ ∃ k, v'.ownBlock = some k ∧ w.heap.size ≤ k) → wpList Tryd.prog ops Q rest (a.put op.dst v') w') :
    wpList Tryd.prog ops Q (op :: rest) a w := by
  obtain ⟨i0, hi0, hz0, hz1, hz2⟩ := info_parts info_act
  refine wpList_append_own_at _ hgd s x 22 ho base 38 i0 _ 6 72 Tryd.underlying22 hi0 hz0 hz1 hz2 rfl (by decide) v l.length (flat l) hs hown ⟨g, 0, none⟩ 1 c (acL t) hx rfl ?_ ?_ (by unfold maxLen; omega) (by omega) hbase ?_
  · intro j u hj
    have ha : (⟨g, 0, none⟩ : Addr).add j = ⟨g, j, none⟩ := by unfold Addr.add; split <;> simp_all
    rw [ha, hg.cell]
    simpa using hj
  · intro u hu
    simp only [acL, List.mem_cons, List.not_mem_nil, or_false] at hu
    rcases hu with rfl | rfl | rfl | rfl | rfl | rfl <;> first | rfl | exact h1c
  · intro v' w' h1 h2 _ h4
    refine h v' w' ?_ ((Kept.refl w _).grown h2 fun j hj _ => hj) ?_
    · rw [List.length_append, flat_app]
      simpa [flat] using h1
    · rcases h4 with h4 | h4
      · exact .inl h4
      · exact .inr ⟨_, h4, Nat.le_refl _⟩
end

theorem own_one {w : World} {base e size n : Nat} {v : Value} {xs : List Value} (h : w.ownsRow base e size v n xs) : v.oneCell' = true := by
  rcases h.2 with ⟨rfl, _⟩ | ⟨g, cap, cur, rfl, _⟩ <;> rfl
theorem own_some {w : World} {base e size n : Nat} {v : Value} {xs : List Value} (h : w.ownsRow base e size v n xs) (hn : n ≠ 0) : ∃ g m cap, v = .slice (some ⟨g, 0, none⟩) m cap := by
  rcases h.2 with ⟨_, h0⟩ | ⟨g, cap, cur, rfl, _⟩
  · exact absurd h0 hn
  · exact ⟨g, _, cap, rfl⟩
theorem tell_any {K : Ctx} {w w0 : World} {C C0 : Cfg} (h : Sys K w C) (hf : Fr K w0 C0 w C) (t : To) (ht : Ints w K.B t.2 t.1.ps) (hta : ∀ i, t.2.ownBlock = some i → C.pv.ownBlock ≠ some i) (ht0 : ∀ i, t.2.ownBlock = some i → w0.heap.size ≤ i) (hn : C.out.length ≤ 4294967296) :
    Calls Tryd.prog 20 #[.agg #[.int .i64 t.1.k, .int .i32 t.1.r, .int .u8 t.1.b, t.2, .string (bs t.1.it), .string (bs t.1.tx)], ptr K.ob] w (Told K w0 C0 C [t]) := by
  have c0 : w.cell? ⟨K.ob, 0, none⟩ = some C.ov := h.var.cell 0
  have f0 := h.var.frozen 0
  have hlt := h.var.lt
  have hsz := (h.lt _ (.inl (.inl rfl)))
  obtain ⟨o, ho⟩ : ∃ o, o = Obj.cells (acL t).toArray 38 := ⟨_, rfl⟩
  have hb2 : Blk ((w.alloc o).alloc o) (w.heap.size + 1) 38 (acL t).toArray := by rw [ho]; exact blk_new1 w _ _ _
  have ho2 := (h.out.alloc o).alloc o
  have hv2 : Blk ((w.alloc o).alloc o) K.ob _ _ := (h.var.alloc o).alloc o
  have hk2 : Kept w ((w.alloc o).alloc o) (fun _ => False) := ((Kept.refl w _).alloc o).alloc o
  have ho' : Obj.cells #[.int .i64 t.1.k, .int .i32 t.1.r, .int .u8 t.1.b, t.2, .string (bs t.1.it), .string (bs t.1.tx)] 38 = o := by rw [ho]; rfl
  have h1c := own_one ht
  have HO := Lib.hid ho'
  clear ho ho'
  have htk := own_far ht h.var (by decide)
  have hto := own_apart ht h.out (by decide)
  go_enter Tryd.func20, Tryd.ntmps20
  go_wp2_with (at_builtin; (try rw [HO.out]); refine wpList_append_act rfl (.tmp 3) (.tmp 5) rfl K.B C.ov C.out t (w.heap.size + 1) 1 rfl ho2 rfl hb2 (by simp; omega) h1c hn ?_; intro v' w3 ho3 hk3 hat3; have hv3 := hk3.blk hv2 h.sep.oo; have c3 := hv3.cell 0; have f3 := hv3.frozen 0; obtain ⟨g3, m3, cap3, rfl⟩ := own_some ho3 (by simp))
  go_end0
  have hk : Kept w w3 (fun i => i = K.ob ∨ C.ov.ownBlock = some i) := (hk2.more (q := fun i => i = K.ob ∨ C.ov.ownBlock = some i) fun _ e => e.elim).trans hk3 fun _ _ e => .inr e
  have hk' := hk.setCell (a := ⟨K.ob, 0, none⟩) (.inl rfl) (.slice (some ⟨g3, 0, none⟩) m3 cap3)
  have hk4 : Kept w3 (w3.setCell ⟨K.ob, 0, none⟩ (.slice (some ⟨g3, 0, none⟩) m3 cap3)) (fun i => i = K.ob) := Kept.setCell (p := fun i => i = K.ob) (Kept.refl w3 _) (a := ⟨K.ob, 0, none⟩) rfl _
  refine ⟨rfl, .slice (some ⟨g3, 0, none⟩) m3 cap3, Sys.tell h hk' t _ ?_ ?_ ?_ ht hta ?_ w0 C0 hf ht0⟩
  · exact hv3.set_ 0 (.slice (some ⟨g3, 0, none⟩) m3 cap3)
  · exact hk4.owns ho3 fun k hk5 e => own_far ho3 hv3 (by decide) (by rw [hk5, e])
  · rcases hat3 with q | ⟨k, q, hq⟩
    · exact .inl q
    · exact .inr ⟨k, q, by simp at hq; omega⟩
  · exact fun i hi => ⟨fun e => htk (by rw [hi, e]), hto i hi⟩
end Go.Proofs.YtmhmbeofcedjjaaDoor.Vt
