/- lex: what is added to a word; a scope in which the run jumps to labels. -/
import Derived.Test.YtplikjbajejciaaDoorQnd
import Derived.ScopeJumps
import Derived.WalkMore
namespace Go.Proofs.YtplikjbajejciaaDoor.Lex
open Go.RowKit Go.Maps
theorem info_u8 : (Tryd.prog.info? 5).map (fun i => (i.zero, i.size, i.bytes)) = some (some (.int .u8 0), 1, 1) := by kernel_rfl
def bytV (l : Tx) : List Value := l.map fun u => Value.int .u8 (u.toNat : Int)
theorem bytV_app (a b : Tx) : bytV (a ++ b) = bytV a ++ bytV b := List.map_append
theorem strCells_bs (l : Tx) : Lib.strCells (bs l) = bytV l := by
  unfold Lib.strCells bytV bs
  simp
section
variable {ops : Array Oper} {rest : List Oper} {op : Oper} {a : Act} {w : World} {Q : Exit → Act → World → Prop}
set_option maxRecDepth 100000 in
/-- A text appended to bytes of the call's own. -/
theorem wpList_append_txt (hgd : op.guard = none) (s x : Operand) (ho : op.op = .call { callee := .builtin .append, args := #[s, x], argTypes := #[42, 9] }) (base : Nat) (v : Value) (L : Tx) (hs : a.eval s = v) (hown : w.ownsRow base 5 1 v L.length (bytV L)) (t : Tx) (hx : a.eval x = .string (bs t))
    (hl : L.length + t.length ≤ 1000000) (hbase : base ≤ w.heap.size)
    (h : ∀ v' w', w'.ownsRow base 5 1 v' (L ++ t).length (bytV (L ++ t)) → w.grownBy w' v.ownBlock → wpList Tryd.prog ops Q rest (a.put op.dst v') w') : wpList Tryd.prog ops Q (op :: rest) a w := by
  have hi := info_u8
  cases hq : Tryd.prog.info? 5 with
  | none => simp [hq] at hi
  | some i =>
    simp only [hq, Option.map_some, Option.some.injEq, Prod.mk.injEq] at hi
    obtain ⟨hz, hs1, hby⟩ := hi
    have hts : (bs t).size = t.length := bs_size t
    refine Lib.wpList_append_own_string w hgd s x 42 9 ho base 5 i Tryd.underlying42 Tryd.underlying9 hq hz hs1 hby v L.length (bytV L) hs hown (bs t) hx (by rw [hts]; unfold maxLen; omega) (by rw [hts]; omega) hbase fun v1 w1 hown1 hgr1 _ => h v1 w1 ?_ hgr1
    rw [hts, strCells_bs] at hown1
    rw [List.length_append, bytV_app]
    exact hown1
end
section
variable {B rb n G : Nat} {w : World} {K : Kp} {env : Env} {s : Tx} {m : Tx}
def Kp.made (K : Kp) (kv : Value) : Kp := { K with kv := kv }
theorem grown_any {w w' : World} {o : Option Nat} (h : w.grownBy w' o) {F : List Nat} (hF : ∀ k, o = some k → k ∈ F) : Only F w w' :=
  ⟨h.os, h.tape, h.output, h.size, fun k hk hn => h.block k hk (fun e => hn (hF k e.symm))⟩
theorem body_end {P : Program} {fn : Func} {R : Ending → World → Prop} {a : Act} {w : World} (h : fn.results = #[]) (hd : a.defers = []) (hR : R (.returned (.tuple #[])) w) : bodyPost P fn R .normal a w :=
  ⟨hd, _, results_none h _ _ _, hR⟩
theorem MpAt.grown {w' : World} {o : Option Nat} {mv : Value} (h : MpAt B w mv env) (hg : w.grownBy w' o) (hm : ∀ m j D, w.ownsMap Tryd.prog 9 posR m j D → o ≠ some m) : MpAt B w' mv env := by
  rcases h with h | ⟨m, D, j, h1, h2, h3, h4⟩
  · exact .inl h
  · exact .inr ⟨m, D, j, h1, h2, h3.kept hg (fun e => hm m j D h3 e.symm), h4⟩
set_option maxRecDepth 100000 in
set_option maxHeartbeats 2000000 in
theorem add_ok (h : Cx B w rb K env s n) (hown : w.ownsRow G 5 1 K.kv m.length (bytV m)) (hG : G ≤ w.heap.size) (hBG : B ≤ G) (t : Tx) (ht : m.length + t.length ≤ 8192) :
    Calls Tryd.prog 57 #[ptrV rb, .string (bs t)] w fun e w' => e = .returned (.tuple #[]) ∧ ∃ kv, Cx B w' rb (K.made kv) env s n ∧ w'.ownsRow G 5 1 kv (m ++ t).length (bytV (m ++ t)) ∧ (∀ F, (∀ k, K.kv.ownBlock = some k → k ∈ F) → Only (rb :: F) w w') := by
  obtain ⟨mv, hR, hM⟩ := h.place
  have e9 : w.cell? ⟨rb, 9, none⟩ = some K.kv := BL.cell hR 9
  have HH := Lib.hid h
  have HR := Lib.hid hR
  have HM := Lib.hid hM
  have hfar : K.kv.ownBlock ≠ some rb := own_type hown (show BL w rb 49 _ from hR) (by decide)
  have hmap : ∀ j D m0, w.ownsMap Tryd.prog 9 posR m0 j D → K.kv.ownBlock ≠ some m0 := fun j D m0 hm => own_map hown hm
  obtain ⟨A, cA, hv⟩ := own_slice hown
  rw [hv] at e9 hown hfar hmap
  have HV := Lib.hid hv
  have HO := Lib.hid hown
  have HF := Lib.hid (And.intro hfar hmap)
  have hlt := h.lt
  have hz : (bs t).size = t.length := bs_size t
  obtain ⟨n2, hn2⟩ : ∃ n2, (m ++ t).length = n2 := ⟨_, rfl⟩
  have HN := Lib.hid hn2
  have hs1 : (m.length : Int) + ((bs t).size : Int) ≤ 8192 := by omega
  have hs2 : ¬ (8192 : Int) < (m.length : Int) + ((bs t).size : Int) := by omega
  clear h hR hM hv hown hfar hmap hn2 hz
  unfold ptrV
  go_enter Tryd.func57, Tryd.ntmps57
  go_wp2_with (at_builtin; refine wpList_append_txt rfl (.tmp 19) (.tmp 20) rfl G (.slice A m.length cA) m rfl HO.out t rfl (by omega) hG ?_; intro v1 w1 hown1 hgr1; rw [HN.out] at hown1; obtain ⟨A1, c1, rfl⟩ := own_slice hown1; have HO1 := Lib.hid hown1; have HG1 := Lib.hid hgr1; have hR1 : RAt w1 rb (K.rd s n mv) := (hgr1.block rb hlt (fun e => HF.out.1 e.symm)).trans HR.out; have q9f : w1.frozen? ⟨rb, 9, none⟩ = false := BL.frozen hR1 9; have q9 : w1.cell? ⟨rb, 9, none⟩ = some K.kv := BL.cell hR1 9; have HR1 := Lib.hid hR1; clear hown1 hgr1 hR1)
  have hb1 := BL.set_ HR1.out 9 (.slice A1 n2 c1)
  have hO : ∀ F, (∀ k, K.kv.ownBlock = some k → k ∈ F) → Only (rb :: F) w (w1.setCell ⟨rb, 9, none⟩ (.slice A1 n2 c1)) := fun F hF =>
    (grown_any HG1.out (F := rb :: F) (fun k hk => .tail _ (hF k (by rw [HV.out]; exact hk)))).setCell (.inl (.head _)) _
  have hfar1 := own_type HO1.out (show BL w1 rb 49 _ from HR1.out) (by decide)
  have hO2 := own_only HO1.out (one_set w1 rb 9 (.slice A1 n2 c1)) (fun k hk => by simp; intro e; exact hfar1 (by rw [hk, e]))
  have hMp : MpAt B (w1.setCell ⟨rb, 9, none⟩ (.slice A1 n2 c1)) mv env :=
    (HM.out.grown HG1.out (fun m0 j D hm => HF.out.2 j D m0 hm)).only (one_set w1 rb 9 _) (fun m0 j D _ hm => by simp; exact bl_map HR1.out hm)
  have hB : B ≤ w.heap.size := by have := HH.out.low; omega
  have hCx : Cx B (w1.setCell ⟨rb, 9, none⟩ (.slice A1 n2 c1)) rb (K.made (.slice A1 n2 c1)) env s n := by
    obtain ⟨_, h1, h2, h3, ⟨A0, c0, h4, h5⟩, h6, h7⟩ := HH.out
    refine ⟨⟨mv, hb1, hMp⟩, h1, h2, h3, ⟨A0, c0, h4, h5.below ?_⟩, h6, h7⟩
    refine (hO K.kv.ownBlock.toList (fun k hk => by rw [hk]; simp)).below hB (fun x hx => ?_)
    rcases List.mem_cons.1 hx with rfl | hx
    · exact h7
    · rw [Option.mem_toList] at hx
      exact Nat.le_trans hBG (own_low HO.out x (by rw [← HV.out]; exact hx)).1
  have hN2 : m.length + t.length = n2 := by have := HN.out; rw [List.length_append] at this; exact this
  exact body_end rfl rfl ⟨rfl, _, hCx, by rw [hN2]; exact hO2, hO⟩
set_option maxRecDepth 100000 in
set_option maxHeartbeats 2000000 in
theorem add_long (h : Cx B w rb K env s n) (hown : w.ownsRow G 5 1 K.kv m.length (bytV m)) (t : Tx) (hm : m.length ≤ 8192) (ht : 8192 < m.length + t.length) (htl : t.length ≤ 140737488355328) :
    Calls Tryd.prog 57 #[ptrV rb, .string (bs t)] w fun e w' => e = .panicked (ftP 2 K.bg) ∧ w = w' := by
  obtain ⟨mv, hR, hM⟩ := h.place
  have e9 : w.cell? ⟨rb, 9, none⟩ = some K.kv := BL.cell hR 9
  have HH := Lib.hid h
  obtain ⟨A, cA, hv⟩ := own_slice hown
  rw [hv] at e9
  have hz : (bs t).size = t.length := bs_size t
  have hs1 : (m.length : Int) + ((bs t).size : Int) ≤ 140737488400000 := by omega
  have hs2 : (8192 : Int) < (m.length : Int) + ((bs t).size : Int) := by omega
  clear h hR hM hv hown hz
  unfold ptrV
  go_enter Tryd.func57, Tryd.ntmps57
  go_wp2_with fail
  refine (refuse_cx HH.out 2).mono ?_
  rintro _ w1 ⟨rfl, rfl⟩
  exact ⟨rfl, rfl, rfl⟩
end
/-! ### A scope in which the run jumps to labels -/
/-- As Q; by a goto: J of the label. -/
def Jx (J : Nat → Act → World → Prop) (Q : Exit → Act → World → Prop) : Exit → Act → World → Prop
  | .goto l, a, w => J l a w
  | e, a, w => Q e a w
section
variable {P : Program} {a : Act} {w : World} {Q : Exit → Act → World → Prop} {J J' : Nat → Act → World → Prop}
theorem Jx.normal : Jx J Q .normal a w = Q .normal a w := rfl
theorem Jx.exit (id : Nat) : Jx J Q (.exit id) a w = Q (.exit id) a w := rfl
theorem Jx.ret : Jx J Q .ret a w = Q .ret a w := rfl
theorem Jx.panic (ch : List PanicEntry) : Jx J Q (.panic ch) a w = Q (.panic ch) a w := rfl
theorem Jx.outgrown : Jx J Q .outgrown a w = Q .outgrown a w := rfl
theorem Jx.goto (l : Nat) : Jx J Q (.goto l) a w = J l a w := rfl
theorem Jx.mono (h : ∀ l a w, J l a w → J' l a w) : ∀ e a w, Jx J Q e a w → Jx J' Q e a w := fun e a w hj => by
  cases e with
  | goto l => exact h l a w hj
  | normal => exact hj
  | exit _ => exact hj
  | ret => exact hj
  | panic _ => exact hj
  | outgrown => exact hj
/-- What holds at each label, with a number that every pass lowers. -/
theorem wp_scope_any {c : Code} (J : Nat → Nat → Act → World → Prop) (first : c.wp P (Jx (fun l a w => ∃ m, J m l a w) Q) a w)
    (pass : ∀ m l a w, J m l a w → ∃ rest, findLabel c l = some rest ∧ rest.wp P (Jx (fun l' a' w' => ∃ m', m' < m ∧ J m' l' a' w') Q) a w) : (Code.scope c).wp P Q a w := by
  intro b k cs
  have key : ∀ m l a w, J m l a w → ∃ rest, findLabel c l = some rest ∧ ∃ e a' w', Q e a' w' ∧ Arrives P (lone (b.at a (.code rest :: .inScope c :: k)) cs w) b k cs e a' w' := by
    intro m
    induction m using Nat.strongRecOn with
    | _ m ih =>
      intro l a w hJ
      obtain ⟨rest, hf, hr⟩ := pass m l a w hJ
      refine ⟨rest, hf, ?_⟩
      obtain ⟨e, a₁, w₁, hq, harr⟩ := hr b (.inScope c :: k) cs
      cases e with
      | normal => exact ⟨.normal, a₁, w₁, hq, Steps.trans harr (.one step_inScope)⟩
      | exit id => exact ⟨.exit id, a₁, w₁, hq, fun k' hk => harr k' (by simp [exitTo, hk])⟩
      | goto l' =>
        obtain ⟨m', hlt, hJ'⟩ := hq
        obtain ⟨rest2, hf2, e₂, a₂, w₂, hq₂, harr₂⟩ := ih m' hlt l' a₁ w₁ hJ'
        have hg : gotoIn l' (.inScope c :: k) = some (.code rest2 :: .inScope c :: k) := by simp [gotoIn, hf2]
        exact ⟨e₂, a₂, w₂, hq₂, .of_steps (harr _ hg) harr₂⟩
      | ret => exact ⟨_, a₁, w₁, hq, harr⟩
      | panic ch => exact ⟨_, a₁, w₁, hq, harr⟩
      | outgrown => exact ⟨_, a₁, w₁, hq, harr⟩
  obtain ⟨e, a₁, w₁, hq, harr⟩ := first b (.inScope c :: k) cs
  cases e with
  | normal => exact ⟨.normal, a₁, w₁, hq, .head step_scope (Steps.trans harr (.one step_inScope))⟩
  | exit id => exact ⟨.exit id, a₁, w₁, hq, fun k' hk => .head step_scope (harr k' (by simp [exitTo, hk]))⟩
  | goto l' =>
    obtain ⟨m', hJ'⟩ := hq
    obtain ⟨rest2, hf2, e₂, a₂, w₂, hq₂, harr₂⟩ := key m' l' a₁ w₁ hJ'
    have hg : gotoIn l' (.inScope c :: k) = some (.code rest2 :: .inScope c :: k) := by simp [gotoIn, hf2]
    exact ⟨e₂, a₂, w₂, hq₂, .of_steps (.head step_scope (harr _ hg)) harr₂⟩
  | ret => exact ⟨_, a₁, w₁, hq, .of_steps (.one step_scope) harr⟩
  | panic ch => exact ⟨_, a₁, w₁, hq, .of_steps (.one step_scope) harr⟩
  | outgrown => exact ⟨_, a₁, w₁, hq, .of_steps (.one step_scope) harr⟩
end
end Go.Proofs.YtplikjbajejciaaDoor.Lex
