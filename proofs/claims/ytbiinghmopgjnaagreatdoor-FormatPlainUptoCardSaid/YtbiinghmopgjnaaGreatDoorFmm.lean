/- format: a maker and the scopes that it sees, in memory; what stays while it works. -/
import Derived.Test.YtbiinghmopgjnaaGreatDoorFln
import Derived.Test.YtbiinghmopgjnaaGreatDoorRec
import Derived.Test.YtbiinghmopgjnaaGreatDoorCut
namespace Go.Proofs.YtbiinghmopgjnaaGreatDoor.Fmt
open Go.RowKit

theorem size_alloc (w : World) (o : Obj) : (w.alloc o).heap.size = w.heap.size + 1 := by simp
/-- A result that lies in memory. -/
theorem results_cell {P : Program} {fn : Func} {p : Tmp} {ty : TypeId} (h : fn.results = #[.cell p ty]) (tmps : Array Value) (w : World) (g : Nat) (t : TypeId) (cs : Array Value) (fr : Nat × Nat) (d : TypeDesc)
    (hp : tmps.getD p undef = .pointer (some ⟨g, 0, none⟩)) (hg : w.heap[g]? = some (.cells cs t fr))
    (hu : P.underlying ty = some d) (hd : (match d with | .struct _ | .array _ _ => true | _ => false) = true) (hi : (P.info? ty).map (·.size) = some cs.size) :
    (results fn tmps).run P w = .ok (.agg cs) w := by
  have hp' : tmps[p]?.getD undef = .pointer (some ⟨g, 0, none⟩) := by simpa using hp
  simp [results, h, hp', asAddr, run_loadVar_row w g t ty cs fr d hg hu hd hi]
theorem results_none {P : Program} {fn : Func} (h : fn.results = #[]) (tmps : Array Value) (w : World) : (results fn tmps).run P w = .ok (.tuple #[]) w := by
  simp [results, h]
/-- A function without results that comes to its end. -/
theorem body_end {P : Program} {fn : Func} {R : Ending → World → Prop} {a : Act} {w : World} (h : fn.results = #[]) (hd : a.defers = []) (hR : R (.returned (.tuple #[])) w) : bodyPost P fn R .normal a w :=
  ⟨hd, _, results_none h _ _, hR⟩
section
theorem own_slice {w : World} {base e size n : Nat} {v : Value} {xs : List Value} (h : w.ownsRow base e size v n xs) : ∃ A c, v = .slice A n c := by
  rcases h.2 with ⟨rfl, rfl⟩ | ⟨g, cap, cur, rfl, _⟩ <;> exact ⟨_, _, rfl⟩
theorem own_far {w : World} {base n size g : Nat} {e t : TypeId} {v : Value} {xs ys : List Value} (h : w.ownsRow base e size v n xs) (h' : BL w g t ys) (ht : e ≠ t) : v.ownBlock ≠ some g := fun hb => by
  rcases h.2 with ⟨rfl, _⟩ | ⟨k, cap, cur, rfl, _, hk, _⟩
  · cases hb
  · injection hb with hb
    subst hb
    unfold BL at h'
    rw [hk] at h'
    injection h' with h'
    injection h' with _ h'
    exact ht h'
theorem own_only {w w' : World} {B e size n : Nat} {v : Value} {xs : List Value} {F : List Nat} (h : w.ownsRow B e size v n xs) (ho : Only F w w') (hn : ∀ k, v.ownBlock = some k → k ∉ F) : w'.ownsRow B e size v n xs := by
  refine ⟨h.1, ?_⟩
  rcases h.2 with h2 | ⟨g, cap, cur, rfl, hb, hgg, rest⟩
  · exact .inl h2
  · exact .inr ⟨g, cap, cur, rfl, hb, (ho.block g (Array.getElem?_eq_some_iff.1 hgg).1 (hn g rfl)).trans hgg, rest⟩
theorem one_set (w : World) (b i : Nat) (v : Value) : Only [b] w (w.setCell ⟨b, i, none⟩ v) := (Only.refl _ _).setCell (p := ⟨b, i, none⟩) (.inl (by simp)) v
end
/-! ### The tables -/
structure TB (B : Nat) (w : World) : Prop where
  cal : Cal.Tabs B w
  cel : Cel.Tabs w
  low : Cel.low ≤ B
  most : 0 < B ∧ ∃ m, w.cell? ⟨0, 0, none⟩ = some (.int .i64 m)
theorem TB.below {B : Nat} {w w' : World} (h : TB B w) (hb : Below B w w') : TB B w' := by
  refine ⟨h.cal.below hb, h.cel.below hb h.low, h.low, h.most.1, ?_⟩
  obtain ⟨m, hm⟩ := h.most.2
  exact ⟨m, (hb.cell (p := ⟨0, 0, none⟩) h.most.1).trans hm⟩

/-! ### Scopes -/
def pairsC (l : Vs) : List Value := l.flatMap fun p => [.string (bs p.1), .string (bs p.2)]
def VarsAt (w : World) (v : Value) (l : Vs) : Prop := (l = [] ∧ v = .slice none 0 0) ∨ ∃ b, (v = .slice (some ⟨b, 0, none⟩) l.length l.length ∧ l.length ≤ 1000000) ∧ BL w b 42 (pairsC l)
/-- Scopes in a row, none of them with a loop. -/
def ScsAt (w : World) (v : Value) (l : List Vs) : Prop := ∃ (b : Nat) (vs : List Value), (v = .slice (some ⟨b, 0, none⟩) l.length l.length ∧ l.length ≤ 1000000) ∧ vs.length = l.length ∧ BL w b 25 (vs.flatMap fun u => [u, .slice none 0 0]) ∧ ∀ (i : Nat) u x, vs[i]? = some u → l[i]? = some x → VarsAt w u x
def LoopsAt (w : World) (v : Value) (l : List (UInt8 × List Vs)) : Prop := (l = [] ∧ v = .slice none 0 0) ∨
  ∃ (b : Nat) (ss : List Value), (v = .slice (some ⟨b, 0, none⟩) l.length l.length ∧ l.length ≤ 1000000) ∧ ss.length = l.length ∧ BL w b 45 ((l.zip ss).flatMap fun p => [.int .u8 (p.1.1.toNat : Int), p.2]) ∧ ∀ (i : Nat) s x, ss[i]? = some s → l[i]? = some x → ScsAt w s x.2
def ChAt (w : World) : Value → List Lv → Prop
  | v, [] => v = .pointer none
  | v, lv :: r => ∃ (b : Nat) (vv lo q : Value), v = .pointer (some ⟨b, 0, none⟩) ∧ BL w b 49 [vv, lo, q] ∧ VarsAt w vv lv.vars ∧ LoopsAt w lo lv.loops ∧ ChAt w q r
def Seen (w : World) (v : Value) (en : Env) : Prop := match en with
  | none => True
  | some ch => ChAt w v ch
/-- What is known whole and is no maker stays. -/
def Kp (w w' : World) : Prop := w.heap.size ≤ w'.heap.size ∧ ∀ b t xs, BL w b t xs → t ≠ 40 → BL w' b t xs
theorem Kp.refl (w : World) : Kp w w := ⟨Nat.le_refl _, fun _ _ _ h _ => h⟩
theorem Kp.trans {a b c : World} (h : Kp a b) (k : Kp b c) : Kp a c := ⟨Nat.le_trans h.1 k.1, fun i _ xs hb ht => k.2 i _ xs (h.2 i _ xs hb ht) ht⟩
theorem Kp.below {w w' : World} (h : Below w.heap.size w w') : Kp w w' := ⟨h.size, fun b _ _ hb _ => hb.keep (h.block b hb.lt)⟩
theorem BL.type {w : World} {b : Nat} {t t' : TypeId} {xs ys : List Value} (h : BL w b t xs) (k : BL w b t' ys) : t = t' := by
  unfold BL at h k; rw [h] at k; injection k with k; injection k with _ k
theorem Kp.only {w w' : World} {mb : Nat} {xs : List Value} (h : Only [mb] w w') (hm : BL w mb 40 xs) : Kp w w' := ⟨h.size, fun b _ _ hb ht => hb.only h (by
  intro e
  obtain rfl : b = mb := by simpa using e
  exact ht (hb.type hm))⟩
theorem VarsAt.kp {w w' : World} {v : Value} {l : Vs} (h : VarsAt w v l) (k : Kp w w') : VarsAt w' v l := by
  rcases h with h | ⟨b, h1, h2⟩
  · exact .inl h
  · exact .inr ⟨b, h1, k.2 _ _ _ h2 (by decide)⟩
theorem ScsAt.kp {w w' : World} {v : Value} {l : List Vs} (h : ScsAt w v l) (k : Kp w w') : ScsAt w' v l := by
  obtain ⟨b, vs, h1, h2, h3, h4⟩ := h
  exact ⟨b, vs, h1, h2, k.2 _ _ _ h3 (by decide), fun i u x hu hx => (h4 i u x hu hx).kp k⟩
theorem LoopsAt.kp {w w' : World} {v : Value} {l : List (UInt8 × List Vs)} (h : LoopsAt w v l) (k : Kp w w') : LoopsAt w' v l := by
  rcases h with h | ⟨b, ss, h1, h2, h3, h4⟩
  · exact .inl h
  · exact .inr ⟨b, ss, h1, h2, k.2 _ _ _ h3 (by decide), fun i u x hu hx => (h4 i u x hu hx).kp k⟩
theorem ChAt.kp {w w' : World} (k : Kp w w') : ∀ {ch : List Lv} {v : Value}, ChAt w v ch → ChAt w' v ch
  | [], _, h => h
  | _ :: _, _, h => by
    obtain ⟨b, vv, lo, q, h1, h2, h3, h4, h5⟩ := h
    exact ⟨b, vv, lo, q, h1, k.2 _ _ _ h2 (by decide), h3.kp k, h4.kp k, ChAt.kp k h5⟩
theorem Seen.kp {w w' : World} {v : Value} {en : Env} (h : Seen w v en) (k : Kp w w') : Seen w' v en := by
  cases en with
  | none => trivial
  | some ch => exact ChAt.kp k h

/-! ### A maker at work -/
abbrev mkL (st d : Nat) : List Value := [.int .i64 (st : Int), .int .i64 (d : Int)]
abbrev mkV (mb : Nat) : Value := .pointer (some ⟨mb, 0, none⟩)
/-- The maker's block, the steps and the depth in it; what it sees; all below B lies as at the law's beginning. -/
structure Cx (B : Nat) (w : World) (mb st d : Nat) (v : Value) (en : Env) : Prop where
  tabs : TB B w
  low : B ≤ mb
  box : BL w mb 40 (mkL st d)
  seen : Seen w v en
/-- What a call leaves. -/
structure Lf (w : World) (mb st' d' : Nat) (w' : World) : Prop where
  only : Only [mb] w w'
  box : BL w' mb 40 (mkL st' d')
section
variable {B mb st d st' d' st'' d'' : Nat} {w w' w'' : World} {v : Value} {en : Env}
theorem Cx.size (h : Cx B w mb st d v en) : B ≤ w.heap.size := Nat.le_trans h.low (Nat.le_of_lt h.box.lt)
theorem Lf.refl (h : Cx B w mb st d v en) : Lf w mb st d w := ⟨Only.refl _ _, h.box⟩
theorem Lf.trans (h : Lf w mb st' d' w') (k : Lf w' mb st'' d'' w'') : Lf w mb st'' d'' w'' := ⟨h.only.trans k.only, k.box⟩
theorem Lf.kp (h : Lf w mb st' d' w') (hC : Cx B w mb st d v en) : Kp w w' := Kp.only h.only hC.box
theorem Cx.next (hC : Cx B w mb st d v en) (h : Lf w mb st' d' w') : Cx B w' mb st' d' v en :=
  ⟨hC.tabs.below (h.only.below hC.size (by simpa using hC.low)), hC.low, h.box, hC.seen.kp (h.kp hC)⟩
/-- What only makes blocks, or turns those that are newer than w. -/
theorem Cx.lf (hC : Cx B w mb st d v en) (h : Below w.heap.size w w') : Lf w mb st d w' := ⟨.of_below h, hC.box.keep (h.block _ hC.box.lt)⟩
theorem Cx.below (hC : Cx B w mb st d v en) (h : Below w.heap.size w w') : Cx B w' mb st d v en := hC.next (hC.lf h)
theorem Lf.below (hC : Cx B w mb st d v en) (h : Lf w mb st' d' w') : Below B w w' := h.only.below hC.size (by simpa using hC.low)
/-- A block that is none of the maker's stays. -/
theorem Lf.bl {b : Nat} {t : TypeId} {xs : List Value} (h : Lf w mb st' d' w') (hb : BL w b t xs) (hn : b ≠ mb) : BL w' b t xs := hb.only h.only (by simpa using hn)
end
/-- An expander that the program's own keeps to. -/
def Okx (f : FuncId) (X : Ex) : Prop := Shrt X ∧ ∀ (en : Env) (c : Tx) (d st : Nat) (t : Tx) (st' : Nat), X en c d st = some (t, st') → c.length ≤ 8192 → ∀ (B : Nat) (w : World) (mb : Nat) (v : Value), Cx B w mb st d v en →
  Calls Tryz.prog f #[mkV mb, .string (bs c), v] w fun e w' => e = .returned (.string (bs t)) ∧ Lf w mb st' d w'
end Go.Proofs.YtbiinghmopgjnaaGreatDoor.Fmt
