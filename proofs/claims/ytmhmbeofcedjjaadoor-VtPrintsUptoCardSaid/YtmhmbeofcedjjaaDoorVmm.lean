/- Layer 5's memory: a parser, one Feed of it, what it has told. -/
import Derived.Test.YtmhmbeofcedjjaaDoorTak
import Derived.Test.YtmhmbeofcedjjaaDoorVsp
import Derived.Deep.MidRow
import Derived.Deep.RegionWith
import Derived.Deep.RegionHeld3
import Derived.Deep.CutRange
namespace Go.Proofs.YtmhmbeofcedjjaaDoor.Vt
open Go.RowKit
open Cel (Blk Kept Tabs low Owns At)

/-- A list of bytes as a text. -/
def bs (l : Tx) : ByteArray := ⟨l.toArray⟩
theorem bs_app (a b : Tx) : bs a ++ bs b = bs (a ++ b) := by
  unfold bs
  exact ByteArray.ext (by simp)
theorem bs_list (l : Tx) : (bs l).data.toList = l := by simp [bs]
theorem bs_tl (l : Tx) : (bs l).toList = l := by unfold bs; simp
theorem bs_size (l : Tx) : (bs l).size = l.length := by show (bs l).data.size = _; rw [← Array.length_toList, bs_list]
theorem bs_of (s : ByteArray) : s = bs s.data.toList := by cases s; simp [bs]
theorem bs_inj {a b : Tx} (h : bs a = bs b) : a = b := by rw [← bs_list a, h, bs_list]
theorem bs_nil : bs [] = { data := #[] } := rfl

/-- The states' names. -/
def nm (s : Nat) : ByteArray :=
  { data := if s = 0 then #[103, 114, 111, 117, 110, 100] else if s = 1 then #[111, 115, 99] else if s = 2 then #[100, 97, 116, 97] else if s = 3 then #[115, 116, 114, 105, 110, 103]
    else if s = 4 then #[101, 115, 99, 97, 112, 101] else if s = 5 then #[99, 115, 105] else if s = 6 then #[100, 99, 115] else #[105, 103, 110, 111, 114, 101] }
theorem nm0 : nm 0 = { data := #[103, 114, 111, 117, 110, 100] } := rfl
theorem nm1 : nm 1 = { data := #[111, 115, 99] } := rfl
theorem nm2 : nm 2 = { data := #[100, 97, 116, 97] } := rfl
theorem nm3 : nm 3 = { data := #[115, 116, 114, 105, 110, 103] } := rfl
theorem nm4 : nm 4 = { data := #[101, 115, 99, 97, 112, 101] } := rfl
theorem nm5 : nm 5 = { data := #[99, 115, 105] } := rfl
theorem nm6 : nm 6 = { data := #[100, 99, 115] } := rfl
theorem nm7 : nm 7 = { data := #[105, 103, 110, 111, 114, 101] } := rfl

theorem Blk.ty {w : World} {g : Nat} {t t' : TypeId} {c c' : Array Value} (h : Blk w g t c) (h' : Blk w g t' c') : t = t' := by
  unfold Blk at *; rw [h] at h'; injection h' with e; injection e
theorem Blk.far' {w : World} {g g' : Nat} {t t' : TypeId} {c c' : Array Value} (h : Blk w g t c) (h' : Blk w g' t' c') (ht : t ≠ t') : g ≠ g' := fun e => by subst e; exact ht (Blk.ty h h')
theorem own_far {w : World} {base n size g : Nat} {e t : TypeId} {v : Value} {xs : List Value} {c : Array Value} (h : w.ownsRow base e size v n xs) (h' : Blk w g t c) (ht : e ≠ t) : v.ownBlock ≠ some g := fun hb => by
  rcases h.2 with ⟨rfl, _⟩ | ⟨k, cap, cur, rfl, _, hk, _⟩
  · cases hb
  · injection hb with hb
    subst hb
    exact ht (Blk.ty (show Blk w k e cur from hk) h')
theorem own_apart {w : World} {base base' n n' size size' : Nat} {e e' : TypeId} {v v' : Value} {xs xs' : List Value} (h : w.ownsRow base e size v n xs) (h' : w.ownsRow base' e' size' v' n' xs') (ht : e ≠ e') : ∀ k, v.ownBlock = some k → v'.ownBlock ≠ some k := fun k hk => by
  rcases h.2 with ⟨rfl, _⟩ | ⟨g, cap, cur, rfl, _, hg, _⟩
  · cases hk
  · injection hk with hk
    subst hk
    exact own_far h' (show Blk w g e cur from hg) (fun e => ht e.symm)
/-- Several cells put into a block. -/
theorem Blk.setCells {g : Nat} {t : TypeId} : ∀ (vs : List Value) {w : World} {cs : Array Value} (o : Nat), Blk w g t cs → Blk (w.setCells g o vs) g t ((vs.zipIdx o).foldl (fun c p => c.setIfInBounds p.2 p.1) cs)
  | [], _, _, _, h => h
  | v :: vs, w, cs, o, h => by
    rw [World.setCells]
    exact Blk.setCells vs (o + 1) (h.set_ o v)
theorem kept_setCells (g : Nat) : ∀ (vs : List Value) (o : Nat) (w : World), Kept w (w.setCells g o vs) (fun k => k = g)
  | [], _, w => Kept.refl w _
  | v :: vs, o, w => by
    rw [World.setCells]
    exact (Kept.setCell (p := fun k => k = g) (Kept.refl w _) (a := ⟨g, o, none⟩) rfl v).trans (kept_setCells g vs (o + 1) _) fun _ _ h => h

/-! ### What is told -/
/-- An action told, and the value of its numbers. -/
abbrev To := Ac × Value
def acL (t : To) : List Value := [.int .i64 t.1.k, .int .i32 t.1.r, .int .u8 t.1.b, t.2, .string (bs t.1.it), .string (bs t.1.tx)]
def flat (l : List To) : List Value := l.flatMap acL
theorem flat_app (a b : List To) : flat (a ++ b) = flat a ++ flat b := by simp [flat]
theorem flat_len (l : List To) : (flat l).length = l.length * 6 := by
  induction l with
  | nil => rfl
  | cons t l ih => unfold flat at ih ⊢; rw [List.flatMap_cons, List.length_append, ih, List.length_cons]; show 6 + _ = _; omega
def ints (l : List Int) : List Value := l.map (Value.int .i64)
def byts (l : Tx) : List Value := l.map fun u => Value.int .u8 (u.toNat : Int)
theorem ints_len (l : List Int) : (ints l).length = l.length := by simp [ints]
theorem byts_len (l : Tx) : (byts l).length = l.length := by simp [byts]
theorem ints_app (a b : List Int) : ints (a ++ b) = ints a ++ ints b := by simp [ints]
theorem byts_app (a b : Tx) : byts (a ++ b) = byts a ++ byts b := by simp [byts]
abbrev Ints (w : World) (B : Nat) (v : Value) (l : List Int) : Prop := w.ownsRow B 3 1 v l.length (ints l)
abbrev Byts (w : World) (B : Nat) (v : Value) (l : Tx) : Prop := w.ownsRow B 5 1 v l.length (byts l)
abbrev nilV : Value := .slice none 0 0
theorem ints_nil (w : World) (B : Nat) : Ints w B nilV [] := World.ownsRow_nil _ _ _ _
theorem byts_nil (w : World) (B : Nat) : Byts w B nilV [] := World.ownsRow_nil _ _ _ _
abbrev ptr (g : Nat) : Value := .pointer (some ⟨g, 0, none⟩)

/-! ### A parser -/
def parL (S : Ps) (pv tv : Value) (db : Nat) : List Value := [.string (nm S.s), ptr db, .int .i64 S.k, .int .i32 0, .int .u8 S.b, pv, .string (bs S.it), .string (bs []), tv, .bool S.af]
structure PAt (w : World) (B pb db : Nat) (pv tv : Value) (S : Ps) : Prop where
  par : Blk w pb 47 (parL S pv tv db).toArray
  dec : At w db S.d
  prm : Ints w B pv S.ps
  pnil : S.ps = [] → pv = nilV
  txt : Byts w B tv S.tx
  bd : Bd S
  pB : B ≤ pb
  dB : B ≤ db
/-- The parser's blocks. -/
def mine (pb db : Nat) (pv tv : Value) (k : Nat) : Prop := k = pb ∨ k = db ∨ pv.ownBlock = some k ∨ tv.ownBlock = some k
theorem PAt.keep {w w' : World} {B pb db : Nat} {pv tv : Value} {S : Ps} {p : Nat → Prop} (h : PAt w B pb db pv tv S) (k : Kept w w' p) (hp : ∀ i, mine pb db pv tv i → ¬ p i) : PAt w' B pb db pv tv S :=
  ⟨k.blk h.par (hp _ (.inl rfl)), k.blk h.dec (hp _ (.inr (.inl rfl))), k.owns h.prm fun i hi => hp i (.inr (.inr (.inl hi))), h.pnil, k.owns h.txt fun i hi => hp i (.inr (.inr (.inr hi))), h.bd, h.pB, h.dB⟩
theorem PAt.lt {w : World} {B pb db : Nat} {pv tv : Value} {S : Ps} (h : PAt w B pb db pv tv S) : ∀ i, mine pb db pv tv i → B ≤ i ∧ i < w.heap.size := fun i hi => by
  rcases hi with rfl | rfl | hi | hi
  · exact ⟨h.pB, h.par.lt⟩
  · exact ⟨h.dB, h.dec.lt⟩
  · exact h.prm.lt i hi
  · exact h.txt.lt i hi

/-! ### One Feed -/
/-- What stays: the floor, the blocks of the Feed, of the parser, of its decoder, of the variable that gathers, the bytes. -/
structure Ctx where
  B : Nat
  fb : Nat
  pb : Nat
  db : Nat
  ob : Nat
  A : Option Addr
  c : Nat
  l : Tx
/-- What turns. -/
structure Cfg where
  S : Ps
  pv : Value
  tv : Value
  ov : Value
  out : List To
  j : Nat
  x : Int
abbrev tellV (ob : Nat) : Value := .func (.func 20) #[] #[ptr ob]
def feeL (K : Ctx) (C : Cfg) : List Value := [ptr K.pb, .slice K.A K.l.length K.c, .int .i64 C.j, .int .u8 C.x, tellV K.ob]
/-- The bytes that came in. -/
def InB (w : World) (A : Option Addr) (l : Tx) : Prop := ∀ i, i < l.length → ∃ g o cs fr, A = some ⟨g, o, none⟩ ∧ w.heap[g]? = some (.cells cs 5 fr) ∧ cs[o + i]? = some (.int .u8 ((l.getD i 0).toNat : Int))
structure Sys (K : Ctx) (w : World) (C : Cfg) : Prop where
  P : PAt w K.B K.pb K.db C.pv C.tv C.S
  fee : Blk w K.fb 50 (feeL K C).toArray
  var : Blk w K.ob 22 #[C.ov]
  out : w.ownsRow K.B 38 6 C.ov C.out.length (flat C.out)
  told : ∀ t ∈ C.out, Ints w K.B t.2 t.1.ps
  tap : ∀ t ∈ C.out, ∀ k, t.2.ownBlock = some k → C.pv.ownBlock ≠ some k
  inp : InB w K.A K.l
  iap : K.l ≠ [] → ∀ g o, K.A = some ⟨g, o, none⟩ → C.tv.ownBlock ≠ some g
  tabs : Tabs w
  low : low ≤ K.B
  fB : K.B ≤ K.fb
  oB : K.B ≤ K.ob
  jl : C.j ≤ K.l.length
  ll : K.l.length ≤ 1073741824
  x0 : 0 ≤ C.x
  x1 : C.x ≤ 255
/-- All the blocks of it that turn. -/
def whole (K : Ctx) (C : Cfg) (k : Nat) : Prop := mine K.pb K.db C.pv C.tv k ∨ k = K.fb ∨ k = K.ob ∨ C.ov.ownBlock = some k
theorem Sys.lt {K : Ctx} {w : World} {C : Cfg} (h : Sys K w C) : ∀ k, whole K C k → K.B ≤ k ∧ k < w.heap.size := fun k hk => by
  rcases hk with hk | rfl | rfl | hk
  · exact h.P.lt k hk
  · exact ⟨h.fB, h.fee.lt⟩
  · exact ⟨h.oB, h.var.lt⟩
  · exact h.out.lt k hk
/-- What a method of the Feed leaves: of what was there only its own blocks have turned; its blocks are those that it had, or new. -/
structure Fr (K : Ctx) (w : World) (C : Cfg) (w' : World) (C' : Cfg) : Prop where
  kept : Kept w w' (whole K C)
  mine : ∀ k, whole K C' k → whole K C k ∨ w.heap.size ≤ k
  told : ∀ t ∈ C'.out, t ∈ C.out ∨ ∀ k, t.2.ownBlock = some k → w.heap.size ≤ k
  ovb : ∀ k, C'.ov.ownBlock = some k → C.ov.ownBlock = some k ∨ w.heap.size ≤ k
theorem Fr.refl (K : Ctx) (w : World) (C : Cfg) : Fr K w C w C := ⟨Kept.refl _ _, fun _ h => .inl h, fun _ h => .inl h, fun _ h => .inl h⟩
theorem Fr.trans {K : Ctx} {w w' w'' : World} {C C' C'' : Cfg} (h : Fr K w C w' C') (k : Fr K w' C' w'' C'') : Fr K w C w'' C'' := by
  have hs := h.kept.size
  refine ⟨h.kept.trans k.kept fun i hi hw => (h.mine i hw).resolve_right (by omega), fun i hi => ?_, fun t ht => ?_, fun i hi => ?_⟩
  · rcases k.mine i hi with hi | hi
    · exact h.mine i hi
    · exact .inr (by omega)
  · rcases k.told t ht with ht | ht
    · exact h.told t ht
    · exact .inr fun i hi => by have := ht i hi; omega
  · rcases k.ovb i hi with hi | hi
    · exact h.ovb i hi
    · exact .inr (by omega)
theorem InB.keep {w w' : World} {A : Option Addr} {l : Tx} {p : Nat → Prop} (h : InB w A l) (k : Kept w w' p) (hp : ∀ g o, A = some ⟨g, o, none⟩ → ¬ p g) : InB w' A l := fun i hi => by
  obtain ⟨g, o, cs, fr, e, hg, hc⟩ := h i hi
  exact ⟨g, o, cs, fr, e, (k.block g (Array.getElem?_eq_some_iff.1 hg).1 (hp g o e)).trans hg, hc⟩
theorem InB.ne {w : World} {A : Option Addr} {l : Tx} (h : InB w A l) (hl : l ≠ []) {g o : Nat} (e : A = some ⟨g, o, none⟩) : ∃ cs fr, w.heap[g]? = some (.cells cs 5 fr) := by
  obtain ⟨g', o', cs, fr, e', hg, _⟩ := h 0 (by cases l; exact absurd rfl hl; simp)
  rw [e] at e'; injection e' with e'; injection e' with e1; subst e1
  exact ⟨cs, fr, hg⟩
end Go.Proofs.YtmhmbeofcedjjaaDoor.Vt
