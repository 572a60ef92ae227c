/- Layer 5's memory: a parser, one Feed of it, what it has told. -/
import Derived.Test.YtjklnnklgkihlaaGreatDoorPae
import Derived.Deep.MidRow
import Derived.Deep.RegionWith
import Derived.Deep.RegionHeld3
import Derived.Deep.CutRange
import Derived.Lib.Strings
import Derived.Laws.BytesArg
import Derived.Lib.SliceRun
import Derived.Laws.IdiomStrings
namespace Go.Proofs.YtjklnnklgkihlaaGreatDoor.Vt
open Go.RowKit
open Cel (Blk Kept Tabs low Owns At)

/-- A list of bytes as a text. -/
def bs (l : Tx) : ByteArray := ⟨l.toArray⟩
theorem bs_app (a b : Tx) : bs a ++ bs b = bs (a ++ b) := by
  unfold bs
  exact ByteArray.ext (by simp)
theorem bs_list (l : Tx) : (bs l).data.toList = l := by simp [bs]
theorem bs_tl (l : Tx) : (bs l).toList = l := by unfold bs; simp
theorem bs_size (l : Tx) : (bs l).size = l.length := by show (bs l).data.size = _; rw [← Array.length_toList, bs_list]
theorem bs_of (s : ByteArray) : s = bs s.data.toList := by cases s; simp [bs]
theorem bs_inj {a b : Tx} (h : bs a = bs b) : a = b := by rw [← bs_list a, h, bs_list]
theorem bs_nil : bs [] = { data := #[] } := rfl

/-- The states' names. -/
def nm (s : Nat) : ByteArray :=
  { data := if s = 0 then #[103, 114, 111, 117, 110, 100] else if s = 1 then #[111, 115, 99] else if s = 2 then #[100, 97, 116, 97] else if s = 3 then #[115, 116, 114, 105, 110, 103]
    else if s = 4 then #[101, 115, 99, 97, 112, 101] else if s = 5 then #[99, 115, 105] else if s = 6 then #[100, 99, 115] else #[105, 103, 110, 111, 114, 101] }
theorem nm0 : nm 0 = { data := #[103, 114, 111, 117, 110, 100] } := rfl
theorem nm1 : nm 1 = { data := #[111, 115, 99] } := rfl
theorem nm2 : nm 2 = { data := #[100, 97, 116, 97] } := rfl
theorem nm3 : nm 3 = { data := #[115, 116, 114, 105, 110, 103] } := rfl
theorem nm4 : nm 4 = { data := #[101, 115, 99, 97, 112, 101] } := rfl
theorem nm5 : nm 5 = { data := #[99, 115, 105] } := rfl
theorem nm6 : nm 6 = { data := #[100, 99, 115] } := rfl
theorem nm7 : nm 7 = { data := #[105, 103, 110, 111, 114, 101] } := rfl

theorem Blk.ty {w : World} {g : Nat} {t t' : TypeId} {c c' : Array Value} (h : Blk w g t c) (h' : Blk w g t' c') : t = t' := by
  unfold Blk at *; rw [h] at h'; injection h' with e; injection e
theorem Blk.far' {w : World} {g g' : Nat} {t t' : TypeId} {c c' : Array Value} (h : Blk w g t c) (h' : Blk w g' t' c') (ht : t ≠ t') : g ≠ g' := fun e => by subst e; exact ht (Blk.ty h h')
theorem own_far {w : World} {base n size g : Nat} {e t : TypeId} {v : Value} {xs : List Value} {c : Array Value} (h : w.ownsRow base e size v n xs) (h' : Blk w g t c) (ht : e ≠ t) : v.ownBlock ≠ some g := fun hb => by
  rcases h.2 with ⟨rfl, _⟩ | ⟨k, cap, cur, rfl, _, hk, _⟩
  · cases hb
  · injection hb with hb
    subst hb
    exact ht (Blk.ty (show Blk w k e cur from hk) h')
theorem own_apart {w : World} {base base' n n' size size' : Nat} {e e' : TypeId} {v v' : Value} {xs xs' : List Value} (h : w.ownsRow base e size v n xs) (h' : w.ownsRow base' e' size' v' n' xs') (ht : e ≠ e') : ∀ k, v.ownBlock = some k → v'.ownBlock ≠ some k := fun k hk => by
  rcases h.2 with ⟨rfl, _⟩ | ⟨g, cap, cur, rfl, _, hg, _⟩
  · cases hk
  · injection hk with hk
    subst hk
    exact own_far h' (show Blk w g e cur from hg) (fun e => ht e.symm)
/-- Several cells put into a block. -/
theorem Blk.setCells {g : Nat} {t : TypeId} : ∀ (vs : List Value) {w : World} {cs : Array Value} (o : Nat), Blk w g t cs → Blk (w.setCells g o vs) g t ((vs.zipIdx o).foldl (fun c p => c.setIfInBounds p.2 p.1) cs)
  | [], _, _, _, h => h
  | v :: vs, w, cs, o, h => by
    rw [World.setCells]
    exact Blk.setCells vs (o + 1) (h.set_ o v)
theorem kept_setCells (g : Nat) : ∀ (vs : List Value) (o : Nat) (w : World), Kept w (w.setCells g o vs) (fun k => k = g)
  | [], _, w => Kept.refl w _
  | v :: vs, o, w => by
    rw [World.setCells]
    exact (Kept.setCell (p := fun k => k = g) (Kept.refl w _) (a := ⟨g, o, none⟩) rfl v).trans (kept_setCells g vs (o + 1) _) fun _ _ h => h

/-! ### What is told -/
/-- An action told, and the value of its numbers. -/
abbrev To := Ac × Value
def acL (t : To) : List Value := [.int .i64 t.1.k, .int .i32 t.1.r, .int .u8 t.1.b, t.2, .string (bs t.1.it), .string (bs t.1.tx)]
def flat (l : List To) : List Value := l.flatMap acL
theorem flat_app (a b : List To) : flat (a ++ b) = flat a ++ flat b := by simp [flat]
theorem flat_len (l : List To) : (flat l).length = l.length * 6 := by
  induction l with
  | nil => rfl
  | cons t l ih => unfold flat at ih ⊢; rw [List.flatMap_cons, List.length_append, ih, List.length_cons]; show 6 + _ = _; omega
def ints (l : List Int) : List Value := l.map (Value.int .i64)
def byts (l : Tx) : List Value := l.map fun u => Value.int .u8 (u.toNat : Int)
theorem ints_len (l : List Int) : (ints l).length = l.length := by simp [ints]
theorem byts_len (l : Tx) : (byts l).length = l.length := by simp [byts]
theorem ints_app (a b : List Int) : ints (a ++ b) = ints a ++ ints b := by simp [ints]
theorem byts_app (a b : Tx) : byts (a ++ b) = byts a ++ byts b := by simp [byts]
abbrev Ints (w : World) (B : Nat) (v : Value) (l : List Int) : Prop := w.ownsRow B 3 1 v l.length (ints l)
abbrev Byts (w : World) (B : Nat) (v : Value) (l : Tx) : Prop := w.ownsRow B 5 1 v l.length (byts l)
abbrev nilV : Value := .slice none 0 0
theorem ints_nil (w : World) (B : Nat) : Ints w B nilV [] := World.ownsRow_nil _ _ _ _
theorem byts_nil (w : World) (B : Nat) : Byts w B nilV [] := World.ownsRow_nil _ _ _ _
abbrev ptr (g : Nat) : Value := .pointer (some ⟨g, 0, none⟩)

/-! ### A parser -/
def parL (S : Ps) (pv tv : Value) (db : Nat) : List Value := [.string (nm S.s), ptr db, .int .i64 S.k, .int .i32 0, .int .u8 S.b, pv, .string (bs S.it), .string (bs []), tv, .bool S.af]
structure PAt (w : World) (B pb db : Nat) (pv tv : Value) (S : Ps) : Prop where
  par : Blk w pb 101 (parL S pv tv db).toArray
  dec : At w db S.d
  prm : Ints w B pv S.ps
  pnil : S.ps = [] → pv = nilV
  txt : Byts w B tv S.tx
  bd : Bd S
  pB : B ≤ pb
  dB : B ≤ db
/-- The parser's blocks. -/
def mine (pb db : Nat) (pv tv : Value) (k : Nat) : Prop := k = pb ∨ k = db ∨ pv.ownBlock = some k ∨ tv.ownBlock = some k
theorem PAt.keep {w w' : World} {B pb db : Nat} {pv tv : Value} {S : Ps} {p : Nat → Prop} (h : PAt w B pb db pv tv S) (k : Kept w w' p) (hp : ∀ i, mine pb db pv tv i → ¬ p i) : PAt w' B pb db pv tv S :=
  ⟨k.blk h.par (hp _ (.inl rfl)), k.blk h.dec (hp _ (.inr (.inl rfl))), k.owns h.prm fun i hi => hp i (.inr (.inr (.inl hi))), h.pnil, k.owns h.txt fun i hi => hp i (.inr (.inr (.inr hi))), h.bd, h.pB, h.dB⟩
theorem PAt.lt {w : World} {B pb db : Nat} {pv tv : Value} {S : Ps} (h : PAt w B pb db pv tv S) : ∀ i, mine pb db pv tv i → B ≤ i ∧ i < w.heap.size := fun i hi => by
  rcases hi with rfl | rfl | hi | hi
  · exact ⟨h.pB, h.par.lt⟩
  · exact ⟨h.dB, h.dec.lt⟩
  · exact h.prm.lt i hi
  · exact h.txt.lt i hi

/-! ### One Feed -/
/-- What stays: the floor, the blocks of the Feed, of the parser, of its decoder, of the variable that gathers, the bytes. -/
structure Ctx where
  B : Nat
  fb : Nat
  pb : Nat
  db : Nat
  ob : Nat
  A : Option Addr
  c : Nat
  l : Tx
/-- What turns. -/
structure Cfg where
  S : Ps
  pv : Value
  tv : Value
  ov : Value
  out : List To
  j : Nat
  x : Int
abbrev tellV (ob : Nat) : Value := .func (.func 40) #[] #[ptr ob]
def feeL (K : Ctx) (C : Cfg) : List Value := [ptr K.pb, .slice K.A K.l.length K.c, .int .i64 C.j, .int .u8 C.x, tellV K.ob]
/-- The bytes that came in. -/
def InB (w : World) (A : Option Addr) (l : Tx) : Prop := ∀ i, i < l.length → ∃ g o cs fr, A = some ⟨g, o, none⟩ ∧ w.heap[g]? = some (.cells cs 5 fr) ∧ cs[o + i]? = some (.int .u8 ((l.getD i 0).toNat : Int))
structure Sys (K : Ctx) (w : World) (C : Cfg) : Prop where
  P : PAt w K.B K.pb K.db C.pv C.tv C.S
  fee : Blk w K.fb 95 (feeL K C).toArray
  var : Blk w K.ob 61 #[C.ov]
  out : w.ownsRow K.B 65 6 C.ov C.out.length (flat C.out)
  told : ∀ t ∈ C.out, Ints w K.B t.2 t.1.ps
  tap : ∀ t ∈ C.out, ∀ k, t.2.ownBlock = some k → C.pv.ownBlock ≠ some k
  inp : InB w K.A K.l
  iap : K.l ≠ [] → ∀ g o, K.A = some ⟨g, o, none⟩ → C.tv.ownBlock ≠ some g
  tabs : Tabs w
  low : low ≤ K.B
  fB : K.B ≤ K.fb
  oB : K.B ≤ K.ob
  jl : C.j ≤ K.l.length
  ll : K.l.length ≤ 1073741824
  x0 : 0 ≤ C.x
  x1 : C.x ≤ 255
/-- All the blocks of it that turn. -/
def whole (K : Ctx) (C : Cfg) (k : Nat) : Prop := mine K.pb K.db C.pv C.tv k ∨ k = K.fb ∨ k = K.ob ∨ C.ov.ownBlock = some k
theorem Sys.lt {K : Ctx} {w : World} {C : Cfg} (h : Sys K w C) : ∀ k, whole K C k → K.B ≤ k ∧ k < w.heap.size := fun k hk => by
  rcases hk with hk | rfl | rfl | hk
  · exact h.P.lt k hk
  · exact ⟨h.fB, h.fee.lt⟩
  · exact ⟨h.oB, h.var.lt⟩
  · exact h.out.lt k hk
/-- What a method of the Feed leaves: of what was there only its own blocks have turned; its blocks are those that it had, or new. -/
structure Fr (K : Ctx) (w : World) (C : Cfg) (w' : World) (C' : Cfg) : Prop where
  kept : Kept w w' (whole K C)
  mine : ∀ k, whole K C' k → whole K C k ∨ w.heap.size ≤ k
  told : ∀ t ∈ C'.out, t ∈ C.out ∨ ∀ k, t.2.ownBlock = some k → w.heap.size ≤ k
  ovb : ∀ k, C'.ov.ownBlock = some k → C.ov.ownBlock = some k ∨ w.heap.size ≤ k
theorem Fr.refl (K : Ctx) (w : World) (C : Cfg) : Fr K w C w C := ⟨Kept.refl _ _, fun _ h => .inl h, fun _ h => .inl h, fun _ h => .inl h⟩
theorem Fr.trans {K : Ctx} {w w' w'' : World} {C C' C'' : Cfg} (h : Fr K w C w' C') (k : Fr K w' C' w'' C'') : Fr K w C w'' C'' := by
  have hs := h.kept.size
  refine ⟨h.kept.trans k.kept fun i hi hw => (h.mine i hw).resolve_right (by omega), fun i hi => ?_, fun t ht => ?_, fun i hi => ?_⟩
  · rcases k.mine i hi with hi | hi
    · exact h.mine i hi
    · exact .inr (by omega)
  · rcases k.told t ht with ht | ht
    · exact h.told t ht
    · exact .inr fun i hi => by have := ht i hi; omega
  · rcases k.ovb i hi with hi | hi
    · exact h.ovb i hi
    · exact .inr (by omega)
theorem InB.keep {w w' : World} {A : Option Addr} {l : Tx} {p : Nat → Prop} (h : InB w A l) (k : Kept w w' p) (hp : ∀ g o, A = some ⟨g, o, none⟩ → ¬ p g) : InB w' A l := fun i hi => by
  obtain ⟨g, o, cs, fr, e, hg, hc⟩ := h i hi
  exact ⟨g, o, cs, fr, e, (k.block g (Array.getElem?_eq_some_iff.1 hg).1 (hp g o e)).trans hg, hc⟩
theorem InB.ne {w : World} {A : Option Addr} {l : Tx} (h : InB w A l) (hl : l ≠ []) {g o : Nat} (e : A = some ⟨g, o, none⟩) : ∃ cs fr, w.heap[g]? = some (.cells cs 5 fr) := by
  obtain ⟨g', o', cs, fr, e', hg, _⟩ := h 0 (by cases l; exact absurd rfl hl; simp)
  rw [e] at e'; injection e' with e'; injection e' with e1; subst e1
  exact ⟨cs, fr, hg⟩
end Go.Proofs.YtjklnnklgkihlaaGreatDoor.Vt
/- A Feed's memory behind a change of one of its parts. -/
namespace Go.Proofs.YtjklnnklgkihlaaGreatDoor.Vt
open Go.RowKit
open Cel (Blk Kept Tabs low Owns At)

section
variable {K : Ctx} {w w' : World} {C : Cfg}
/-- No two of the blocks are one. -/
structure Sep (K : Ctx) (C : Cfg) : Prop where
  pd : K.pb ≠ K.db
  pf : K.pb ≠ K.fb
  po : K.pb ≠ K.ob
  df : K.db ≠ K.fb
  dO : K.db ≠ K.ob
  fo : K.fb ≠ K.ob
  vp : C.pv.ownBlock ≠ some K.pb
  vd : C.pv.ownBlock ≠ some K.db
  vf : C.pv.ownBlock ≠ some K.fb
  vo : C.pv.ownBlock ≠ some K.ob
  tp : C.tv.ownBlock ≠ some K.pb
  td : C.tv.ownBlock ≠ some K.db
  tf : C.tv.ownBlock ≠ some K.fb
  tO : C.tv.ownBlock ≠ some K.ob
  op : C.ov.ownBlock ≠ some K.pb
  od : C.ov.ownBlock ≠ some K.db
  of : C.ov.ownBlock ≠ some K.fb
  oo : C.ov.ownBlock ≠ some K.ob
  vt : ∀ k, C.pv.ownBlock = some k → C.tv.ownBlock ≠ some k
  vov : ∀ k, C.pv.ownBlock = some k → C.ov.ownBlock ≠ some k
  tov : ∀ k, C.tv.ownBlock = some k → C.ov.ownBlock ≠ some k
  told : ∀ t ∈ C.out, ∀ k, t.2.ownBlock = some k → k ≠ K.pb ∧ k ≠ K.db ∧ k ≠ K.fb ∧ k ≠ K.ob ∧ C.pv.ownBlock ≠ some k ∧ C.tv.ownBlock ≠ some k ∧ C.ov.ownBlock ≠ some k
  inp : K.l ≠ [] → ∀ g o, K.A = some ⟨g, o, none⟩ → g ≠ K.pb ∧ g ≠ K.db ∧ g ≠ K.fb ∧ g ≠ K.ob ∧ C.pv.ownBlock ≠ some g ∧ C.tv.ownBlock ≠ some g ∧ C.ov.ownBlock ≠ some g
theorem Sys.sep (h : Sys K w C) : Sep K C where
  pd := Blk.far' h.P.par h.P.dec (by decide)
  pf := Blk.far' h.P.par h.fee (by decide)
  po := Blk.far' h.P.par h.var (by decide)
  df := Blk.far' h.P.dec h.fee (by decide)
  dO := Blk.far' h.P.dec h.var (by decide)
  fo := Blk.far' h.fee h.var (by decide)
  vp := own_far h.P.prm h.P.par (by decide)
  vd := own_far h.P.prm h.P.dec (by decide)
  vf := own_far h.P.prm h.fee (by decide)
  vo := own_far h.P.prm h.var (by decide)
  tp := own_far h.P.txt h.P.par (by decide)
  td := own_far h.P.txt h.P.dec (by decide)
  tf := own_far h.P.txt h.fee (by decide)
  tO := own_far h.P.txt h.var (by decide)
  op := own_far h.out h.P.par (by decide)
  od := own_far h.out h.P.dec (by decide)
  of := own_far h.out h.fee (by decide)
  oo := own_far h.out h.var (by decide)
  vt := own_apart h.P.prm h.P.txt (by decide)
  vov := own_apart h.P.prm h.out (by decide)
  tov := own_apart h.P.txt h.out (by decide)
  told := fun t ht k hk => ⟨fun e => own_far (h.told t ht) h.P.par (by decide) (by rw [hk, e]), fun e => own_far (h.told t ht) h.P.dec (by decide) (by rw [hk, e]), fun e => own_far (h.told t ht) h.fee (by decide) (by rw [hk, e]),
    fun e => own_far (h.told t ht) h.var (by decide) (by rw [hk, e]), h.tap t ht k hk, own_apart (h.told t ht) h.P.txt (by decide) k hk, own_apart (h.told t ht) h.out (by decide) k hk⟩
  inp := fun hl g o e => by
    obtain ⟨cs, fr, hg⟩ := h.inp.ne hl e
    have ty : ∀ {g' t c}, Blk w g' t c → t ≠ 5 → g ≠ g' := fun hb ht e' => by
      subst e'; unfold Blk at hb; rw [hg] at hb; injection hb with e1; injection e1 with _ e2; exact ht e2.symm
    have own : ∀ {base e' size v n xs}, w.ownsRow base e' size v n xs → e' ≠ 5 → v.ownBlock ≠ some g := fun ho ht e' => by
      rcases ho.2 with ⟨rfl, _⟩ | ⟨k, cap, cur, rfl, _, hk, _⟩
      · cases e'
      · injection e' with e'; exact ty (show Blk w k _ cur from hk) ht e'.symm
    exact ⟨ty h.P.par (by decide), ty h.P.dec (by decide), ty h.fee (by decide), ty h.var (by decide), own h.P.prm (by decide), h.iap hl g o e, own h.out (by decide)⟩
theorem InB.of_nil (w : World) (A : Option Addr) : InB w A [] := fun i hi => by cases hi
theorem Sys.inpK (h : Sys K w C) {p : Nat → Prop} (k : Kept w w' p) (hp : K.l ≠ [] → ∀ g o, K.A = some ⟨g, o, none⟩ → ¬ p g) : InB w' K.A K.l := by
  by_cases hl : K.l = []
  · rw [hl]; exact InB.of_nil _ _
  · exact h.inp.keep k (hp hl)
theorem Sys.tabsK (h : Sys K w C) {p : Nat → Prop} (k : Kept w w' p) (hp : ∀ i, p i → K.B ≤ i) : Tabs w' := by
  have hlow := h.low
  have hl := (h.lt K.pb (.inl (.inl rfl)))
  exact h.tabs.kept k (fun i hi hpi => by have := hp i hpi; omega) (by omega)

/-- What a Feed's own work does not touch. -/
theorem Sys.same (h : Sys K w C) {p : Nat → Prop} (k : Kept w w' p) (hp : ∀ i, p i → w.heap.size ≤ i) : Sys K w' C := by
  have hf : ∀ i, whole K C i → ¬ p i := fun i hi hpi => by have := (h.lt i hi).2; have := hp i hpi; omega
  exact ⟨h.P.keep k fun i hi => hf i (.inl hi), k.blk h.fee (hf _ (.inr (.inl rfl))), k.blk h.var (hf _ (.inr (.inr (.inl rfl)))), k.owns h.out fun i hi => hf i (.inr (.inr (.inr hi))),
    fun t ht => k.owns (h.told t ht) fun i hi hpi => by have := ((h.told t ht).lt i hi).2; have := hp i hpi; omega, h.tap,
    h.inpK k fun hl g o e hpi => by obtain ⟨cs, fr, hg⟩ := h.inp.ne hl e; have := (Array.getElem?_eq_some_iff.1 hg).1; have := hp g hpi; omega,
    h.iap, h.tabsK k fun i hpi => by have := hp i hpi; have := h.lt _ (.inl (.inl rfl)); omega, h.low, h.fB, h.oB, h.jl, h.ll, h.x0, h.x1⟩
theorem Sys.alloc (h : Sys K w C) (o : Obj) : Sys K (w.alloc o) C := h.same (p := fun _ => False) ((Kept.refl w _).alloc o) fun _ hf => hf.elim
theorem Sys.drew (h : Sys K w C) : Sys K w.drew C := h.same (p := fun _ => False) (Kept.refl w _).drew fun _ hf => hf.elim
theorem Fr.same {p : Nat → Prop} (k : Kept w w' p) (hp : ∀ i, p i → w.heap.size ≤ i) : Fr K w C w' C :=
  ⟨⟨k.os, k.tape, k.output, k.size, fun i hi _ => k.block i hi fun hpi => by have := hp i hpi; omega⟩, fun _ h => .inl h, fun _ h => .inl h, fun _ h => .inl h⟩

/-- The parser's own block has turned: its state, what was begun. -/
theorem Sys.setP (h : Sys K w C) (k : Kept w w' (fun i => i = K.pb)) (S' : Ps) (pv' tv' : Value) (hb : Blk w' K.pb 101 (parL S' pv' tv' K.db).toArray) (hd : S'.d = C.S.d) (hbd : Bd S')
    (hp : (pv' = C.pv ∧ S'.ps = C.S.ps) ∨ (pv' = nilV ∧ S'.ps = [])) (ht : (tv' = C.tv ∧ S'.tx = C.S.tx) ∨ (tv' = nilV ∧ S'.tx = [])) :
    Sys K w' { C with S := S', pv := pv', tv := tv' } ∧ Fr K w C w' { C with S := S', pv := pv', tv := tv' } := by
  have s := h.sep
  have nv : ∀ i, pv'.ownBlock = some i → C.pv.ownBlock = some i := fun i hi => by rcases hp with ⟨rfl, _⟩ | ⟨rfl, _⟩; exact hi; cases hi
  have nt : ∀ i, tv'.ownBlock = some i → C.tv.ownBlock = some i := fun i hi => by rcases ht with ⟨rfl, _⟩ | ⟨rfl, _⟩; exact hi; cases hi
  refine ⟨⟨⟨hb, ?_, ?_, ?_, ?_, hbd, h.P.pB, h.P.dB⟩, k.blk h.fee fun e => s.pf e.symm, k.blk h.var fun e => s.po e.symm, k.owns h.out fun i hi e => s.op (by rw [hi, e]),
    fun t ht => k.owns (h.told t ht) fun i hi e => (s.told t ht i hi).1 e, fun t ht i hi e => h.tap t ht i hi (nv i e),
    h.inpK k fun hl g o e => (s.inp hl g o e).1, fun hl g o e hh => h.iap hl g o e (nt g hh), h.tabsK k fun i e => e ▸ h.P.pB, h.low, h.fB, h.oB, h.jl, h.ll, h.x0, h.x1⟩, ⟨k.more fun i e => .inl (.inl e), ?_, fun t ht => .inl ht, fun _ h => .inl h⟩⟩
  · show At w' K.db S'.d
    rw [hd]; exact k.blk h.P.dec fun e => s.pd e.symm
  · rcases hp with ⟨rfl, e⟩ | ⟨rfl, e⟩
    · show Ints w' K.B C.pv S'.ps
      rw [e]; exact k.owns h.P.prm fun i hi e => s.vp (by rw [hi, e])
    · show Ints w' K.B nilV S'.ps
      rw [e]; exact ints_nil _ _
  · intro e
    rcases hp with ⟨rfl, e'⟩ | ⟨rfl, _⟩
    · exact h.P.pnil (e' ▸ e)
    · rfl
  · rcases ht with ⟨rfl, e⟩ | ⟨rfl, e⟩
    · show Byts w' K.B C.tv S'.tx
      rw [e]; exact k.owns h.P.txt fun i hi e => s.tp (by rw [hi, e])
    · show Byts w' K.B nilV S'.tx
      rw [e]; exact byts_nil _ _
  · rintro i ((e | e | e | e) | e | e | e)
    · exact .inl (.inl (.inl e))
    · exact .inl (.inl (.inr (.inl e)))
    · exact .inl (.inl (.inr (.inr (.inl (nv i e)))))
    · exact .inl (.inl (.inr (.inr (.inr (nt i e)))))
    · exact .inl (.inr (.inl e))
    · exact .inl (.inr (.inr (.inl e)))
    · exact .inl (.inr (.inr (.inr e)))

theorem Bd.setD {S : Ps} (h : Bd S) {d : Cel.Dec} (hi : Cel.Inv d) : Bd { S with d := d } := ⟨h.s1, h.k0, h.k1, h.b0, h.b1, h.pl, h.pz, h.il, h.tl, hi⟩
/-- The decoder has turned. -/
theorem Sys.setD (h : Sys K w C) (k : Kept w w' (fun i => i = K.db)) (d : Cel.Dec) (hb : At w' K.db d) (hi : Cel.Inv d) :
    Sys K w' { C with S := { C.S with d := d } } ∧ Fr K w C w' { C with S := { C.S with d := d } } := by
  have s := h.sep
  exact ⟨⟨⟨k.blk h.P.par fun e => s.pd e, hb, k.owns h.P.prm fun i hi e => s.vd (by rw [hi, e]), h.P.pnil, k.owns h.P.txt fun i hi e => s.td (by rw [hi, e]), h.P.bd.setD hi, h.P.pB, h.P.dB⟩,
    k.blk h.fee fun e => s.df e.symm, k.blk h.var fun e => s.dO e.symm, k.owns h.out fun i hi e => s.od (by rw [hi, e]), fun t ht => k.owns (h.told t ht) fun i hi e => (s.told t ht i hi).2.1 e, h.tap,
    h.inpK k fun hl g o e => (s.inp hl g o e).2.1, h.iap, h.tabsK k fun i e => e ▸ h.P.dB, h.low, h.fB, h.oB, h.jl, h.ll, h.x0, h.x1⟩, ⟨k.more fun i e => .inl (.inr (.inl e)), fun i hi => .inl hi, fun t ht => .inl ht, fun _ h => .inl h⟩⟩

/-- Which byte is at hand has turned. -/
theorem Sys.setF (h : Sys K w C) (k : Kept w w' (fun i => i = K.fb)) (j : Nat) (x : Int) (hb : Blk w' K.fb 95 (feeL K { C with j := j, x := x }).toArray) (hj : j ≤ K.l.length) (hx0 : 0 ≤ x) (hx1 : x ≤ 255) :
    Sys K w' { C with j := j, x := x } ∧ Fr K w C w' { C with j := j, x := x } := by
  have s := h.sep
  exact ⟨⟨h.P.keep k (by rintro i (e | e | e | e) rfl; exact s.pf e.symm; exact s.df e.symm; exact s.vf e; exact s.tf e),
    hb, k.blk h.var fun e => s.fo e.symm, k.owns h.out fun i hi e => s.of (by rw [hi, e]), fun t ht => k.owns (h.told t ht) fun i hi e => (s.told t ht i hi).2.2.1 e, h.tap,
    h.inpK k fun hl g o e => (s.inp hl g o e).2.2.1, h.iap, h.tabsK k fun i e => e ▸ h.fB, h.low, h.fB, h.oB, hj, h.ll, hx0, hx1⟩, ⟨k.more fun i e => .inr (.inl e), fun i hi => .inl hi, fun t ht => .inl ht, fun _ h => .inl h⟩⟩

/-- An action more has been told: the list's row grew, then the variable was set. -/
theorem Sys.tell (h : Sys K w C) (k : Kept w w' (fun i => i = K.ob ∨ C.ov.ownBlock = some i)) (t : To) (ov' : Value) (hv : Blk w' K.ob 61 #[ov']) (ho : w'.ownsRow K.B 65 6 ov' (C.out ++ [t]).length (flat (C.out ++ [t])))
    (hat : ov'.ownBlock = C.ov.ownBlock ∨ ∃ i, ov'.ownBlock = some i ∧ w.heap.size ≤ i) (ht : Ints w K.B t.2 t.1.ps) (hta : ∀ i, t.2.ownBlock = some i → C.pv.ownBlock ≠ some i) (htn : ∀ i, t.2.ownBlock = some i → K.ob ≠ i ∧ C.ov.ownBlock ≠ some i)
    (w0 : World) (C0 : Cfg) (hfr : Fr K w0 C0 w C) (ht0 : ∀ i, t.2.ownBlock = some i → w0.heap.size ≤ i) :
    Sys K w' { C with ov := ov', out := C.out ++ [t] } ∧ Fr K w0 C0 w' { C with ov := ov', out := C.out ++ [t] } := by
  have s := h.sep
  have hs := hfr.kept.size
  refine ⟨⟨h.P.keep k (by rintro i (e | e | e | e) (q | q); exact s.po (e.symm.trans q); exact s.op (by rw [q, e]); exact s.dO (e.symm.trans q); exact s.od (by rw [q, e]); exact s.vo (by rw [e, q]); exact s.vov i e q; exact s.tO (by rw [e, q]); exact s.tov i e q),
    k.blk h.fee (by rintro (q | q); exact s.fo q; exact s.of q), hv, ho, fun u hu => ?_, fun u hu => ?_,
    h.inpK k fun hl g o e => by have := s.inp hl g o e; rintro (q | q); exact this.2.2.2.1 q; exact this.2.2.2.2.2.2 q, h.iap, h.tabsK k (by rintro i (q | q); exact q ▸ h.oB; exact (h.out.lt i q).1), h.low, h.fB, h.oB, h.jl, h.ll, h.x0, h.x1⟩, ⟨?_, ?_, ?_, ?_⟩⟩
  · rcases List.mem_append.1 hu with hu | hu
    · exact k.owns (h.told u hu) fun i hi => by have := s.told u hu i hi; rintro (q | q); exact this.2.2.2.1 q; exact this.2.2.2.2.2.2 q
    · simp at hu; subst hu
      exact k.owns ht fun i hi => by have := htn i hi; rintro (q | q); exact this.1 q.symm; exact this.2 q
  · rcases List.mem_append.1 hu with hu | hu
    · exact h.tap u hu
    · simp at hu; subst hu; exact hta
  · exact hfr.kept.trans k fun i hi => by
      rintro (q | q)
      · exact (hfr.mine i (.inr (.inr (.inl q)))).resolve_right (by omega)
      · exact (hfr.mine i (.inr (.inr (.inr q)))).resolve_right (by omega)
  · rintro i (e | e | e | e)
    · exact hfr.mine i (.inl e)
    · exact hfr.mine i (.inr (.inl e))
    · exact hfr.mine i (.inr (.inr (.inl e)))
    · rcases hat with q | ⟨q, hq, hq2⟩
      · exact hfr.mine i (.inr (.inr (.inr (q ▸ e))))
      · have : i = q := by have e' : ov'.ownBlock = some i := e; rw [hq] at e'; injection e' with e'; exact e'.symm
        exact .inr (by omega)
  · intro u hu
    rcases List.mem_append.1 hu with hu | hu
    · exact hfr.told u hu
    · simp at hu; subst hu; exact .inr ht0
  · intro i e
    rcases hat with q | ⟨q, hq, hq2⟩
    · exact hfr.ovb i (q ▸ e)
    · have : i = q := by have e' : ov'.ownBlock = some i := e; rw [hq] at e'; injection e' with e'; exact e'.symm
      exact .inr (by omega)
end
end Go.Proofs.YtjklnnklgkihlaaGreatDoor.Vt
/- The walks of layer 5's small functions: of states' names, of bytes. -/
namespace Go.Proofs.YtjklnnklgkihlaaGreatDoor.Vt
open Go.RowKit

def isTxB (s : Nat) : Value := .bool (isTx s)
theorem isText_any (s : Nat) (hs : s ≤ 7) (w : World) : Calls Tryz.prog 66 #[.string (nm s)] w fun e w' => e = .returned (.bool (isTx s)) ∧ w = w' := by
  have hc : s = 0 ∨ s = 1 ∨ s = 2 ∨ s = 3 ∨ s = 4 ∨ s = 5 ∨ s = 6 ∨ s = 7 := by omega
  rcases hc with rfl | rfl | rfl | rfl | rfl | rfl | rfl | rfl
  all_goals
    first
      | rw [nm0]
      | rw [nm1]
      | rw [nm2]
      | rw [nm3]
      | rw [nm4]
      | rw [nm5]
      | rw [nm6]
      | rw [nm7]
    go_enter Tryz.func66, Tryz.ntmps66
    go_wp2
    go_ret
    exact ⟨rfl, rfl⟩
theorem isHead_any (s : Nat) (hs : s ≤ 7) (w : World) : Calls Tryz.prog 41 #[.string (nm s)] w fun e w' => e = .returned (.bool (isHd s)) ∧ w = w' := by
  have ht := isText_any s hs w
  have hc : s = 0 ∨ s = 1 ∨ s = 2 ∨ s = 3 ∨ s = 4 ∨ s = 5 ∨ s = 6 ∨ s = 7 := by omega
  rcases hc with rfl | rfl | rfl | rfl | rfl | rfl | rfl | rfl
  all_goals
    first
      | rw [nm0] at ht ⊢
      | rw [nm1] at ht ⊢
      | rw [nm2] at ht ⊢
      | rw [nm3] at ht ⊢
      | rw [nm4] at ht ⊢
      | rw [nm5] at ht ⊢
      | rw [nm6] at ht ⊢
      | rw [nm7] at ht ⊢
    go_enter Tryz.func41, Tryz.ntmps41
    go_wp2_with (go_at_call 66; refine ht.mono ?_; rintro e w' ⟨rfl, rfl⟩)
    go_ret
    exact ⟨rfl, rfl⟩
theorem isControl_any (x : Int) (w : World) : Calls Tryz.prog 111 #[.int .u8 x] w fun e w' => e = .returned (.bool (decide (x < 32))) ∧ w = w' := by
  go_enter Tryz.func111, Tryz.ntmps111
  go_wp2
  go_ret
  exact ⟨rfl, rfl⟩
theorem isBetween_any (x : Int) (w : World) : Calls Tryz.prog 150 #[.int .u8 x] w fun e w' => e = .returned (.bool (isBet x)) ∧ w = w' := by
  by_cases h : 32 ≤ x
  · have HN : Hid (isBet x = decide (x ≤ 47)) := by show _ = _; unfold isBet; simp [h]
    go_enter Tryz.func150, Tryz.ntmps150
    go_wp2
    go_ret
    exact ⟨by rw [HN.out]; rfl, rfl⟩
  · have HN : Hid (isBet x = false) := by show _ = _; unfold isBet; simp [h]
    have hd : decide (32 ≤ x) = false := by simpa using h
    go_enter Tryz.func150, Tryz.ntmps150
    go_wp2
    go_ret
    exact ⟨by rw [HN.out]; rfl, rfl⟩
theorem isMark_any (x : Int) (w : World) : Calls Tryz.prog 151 #[.int .u8 x] w fun e w' => e = .returned (.bool (isMk x)) ∧ w = w' := by
  by_cases h : 60 ≤ x
  · have HN : Hid (isMk x = decide (x ≤ 63)) := by show _ = _; unfold isMk; simp [h]
    go_enter Tryz.func151, Tryz.ntmps151
    go_wp2
    go_ret
    exact ⟨by rw [HN.out]; rfl, rfl⟩
  · have HN : Hid (isMk x = false) := by show _ = _; unfold isMk; simp [h]
    have hd : decide (60 ≤ x) = false := by simpa using h
    go_enter Tryz.func151, Tryz.ntmps151
    go_wp2
    go_ret
    exact ⟨by rw [HN.out]; rfl, rfl⟩
theorem isFinal_any (k x : Int) (w : World) : Calls Tryz.prog 113 #[.int .i64 k, .int .u8 x] w fun e w' => e = .returned (.bool (isFin k x)) ∧ w = w' := by
  by_cases hk : k = 3
  · have hkb : (k == 3) = true := by simp [hk]
    by_cases h : 48 ≤ x
    · have HN : Hid (isFin k x = decide (x < 127)) := by show _ = _; unfold isFin; simp [hk, h]
      clear hk
      go_enter Tryz.func113, Tryz.ntmps113
      go_wp2
      go_ret
      exact ⟨by rw [HN.out]; rfl, rfl⟩
    · have HN : Hid (isFin k x = false) := by show _ = _; unfold isFin; simp [hk, h]
      have hd : decide (48 ≤ x) = false := by simpa using h
      clear hk
      go_enter Tryz.func113, Tryz.ntmps113
      go_wp2
      go_ret
      exact ⟨by rw [HN.out]; rfl, rfl⟩
  · have hkb : (k == 3) = false := by simp [hk]
    by_cases h : 64 ≤ x
    · have HN : Hid (isFin k x = decide (x < 127)) := by show _ = _; unfold isFin; simp [hk, h]
      clear hk
      go_enter Tryz.func113, Tryz.ntmps113
      go_wp2
      go_ret
      exact ⟨by rw [HN.out]; rfl, rfl⟩
    · have HN : Hid (isFin k x = false) := by show _ = _; unfold isFin; simp [hk, h]
      have hd : decide (64 ≤ x) = false := by simpa using h
      clear hk
      go_enter Tryz.func113, Tryz.ntmps113
      go_wp2
      go_ret
      exact ⟨by rw [HN.out]; rfl, rfl⟩
theorem opens_any (x : Int) (w : World) : Calls Tryz.prog 107 #[.int .u8 x] w fun e w' => e = .returned (.string (nm (opens x))) ∧ w = w' := by
  have hc : x = 91 ∨ x = 93 ∨ x = 80 ∨ x = 88 ∨ x = 94 ∨ x = 95 ∨ ((x == 91) = false ∧ (x == 93) = false ∧ (x == 80) = false ∧ (x == 88) = false ∧ (x == 94) = false ∧ (x == 95) = false) := by simp; omega
  rcases hc with rfl | rfl | rfl | rfl | rfl | rfl | ⟨h1, h2, h3, h4, h5, h6⟩
  · go_enter Tryz.func107, Tryz.ntmps107
    go_wp2
    go_ret
    exact ⟨rfl, rfl⟩
  · go_enter Tryz.func107, Tryz.ntmps107
    go_wp2
    go_ret
    exact ⟨rfl, rfl⟩
  · go_enter Tryz.func107, Tryz.ntmps107
    go_wp2
    go_ret
    exact ⟨rfl, rfl⟩
  · go_enter Tryz.func107, Tryz.ntmps107
    go_wp2
    go_ret
    exact ⟨rfl, rfl⟩
  · go_enter Tryz.func107, Tryz.ntmps107
    go_wp2
    go_ret
    exact ⟨rfl, rfl⟩
  · go_enter Tryz.func107, Tryz.ntmps107
    go_wp2
    go_ret
    exact ⟨rfl, rfl⟩
  · have HN : Hid (opens x = 0) := by
      show _ = _
      simp at h1 h2 h3 h4 h5 h6
      unfold opens; rw [if_neg h1, if_neg h2, if_neg h3, if_neg (by omega)]
    go_enter Tryz.func107, Tryz.ntmps107
    go_wp2
    go_ret
    exact ⟨by rw [HN.out]; rfl, rfl⟩
theorem run_index_bs (w : World) (u : UInt8) (r : Tx) : (Instr.index 9 (.string (bs (u :: r))) (.int .i64 0)).run Tryz.prog w = .ok (.int .u8 (u.toNat : Int)) w := by
  have hs := bs_size (u :: r)
  rw [List.length_cons] at hs
  rw [run_index_string w 9 (bs (u :: r)) .i64 0 Tryz.underlying9, dif_pos ⟨by omega, by omega⟩]
  have e : (bs (u :: r))[0]'(by omega) = u := by
    show (bs (u :: r)).data[0]'(show 0 < (bs (u :: r)).size by omega) = u
    rw [← Array.getElem_toList]
    simp [bs]
  show Result.ok (Value.int .u8 ((((bs (u :: r))[0]'(by omega)).toNat : Nat) : Int)) w = _
  rw [e]
theorem run_slice_bs (w : World) (u : UInt8) (r : Tx) : (Instr.slice 9 (.string (bs (u :: r))) (some (.int .i64 1)) none none).run Tryz.prog w = .ok (.string (bs r)) w := by
  have hs := bs_size (u :: r)
  rw [List.length_cons] at hs
  rw [run_slice_string_from_if w 9 (bs (u :: r)) .i64 1 Tryz.underlying9, if_pos ⟨by omega, by omega⟩]
  have e : (bs (u :: r)).extract (1 : Int).toNat (bs (u :: r)).size = bs r := by
    refine ByteArray.ext ?_
    apply Array.ext'
    rw [Lib.extract_data, hs]
    simp [bs]
  rw [e]
/-- A text without the mark ahead. -/
theorem unmarked_any (l : Tx) (hl : l.length ≤ 1000000000) (w : World) : Calls Tryz.prog 149 #[.string (bs l)] w fun e w' => e = .returned (.string (bs (bare l))) ∧ w = w' := by
  cases l with
  | nil =>
    rw [bs_nil]
    go_enter Tryz.func149, Tryz.ntmps149
    go_wp2
    go_ret
    exact ⟨rfl, rfl⟩
  | cons u r =>
    have hm := isMark_any (u.toNat : Int)
    have hix : ∀ w : World, (Instr.index 9 (.string (bs (u :: r))) (.int .i64 0)).run Tryz.prog w = .ok (.int .u8 (u.toNat : Int)) w := fun w => run_index_bs w u r
    have hsl : ∀ w : World, (Instr.slice 9 (.string (bs (u :: r))) (some (.int .i64 1)) none none).run Tryz.prog w = .ok (.string (bs r)) w := fun w => run_slice_bs w u r
    have he1 : (bs (u :: r)).toList.isEmpty = false := by rw [bs_tl]; rfl
    have he2 : ((bs (u :: r)).toList == []) = false := by rw [bs_tl]; rfl
    have hsz := bs_size (u :: r)
    cases hk : isMk (u.toNat : Int) with
    | true =>
      have HN : Hid (bare (u :: r) = r) := by show (if isMk (u.toNat : Int) = true then r else u :: r) = r; rw [if_pos hk]
      rw [hk] at hm
      rw [HN.out]
      generalize bs (u :: r) = X at *
      generalize bs r = Y at *
      clear hk hsz hl
      go_enter Tryz.func149, Tryz.ntmps149
      go_wp2_with (go_at_call 151; refine (hm _).mono ?_; rintro e w' ⟨rfl, rfl⟩)
      go_ret
      exact ⟨rfl, rfl⟩
    | false =>
      have HN : Hid (bare (u :: r) = u :: r) := by show (if isMk (u.toNat : Int) = true then r else u :: r) = u :: r; rw [if_neg (by rw [hk]; decide)]
      rw [hk] at hm
      rw [HN.out]
      generalize bs (u :: r) = X at *
      clear hk hsz hl
      go_enter Tryz.func149, Tryz.ntmps149
      go_wp2_with (go_at_call 151; refine (hm _).mono ?_; rintro e w' ⟨rfl, rfl⟩)
      go_ret
      exact ⟨rfl, rfl⟩
end Go.Proofs.YtjklnnklgkihlaaGreatDoor.Vt
/- The walks of a parser's own small methods: New, State, Reset, begin, drop. -/
namespace Go.Proofs.YtjklnnklgkihlaaGreatDoor.Vt
open Go.RowKit
open Cel (Blk Kept Tabs low Owns At)

theorem blk_of {w : World} {g : Nat} {t : TypeId} {cs ds : Array Value} (h : Blk w g t cs) (e : cs = ds) : Blk w g t ds := e ▸ h
theorem blk_new1 (w : World) (o : Obj) (t : TypeId) (cs : Array Value) : Blk ((w.alloc o).alloc (.cells cs t)) (w.heap.size + 1) t cs := heap_alloc2_new w o _
theorem new_any (w : World) (B : Nat) (hB : B ≤ w.heap.size) : Calls Tryz.prog 64 #[] w fun e w' => e = .returned (ptr (w.heap.size + 1)) ∧ PAt w' B (w.heap.size + 1) w.heap.size nilV nilV ps0 ∧ Below w.heap.size w w' ∧ w'.heap.size = w.heap.size + 2 := by
  go_enter Tryz.func64, Tryz.ntmps64
  go_wp2_with (go_at_call 104; refine (Cel.new_any _).mono ?_; rintro e w1 ⟨rfl, rfl⟩)
  go_ret
  have h1 : At (w.alloc (.cells Cel.zero.cells 171)) w.heap.size Cel.zero := Blk.new _ _ _
  refine ⟨by simp, ⟨blk_of (t := 101) (blk_new1 w _ _ _) rfl, Blk.alloc h1 _, ints_nil _ _, fun _ => rfl, byts_nil _ _, bd0, by omega, hB⟩, ((Below.refl _ _).alloc (Nat.le_refl _) _).alloc (by simp) _, by simp⟩
/-- What a parser has begun, as cells. -/
abbrev seqC (k : Int) : Array Value := #[.int .i64 k, .int .i32 0, .int .u8 0, nilV, .string { data := #[] }, .string { data := #[] }, nilV, .bool false]
section
variable {ops : Array Oper} {rest : List Oper} {op : Oper} {a : Act} {w : World} {Q : Exit → Act → World → Prop}
theorem wpList_store_seq (hgd : op.guard = none) (x y : Operand) (ho : op.op = .store 99 x y) {pb db : Nat} {pv tv : Value} {S : Ps} (k : Int) (hx : a.eval x = .pointer (some ⟨pb, 2, none⟩)) (hy : a.eval y = .agg (seqC k))
    (hb : Blk w pb 101 (parL S pv tv db).toArray)
    (h : ∀ w', Blk w' pb 101 (parL { S with k := k, b := 0, ps := [], it := [], tx := [], af := false } nilV nilV db).toArray → Kept w w' (fun i => i = pb) → wpList Tryz.prog ops Q rest (a.put op.dst undef) w') :
    wpList Tryz.prog ops Q (op :: rest) a w := by
  have ht : w.there pb 2 8 := fun j hj => by
    refine ⟨?_, hb.frozen _⟩
    rw [hb.cell]
    simp [parL]
    omega
  have hi : (Tryz.prog.info? 99).map (·.size) = some (seqC k).size := by show _ = some 8; kernel_rfl
  have h1 : (seqC k).all (·.oneCell') = true := by simp [Value.oneCell']
  have e : ((seqC k).toList.zipIdx 2).foldl (fun c p => c.setIfInBounds p.2 p.1) (parL S pv tv db).toArray = (parL { S with k := k, b := 0, ps := [], it := [], tx := [], af := false } nilV nilV db).toArray := by
    unfold parL
    generalize nm S.s = z
    simp [bs]
  have hb' := Blk.setCells (seqC k).toList 2 hb
  rw [e] at hb'
  refine wpList_store_mid hgd 99 x y ho pb 2 (seqC k) hx hy ht hi h1 ?_
  exact h _ hb' (kept_setCells pb _ 2 w)
end
theorem begin_any {w : World} {pb db : Nat} {pv tv : Value} {S : Ps} (h : Blk w pb 101 (parL S pv tv db).toArray) (k : Int) :
    Calls Tryz.prog 69 #[ptr pb, .int .i64 k] w fun e w' => e = .returned (.tuple #[]) ∧ Blk w' pb 101 (parL { S with k := k, b := 0, ps := [], it := [], tx := [], af := false } nilV nilV db).toArray ∧ Kept w w' (fun i => i = pb) := by
  go_enter Tryz.func69, Tryz.ntmps69
  go_wp2_with (refine wpList_store_seq rfl (.tmp 9) (.tmp 7) rfl k rfl rfl h ?_; intro w1 hb1 hk1)
  go_end0
  exact ⟨rfl, hb1, hk1⟩
theorem drop_any {w : World} {pb db : Nat} {pv tv : Value} {S : Ps} (h : Blk w pb 101 (parL S pv tv db).toArray) (hd : At w db S.d) (hi : Cel.Inv S.d) :
    Calls Tryz.prog 108 #[ptr pb] w fun e w' => e = .returned (.tuple #[]) ∧ Blk w' pb 101 (parL ps0 nilV nilV db).toArray ∧ At w' db Cel.zero ∧ Kept w w' (fun i => i = pb ∨ i = db) := by
  have hne : pb ≠ db := Blk.far' h hd (by decide)
  have c0 : w.cell? ⟨pb, 0, none⟩ = some (.string (nm S.s)) := h.cell 0
  have f0 := h.frozen 0
  have h1 : Blk (w.setCell ⟨pb, 0, none⟩ (.string { data := #[103, 114, 111, 117, 110, 100] })) pb 101 (parL { S with s := 0 } pv tv db).toArray := h.set_ 0 _
  have k1 : Kept w (w.setCell ⟨pb, 0, none⟩ (.string { data := #[103, 114, 111, 117, 110, 100] })) (fun i => i = pb) := Kept.setCell (p := fun i => i = pb) (Kept.refl w _) (a := ⟨pb, 0, none⟩) rfl _
  go_enter Tryz.func108, Tryz.ntmps108
  go_wp2_with (refine wpList_store_seq rfl (.tmp 8) (.tmp 6) rfl 0 rfl rfl h1 ?_; intro w2 hb2 hk2; have c1 : w2.cell? ⟨pb, 1, none⟩ = some (ptr db) := hb2.cell 1)
  refine (Cel.end_any S.d hi db _ (hk2.blk (k1.blk hd fun e => hne e.symm) fun e => hne e.symm)).mono ?_
  rintro e w3 ⟨v, rfl, hz, _, hk3⟩
  go_wp2
  go_end0
  exact ⟨rfl, hk3.blk hb2 hne, hz, ((k1.more fun _ e => .inl e).trans hk2 fun _ _ e => .inl e).trans hk3 fun _ _ e => .inr e⟩
end Go.Proofs.YtjklnnklgkihlaaGreatDoor.Vt
/- The walks of a Feed's telling: an action, runes, a control, what was begun. -/
namespace Go.Proofs.YtjklnnklgkihlaaGreatDoor.Vt
open Go.RowKit
open Cel (Blk Kept Tabs low Owns At)

theorem info_act : (Tryz.prog.info? 65).map (fun i => (i.zero, i.size, i.bytes)) = some (some (.agg #[.int .i64 0, .int .i32 0, .int .u8 0, nilV, .string { data := #[] }, .string { data := #[] }]), 6, 72) := by kernel_rfl
/-- What a call leaves that has told l behind C. -/
def Told (K : Ctx) (w0 : World) (C0 : Cfg) (C : Cfg) (l : List To) (e : Ending) (w' : World) : Prop :=
  e = .returned (.tuple #[]) ∧ ∃ ov', Sys K w' { C with ov := ov', out := C.out ++ l } ∧ Fr K w0 C0 w' { C with ov := ov', out := C.out ++ l }

section
variable {ops : Array Oper} {rest : List Oper} {op : Oper} {a : Act} {w : World} {Q : Exit → Act → World → Prop}
/-- One action appended to a list of the call's own. -/
theorem wpList_append_act (hgd : op.guard = none) (s x : Operand) (ho : op.op = .call { callee := .builtin .append, args := #[s, x], argTypes := #[61, 61] })
    (base : Nat) (v : Value) (l : List To) (t : To) (g c : Nat) (hs : a.eval s = v) (hown : w.ownsRow base 65 6 v l.length (flat l)) (hx : a.eval x = .slice (some ⟨g, 0, none⟩) 1 c) (hg : Blk w g 65 (acL t).toArray) (hbase : base ≤ w.heap.size) (h1c : t.2.oneCell' = true) (hn : l.length ≤ 4294967296)
    (h : ∀ v' w', w'.ownsRow base 65 6 v' (l ++ [t]).length (flat (l ++ [t])) → Kept w w' (fun k => v.ownBlock = some k) → (v'.ownBlock = v.ownBlock ∨ ∃ k, v'.ownBlock = some k ∧ w.heap.size ≤ k) → wpList Tryz.prog ops Q rest (a.put op.dst v') w') :
    wpList Tryz.prog ops Q (op :: rest) a w := by
  obtain ⟨i0, hi0, hz0, hz1, hz2⟩ := info_parts info_act
  refine wpList_append_own_at _ hgd s x 61 ho base 65 i0 _ 6 72 Tryz.underlying61 hi0 hz0 hz1 hz2 rfl (by decide) v l.length (flat l) hs hown ⟨g, 0, none⟩ 1 c (acL t) hx rfl ?_ ?_ (by unfold maxLen; omega) (by omega) hbase ?_
  · intro j u hj
    have ha : (⟨g, 0, none⟩ : Addr).add j = ⟨g, j, none⟩ := by unfold Addr.add; split <;> simp_all
    rw [ha, hg.cell]
    simpa using hj
  · intro u hu
    simp only [acL, List.mem_cons, List.not_mem_nil, or_false] at hu
    rcases hu with rfl | rfl | rfl | rfl | rfl | rfl <;> first | rfl | exact h1c
  · intro v' w' h1 h2 _ h4
    refine h v' w' ?_ ((Kept.refl w _).grown h2 fun j hj _ => hj) ?_
    · rw [List.length_append, flat_app]
      simpa [flat] using h1
    · rcases h4 with h4 | h4
      · exact .inl h4
      · exact .inr ⟨_, h4, Nat.le_refl _⟩
end

theorem own_one {w : World} {base e size n : Nat} {v : Value} {xs : List Value} (h : w.ownsRow base e size v n xs) : v.oneCell' = true := by
  rcases h.2 with ⟨rfl, _⟩ | ⟨g, cap, cur, rfl, _⟩ <;> rfl
theorem own_some {w : World} {base e size n : Nat} {v : Value} {xs : List Value} (h : w.ownsRow base e size v n xs) (hn : n ≠ 0) : ∃ g m cap, v = .slice (some ⟨g, 0, none⟩) m cap := by
  rcases h.2 with ⟨_, h0⟩ | ⟨g, cap, cur, rfl, _⟩
  · exact absurd h0 hn
  · exact ⟨g, _, cap, rfl⟩
theorem tell_any {K : Ctx} {w w0 : World} {C C0 : Cfg} (h : Sys K w C) (hf : Fr K w0 C0 w C) (t : To) (ht : Ints w K.B t.2 t.1.ps) (hta : ∀ i, t.2.ownBlock = some i → C.pv.ownBlock ≠ some i) (ht0 : ∀ i, t.2.ownBlock = some i → w0.heap.size ≤ i) (hn : C.out.length ≤ 4294967296) :
    Calls Tryz.prog 40 #[.agg #[.int .i64 t.1.k, .int .i32 t.1.r, .int .u8 t.1.b, t.2, .string (bs t.1.it), .string (bs t.1.tx)], ptr K.ob] w (Told K w0 C0 C [t]) := by
  have c0 : w.cell? ⟨K.ob, 0, none⟩ = some C.ov := h.var.cell 0
  have f0 := h.var.frozen 0
  have hlt := h.var.lt
  have hsz := (h.lt _ (.inl (.inl rfl)))
  obtain ⟨o, ho⟩ : ∃ o, o = Obj.cells (acL t).toArray 65 := ⟨_, rfl⟩
  have hb2 : Blk ((w.alloc o).alloc o) (w.heap.size + 1) 65 (acL t).toArray := by rw [ho]; exact blk_new1 w _ _ _
  have ho2 := (h.out.alloc o).alloc o
  have hv2 : Blk ((w.alloc o).alloc o) K.ob _ _ := (h.var.alloc o).alloc o
  have hk2 : Kept w ((w.alloc o).alloc o) (fun _ => False) := ((Kept.refl w _).alloc o).alloc o
  have ho' : Obj.cells #[.int .i64 t.1.k, .int .i32 t.1.r, .int .u8 t.1.b, t.2, .string (bs t.1.it), .string (bs t.1.tx)] 65 = o := by rw [ho]; rfl
  have h1c := own_one ht
  have HO := Lib.hid ho'
  clear ho ho'
  have htk := own_far ht h.var (by decide)
  have hto := own_apart ht h.out (by decide)
  go_enter Tryz.func40, Tryz.ntmps40
  go_wp2_with (at_builtin; (try rw [HO.out]); refine wpList_append_act rfl (.tmp 3) (.tmp 5) rfl K.B C.ov C.out t (w.heap.size + 1) 1 rfl ho2 rfl hb2 (by simp; omega) h1c hn ?_; intro v' w3 ho3 hk3 hat3; have hv3 := hk3.blk hv2 h.sep.oo; have c3 := hv3.cell 0; have f3 := hv3.frozen 0; obtain ⟨g3, m3, cap3, rfl⟩ := own_some ho3 (by simp))
  go_end0
  have hk : Kept w w3 (fun i => i = K.ob ∨ C.ov.ownBlock = some i) := (hk2.more (q := fun i => i = K.ob ∨ C.ov.ownBlock = some i) fun _ e => e.elim).trans hk3 fun _ _ e => .inr e
  have hk' := hk.setCell (a := ⟨K.ob, 0, none⟩) (.inl rfl) (.slice (some ⟨g3, 0, none⟩) m3 cap3)
  have hk4 : Kept w3 (w3.setCell ⟨K.ob, 0, none⟩ (.slice (some ⟨g3, 0, none⟩) m3 cap3)) (fun i => i = K.ob) := Kept.setCell (p := fun i => i = K.ob) (Kept.refl w3 _) (a := ⟨K.ob, 0, none⟩) rfl _
  refine ⟨rfl, .slice (some ⟨g3, 0, none⟩) m3 cap3, Sys.tell h hk' t _ ?_ ?_ ?_ ht hta ?_ w0 C0 hf ht0⟩
  · exact hv3.set_ 0 (.slice (some ⟨g3, 0, none⟩) m3 cap3)
  · exact hk4.owns ho3 fun k hk5 e => own_far ho3 hv3 (by decide) (by rw [hk5, e])
  · rcases hat3 with q | ⟨k, q, hq⟩
    · exact .inl q
    · exact .inr ⟨k, q, by simp at hq; omega⟩
  · exact fun i hi => ⟨fun e => htk (by rw [hi, e]), hto i hi⟩
end Go.Proofs.YtjklnnklgkihlaaGreatDoor.Vt
/- The walks of a Feed's telling, on: runes, a control. -/
namespace Go.Proofs.YtjklnnklgkihlaaGreatDoor.Vt
open Go.RowKit
open Cel (Blk Kept Tabs low Owns At)

def prts (l : List Int) : List To := l.map fun r => (prt r, nilV)
theorem prts_app (a b : List Int) : prts (a ++ b) = prts a ++ prts b := by simp [prts]
theorem prts_len (l : List Int) : (prts l).length = l.length := by simp [prts]
theorem tell_prt {K : Ctx} {w : World} {C : Cfg} (h : Sys K w C) (r : Int) (hn : C.out.length ≤ 4294967296) :
    Calls Tryz.prog 40 #[.agg #[.int .i64 1, .int .i32 r, .int .u8 0, .slice none 0 0, .string { data := #[] }, .string { data := #[] }], .pointer (some ⟨K.ob, 0, none⟩)] w (Told K w C C [(prt r, nilV)]) :=
  tell_any h (Fr.refl _ _ _) (prt r, nilV) (ints_nil _ _) (fun i hi => by cases hi) (fun i hi => by cases hi) hn
theorem tell_ctl {K : Ctx} {w : World} {C : Cfg} (h : Sys K w C) (x : Int) (hn : C.out.length ≤ 4294967296) :
    Calls Tryz.prog 40 #[.agg #[.int .i64 2, .int .i32 0, .int .u8 x, .slice none 0 0, .string { data := #[] }, .string { data := #[] }], .pointer (some ⟨K.ob, 0, none⟩)] w (Told K w C C [(ctl x, nilV)]) :=
  tell_any h (Fr.refl _ _ _) (ctl x, nilV) (ints_nil _ _) (fun i hi => by cases hi) (fun i hi => by cases hi) hn

/-- A list of runes that lies beside the Feed. -/
theorem owns_keep {K : Ctx} {w w' : World} {C C' : Cfg} {base : Nat} {v : Value} {l : List Int} (hs : Sys K w C) (h : Owns w base v l) (hf : Fr K w C w' C') : Owns w' base v l := by
  refine hf.kept.owns h fun k hk hw => ?_
  rcases hw with (e | e | e | e) | e | e | e
  · exact own_far h hs.P.par (by decide) (by rw [hk, e])
  · exact own_far h hs.P.dec (by decide) (by rw [hk, e])
  · exact own_apart h hs.P.prm (by decide) k hk e
  · exact own_apart h hs.P.txt (by decide) k hk e
  · exact own_far h hs.fee (by decide) (by rw [hk, e])
  · exact own_far h hs.var (by decide) (by rw [hk, e])
  · exact own_apart h hs.out (by decide) k hk e

theorem own_slice {w : World} {base e size n : Nat} {v : Value} {xs : List Value} (h : w.ownsRow base e size v n xs) : ∃ A c, v = .slice A n c := by
  rcases h.2 with ⟨rfl, rfl⟩ | ⟨g, cap, cur, rfl, _⟩ <;> exact ⟨_, _, rfl⟩
theorem own_addr {w : World} {base e size n : Nat} {A : Option Addr} {m c : Nat} {xs : List Value} (h : w.ownsRow base e size (.slice A m c) n xs) (hn : 0 < n) : ∃ g, A = some ⟨g, 0, none⟩ := by
  rcases h.2 with ⟨_, h0⟩ | ⟨g, cap, cur, e, _⟩
  · omega
  · injection e with e; exact ⟨g, e⟩
theorem owns_cell {w : World} {base : Nat} {g m c : Nat} {l : List Int} (h : Owns w base (.slice (some ⟨g, 0, none⟩) m c) l) (k : Nat) (hk : k < l.length) : w.cell? ⟨g, k, none⟩ = some (.int .i32 (l[k])) := by
  have := h.cells (g := g) rfl k (.int .i32 l[k]) (by simp [Cel.zs, hk])
  have e : (⟨g, 0, none⟩ : Addr).add k = ⟨g, k, none⟩ := by unfold Addr.add; split <;> simp_all
  rw [e] at this
  exact this

set_option maxRecDepth 100000 in
set_option maxHeartbeats 400000 in
theorem print_any {K : Ctx} {w : World} {C : Cfg} (h : Sys K w C) (base : Nat) (v : Value) (l : List Int) (hl : Owns w base v l) (hn : C.out.length + l.length ≤ 4294967296) :
    Calls Tryz.prog 75 #[ptr K.fb, v] w (Told K w C C (prts l)) := by
  obtain ⟨A, c, rfl⟩ := own_slice hl
  have HPO : Hid (∀ k, (prts (l.take k)).length ≤ l.length) := fun k => by rw [prts_len, List.length_take]; omega
  go_enter Tryz.func75, Tryz.ntmps75
  go_wp2
  go_loopw [8] (fun i wr => ∃ k : Nat, k ≤ l.length ∧ i = .int .i64 k ∧ ∃ ov', Sys K wr { C with ov := ov', out := C.out ++ prts (l.take k) } ∧ Fr K w C wr { C with ov := ov', out := C.out ++ prts (l.take k) }) (fun i _ => l.length - (intOf i).toNat)
  case atStart => exact ⟨0, Nat.zero_le _, rfl, C.ov, by simpa [prts] using h, by simpa [prts] using Fr.refl K w C⟩
  case round =>
    obtain ⟨k, hk, rfl, ov', hs, hf2⟩ := hrel
    by_cases hlt : k < l.length
    · have hown := owns_keep h hl hf2
      obtain ⟨g, rfl⟩ := own_addr hown (by omega)
      have hc := owns_cell hown k hlt
      have c4 : wr.cell? ⟨K.fb, 4, none⟩ = some (tellV K.ob) := hs.fee.cell 4
      have HT : Hid (prts (l.take (k + 1)) = prts (l.take k) ++ [(prt l[k], nilV)]) := by
        show _ = _
        rw [List.take_succ_eq_append_getElem hlt, prts_app]; rfl
      have hlen := HPO.out k
      have hn2 : (C.out ++ prts (l.take k)).length ≤ 4294967296 := by rw [List.length_append]; omega
      have ht := tell_prt hs l[k] hn2
      clear hn2 hlen
      go_wp2_with (go_at_call 40; refine ht.mono ?_; rintro e w2 ⟨rfl, ov2, hs2, hf3⟩)
      go_roundw
      case rel =>
        refine ⟨k + 1, by omega, by go_num, ov2, ?_⟩
        rw [HT.out, ← List.append_assoc]
        exact ⟨hs2, hf2.trans hf3⟩
      case measure => simp [intOf]; omega
    · have HT : Hid (l.take k = l) := by show _ = _; exact List.take_of_length_le (by omega)
      go_wp2
      go_end0
      rw [HT.out] at hs hf2
      exact ⟨rfl, ov', hs, hf2⟩
set_option maxRecDepth 100000 in
/-- A control: what is pending is told first. -/
theorem control_any {K : Ctx} {w : World} {C : Cfg} (h : Sys K w C) (hn : C.out.length ≤ 4294967290) :
    Calls Tryz.prog 112 #[ptr K.fb] w fun e w' => e = .returned (.tuple #[]) ∧ ∃ C', Sys K w' C' ∧ Fr K w C w' C' ∧ C'.j = C.j ∧ C'.x = C.x ∧ C'.S = { C.S with d := Cel.zero } ∧ C'.out = C.out ++ (prts (Cel.lost C.S.d) ++ [(ctl C.x, nilV)]) := by
  have c0 : w.cell? ⟨K.fb, 0, none⟩ = some (ptr K.pb) := h.fee.cell 0
  have c1 : w.cell? ⟨K.pb, 1, none⟩ = some (ptr K.db) := h.P.par.cell 1
  have hl : (Cel.lost C.S.d).length ≤ 1 := by unfold Cel.lost; split <;> simp
  have he := Cel.end_any C.S.d h.P.bd.di K.db w h.P.dec
  go_enter Tryz.func112, Tryz.ntmps112
  go_wp2_with fail
  refine he.mono ?_
  rintro e w1 ⟨v, rfl, hz, ho, hk⟩
  obtain ⟨s1, f1⟩ := h.setD hk Cel.zero hz Cel.inv_zero
  have hn1 : C.out.length + (Cel.lost C.S.d).length ≤ 4294967296 := by omega
  have hp := print_any s1 w.heap.size v _ ho hn1
  clear he c0 c1
  go_wp2_with fail
  refine hp.mono ?_
  rintro e w2 ⟨rfl, ov2, s2, f2⟩
  have c4 : w2.cell? ⟨K.fb, 4, none⟩ = some (tellV K.ob) := s2.fee.cell 4
  have c3 : w2.cell? ⟨K.fb, 3, none⟩ = some (.int .u8 C.x) := s2.fee.cell 3
  have hn2 : (C.out ++ prts (Cel.lost C.S.d)).length ≤ 4294967296 := by rw [List.length_append, prts_len]; omega
  have ht := tell_ctl s2.drew C.x hn2
  clear hp ho hz hk
  go_wp2_with fail
  go_still_tail 9, (by kernel_rfl)
  change wpList _ _ _ _ _ w2.drew
  go_wp2_with fail
  refine ht.mono ?_
  rintro e w3 ⟨rfl, ov3, s3, f3⟩
  go_wp2
  go_end0
  exact ⟨rfl, _, s3, (f1.trans f2).trans ((Fr.same (p := fun _ => False) (Kept.refl w2 _).drew fun _ hf => hf.elim).trans f3), rfl, rfl, rfl, by rw [List.append_assoc]⟩
end Go.Proofs.YtjklnnklgkihlaaGreatDoor.Vt
/- The walks of slices.Clone at ints and of a Feed's telling of what was begun. -/
namespace Go.Proofs.YtjklnnklgkihlaaGreatDoor.Vt
open Go.RowKit
open Cel (Blk Kept Tabs low Owns At)

theorem info_int : (Tryz.prog.info? 3).map (fun i => (i.zero, i.size, i.bytes)) = some (some (.int .i64 0), 1, 8) := by kernel_rfl
theorem ints_one (l : List Int) : ∀ u ∈ ints l, u.oneCell' = true := by
  intro u hu
  obtain ⟨z, _, rfl⟩ := List.mem_map.1 hu
  rfl
section
variable {ops : Array Oper} {rest : List Oper} {op : Oper} {a : Act} {w : World} {Q : Exit → Act → World → Prop}
/-- Ints appended to a list of the call's own. -/
theorem wpList_append_ints (hgd : op.guard = none) (s x : Operand) (ho : op.op = .call { callee := .builtin .append, args := #[s, x], argTypes := #[63, 63] })
    (base : Nat) (v : Value) (l k : List Int) (g m c : Nat) (hs : a.eval s = v) (hown : Ints w base v l) (hx : a.eval x = .slice (some ⟨g, 0, none⟩) m c) (hm : m = k.length) (hg : ∀ (j : Nat) (z : Int), k[j]? = some z → w.cell? ⟨g, j, none⟩ = some (.int .i64 z)) (hbase : base ≤ w.heap.size) (hn : l.length + k.length ≤ 4294967296)
    (h : ∀ v' w', Ints w' base v' (l ++ k) → Kept w w' (fun j => v.ownBlock = some j) → (v'.ownBlock = v.ownBlock ∨ ∃ j, v'.ownBlock = some j ∧ w.heap.size ≤ j) → wpList Tryz.prog ops Q rest (a.put op.dst v') w') :
    wpList Tryz.prog ops Q (op :: rest) a w := by
  subst hm
  obtain ⟨i0, hi0, hz0, hz1, hz2⟩ := info_parts info_int
  refine wpList_append_own_at _ hgd s x 63 ho base 3 i0 _ 1 8 Tryz.underlying63 hi0 hz0 hz1 hz2 rfl (by decide) v l.length (ints l) hs hown ⟨g, 0, none⟩ k.length c (ints k) hx (by rw [ints_len]; omega) ?_ (ints_one k) (by unfold maxLen; omega) (by omega) hbase ?_
  · intro j u hj
    have ha : (⟨g, 0, none⟩ : Addr).add j = ⟨g, j, none⟩ := by unfold Addr.add; split <;> simp_all
    unfold ints at hj
    rw [List.getElem?_map] at hj
    obtain ⟨z, hz, rfl⟩ := Option.map_eq_some_iff.1 hj
    rw [ha]
    exact hg j z hz
  · intro v' w' h1 h2 _ h4
    refine h v' w' ?_ ((Kept.refl w _).grown h2 fun j hj _ => hj) ?_
    · show w'.ownsRow base _ 1 v' (l ++ k).length (ints (l ++ k))
      rw [List.length_append, ints_app]
      exact h1
    · rcases h4 with h4 | h4
      · exact .inl h4
      · exact .inr ⟨_, h4, Nat.le_refl _⟩
end
theorem ints_cell {w : World} {base : Nat} {g m c : Nat} {l : List Int} (h : Ints w base (.slice (some ⟨g, 0, none⟩) m c) l) (k : Nat) (z : Int) (hk : l[k]? = some z) : w.cell? ⟨g, k, none⟩ = some (.int .i64 z) := by
  have := h.cells (g := g) rfl k (.int .i64 z) (by simp [ints, hk])
  have e : (⟨g, 0, none⟩ : Addr).add k = ⟨g, k, none⟩ := by unfold Addr.add; split <;> simp_all
  rw [e] at this
  exact this
theorem own_some2 {w : World} {base e size n : Nat} {v : Value} {xs : List Value} (h : w.ownsRow base e size v n xs) (hn : n ≠ 0) : ∃ g m cap, v = .slice (some ⟨g, 0, none⟩) m cap ∧ m = n := by
  rcases h.2 with ⟨_, h0⟩ | ⟨g, cap, cur, rfl, _⟩
  · exact absurd h0 hn
  · exact ⟨g, _, cap, rfl, rfl⟩
set_option maxRecDepth 100000 in
theorem clone_any {w : World} {B : Nat} {v : Value} {l : List Int} (h : Ints w B v l) (hnil : l = [] → v = nilV) (hn : l.length ≤ 4294967296) :
    Calls Tryz.prog 109 #[v] w fun e w' => ∃ v', e = .returned v' ∧ Ints w' w.heap.size v' l ∧ Below w.heap.size w w' := by
  by_cases hl : l = []
  · rw [hnil hl]
    subst hl
    have hq := fun (w : World) => Lib.run_eql_slice_nil (P := Tryz.prog) w 63 3 none 0 0 0 0 Tryz.underlying63
    go_enter Tryz.func109, Tryz.ntmps109
    go_wp2
    go_ret
    exact ⟨_, rfl, ints_nil _ _, Below.refl _ _⟩
  · have hl0 : l.length ≠ 0 := fun e => hl (List.eq_nil_of_length_eq_zero e)
    obtain ⟨g, m, cap, rfl, e2⟩ := own_some2 h hl0
    have HM := Lib.hid e2
    have hgl := (h.lt g rfl).2
    have hn' : ([] : List Int).length + l.length ≤ 4294967296 := by simpa using hn
    have hq := fun (w : World) => Lib.run_eql_slice_nil (P := Tryz.prog) w 63 3 (some ⟨g, 0, none⟩) m cap 0 0 Tryz.underlying63
    clear e2 hnil
    have hown : Ints (w.alloc (.cells #[] 3)) w.heap.size (.slice (some ⟨w.heap.size, 0, none⟩) 0 0) [] := World.ownsRow_made w #[] 0 (Nat.le_refl _) (by unfold maxLen; omega) rfl
    have hsrc : ∀ (j : Nat) (z : Int), l[j]? = some z → (w.alloc (.cells #[] 3)).cell? ⟨g, j, none⟩ = some (.int .i64 z) := fun j z hj => ints_cell (h.alloc _) j z hj
    go_enter Tryz.func109, Tryz.ntmps109
    go_wp2_with (at_builtin; refine wpList_append_ints rfl (.tmp 5) (.tmp 6) rfl w.heap.size (.slice (some ⟨w.heap.size, 0, none⟩) 0 0) [] l g m cap rfl hown rfl HM.out hsrc (by simp) hn' ?_; intro v' w2 ho2 hk2 hat2)
    go_ret
    refine ⟨_, rfl, ho2, ((Below.refl _ _).alloc (Nat.le_refl _) _).trans (hk2.below (by simp) fun k hk e => ?_)⟩
    have e2 : w.heap.size = k := by injection e
    omega
end Go.Proofs.YtjklnnklgkihlaaGreatDoor.Vt
