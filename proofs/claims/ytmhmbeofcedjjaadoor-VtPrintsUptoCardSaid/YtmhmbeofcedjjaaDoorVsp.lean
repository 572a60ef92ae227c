/- Layer 5 in plain words: what a parser has begun, what a byte does to it, what it tells. No word of the model. -/
import Derived.Test.YtmhmbeofcedjjaaDoorSpecb
namespace Go.Proofs.YtmhmbeofcedjjaaDoor.Vt
open Cel (Dec zero lost)
abbrev Tx := List UInt8

/-- What is told. -/
structure Ac where
  k : Int
  r : Int
  b : Int
  ps : List Int
  it : Tx
  tx : Tx
/-- A parser: 0 ground, 1 osc, 2 data, 3 string, 4 escape, 5 csi, 6 dcs, 7 ignore; its decoder; what was begun. -/
structure Ps where
  s : Nat
  d : Dec
  k : Int
  b : Int
  ps : List Int
  it : Tx
  tx : Tx
  af : Bool
def ps0 : Ps := ⟨0, zero, 0, 0, [], [], [], false⟩
def prt (r : Int) : Ac := ⟨1, r, 0, [], [], []⟩
def ctl (x : Int) : Ac := ⟨2, 0, x, [], [], []⟩
def act (S : Ps) : Ac := ⟨S.k, 0, S.b, S.ps.take 32, S.it, S.tx⟩

def isTx (s : Nat) : Bool := s == 1 || s == 2 || s == 3
def isHd (s : Nat) : Bool := s != 0 && !isTx s
def isBet (x : Int) : Bool := decide (32 ≤ x) && decide (x ≤ 47)
def isMk (x : Int) : Bool := decide (60 ≤ x) && decide (x ≤ 63)
def isFin (k x : Int) : Bool := decide ((if k = 3 then 48 else 64) ≤ x) && decide (x < 127)
def bare : Tx → Tx
  | [] => []
  | u :: l => if isMk (u.toNat : Int) then l else u :: l
def opens (x : Int) : Nat := if x = 91 then 5 else if x = 93 then 1 else if x = 80 then 6 else if x = 88 ∨ x = 94 ∨ x = 95 then 3 else 0
def opened (S : Ps) (x : Int) : Nat := if S.it ≠ [] then 0 else opens x
def fits (S : Ps) (x : Int) : Bool :=
  if isBet x then decide ((bare S.it).length < 2) else if isMk x then S.it.isEmpty && S.ps.isEmpty else x != 58 && (bare S.it).length == 0
/-- Numbers, and a digit or a ; behind. -/
def more1 (l : List Int) : List Int := if l = [] then [-1] else l
def lastOf (l : List Int) : Int := l.getD (l.length - 1) 0
def digit (l : List Int) (x : Int) : List Int := l.set (l.length - 1) (min (max (lastOf l) 0 * 10 + (x - 48)) 9999)
def withB (l : List Int) (x : Int) : List Int :=
  if x ≠ 59 then digit (more1 l) x else if (more1 l).length - 1 < 32 then more1 l ++ [-1] else more1 l
def add (S : Ps) (u : UInt8) : Ps :=
  if isBet (u.toNat : Int) || isMk (u.toNat : Int) then { S with it := S.it ++ [u] } else { S with ps := withB S.ps (u.toNat : Int) }
def put (S : Ps) (u : UInt8) : Ps := if S.tx.length < 1024 then { S with tx := S.tx ++ [u] } else S
def ground (S : Ps) (x : Int) : Ps × List Ac := ({ S with d := (Cel.step S.d x).1 }, (Cel.step S.d x).2.map prt)
def escP (S : Ps) : Ps := ⟨4, zero, 3, 0, [], [], [], isTx S.s⟩
def escA (S : Ps) : List Ac := (lost S.d).map prt ++ if S.s = 1 ∨ S.s = 2 then [act S] else []
def begun (s : Nat) (k : Int) : Ps := ⟨s, zero, k, 0, [], [], [], false⟩
/-- The final byte of a head; S has it already. -/
def ended (S : Ps) (x : Int) : Ps × List Ac :=
  if S.s = 4 then
    if opened S x = 5 then ({ S with s := 5, k := 4, b := 0, ps := [], it := [], tx := [], af := false }, [])
    else if opened S x = 6 then ({ S with s := 6, k := 6, b := 0, ps := [], it := [], tx := [], af := false }, [])
    else if opened S x = 1 then ({ S with s := 1, k := 5, b := 0, ps := [], it := [], tx := [], af := false }, [])
    else if opened S x = 3 then ({ S with s := 3 }, [])
    else if S.af = true ∧ S.it = [] ∧ x = 92 then (ps0, [])
    else (ps0, [act S])
  else if S.s = 5 then (ps0, [act S])
  else ({ S with s := 2 }, [])
def step (S : Ps) (u : UInt8) : Ps × List Ac :=
  let x : Int := u.toNat
  if x = 24 ∨ x = 26 then (ps0, [])
  else if x = 27 then (escP S, escA S)
  else if isTx S.s then
    if S.s = 1 ∧ x = 7 then (ps0, [act S])
    else if x < 32 then (S, [])
    else if S.s = 3 then (S, []) else (put S u, [])
  else if x < 32 then ({ S with d := zero }, (lost S.d).map prt ++ [ctl x])
  else if 127 < x ∧ isHd S.s = true then ground ps0 x
  else if x = 127 then (S, [])
  else if S.s = 0 then ground S x
  else if S.s = 7 then if isFin S.k x then (if S.k = 6 then { ps0 with s := 3 } else ps0, []) else (S, [])
  else if isFin S.k x then ended { S with b := x } x
  else if fits S x then (add S u, [])
  else ({ S with s := 7 }, [])
def run : Ps → Tx → Ps × List Ac
  | S, [] => (S, [])
  | S, u :: l => ((run (step S u).1 l).1, (step S u).2 ++ (run (step S u).1 l).2)
theorem run_app (S : Ps) (a b : Tx) : run S (a ++ b) = ((run (run S a).1 b).1, (run S a).2 ++ (run (run S a).1 b).2) := by
  induction a generalizing S with
  | nil => simp [run]
  | cons u a ih => simp only [List.cons_append, run, ih, List.append_assoc]

/-- From byte j on, in state S, it goes on as from byte m on, in state S2, behind what has been told. -/
def Goes (l : Tx) (j : Nat) (S : Ps) (m : Nat) (S2 : Ps) (new : List Ac) : Prop := run S (l.drop j) = ((run S2 (l.drop m)).1, new ++ (run S2 (l.drop m)).2)
section
variable {l : Tx} {j m n : Nat} {S S1 S2 S3 : Ps} {a b : List Ac} {u : UInt8}
theorem Goes.refl : Goes l j S j S [] := by unfold Goes; simp
theorem Goes.trans (h : Goes l j S m S2 a) (k : Goes l m S2 n S3 b) : Goes l j S n S3 (a ++ b) := by
  unfold Goes at *; rw [h, k, List.append_assoc]
theorem Goes.one (hj : j < l.length) (hu : l[j] = u) (hs : step S u = (S2, a)) : Goes l j S (j + 1) S2 a := by
  unfold Goes
  rw [List.drop_eq_getElem_cons hj, hu]
  simp only [run, hs]
theorem Goes.then (h : Goes l j S m S2 a) (hm : m < l.length) (hu : l[m] = u) (hs : step S2 u = (S3, b)) : Goes l j S (m + 1) S3 (a ++ b) := h.trans (Goes.one hm hu hs)
/-- A byte that both take alike. -/
theorem Goes.alike (h : Goes l j S m S2 a) (hm : m < l.length) (hu : l[m] = u) (hs : step S2 u = step S3 u) : Goes l j S m S3 a := by
  have e : run S2 (l.drop m) = run S3 (l.drop m) := by
    rw [List.drop_eq_getElem_cons hm, hu]
    simp only [run, hs]
  unfold Goes at *
  rw [h, e]
theorem Goes.whole (h : Goes l 0 S l.length S2 a) : run S l = (S2, a) := by
  unfold Goes at h
  rw [List.drop_length] at h
  simpa [run] using h
end

/-- The bounds that a parser keeps. -/
structure Bd (S : Ps) : Prop where
  s1 : S.s ≤ 7
  k0 : 0 ≤ S.k
  k1 : S.k ≤ 6
  b0 : 0 ≤ S.b
  b1 : S.b ≤ 255
  pl : S.ps.length ≤ 33
  pz : ∀ p ∈ S.ps, -1 ≤ p ∧ p ≤ 9999
  il : S.it.length ≤ 3
  tl : S.tx.length ≤ 1024
  di : Cel.Inv S.d
theorem bd0 : Bd ps0 := ⟨by decide, by decide, by decide, by decide, by decide, by decide, (fun p hp => by cases hp), by decide, by decide, Cel.inv_zero⟩
theorem u8_le (u : UInt8) : 0 ≤ (u.toNat : Int) ∧ (u.toNat : Int) ≤ 255 := by have := u.toNat_lt; omega
theorem bare_le (l : Tx) : (bare l).length ≤ l.length ∧ l.length ≤ (bare l).length + 1 := by
  unfold bare; split
  · simp
  · split <;> simp
theorem more1_len (l : List Int) : (more1 l).length ≠ 0 ∧ ((more1 l).length = l.length ∨ ((more1 l).length = 1 ∧ l = [])) := by
  unfold more1; split
  · rename_i h; exact ⟨by simp, Or.inr ⟨rfl, h⟩⟩
  · rename_i h; exact ⟨fun e => h (List.eq_nil_of_length_eq_zero e), Or.inl rfl⟩
theorem more1_mem {l : List Int} (h : ∀ p ∈ l, -1 ≤ p ∧ p ≤ 9999) : ∀ p ∈ more1 l, -1 ≤ p ∧ p ≤ 9999 := by
  unfold more1; split
  · intro p hp; simp at hp; omega
  · exact h
theorem withB_len {l : List Int} {x : Int} (h : l.length ≤ 33) : (withB l x).length ≤ 33 ∧ withB l x ≠ [] := by
  obtain ⟨h1, h2⟩ := more1_len l
  have hl : (more1 l).length ≤ 33 := by rcases h2 with h2 | ⟨h2, _⟩ <;> omega
  unfold withB
  split
  · unfold digit
    rw [List.length_set]
    exact ⟨hl, fun e => h1 (by rw [← List.length_set (as := more1 l), e]; rfl)⟩
  · split
    · rw [List.length_append]; exact ⟨by simp only [List.length_singleton]; omega, by simp⟩
    · exact ⟨hl, fun e => h1 (by rw [e]; rfl)⟩
theorem lastOf_mem {l : List Int} (h : l.length ≠ 0) : lastOf l ∈ l := by
  unfold lastOf
  rw [List.getD_eq_getElem?_getD, List.getElem?_eq_getElem (by omega), Option.getD_some]
  exact List.getElem_mem _
theorem withB_mem {l : List Int} {x : Int} (h : ∀ p ∈ l, -1 ≤ p ∧ p ≤ 9999) (hx : 48 ≤ x) : ∀ p ∈ withB l x, -1 ≤ p ∧ p ≤ 9999 := by
  have hm := more1_mem h
  have hl := hm _ (lastOf_mem (more1_len l).1)
  intro p hp
  unfold withB at hp
  split at hp
  · unfold digit at hp
    rcases List.mem_or_eq_of_mem_set hp with hp | hp
    · exact hm p hp
    · subst hp; omega
  · split at hp
    · rcases List.mem_append.1 hp with hp | hp
      · exact hm p hp
      · simp at hp; omega
    · exact hm p hp
theorem add_bd {S : Ps} {u : UInt8} (h : Bd S) (hf : fits S (u.toNat : Int) = true) (hx : isBet (u.toNat : Int) = true ∨ isMk (u.toNat : Int) = true ∨ 48 ≤ (u.toNat : Int)) : Bd (add S u) := by
  have hb := bare_le S.it
  unfold add
  split
  · rename_i hc
    refine ⟨h.s1, h.k0, h.k1, h.b0, h.b1, h.pl, h.pz, ?_, h.tl, h.di⟩
    rw [List.length_append, List.length_singleton]
    unfold fits at hf
    split at hf
    · simp at hf; omega
    · rename_i h2
      simp only [h2, Bool.false_or] at hc
      rw [if_pos hc] at hf
      simp at hf
      rw [hf.1]; decide
  · rename_i hc
    simp only [Bool.or_eq_true, not_or] at hc
    exact ⟨h.s1, h.k0, h.k1, h.b0, h.b1, (withB_len h.pl).1, withB_mem h.pz (by rcases hx with hx | hx | hx; exact absurd hx hc.1; exact absurd hx hc.2; exact hx), h.il, h.tl, h.di⟩
theorem put_bd {S : Ps} {u : UInt8} (h : Bd S) : Bd (put S u) := by
  unfold put
  split
  · exact ⟨h.s1, h.k0, h.k1, h.b0, h.b1, h.pl, h.pz, h.il, by rw [List.length_append, List.length_singleton]; omega, h.di⟩
  · exact h
end Go.Proofs.YtmhmbeofcedjjaaDoor.Vt
