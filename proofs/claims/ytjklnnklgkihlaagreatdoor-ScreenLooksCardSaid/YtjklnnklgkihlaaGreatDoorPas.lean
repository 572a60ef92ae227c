/- What can be told, and the bytes that tell it; bytes that tell an action, fed to a parser, tell it again. Plain words alone. Bytes that tell an action, fed to a parser, tell it again; what is told can be told. Plain words alone. What a parser tells can be told: what it has begun keeps its form. Plain words alone. -/
import Derived.Test.YtjklnnklgkihlaaGreatDoorPar
import Derived.Lib.ItoaNum
import Derived.Test.YtjklnnklgkihlaaGreatDoorPao
import Derived.Deep.QuietTactic
import Derived.BigQuiet
import Derived.StillTailTactics
import Derived.Laws.AppendOwnNone
import Derived.Test.YtjklnnklgkihlaaGreatDoorPaj
namespace Go.Proofs.YtjklnnklgkihlaaGreatDoor.Vt
open Cel (zero lost good enc)

def btw (l : Tx) : Bool := l.all (fun u => isBet (u.toNat : Int)) && decide (l.length ≤ 2)
def arep (l : List Int) : Bool := l.all (fun p => decide (-1 ≤ p) && decide (p ≤ 9999)) && (decide (l.length ≤ 32) && (decide (l.length ≠ 1) || l.headD 0 != -1))
def headOf (a : Ac) : Bool := isFin a.k a.b && (btw (bare a.it) && arep a.ps)
def textOf (a : Ac) : Bool := a.tx.all (fun u => decide (¬ (u.toNat : Int) < 32)) && decide (a.tx.length ≤ 1024)
def cbt (a : Ac) : Bool :=
  if a.k = 1 then decide (32 ≤ a.r) && (a.r != 127 && Utf8.valid a.r)
  else if a.k = 2 then decide (a.b < 32) && (a.b != 24 && (a.b != 26 && a.b != 27))
  else if a.k = 3 then isFin a.k a.b && (btw a.it && (a.it != [] || opens a.b == 0))
  else if a.k = 4 then headOf a
  else if a.k = 5 then textOf a
  else if a.k = 6 then headOf a && textOf a
  else false
def byt (x : Int) : UInt8 := UInt8.ofNat x.toNat
/-- A number that is left out has no digits. -/
def num1 (p : Int) : Tx := if p = -1 then [] else Lib.itoa p
/-- Numbers behind others. -/
def nums1 : List Int → Tx
  | [] => []
  | p :: l => 59 :: (num1 p ++ nums1 l)
def nums : List Int → Tx
  | [] => []
  | p :: l => num1 p ++ nums1 l
def mark (l : Tx) : Tx := l.take (l.length - (bare l).length)
def headB (a : Ac) : Tx := mark a.it ++ nums a.ps ++ bare a.it ++ [byt a.b]
def prn (a : Ac) : Tx :=
  if a.k = 1 then enc a.r
  else if a.k = 2 then [byt a.b]
  else if a.k = 3 then 27 :: (a.it ++ [byt a.b])
  else if a.k = 4 then 27 :: 91 :: headB a
  else if a.k = 5 then 27 :: 93 :: (a.tx ++ [7])
  else if a.k = 6 then 27 :: 80 :: (headB a ++ a.tx ++ [27, 92])
  else []
def prnO (a : Ac) : Tx := if cbt a = true then prn a else []
def prnAll (l : List Ac) : Tx := l.flatMap prnO
theorem prnAll_app (a b : List Ac) : prnAll (a ++ b) = prnAll a ++ prnAll b := by simp [prnAll]
theorem prnAll_one (a : Ac) : prnAll [a] = prnO a := by simp [prnAll]

/-- An action that a parser can tell: it can be written, and its other fields are empty. -/
structure Can (a : Ac) : Prop where
  c : cbt a = true
  r : a.k ≠ 1 → a.r = 0
  b : a.k = 1 ∨ a.k = 5 → a.b = 0
  ps : a.k = 1 ∨ a.k = 2 ∨ a.k = 3 ∨ a.k = 5 → a.ps = []
  it : a.k = 1 ∨ a.k = 2 ∨ a.k = 5 → a.it = []
  tx : a.k ≠ 5 → a.k ≠ 6 → a.tx = []

theorem byt_nat {x : Int} (h0 : 0 ≤ x) (h1 : x ≤ 255) : ((byt x).toNat : Int) = x := by
  unfold byt
  rw [Cel.u8_of _ (by omega)]
  omega
theorem run_one (S : Ps) (u : UInt8) : run S [u] = step S u := by simp [run]
theorem run_cons (S : Ps) (u : UInt8) (l : Tx) : run S (u :: l) = ((run (step S u).1 l).1, (step S u).2 ++ (run (step S u).1 l).2) := rfl
/-- A byte that tells nothing. -/
theorem run_quiet {S S2 : Ps} {u : UInt8} (h : step S u = (S2, [])) (l : Tx) : run S (u :: l) = run S2 l := by rw [run_cons, h]; rfl
theorem run_quiets {S S2 : Ps} {k : Tx} (h : run S k = (S2, [])) (l : Tx) : run S (k ++ l) = run S2 l := by rw [run_app, h]; rfl

/-! ### A head -/
def hd (s : Nat) (k : Int) (ps : List Int) (it : Tx) : Ps := ⟨s, zero, k, 0, ps, it, [], false⟩
theorem step_hd {s : Nat} {k : Int} {ps : List Int} {it : Tx} {u : UInt8} (hs : s = 5 ∨ s = 6) (h1 : 32 ≤ (u.toNat : Int)) (h2 : (u.toNat : Int) < 127) (hf : isFin k (u.toNat : Int) = false) (hft : fits (hd s k ps it) (u.toNat : Int) = true) :
    step (hd s k ps it) u = (add (hd s k ps it) u, []) := by
  have e1 : isTx (hd s k ps it).s = false := by rcases hs with rfl | rfl <;> rfl
  have e0 : (hd s k ps it).s ≠ 0 ∧ (hd s k ps it).s ≠ 7 := by show s ≠ 0 ∧ s ≠ 7; omega
  have ek : (hd s k ps it).k = k := rfl
  unfold step
  simp only []
  rw [if_neg (by omega), if_neg (by omega), e1, if_neg (by decide), if_neg (by omega), if_neg (by omega), if_neg (by omega), if_neg e0.1, if_neg e0.2, ek, hf, if_neg (by decide), hft, if_pos rfl]
theorem step_fin {s : Nat} {k : Int} {ps : List Int} {it : Tx} {u : UInt8} (hs : s = 4 ∨ s = 5 ∨ s = 6) (af : Bool) (h1 : 32 ≤ (u.toNat : Int)) (h2 : (u.toNat : Int) < 127) (hf : isFin k (u.toNat : Int) = true) :
    step { hd s k ps it with af := af } u = ended { hd s k ps it with b := (u.toNat : Int), af := af } (u.toNat : Int) := by
  have e1 : isTx ({ hd s k ps it with af := af } : Ps).s = false := by rcases hs with rfl | rfl | rfl <;> rfl
  have e0 : ({ hd s k ps it with af := af } : Ps).s ≠ 0 ∧ ({ hd s k ps it with af := af } : Ps).s ≠ 7 := by show s ≠ 0 ∧ s ≠ 7; omega
  have ek : ({ hd s k ps it with af := af } : Ps).k = k := rfl
  unfold step
  simp only []
  rw [if_neg (by omega), if_neg (by omega), e1, if_neg (by decide), if_neg (by omega), if_neg (by omega), if_neg (by omega), if_neg e0.1, if_neg e0.2, ek, hf, if_pos rfl]
theorem fin4 {k x : Int} (hk : k ≠ 3) : isFin k x = (decide (64 ≤ x) && decide (x < 127)) := by unfold isFin; rw [if_neg hk]
/-- A byte of digits. -/
theorem step_num {s : Nat} {k : Int} {ps : List Int} {it : Tx} {u : UInt8} (hs : s = 5 ∨ s = 6) (hk : k ≠ 3) (hb : bare it = []) (h1 : 48 ≤ (u.toNat : Int)) (h2 : (u.toNat : Int) ≤ 59) (h3 : (u.toNat : Int) ≠ 58) :
    step (hd s k ps it) u = (hd s k (withB ps (u.toNat : Int)) it, []) := by
  have nb : isBet (u.toNat : Int) = false := by unfold isBet; simp; omega
  have nm : isMk (u.toNat : Int) = false := by unfold isMk; simp; omega
  rw [step_hd hs (by omega) (by omega) (by rw [fin4 hk]; simp; omega) (by
    unfold fits
    rw [nb, nm, if_neg (by decide), if_neg (by decide)]
    show ((u.toNat : Int) != 58 && (bare it).length == 0) = true
    rw [hb]; simp [h3])]
  unfold add
  rw [nb, nm]
  rfl
/-- A byte between. -/
theorem step_bet {s : Nat} {k : Int} {ps : List Int} {it : Tx} {u : UInt8} (hs : s = 5 ∨ s = 6) (hk : k ≠ 3) (hb : (bare it).length < 2) (hu : isBet (u.toNat : Int) = true) :
    step (hd s k ps it) u = (hd s k ps (it ++ [u]), []) := by
  have hu' := hu
  unfold isBet at hu'
  simp at hu'
  rw [step_hd hs (by omega) (by omega) (by rw [fin4 hk]; simp; omega) (by
    unfold fits
    rw [hu, if_pos rfl]
    exact decide_eq_true hb)]
  unfold add
  rw [hu]
  rfl
theorem step_mark {s : Nat} {k : Int} {u : UInt8} (hs : s = 5 ∨ s = 6) (hk : k ≠ 3) (hu : isMk (u.toNat : Int) = true) : step (hd s k [] []) u = (hd s k [] [u], []) := by
  have hu' := hu
  unfold isMk at hu'
  simp at hu'
  have nb : isBet (u.toNat : Int) = false := by unfold isBet; simp; omega
  rw [step_hd hs (by omega) (by omega) (by rw [fin4 hk]; simp; omega) (by
    unfold fits
    rw [nb, hu, if_neg (by decide), if_pos rfl]; rfl)]
  unfold add
  rw [nb, hu]
  rfl

/-! ### Numbers -/
theorem lastOf_snoc (L : List Int) (p : Int) : lastOf (L ++ [p]) = p := by unfold lastOf; simp
theorem more1_snoc (L : List Int) (p : Int) : more1 (L ++ [p]) = L ++ [p] := by unfold more1; rw [if_neg (by simp)]
theorem digit_snoc (L : List Int) (p x : Int) : digit (L ++ [p]) x = L ++ [min (max p 0 * 10 + (x - 48)) 9999] := by
  unfold digit; rw [lastOf_snoc]; simp
theorem withB_digit (L : List Int) (p x : Int) (hx : x ≠ 59) : withB (L ++ [p]) x = L ++ [min (max p 0 * 10 + (x - 48)) 9999] := by
  unfold withB; rw [if_pos hx, more1_snoc, digit_snoc]
theorem withB_digit0 (x : Int) (hx : x ≠ 59) : withB [] x = [min (0 * 10 + (x - 48)) 9999] := by
  unfold withB; rw [if_pos hx]; rfl
theorem run_nums_digits {s : Nat} {k : Int} {it : Tx} (hs : s = 5 ∨ s = 6) (hk : k ≠ 3) (hb : bare it = []) : ∀ (n : Nat), n ≤ 9999 → ∀ (L : List Int), run (hd s k (L ++ [-1]) it) (Lib.decDigits n) = (hd s k (L ++ [(n : Int)]) it, []) := by
  intro n
  induction n using Nat.strongRecOn with
  | _ n ih =>
    intro hn L
    rw [Lib.decDigits]
    split
    · rename_i h
      have hu : ((UInt8.ofNat (48 + n)).toNat : Int) = 48 + n := by rw [Cel.u8_of _ (by omega)]; omega
      rw [run_one, step_num hs hk hb (by omega) (by omega) (by omega), withB_digit _ _ _ (by omega), hu]
      have e : min (max (-1 : Int) 0 * 10 + (48 + (n : Int) - 48)) 9999 = (n : Int) := by omega
      rw [e]
    · rename_i h
      have hu : ((UInt8.ofNat (48 + n % 10)).toNat : Int) = 48 + (n % 10 : Nat) := by rw [Cel.u8_of _ (by omega)]; omega
      rw [run_quiets (ih (n / 10) (by omega) (by omega) L), run_one, step_num hs hk hb (by omega) (by omega) (by omega), withB_digit _ _ _ (by omega), hu]
      have e : min (max ((n / 10 : Nat) : Int) 0 * 10 + (48 + ((n % 10 : Nat) : Int) - 48)) 9999 = (n : Int) := by omega
      rw [e]
theorem decDigits_ne (n : Nat) : Lib.decDigits n ≠ [] := by
  rw [Lib.decDigits]; split <;> simp
theorem run_nil_digits {s : Nat} {k : Int} {it : Tx} (hs : s = 5 ∨ s = 6) (hk : k ≠ 3) (hb : bare it = []) (n : Nat) (hn : n ≤ 9999) : run (hd s k [] it) (Lib.decDigits n) = run (hd s k ([] ++ [-1]) it) (Lib.decDigits n) := by
  have hd1 : ∀ (n : Nat), n ≤ 9999 → ∃ u l, Lib.decDigits n = u :: l ∧ 48 ≤ (u.toNat : Int) ∧ (u.toNat : Int) ≤ 57 := by
    intro n
    induction n using Nat.strongRecOn with
    | _ n ih =>
      intro hn
      rw [Lib.decDigits]
      split
      · refine ⟨_, _, rfl, ?_⟩
        rw [Cel.u8_of _ (by omega)]; omega
      · obtain ⟨u, l, e, h⟩ := ih (n / 10) (by omega) (by omega)
        exact ⟨u, l ++ _, by rw [e]; rfl, h⟩
  obtain ⟨u, l, e, h1, h2⟩ := hd1 n hn
  rw [e, run_quiet (step_num hs hk hb (by omega) (by omega) (by omega)), run_quiet (step_num hs hk hb (by omega) (by omega) (by omega)), withB_digit _ _ _ (by omega), withB_digit0 _ (by omega)]
  rfl
theorem num_bd {l : List Int} (h : arep l = true) : (∀ p ∈ l, -1 ≤ p ∧ p ≤ 9999) ∧ l.length ≤ 32 ∧ (l.length ≠ 1 ∨ l.headD 0 ≠ -1) := by
  unfold arep at h
  simp only [Bool.and_eq_true, List.all_eq_true, decide_eq_true_eq, Bool.or_eq_true, bne_iff_ne] at h
  exact ⟨h.1, h.2.1, h.2.2⟩
theorem run_num1 {s : Nat} {k : Int} {it : Tx} (hs : s = 5 ∨ s = 6) (hk : k ≠ 3) (hb : bare it = []) (p : Int) (h0 : -1 ≤ p) (h1 : p ≤ 9999) (L : List Int) : run (hd s k (L ++ [-1]) it) (num1 p) = (hd s k (L ++ [p]) it, []) := by
  unfold num1
  split
  · rename_i h; subst h; rfl
  · obtain ⟨n, rfl⟩ : ∃ n : Nat, p = (n : Int) := ⟨p.toNat, by omega⟩
    unfold Lib.itoa
    rw [if_neg (by omega), Int.toNat_natCast]
    exact run_nums_digits hs hk hb n (by omega) L
theorem run_nums1 {s : Nat} {k : Int} {it : Tx} (hs : s = 5 ∨ s = 6) (hk : k ≠ 3) (hb : bare it = []) : ∀ (l L : List Int) (q : Int), (∀ p ∈ l, -1 ≤ p ∧ p ≤ 9999) → L.length + 1 + l.length ≤ 33 → run (hd s k (L ++ [q]) it) (nums1 l) = (hd s k (L ++ [q] ++ l) it, [])
  | [], L, q, _, _ => by rw [List.append_nil]; rfl
  | p :: l, L, q, hl, hn => by
    simp only [List.length_cons] at hn
    have e59 : ((59 : UInt8).toNat : Int) = 59 := rfl
    have hw : withB (L ++ [q]) 59 = (L ++ [q]) ++ [-1] := by
      unfold withB
      rw [if_neg (by decide), more1_snoc, if_pos (by simp; omega)]
    have hp := hl p (by simp)
    show run _ (59 :: (num1 p ++ nums1 l)) = _
    rw [run_quiet (step_num hs hk hb (by rw [e59]; omega) (by rw [e59]; omega) (by rw [e59]; omega)), e59, hw, run_quiets (run_num1 hs hk hb p hp.1 hp.2 (L ++ [q]))]
    rw [run_nums1 hs hk hb l (L ++ [q]) p (fun x hx => hl x (by simp [hx])) (by simp; omega)]
    simp
theorem run_nums {s : Nat} {k : Int} {it : Tx} (hs : s = 5 ∨ s = 6) (hk : k ≠ 3) (hb : bare it = []) {l : List Int} (hl : arep l = true) : run (hd s k [] it) (nums l) = (hd s k l it, []) := by
  obtain ⟨h1, h2, h3⟩ := num_bd hl
  cases l with
  | nil => rfl
  | cons p l =>
    have hp := h1 p (by simp)
    have h1' : ∀ x ∈ l, -1 ≤ x ∧ x ≤ 9999 := fun x hx => h1 x (by simp [hx])
    simp only [List.length_cons] at h2 h3
    show run _ (num1 p ++ nums1 l) = _
    by_cases hm : p = -1
    · subst hm
      cases l with
      | nil => simp at h3
      | cons q l =>
        have e59 : ((59 : UInt8).toNat : Int) = 59 := rfl
        have hw : withB [] 59 = ([-1] : List Int) ++ [-1] := by decide
        have hq := h1' q (by simp)
        simp only [List.length_cons] at h2
        show run _ (59 :: (num1 q ++ nums1 l)) = _
        rw [run_quiet (step_num hs hk hb (by rw [e59]; omega) (by rw [e59]; omega) (by rw [e59]; omega)), e59, hw, run_quiets (run_num1 hs hk hb q hq.1 hq.2 [-1])]
        rw [run_nums1 hs hk hb l [-1] q (fun x hx => h1' x (by simp [hx])) (by simp; omega)]
        simp
    · have e : run (hd s k [] it) (num1 p) = (hd s k [p] it, []) := by
        obtain ⟨n, rfl⟩ : ∃ n : Nat, p = (n : Int) := ⟨p.toNat, by omega⟩
        unfold num1 Lib.itoa
        rw [if_neg hm, if_neg (by omega), Int.toNat_natCast, run_nil_digits hs hk hb n (by omega)]
        exact run_nums_digits hs hk hb n (by omega) []
      rw [run_quiets e]
      exact run_nums1 hs hk hb l [] p h1' (by simp; omega)

/-! ### What stands between -/
theorem bare_snoc {it : Tx} {u : UInt8} (hu : isMk (u.toNat : Int) = false) : bare (it ++ [u]) = bare it ++ [u] := by
  cases it with
  | nil => show (if isMk (u.toNat : Int) = true then [] else [u]) = [u]; rw [hu]; rfl
  | cons v it =>
    show (if isMk (v.toNat : Int) = true then it ++ [u] else v :: (it ++ [u])) = (if isMk (v.toNat : Int) = true then it else v :: it) ++ [u]
    split <;> rfl
theorem bet_mk {x : Int} (h : isBet x = true) : isMk x = false := by
  unfold isBet at h; unfold isMk; simp at h ⊢; omega
theorem run_bets {s : Nat} {k : Int} {ps : List Int} (hs : s = 5 ∨ s = 6) (hk : k ≠ 3) : ∀ (l it : Tx), (∀ u ∈ l, isBet (u.toNat : Int) = true) → (bare it).length + l.length ≤ 2 → run (hd s k ps it) l = (hd s k ps (it ++ l), [])
  | [], it, _, _ => by rw [List.append_nil]; rfl
  | u :: l, it, hl, hn => by
    simp only [List.length_cons] at hn
    have hu := hl u (by simp)
    rw [run_quiet (step_bet hs hk (by omega) hu), run_bets hs hk l (it ++ [u]) (fun x hx => hl x (by simp [hx])) (by rw [bare_snoc (bet_mk hu)]; simp; omega)]
    simp
theorem mark_bare (it : Tx) : mark it ++ bare it = it ∧ (mark it = [] ∧ bare it = it ∨ ∃ u, mark it = [u] ∧ isMk (u.toNat : Int) = true) := by
  cases it with
  | nil => exact ⟨rfl, .inl ⟨rfl, rfl⟩⟩
  | cons u l =>
    unfold mark
    by_cases h : isMk (u.toNat : Int) = true
    · have e : bare (u :: l) = l := by show (if _ then _ else _) = _; rw [if_pos h]
      rw [e]
      have e2 : (u :: l).length - l.length = 1 := by simp
      rw [e2]
      exact ⟨rfl, .inr ⟨u, rfl, h⟩⟩
    · have e : bare (u :: l) = u :: l := by show (if _ then _ else _) = _; rw [if_neg h]
      rw [e]
      have e2 : (u :: l).length - (u :: l).length = 0 := by omega
      rw [e2]
      exact ⟨rfl, .inl ⟨rfl, rfl⟩⟩
theorem bet_bd {l : Tx} (h : btw l = true) : (∀ u ∈ l, isBet (u.toNat : Int) = true) ∧ l.length ≤ 2 := by
  unfold btw at h
  simp only [Bool.and_eq_true, List.all_eq_true, decide_eq_true_eq] at h
  exact h
/-- A head ahead of its final byte. -/
theorem run_head {s : Nat} {k : Int} (hs : s = 5 ∨ s = 6) (hk : k ≠ 3) {ps : List Int} {it : Tx} (hb : btw (bare it) = true) (hp : arep ps = true) : run (hd s k [] []) (mark it ++ nums ps ++ bare it) = (hd s k ps it, []) := by
  obtain ⟨h1, h2⟩ := bet_bd hb
  obtain ⟨e, hm⟩ := mark_bare it
  have hmk : run (hd s k [] []) (mark it) = (hd s k [] (mark it), []) ∧ bare (mark it) = [] := by
    rcases hm with ⟨hm, _⟩ | ⟨u, hm, hu⟩
    · rw [hm]; exact ⟨rfl, rfl⟩
    · rw [hm, run_one, step_mark hs hk hu]
      refine ⟨rfl, ?_⟩
      show (if _ then _ else _) = _
      rw [if_pos hu]
  rw [List.append_assoc, run_quiets hmk.1, run_quiets (run_nums hs hk hmk.2 hp), run_bets hs hk _ _ h1 (by rw [hmk.2]; simpa using h2), e]
end Go.Proofs.YtjklnnklgkihlaaGreatDoor.Vt
namespace Go.Proofs.YtjklnnklgkihlaaGreatDoor.Vt
open Cel (zero lost good enc)

/-! ### Told again -/
theorem ended4 {S : Ps} {x : Int} (h : S.s = 4) (ho : opened S x = 0) (ha : ¬ (S.af = true ∧ S.it = [] ∧ x = 92)) : ended S x = (ps0, [act S]) := by
  unfold ended; rw [if_pos h, ho, if_neg (by decide), if_neg (by decide), if_neg (by decide), if_neg (by decide), if_neg ha]
theorem ended5 {S : Ps} {x : Int} (h : S.s = 5) : ended S x = (ps0, [act S]) := by unfold ended; rw [if_neg (by omega), if_pos h]
theorem ended6 {S : Ps} {x : Int} (h : S.s = 6) : ended S x = ({ S with s := 2 }, []) := by unfold ended; rw [if_neg (by omega), if_neg (by omega)]
theorem step0 {S : Ps} {u : UInt8} (hs : S.s = 0) (h1 : 32 ≤ (u.toNat : Int)) (h2 : (u.toNat : Int) ≠ 127) : step S u = ground S (u.toNat : Int) := by
  have e1 : isTx S.s = false := by rw [hs]; rfl
  have e2 : isHd S.s = false := by rw [hs]; rfl
  unfold step
  simp only []
  rw [if_neg (by omega), if_neg (by omega), e1, if_neg (by decide), if_neg (by omega), if_neg (by rw [e2]; simp), if_neg h2, if_pos hs]
theorem run_ground : ∀ (l : Tx) (S : Ps), S.s = 0 → (∀ u ∈ l, 32 ≤ (u.toNat : Int) ∧ (u.toNat : Int) ≠ 127) → run S l = ({ S with d := (Cel.run S.d l).1 }, (Cel.run S.d l).2.map prt)
  | [], S, _, _ => rfl
  | u :: l, S, hs, hl => by
    have hu := hl u (by simp)
    rw [run_cons, step0 hs hu.1 hu.2, Cel.run_cons]
    have := run_ground l (ground S (u.toNat : Int)).1 hs (fun x hx => hl x (by simp [hx]))
    rw [this]
    unfold ground
    simp
theorem ps0_eta : ({ ps0 with d := zero } : Ps) = ps0 := rfl
theorem enc_bytes {r : Int} (h : good r) (h1 : 32 ≤ r) (h2 : r ≠ 127) : ∀ u ∈ enc r, 32 ≤ (u.toNat : Int) ∧ (u.toNat : Int) ≠ 127 := by
  intro u hu
  have hg := h
  unfold good at hg
  rcases Cel.enc_form h with ⟨h3, a, e, ha⟩ | ⟨h3, h4, a, b, e, ha, hb⟩ | ⟨h3, h4, a, b, c, e, ha, hb, hc⟩ | ⟨h3, h4, a, b, c, d, e, ha, hb, hc, hd⟩
  all_goals
    rw [e] at hu
    simp only [List.mem_cons, List.not_mem_nil, or_false] at hu
  · subst hu; omega
  · rcases hu with rfl | rfl <;> omega
  · rcases hu with rfl | rfl | rfl <;> omega
  · rcases hu with rfl | rfl | rfl | rfl <;> omega
theorem ac_eta {a b : Ac} (h1 : a.k = b.k) (h2 : a.r = b.r) (h3 : a.b = b.b) (h4 : a.ps = b.ps) (h5 : a.it = b.it) (h6 : a.tx = b.tx) : a = b := by
  cases a; cases b; simp at *; exact ⟨h1, h2, h3, h4, h5, h6⟩
theorem valid_good' {r : Int} (h : Utf8.valid r = true) : good r := by
  unfold Utf8.valid at h
  unfold good
  simp at h
  omega
theorem run_prn1 {a : Ac} (h : Can a) (hk : a.k = 1) : run ps0 (prn a) = (ps0, [a]) := by
  have hc := h.c
  unfold cbt at hc
  rw [if_pos hk] at hc
  simp only [Bool.and_eq_true, decide_eq_true_eq, bne_iff_ne] at hc
  have hg := valid_good' hc.2.2
  have e := Cel.run_enc hg []
  rw [List.append_nil] at e
  unfold prn
  rw [if_pos hk, run_ground _ _ rfl (enc_bytes hg hc.1 hc.2.1)]
  show ({ ps0 with d := (Cel.run zero (enc a.r)).1 }, (Cel.run zero (enc a.r)).2.map prt) = _
  rw [e]
  show (ps0, [prt a.r]) = _
  congr 2
  exact ac_eta hk.symm rfl (h.b (.inl hk)).symm (h.ps (.inl hk)).symm (h.it (.inl hk)).symm (h.tx (by omega) (by omega)).symm
theorem run_prn2 {a : Ac} (h : Can a) (hk : a.k = 2) (h0 : 0 ≤ a.b) : run ps0 (prn a) = (ps0, [a]) := by
  have hc := h.c
  unfold cbt at hc
  rw [if_neg (by omega), if_pos hk] at hc
  simp only [Bool.and_eq_true, decide_eq_true_eq, bne_iff_ne] at hc
  have hu := byt_nat h0 (by omega : a.b ≤ 255)
  unfold prn
  rw [if_neg (by omega), if_pos hk, run_one]
  unfold step
  simp only [hu]
  rw [if_neg (by omega), if_neg (by omega), if_neg (by decide), if_pos (by omega)]
  show (ps0, [ctl a.b]) = _
  congr 2
  exact ac_eta hk.symm (h.r (by omega)).symm rfl (h.ps (.inr (.inl hk))).symm (h.it (.inr (.inl hk))).symm (h.tx (by omega) (by omega)).symm
theorem step_27 {S : Ps} : step S 27 = (escP S, escA S) := rfl
theorem esc0 : step ps0 27 = (hd 4 3 [] [], []) := rfl
theorem esc0_91 : run ps0 [27, 91] = (hd 5 4 [] [], []) := rfl
theorem esc0_93 : run ps0 [27, 93] = (hd 1 5 [] [], []) := rfl
theorem esc0_80 : run ps0 [27, 80] = (hd 6 6 [] [], []) := rfl
theorem step_bet4 {it : Tx} {u : UInt8} (hb : (bare it).length < 2) (hu : isBet (u.toNat : Int) = true) : step (hd 4 3 [] it) u = (hd 4 3 [] (it ++ [u]), []) := by
  have hu' := hu
  unfold isBet at hu'
  simp at hu'
  have hf : isFin (hd 4 3 [] it).k (u.toNat : Int) = false := by show isFin 3 _ = _; unfold isFin; rw [if_pos rfl]; simp; omega
  have hft : fits (hd 4 3 [] it) (u.toNat : Int) = true := by
    unfold fits
    rw [hu, if_pos rfl]
    exact decide_eq_true hb
  unfold step
  simp only []
  rw [if_neg (by omega), if_neg (by omega), if_neg (show ¬ isTx (hd 4 3 [] it).s = true from (by decide : ¬ isTx 4 = true)), if_neg (by omega), if_neg (by omega), if_neg (by omega), if_neg (show ¬ (hd 4 3 [] it).s = 0 from (by decide : ¬ (4 : Nat) = 0)), if_neg (show ¬ (hd 4 3 [] it).s = 7 from (by decide : ¬ (4 : Nat) = 7)), hf, if_neg (by decide), hft, if_pos rfl]
  unfold add
  rw [hu]
  rfl
theorem run_bets4 : ∀ (l it : Tx), (∀ u ∈ l, isBet (u.toNat : Int) = true) → (bare it).length + l.length ≤ 2 → run (hd 4 3 [] it) l = (hd 4 3 [] (it ++ l), [])
  | [], it, _, _ => by rw [List.append_nil]; rfl
  | u :: l, it, hl, hn => by
    simp only [List.length_cons] at hn
    have hu := hl u (by simp)
    rw [run_quiet (step_bet4 (by omega) hu), run_bets4 l (it ++ [u]) (fun x hx => hl x (by simp [hx])) (by rw [bare_snoc (bet_mk hu)]; simp; omega)]
    simp
theorem run_prn3 {a : Ac} (h : Can a) (hk : a.k = 3) : run ps0 (prn a) = (ps0, [a]) := by
  have hc := h.c
  unfold cbt at hc
  rw [if_neg (by omega), if_neg (by omega), if_pos hk, hk] at hc
  simp only [Bool.and_eq_true, Bool.or_eq_true, bne_iff_ne, beq_iff_eq] at hc
  obtain ⟨hf, hb, ho⟩ := hc
  have hf' := hf
  unfold isFin at hf'
  rw [if_pos rfl] at hf'
  simp at hf'
  have hu := byt_nat (x := a.b) (by omega) (by omega)
  obtain ⟨h1, h2⟩ := bet_bd hb
  unfold prn
  rw [if_neg (by omega), if_neg (by omega), if_pos hk, run_quiet esc0, run_quiets (run_bets4 a.it [] h1 (by simpa [bare] using h2)), run_one]
  have e := step_fin (s := 4) (k := 3) (ps := []) (it := [] ++ a.it) (u := byt a.b) (.inl rfl) false (by omega) (by omega) (by rw [hu]; exact hf)
  rw [List.nil_append] at e ⊢
  show step { hd 4 3 [] a.it with af := false } (byt a.b) = _
  rw [e, hu]
  have hop : opened { hd 4 3 [] a.it with b := a.b, af := false } a.b = 0 := by
    unfold opened
    show (if a.it ≠ [] then 0 else opens a.b) = 0
    rcases ho with ho | ho
    · rw [if_pos ho]
    · split <;> first | rfl | exact ho
  rw [ended4 rfl hop (by show ¬ (false = true ∧ _); simp)]
  congr 2
  exact ac_eta hk.symm (h.r (by omega)).symm rfl (by rw [h.ps (.inr (.inr (.inl hk)))]; rfl) rfl (h.tx (by omega) (by omega)).symm
theorem run_prn4 {a : Ac} (h : Can a) (hk : a.k = 4) : run ps0 (prn a) = (ps0, [a]) := by
  have hc := h.c
  unfold cbt headOf at hc
  rw [if_neg (by omega), if_neg (by omega), if_neg (by omega), if_pos hk, hk] at hc
  simp only [Bool.and_eq_true] at hc
  obtain ⟨hf, hb, hp⟩ := hc
  have hf' := hf
  rw [fin4 (by decide)] at hf'
  simp at hf'
  have hu := byt_nat (x := a.b) (by omega) (by omega)
  have hpl := (num_bd hp).2.1
  have e0 : prn a = [27, 91] ++ ((mark a.it ++ nums a.ps ++ bare a.it) ++ [byt a.b]) := by
    unfold prn headB; rw [if_neg (by omega), if_neg (by omega), if_neg (by omega), if_pos hk]; rfl
  rw [e0, run_quiets esc0_91, run_quiets (run_head (.inl rfl) (by decide) hb hp), run_one]
  have e := step_fin (s := 5) (k := 4) (ps := a.ps) (it := a.it) (u := byt a.b) (.inr (.inl rfl)) false (by omega) (by omega) (by rw [hu]; exact hf)
  show step { hd 5 4 a.ps a.it with af := false } (byt a.b) = _
  rw [e, hu, ended5 rfl]
  congr 2
  exact ac_eta hk.symm (h.r (by omega)).symm rfl (List.take_of_length_le hpl) rfl (h.tx (by omega) (by omega)).symm
theorem step_put {S : Ps} {u : UInt8} (hs : S.s = 1 ∨ S.s = 2) (hu : ¬ (u.toNat : Int) < 32) : step S u = (put S u, []) := by
  have e1 : isTx S.s = true := by rcases hs with e | e <;> rw [e] <;> rfl
  unfold step
  simp only []
  rw [if_neg (by omega), if_neg (by omega), e1, if_pos rfl, if_neg (by omega), if_neg hu, if_neg (by omega)]
theorem run_puts : ∀ (l : Tx) (S : Ps), (S.s = 1 ∨ S.s = 2) → (∀ u ∈ l, ¬ (u.toNat : Int) < 32) → S.tx.length + l.length ≤ 1024 → run S l = ({ S with tx := S.tx ++ l }, [])
  | [], S, _, _, _ => by rw [List.append_nil]; rfl
  | u :: l, S, hs, hl, hn => by
    simp only [List.length_cons] at hn
    have e : put S u = { S with tx := S.tx ++ [u] } := by unfold put; rw [if_pos (by omega)]
    rw [run_quiet (step_put hs (hl u (by simp))), e, run_puts l { S with tx := S.tx ++ [u] } hs (fun x hx => hl x (by simp [hx])) (by simp; omega)]
    simp
theorem text_bd {a : Ac} (h : textOf a = true) : (∀ u ∈ a.tx, ¬ (u.toNat : Int) < 32) ∧ a.tx.length ≤ 1024 := by
  unfold textOf at h
  simp only [Bool.and_eq_true, List.all_eq_true, decide_eq_true_eq] at h
  exact h
theorem run_prn5 {a : Ac} (h : Can a) (hk : a.k = 5) : run ps0 (prn a) = (ps0, [a]) := by
  have hc := h.c
  unfold cbt at hc
  rw [if_neg (by omega), if_neg (by omega), if_neg (by omega), if_neg (by omega), if_pos hk] at hc
  obtain ⟨h1, h2⟩ := text_bd hc
  have e0 : prn a = [27, 93] ++ (a.tx ++ [7]) := by
    unfold prn; rw [if_neg (by omega), if_neg (by omega), if_neg (by omega), if_neg (by omega), if_pos hk]; rfl
  rw [e0, run_quiets esc0_93, run_quiets (run_puts a.tx (hd 1 5 [] []) (.inl rfl) h1 (by show 0 + _ ≤ _; omega)), run_one]
  show (ps0, [act { hd 1 5 [] [] with tx := [] ++ a.tx }]) = _
  congr 2
  exact ac_eta hk.symm (h.r (by omega)).symm (h.b (.inr hk)).symm (by rw [h.ps (.inr (.inr (.inr hk)))]; rfl) (h.it (.inr (.inr hk))).symm rfl
theorem run_prn6 {a : Ac} (h : Can a) (hk : a.k = 6) : run ps0 (prn a) = (ps0, [a]) := by
  have hc := h.c
  unfold cbt at hc
  rw [if_neg (by omega), if_neg (by omega), if_neg (by omega), if_neg (by omega), if_neg (by omega), if_pos hk, Bool.and_eq_true] at hc
  obtain ⟨hh, ht⟩ := hc
  unfold headOf at hh
  rw [hk] at hh
  simp only [Bool.and_eq_true] at hh
  obtain ⟨hf, hb, hp⟩ := hh
  obtain ⟨h1, h2⟩ := text_bd ht
  have hf' := hf
  rw [fin4 (by decide)] at hf'
  simp at hf'
  have hu := byt_nat (x := a.b) (by omega) (by omega)
  have hpl := (num_bd hp).2.1
  have e0 : prn a = [27, 80] ++ ((mark a.it ++ nums a.ps ++ bare a.it) ++ ([byt a.b] ++ (a.tx ++ [27, 92]))) := by
    unfold prn headB; rw [if_neg (by omega), if_neg (by omega), if_neg (by omega), if_neg (by omega), if_neg (by omega), if_pos hk]; simp
  have e := step_fin (s := 6) (k := 6) (ps := a.ps) (it := a.it) (u := byt a.b) (.inr (.inr rfl)) false (by omega) (by omega) (by rw [hu]; exact hf)
  have e1 : run (hd 6 6 a.ps a.it) [byt a.b] = ({ hd 6 6 a.ps a.it with s := 2, b := a.b }, []) := by
    rw [run_one]
    show step { hd 6 6 a.ps a.it with af := false } (byt a.b) = _
    rw [e, hu, ended6 rfl]
    rfl
  rw [e0, run_quiets esc0_80, run_quiets (run_head (.inr rfl) (by decide) hb hp), run_quiets e1, run_quiets (run_puts a.tx { hd 6 6 a.ps a.it with s := 2, b := a.b } (.inr rfl) h1 (by show 0 + _ ≤ _; omega)), run_cons, step_27, run_one]
  show (ps0, [act { hd 6 6 a.ps a.it with s := 2, b := a.b, tx := [] ++ a.tx }]) = _
  congr 2
  exact ac_eta hk.symm (h.r (by omega)).symm rfl (List.take_of_length_le hpl) rfl rfl
theorem run_prn {a : Ac} (h : Can a) (h0 : 0 ≤ a.b) : run ps0 (prn a) = (ps0, [a]) := by
  by_cases h1 : a.k = 1
  · exact run_prn1 h h1
  by_cases h2 : a.k = 2
  · exact run_prn2 h h2 h0
  by_cases h3 : a.k = 3
  · exact run_prn3 h h3
  by_cases h4 : a.k = 4
  · exact run_prn4 h h4
  by_cases h5 : a.k = 5
  · exact run_prn5 h h5
  by_cases h6 : a.k = 6
  · exact run_prn6 h h6
  have hc := h.c
  unfold cbt at hc
  rw [if_neg h1, if_neg h2, if_neg h3, if_neg h4, if_neg h5, if_neg h6] at hc
  cases hc
theorem run_prnAll : ∀ (l : List Ac), (∀ a ∈ l, Can a ∧ 0 ≤ a.b) → run ps0 (prnAll l) = (ps0, l)
  | [], _ => rfl
  | a :: l, hl => by
    have ha := hl a (by simp)
    have e : prnAll (a :: l) = prn a ++ prnAll l := by
      unfold prnAll
      rw [List.flatMap_cons]
      congr 1
      unfold prnO
      rw [if_pos ha.1.c]
    rw [e, run_app, run_prn ha.1 ha.2, run_prnAll l fun x hx => hl x (by simp [hx])]
    rfl
end Go.Proofs.YtjklnnklgkihlaaGreatDoor.Vt
namespace Go.Proofs.YtjklnnklgkihlaaGreatDoor.Vt
open Cel (zero lost good enc)

/-- Numbers as a head has them: one more than are told. -/
structure Arp (l : List Int) : Prop where
  z : ∀ p ∈ l, -1 ≤ p ∧ p ≤ 9999
  n : l.length ≤ 33
  o : l.length = 1 → l.headD 0 ≠ -1
theorem Arp.nil : Arp [] := ⟨fun p hp => (by cases hp), by simp, by simp⟩
theorem Arp.arep {l : List Int} (h : Arp l) : arep (l.take 32) = true := by
  unfold Vt.arep
  simp only [Bool.and_eq_true, List.all_eq_true, decide_eq_true_eq, Bool.or_eq_true, bne_iff_ne]
  refine ⟨fun p hp => h.z p (List.mem_of_mem_take hp), by rw [List.length_take]; omega, ?_⟩
  by_cases h1 : (l.take 32).length = 1
  · right
    rw [List.length_take] at h1
    have hl : l.length = 1 := by omega
    rw [List.take_of_length_le (by omega)]
    exact h.o hl
  · exact .inl h1
theorem Arp.with {l : List Int} {x : Int} (h : Arp l) (hx : 48 ≤ x) : Arp (withB l x) := by
  refine ⟨withB_mem h.z hx, (withB_len h.n).1, fun h1 => ?_⟩
  unfold withB at h1 ⊢
  split at h1
  · rename_i h59
    rw [if_pos h59]
    unfold digit at h1 ⊢
    rw [List.length_set] at h1
    match hm : more1 l, h1 with
    | [q], _ =>
      simp [lastOf]
      omega
  · rename_i h59
    rw [if_neg h59]
    split at h1
    · have := (more1_len l).1
      rw [List.length_append, List.length_singleton] at h1
      omega
    · omega
def noC (l : Tx) : Prop := (∀ u ∈ l, ¬ (u.toNat : Int) < 32) ∧ l.length ≤ 1024
/-- What a parser has begun, by its state. -/
structure Ic (S : Ps) : Prop where
  s : S.s ≤ 7
  d : Cel.Inv S.d
  z : S.s ≠ 0 → S.d = zero
  e : S.s = 4 → S.k = 3 ∧ S.ps = [] ∧ S.tx = [] ∧ btw S.it = true
  c : S.s = 5 → S.k = 4 ∧ S.tx = [] ∧ btw (bare S.it) = true ∧ Arp S.ps
  p : S.s = 6 → S.k = 6 ∧ S.tx = [] ∧ btw (bare S.it) = true ∧ Arp S.ps
  o : S.s = 1 → S.k = 5 ∧ S.b = 0 ∧ S.ps = [] ∧ S.it = [] ∧ noC S.tx
  t : S.s = 2 → S.k = 6 ∧ isFin 6 S.b = true ∧ btw (bare S.it) = true ∧ Arp S.ps ∧ noC S.tx
theorem Ic.off {S : Ps} (hd : Cel.Inv S.d) (hz : S.s ≠ 0 → S.d = zero) (h : S.s = 0 ∨ S.s = 3 ∨ S.s = 7) : Ic S := ⟨by omega, hd, hz, fun e => by omega, fun e => by omega, fun e => by omega, fun e => by omega, fun e => by omega⟩
theorem ic0 : Ic ps0 := .off Cel.inv_zero (fun h => absurd rfl h) (.inl rfl)
theorem noC_nil : noC [] := ⟨fun u hu => (by cases hu), by simp⟩
theorem btw_nil : btw [] = true := rfl
/-- Runes that come of bytes that are no controls. -/
theorem step_out {d : Cel.Dec} {x : Int} (h : Cel.Inv d) (h1 : x ≤ 255) (h0 : 32 ≤ x) (h2 : x ≠ 127) : ∀ r ∈ (Cel.step d x).2, 32 ≤ r ∧ r ≠ 127 := by
  intro r hr
  unfold Cel.step at hr
  split at hr
  · rename_i hf
    unfold Cel.next at hr
    split at hr
    · rename_i hm
      simp at hr
      unfold Cel.Inv at h
      rcases h with rfl | h | h | h | h | h | h
      · exact absurd hm (by decide)
      all_goals omega
    · simp at hr
  · rw [List.mem_append] at hr
    rcases hr with hr | hr
    · unfold Cel.lost at hr
      split at hr
      · simp at hr
      · simp at hr; omega
    · unfold Cel.first at hr
      split at hr
      · simp at hr; omega
      · split at hr
        · simp at hr; omega
        · simp at hr
theorem can_prt {r : Int} (hg : good r) (h0 : 32 ≤ r) (h1 : r ≠ 127) : Can (prt r) ∧ 0 ≤ (prt r).b := by
  refine ⟨⟨?_, fun h => absurd rfl h, fun _ => rfl, fun _ => rfl, fun _ => rfl, fun _ _ => rfl⟩, Int.le_refl 0⟩
  unfold cbt
  rw [if_pos (show (prt r).k = 1 from rfl)]
  show (decide (32 ≤ r) && (r != 127 && Utf8.valid r)) = true
  rw [Cel.good_valid hg]
  simp [h0, h1]
theorem can_lost (d : Cel.Dec) : ∀ a ∈ (lost d).map prt, Can a ∧ 0 ≤ a.b := by
  intro a ha
  obtain ⟨r, hr, rfl⟩ := List.mem_map.1 ha
  unfold Cel.lost at hr
  split at hr
  · simp at hr
  · simp at hr; subst hr; exact can_prt (by unfold good; omega) (by decide) (by decide)
theorem can_ctl {x : Int} (h0 : 0 ≤ x) (h1 : x < 32) (h2 : x ≠ 24) (h3 : x ≠ 26) (h4 : x ≠ 27) : Can (ctl x) ∧ 0 ≤ (ctl x).b := by
  refine ⟨⟨?_, fun _ => rfl, fun h => (by rcases h with h | h <;> cases h), fun _ => rfl, fun _ => rfl, fun _ _ => rfl⟩, h0⟩
  unfold cbt
  rw [if_neg (show ¬ (ctl x).k = 1 from (by decide : ¬ (2 : Int) = 1)), if_pos (show (ctl x).k = 2 from rfl)]
  show (decide (x < 32) && (x != 24 && (x != 26 && x != 27))) = true
  simp [h1, h2, h3, h4]
/-- Strings that are told. -/
theorem can_osc {S : Ps} (h : S.k = 5 ∧ S.b = 0 ∧ S.ps = [] ∧ S.it = [] ∧ noC S.tx) : Can (act S) ∧ 0 ≤ (act S).b := by
  obtain ⟨hk, hb, hp, hi, h1, h2⟩ := h
  have e1 : (act S).k = 5 := hk
  refine ⟨⟨?_, fun _ => rfl, fun _ => hb, fun _ => by show S.ps.take 32 = []; rw [hp]; rfl, fun _ => hi, fun h => absurd e1 h⟩, by show 0 ≤ S.b; omega⟩
  unfold cbt
  rw [if_neg (by omega), if_neg (by omega), if_neg (by omega), if_neg (by omega), if_pos e1]
  unfold textOf
  simp only [Bool.and_eq_true, List.all_eq_true, decide_eq_true_eq]
  exact ⟨h1, h2⟩
theorem fin_pos {k x : Int} (h : isFin k x = true) : 0 ≤ x := by unfold isFin at h; simp at h; split at h <;> omega
theorem can_dcs {S : Ps} (h : S.k = 6 ∧ isFin 6 S.b = true ∧ btw (bare S.it) = true ∧ Arp S.ps ∧ noC S.tx) : Can (act S) ∧ 0 ≤ (act S).b := by
  obtain ⟨hk, hf, hb, hp, h1, h2⟩ := h
  have e1 : (act S).k = 6 := hk
  refine ⟨⟨?_, fun _ => rfl, fun h => by omega, fun h => by omega, fun h => by omega, fun _ h => absurd e1 h⟩, fin_pos hf⟩
  unfold cbt
  rw [if_neg (by omega), if_neg (by omega), if_neg (by omega), if_neg (by omega), if_neg (by omega), if_pos e1]
  unfold headOf textOf
  simp only [Bool.and_eq_true, List.all_eq_true, decide_eq_true_eq]
  exact ⟨⟨by rw [e1]; exact hf, hb, hp.arep⟩, h1, h2⟩
theorem can_csi {S : Ps} (h : S.k = 4 ∧ S.tx = [] ∧ btw (bare S.it) = true ∧ Arp S.ps) (hf : isFin 4 S.b = true) : Can (act S) ∧ 0 ≤ (act S).b := by
  obtain ⟨hk, ht, hb, hp⟩ := h
  have e1 : (act S).k = 4 := hk
  refine ⟨⟨?_, fun _ => rfl, fun h => by omega, fun h => by omega, fun h => by omega, fun _ _ => ht⟩, fin_pos hf⟩
  unfold cbt
  rw [if_neg (by omega), if_neg (by omega), if_neg (by omega), if_pos e1]
  unfold headOf
  simp only [Bool.and_eq_true]
  exact ⟨by rw [e1]; exact hf, hb, hp.arep⟩
theorem can_esc {S : Ps} (h : S.k = 3 ∧ S.ps = [] ∧ S.tx = [] ∧ btw S.it = true) (hf : isFin 3 S.b = true) (ho : opened S S.b = 0) : Can (act S) ∧ 0 ≤ (act S).b := by
  obtain ⟨hk, hp, ht, hb⟩ := h
  have e1 : (act S).k = 3 := hk
  refine ⟨⟨?_, fun _ => rfl, fun h => by omega, fun _ => by show S.ps.take 32 = []; rw [hp]; rfl, fun h => by omega, fun _ _ => ht⟩, fin_pos hf⟩
  unfold cbt
  rw [if_neg (by omega), if_neg (by omega), if_pos e1]
  simp only [Bool.and_eq_true, Bool.or_eq_true, bne_iff_ne, beq_iff_eq]
  refine ⟨by rw [e1]; exact hf, hb, ?_⟩
  show S.it ≠ [] ∨ opens S.b = 0
  unfold opened at ho
  by_cases hi : S.it = []
  · rw [if_neg (by simpa using hi)] at ho; exact .inr ho
  · exact .inl hi
theorem bet_bare {l : Tx} (h : ∀ u ∈ l, isBet (u.toNat : Int) = true) : bare l = l := by
  cases l with
  | nil => rfl
  | cons u l =>
    show (if isMk (u.toNat : Int) = true then l else u :: l) = _
    rw [if_neg (by rw [bet_mk (h u (by simp))]; decide)]
theorem btw_snoc {l : Tx} {u : UInt8} (h : btw l = true) (hu : isBet (u.toNat : Int) = true) (hl : l.length < 2) : btw (l ++ [u]) = true := by
  unfold btw at h ⊢
  simp only [Bool.and_eq_true, List.all_eq_true, decide_eq_true_eq, List.mem_append, List.mem_singleton, List.length_append, List.length_singleton] at h ⊢
  refine ⟨fun x hx => ?_, by omega⟩
  rcases hx with hx | rfl
  · exact h.1 x hx
  · exact hu
def Good (q : Ps × List Ac) : Prop := Ic q.1 ∧ ∀ a ∈ q.2, Can a ∧ 0 ≤ a.b
theorem good_none {S : Ps} (h : Ic S) : Good (S, []) := ⟨h, fun a ha => by cases ha⟩
theorem good_one {S : Ps} {a : Ac} (h : Ic S) (ha : Can a ∧ 0 ≤ a.b) : Good (S, [a]) := ⟨h, fun x hx => by simp at hx; subst hx; exact ha⟩
theorem good_ground {S : Ps} {x : Int} (hs : S.s = 0) (hi : Cel.Inv S.d) (h1 : x ≤ 255) (h0 : 32 ≤ x) (h2 : x ≠ 127) : Good (ground S x) := by
  have hstep := Cel.step_inv hi (by omega) h1
  refine ⟨.off hstep.1 (fun h => absurd hs h) (.inl hs), fun a ha => ?_⟩
  obtain ⟨r, hr, rfl⟩ := List.mem_map.1 ha
  have := step_out hi h1 h0 h2 r hr
  exact can_prt (hstep.2 r hr) this.1 this.2
theorem ic_head {S : Ps} {s : Nat} {k : Int} (hs : S.s = s) (hd : S.d = zero) (h4 : s = 5 ∧ k = 4 ∨ s = 6 ∧ k = 6) (hk : S.k = k) (ht : S.tx = []) (hb : btw (bare S.it) = true) (hp : Arp S.ps) : Ic S := by
  refine ⟨by omega, hd ▸ Cel.inv_zero, fun _ => hd, fun e => by omega, fun e => ⟨by omega, ht, hb, hp⟩, fun e => ⟨by omega, ht, hb, hp⟩, fun e => by omega, fun e => by omega⟩
theorem good_ended {S : Ps} {x : Int} (h : Ic S) (hs : S.s = 4 ∨ S.s = 5 ∨ S.s = 6) (hf : isFin S.k x = true) : Good (ended { S with b := x } x) := by
  have hz := h.z (by omega)
  rcases hs with hs | hs | hs
  · obtain ⟨hk, hp, ht, hb⟩ := h.e hs
    unfold ended
    rw [if_pos (show ({ S with b := x } : Ps).s = 4 from hs)]
    split
    · exact good_none (ic_head rfl hz (.inl ⟨rfl, rfl⟩) rfl rfl btw_nil Arp.nil)
    split
    · exact good_none (ic_head rfl hz (.inr ⟨rfl, rfl⟩) rfl rfl btw_nil Arp.nil)
    split
    · exact good_none ⟨(by decide : 1 ≤ 7), hz ▸ Cel.inv_zero, fun _ => hz, fun e => (by cases e), fun e => (by cases e), fun e => (by cases e), fun _ => ⟨rfl, rfl, rfl, rfl, noC_nil⟩, fun e => (by cases e)⟩
    split
    · exact good_none (.off (hz ▸ Cel.inv_zero) (fun _ => hz) (.inr (.inl rfl)))
    split
    · exact good_none ic0
    · rename_i h5 h6 h1 h3 _
      refine good_one ic0 (can_esc ⟨hk, hp, ht, hb⟩ (by rw [hk] at hf; exact hf) ?_)
      show opened { S with b := x } x = 0
      have : opened { S with b := x } x = 0 ∨ opened { S with b := x } x = 5 ∨ opened { S with b := x } x = 1 ∨ opened { S with b := x } x = 6 ∨ opened { S with b := x } x = 3 := by
        unfold opened
        split
        · exact .inl rfl
        · unfold opens
          split
          · exact .inr (.inl rfl)
          split
          · exact .inr (.inr (.inl rfl))
          split
          · exact .inr (.inr (.inr (.inl rfl)))
          split
          · exact .inr (.inr (.inr (.inr rfl)))
          · exact .inl rfl
      omega
  · rw [ended5 (show ({ S with b := x } : Ps).s = 5 from hs)]
    obtain ⟨hk, ht, hb, hp⟩ := h.c hs
    exact good_one ic0 (can_csi ⟨hk, ht, hb, hp⟩ (by rw [hk] at hf; exact hf))
  · rw [ended6 (show ({ S with b := x } : Ps).s = 6 from hs)]
    obtain ⟨hk, ht, hb, hp⟩ := h.p hs
    refine good_none ⟨(by decide : 2 ≤ 7), hz ▸ Cel.inv_zero, fun _ => hz, fun e => (by cases e), fun e => (by cases e), fun e => (by cases e), fun e => (by cases e), fun _ => ⟨hk, by rw [hk] at hf; exact hf, hb, hp, ?_⟩⟩
    show noC S.tx
    rw [ht]; exact noC_nil
theorem good_add {S : Ps} {u : UInt8} (h : Ic S) (hs : S.s = 4 ∨ S.s = 5 ∨ S.s = 6) (h0 : 32 ≤ (u.toNat : Int)) (h1 : (u.toNat : Int) < 127) (hf : isFin S.k (u.toNat : Int) = false) (hft : fits S (u.toNat : Int) = true) : Good (add S u, []) := by
  have hz := h.z (by omega)
  refine good_none ?_
  rcases hs with hs | hs | hs
  · obtain ⟨hk, hp, ht, hb⟩ := h.e hs
    have hbt : isBet (u.toNat : Int) = true := by
      rw [hk] at hf
      unfold isFin at hf
      rw [if_pos rfl] at hf
      simp at hf
      unfold isBet
      simp
      omega
    have e : add S u = { S with it := S.it ++ [u] } := by unfold add; rw [hbt]; rfl
    rw [e]
    have hl : S.it.length < 2 := by
      unfold fits at hft
      rw [if_pos hbt, bet_bare (bet_bd hb).1] at hft
      exact of_decide_eq_true hft
    exact ⟨h.s, h.d, h.z, fun _ => ⟨hk, hp, ht, btw_snoc hb hbt hl⟩, fun e => absurd (hs.symm.trans e) (by decide), fun e => absurd (hs.symm.trans e) (by decide), fun e => absurd (hs.symm.trans e) (by decide), fun e => absurd (hs.symm.trans e) (by decide)⟩
  all_goals
    have hh : ∃ k, (S.s = 5 ∧ k = 4 ∨ S.s = 6 ∧ k = 6) ∧ S.k = k ∧ S.tx = [] ∧ btw (bare S.it) = true ∧ Arp S.ps := by
      first
        | exact ⟨4, .inl ⟨hs, rfl⟩, h.c hs⟩
        | exact ⟨6, .inr ⟨hs, rfl⟩, h.p hs⟩
    obtain ⟨k, hsk, hk, ht, hb, hp⟩ := hh
    by_cases hbt : isBet (u.toNat : Int) = true
    · have e : add S u = { S with it := S.it ++ [u] } := by unfold add; rw [hbt]; rfl
      rw [e]
      have hl : (bare S.it).length < 2 := by
        unfold fits at hft
        rw [if_pos hbt] at hft
        exact of_decide_eq_true hft
      exact ic_head (s := S.s) rfl hz hsk hk ht (by show btw (bare (S.it ++ [u])) = true; rw [bare_snoc (bet_mk hbt)]; exact btw_snoc hb hbt hl) hp
    · have nb : isBet (u.toNat : Int) = false := by simpa using hbt
      by_cases hmk : isMk (u.toNat : Int) = true
      · have e : add S u = { S with it := S.it ++ [u] } := by unfold add; rw [nb, hmk]; rfl
        rw [e]
        have hl : S.it = [] := by
          unfold fits at hft
          rw [nb, if_neg (by decide), if_pos hmk] at hft
          simp at hft
          exact hft.1
        refine ic_head (s := S.s) rfl hz hsk hk ht ?_ hp
        show btw (bare (S.it ++ [u])) = true
        rw [hl]
        show btw (if isMk (u.toNat : Int) = true then [] else [u]) = true
        rw [if_pos hmk]; rfl
      · have nm : isMk (u.toNat : Int) = false := by simpa using hmk
        have e : add S u = { S with ps := withB S.ps (u.toNat : Int) } := by unfold add; rw [nb, nm]; rfl
        rw [e]
        refine ic_head (s := S.s) rfl hz hsk hk ht hb (hp.with ?_)
        unfold isBet at nb
        simp at nb
        omega
theorem step_good {S : Ps} (u : UInt8) (h : Ic S) : Good (step S u) := by
  have hu := u8_le u
  have hs7 := h.s
  unfold step
  simp only []
  split
  · exact good_none ic0
  rename_i n24
  split
  · refine ⟨⟨(by decide : 4 ≤ 7), Cel.inv_zero, fun _ => rfl, fun _ => ⟨rfl, rfl, rfl, rfl⟩, fun e => (by cases e), fun e => (by cases e), fun e => (by cases e), fun e => (by cases e)⟩, fun a ha => ?_⟩
    unfold escA at ha
    rw [List.mem_append] at ha
    rcases ha with ha | ha
    · exact can_lost _ a ha
    · split at ha
      · rename_i hs
        simp at ha; subst ha
        rcases hs with hs | hs
        · exact can_osc (h.o hs)
        · exact can_dcs (h.t hs)
      · simp at ha
  rename_i n27
  split
  · rename_i htx
    split
    · rename_i h7
      exact good_one ic0 (can_osc (h.o h7.1))
    split
    · exact good_none h
    rename_i h32
    split
    · exact good_none h
    · rename_i h3
      refine good_none ?_
      have hz := h.z (fun e => by rw [e] at htx; cases htx)
      have ht : S.s = 1 ∨ S.s = 2 := by
        unfold isTx at htx
        simp at htx
        omega
      unfold put
      split
      · rename_i hl
        have nc : ∀ {l : Tx}, noC l → l.length < 1024 → noC (l ++ [u]) := fun {l} hn hl => ⟨fun x hx => by
          rw [List.mem_append, List.mem_singleton] at hx
          rcases hx with hx | rfl
          · exact hn.1 x hx
          · exact h32, by simp; omega⟩
        rcases ht with hs | hs
        · obtain ⟨a, b, c, d, e⟩ := h.o hs
          exact ⟨h.s, h.d, h.z, fun e => absurd (hs.symm.trans e) (by decide), fun e => absurd (hs.symm.trans e) (by decide), fun e => absurd (hs.symm.trans e) (by decide), fun _ => ⟨a, b, c, d, nc e hl⟩, fun e => absurd (hs.symm.trans e) (by decide)⟩
        · obtain ⟨a, b, c, d, e⟩ := h.t hs
          exact ⟨h.s, h.d, h.z, fun e => absurd (hs.symm.trans e) (by decide), fun e => absurd (hs.symm.trans e) (by decide), fun e => absurd (hs.symm.trans e) (by decide), fun e => absurd (hs.symm.trans e) (by decide), fun _ => ⟨a, b, c, d, nc e hl⟩⟩
      · exact h
  rename_i ntx
  split
  · rename_i h32
    refine ⟨⟨h.s, Cel.inv_zero, fun _ => rfl, h.e, h.c, h.p, h.o, h.t⟩, fun a ha => ?_⟩
    rw [List.mem_append, List.mem_singleton] at ha
    rcases ha with ha | rfl
    · exact can_lost _ a ha
    · exact can_ctl hu.1 h32 (by omega) (by omega) n27
  rename_i h32
  split
  · rename_i hw
    exact good_ground rfl Cel.inv_zero hu.2 (by omega) (by omega)
  rename_i nw
  split
  · exact good_none h
  rename_i n127
  split
  · rename_i hs
    exact good_ground hs h.d hu.2 (by omega) n127
  rename_i hs0
  have hhd : isHd S.s = true := by
    unfold isHd
    simp only [Bool.not_eq_true] at ntx
    rw [ntx]
    simp [hs0]
  have hlt : (u.toNat : Int) < 127 := by
    by_cases hc : 127 < (u.toNat : Int)
    · exact absurd ⟨hc, hhd⟩ nw
    · omega
  split
  · split
    · split
      · exact good_none (.off Cel.inv_zero (fun _ => rfl) (.inr (.inl rfl)))
      · exact good_none ic0
    · exact good_none h
  rename_i hs7'
  have hs : S.s = 4 ∨ S.s = 5 ∨ S.s = 6 := by
    unfold isTx at ntx
    simp at ntx
    omega
  split
  · rename_i hf
    exact good_ended h hs hf
  rename_i hf
  split
  · rename_i hft
    exact good_add h hs (by omega) hlt (by simpa using hf) hft
  · exact good_none (.off (by rw [show S.d = zero from h.z hs0]; exact Cel.inv_zero) (fun _ => h.z hs0) (.inr (.inr rfl)))
theorem run_good : ∀ (l : Tx) (S : Ps), Ic S → Good (run S l)
  | [], _, h => good_none h
  | u :: l, S, h => by
    have h1 := step_good u h
    have h2 := run_good l (step S u).1 h1.1
    refine ⟨h2.1, fun a ha => ?_⟩
    rw [run_cons, List.mem_append] at ha
    rcases ha with ha | ha
    · exact h1.2 a ha
    · exact h2.2 a ha
/-- Of any bytes: what they tell, written and fed to a new parser, tells just that. -/
theorem run_back (s : Tx) : run ps0 (prnAll (run ps0 s).2) = (ps0, (run ps0 s).2) := run_prnAll _ (run_good s ps0 ic0).2
end Go.Proofs.YtjklnnklgkihlaaGreatDoor.Vt
/- The walks of the law's words: are two actions the same, two lists of them? Where they are. -/
namespace Go.Proofs.YtjklnnklgkihlaaGreatDoor.Vt
open Go.RowKit
open Cel (Blk Kept Tabs low Owns At)

theorem intsN_cell {w : World} {B : Nat} {g m c : Nat} {l : List Int} (h : Ints w B (.slice (some ⟨g, 0, none⟩) m c) l) (k : Nat) (hk : k < l.length) : w.cell? ⟨g, k, none⟩ = some (.int .i64 (l[k])) := by
  have := h.cells (g := g) rfl k (.int .i64 l[k]) (by simp [ints, hk])
  have e : (⟨g, 0, none⟩ : Addr).add k = ⟨g, k, none⟩ := by unfold Addr.add; split <;> simp_all
  rw [e] at this
  exact this
theorem below_drewN {B : Nat} {w w' : World} (h : Below B w w') (n : Nat) : Below B w (w'.drewN n) := ⟨h.os, h.tape, h.output, h.size, h.block⟩
theorem own_drewN {w : World} {base e size n : Nat} {v : Value} {xs : List Value} (h : w.ownsRow base e size v n xs) (k : Nat) : (w.drewN k).ownsRow base e size v n xs := h
abbrev acV (a : Ac) (v : Value) : Value := .agg #[.int .i64 a.k, .int .i32 a.r, .int .u8 a.b, v, .string (bs a.it), .string (bs a.tx)]
/-- What is told, without where its numbers lie. -/
theorem outs_get {l : List To} {k : Nat} (hk : k < l.length) (hk' : k < (outs l).length) : (outs l)[k] = l[k].1 := by simp [outs]
theorem flat_get (l : List To) (k i : Nat) (hk : k < l.length) (hi : i < 6) : (flat l)[k * 6 + i]? = (acL l[k])[i]? := by
  induction l generalizing k with
  | nil => simp at hk
  | cons t l ih =>
    unfold flat at ih ⊢
    rw [List.flatMap_cons]
    have h6 : (acL t).length = 6 := rfl
    cases k with
    | zero =>
      rw [List.getElem?_append_left (by omega)]
      simp
    | succ k =>
      rw [List.getElem?_append_right (by omega)]
      have e : (k + 1) * 6 + i - (acL t).length = k * 6 + i := by omega
      rw [e, ih k (by simpa using hk)]
      simp
/-- The cells of an action in a list. -/
theorem acts_cell {w : World} {B : Nat} {g m c : Nat} {l : List To} (h : w.ownsRow B 65 6 (.slice (some ⟨g, 0, none⟩) m c) l.length (flat l)) (k : Nat) (hk : k < l.length) (i : Nat) (hi : i < 6) : w.cell? ⟨g, k * 6 + i, none⟩ = (acL l[k])[i]? := by
  have e1 := flat_get l k i hk hi
  obtain ⟨u, hu⟩ : ∃ u, (acL l[k])[i]? = some u := ⟨_, List.getElem?_eq_getElem (show i < (acL l[k]).length from hi)⟩
  rw [hu] at e1 ⊢
  have := h.cells (g := g) rfl (k * 6 + i) u e1
  have e : (⟨g, 0, none⟩ : Addr).add (k * 6 + i) = ⟨g, k * 6 + i, none⟩ := by unfold Addr.add; split <;> simp_all
  rw [e] at this
  exact this
end Go.Proofs.YtjklnnklgkihlaaGreatDoor.Vt
/- The walks of what can be told: what stands between, texts, numbers, heads. The walks of what can be told: heads, and any action. -/
namespace Go.Proofs.YtjklnnklgkihlaaGreatDoor.Vt
open Go.RowKit
open Cel (Blk Kept Tabs low Owns At)

theorem run_index_at (w : World) (l : Tx) (k : Nat) (hk : k < l.length) : (Instr.index 9 (.string (bs l)) (.int .i64 (k : Int))).run Tryz.prog w = .ok (.int .u8 ((l[k]).toNat : Int)) w := by
  have hs := bs_size l
  rw [run_index_string w 9 (bs l) .i64 (k : Int) Tryz.underlying9, dif_pos ⟨by omega, by omega⟩]
  have e : (bs l)[(k : Int).toNat]'(by omega) = l[k] := by
    show (bs l).data[(k : Int).toNat]'(show _ < (bs l).size by omega) = l[k]
    rw [← Array.getElem_toList]
    simp [bs]
  show Result.ok (Value.int .u8 ((((bs l)[(k : Int).toNat]'(by omega)).toNat : Nat) : Int)) w = _
  rw [e]
theorem btw_take {l : Tx} {k : Nat} (hk : k < l.length) (h : (l.take k).all (fun u => isBet (u.toNat : Int)) = true) (hu : isBet ((l[k]).toNat : Int) = true) : (l.take (k + 1)).all (fun u => isBet (u.toNat : Int)) = true := by
  rw [List.take_succ_eq_append_getElem hk, List.all_append, h]
  simpa using hu
theorem btw_no {l : Tx} {k : Nat} (hk : k < l.length) (hu : isBet ((l[k]).toNat : Int) = false) : btw l = false := by
  have : l.all (fun u => isBet (u.toNat : Int)) = false := by
    rw [List.all_eq_false]
    exact ⟨l[k], List.getElem_mem _, by rw [hu]; decide⟩
  unfold btw; rw [this]; rfl
def noCtl (l : Tx) : Bool := l.all (fun u => decide (¬ (u.toNat : Int) < 32))
theorem noCtl_take {l : Tx} {k : Nat} (hk : k < l.length) (h : noCtl (l.take k) = true) (hu : ¬ ((l[k]).toNat : Int) < 32) : noCtl (l.take (k + 1)) = true := by
  unfold noCtl at h ⊢
  rw [List.take_succ_eq_append_getElem hk, List.all_append, h]
  simpa using hu
theorem noCtl_no {l : Tx} {k : Nat} (hk : k < l.length) (hu : ((l[k]).toNat : Int) < 32) : noCtl l = false := by
  unfold noCtl
  rw [List.all_eq_false]
  exact ⟨l[k], List.getElem_mem _, by simp; omega⟩
theorem textOf_no {a : Ac} (h : noCtl a.tx = false) : textOf a = false := by
  unfold textOf; unfold noCtl at h; rw [h]; rfl
theorem textOf_yes {a : Ac} (h : noCtl a.tx = true) : textOf a = decide (a.tx.length ≤ 1024) := by
  unfold textOf; unfold noCtl at h; rw [h]; rfl
def inP (l : List Int) : Bool := l.all (fun p => decide (-1 ≤ p) && decide (p ≤ 9999))
theorem inP_take {l : List Int} {k : Nat} (hk : k < l.length) (h : inP (l.take k) = true) (h0 : -1 ≤ l[k]) (h1 : l[k] ≤ 9999) : inP (l.take (k + 1)) = true := by
  unfold inP at h ⊢
  rw [List.take_succ_eq_append_getElem hk, List.all_append, h]
  simp [h0, h1]
theorem inP_no {l : List Int} {k : Nat} (hk : k < l.length) (h : ¬ (-1 ≤ l[k] ∧ l[k] ≤ 9999)) : arep l = false := by
  have : l.all (fun p => decide (-1 ≤ p) && decide (p ≤ 9999)) = false := by
    rw [List.all_eq_false]
    exact ⟨l[k], List.getElem_mem _, by simpa using h⟩
  unfold arep; rw [this]; rfl
/-- Numbers that can be read. -/
def RdI (w : World) (A : Option Addr) (l : List Int) : Prop := ∀ k (hk : k < l.length), ∃ g o, A = some ⟨g, o, none⟩ ∧ g < w.heap.size ∧ w.cell? ⟨g, o + k, none⟩ = some (.int .i64 l[k])
theorem RdI.kept {w w' : World} {A : Option Addr} {l : List Int} (h : RdI w A l) (hb : Below w.heap.size w w') : RdI w' A l := fun k hk => by
  obtain ⟨g, o, e, hg, hc⟩ := h k hk
  exact ⟨g, o, e, Nat.lt_of_lt_of_le hg hb.size, (hb.cell (p := ⟨g, o + k, none⟩) hg).trans hc⟩
theorem RdI.drewN {w : World} {A : Option Addr} {l : List Int} (h : RdI w A l) (n : Nat) : RdI (w.drewN n) A l := h
theorem RdI.of_ints {w : World} {B m c : Nat} {A : Option Addr} {l : List Int} (h : Ints w B (.slice A m c) l) : RdI w A l := fun k hk => by
  obtain ⟨g, rfl⟩ := own_addr h (by omega)
  have hl := (h.lt g rfl).2
  exact ⟨g, 0, rfl, hl, by rw [Nat.zero_add]; exact intsN_cell h k hk⟩
end Go.Proofs.YtjklnnklgkihlaaGreatDoor.Vt
namespace Go.Proofs.YtjklnnklgkihlaaGreatDoor.Vt
open Go.RowKit
open Cel (Blk Kept Tabs low Owns At)

/-- The texts of an action are no longer than a text can be. -/
def Fitly (a : Ac) : Prop := a.it.length ≤ 1000000000 ∧ a.tx.length ≤ 140737488355328 ∧ a.ps.length ≤ 140737488355328
end Go.Proofs.YtjklnnklgkihlaaGreatDoor.Vt
/- The walk of what can be told: any action. The walk of what can be told: any action (the rest). -/
namespace Go.Proofs.YtjklnnklgkihlaaGreatDoor.Vt
open Go.RowKit
open Cel (Blk Kept Tabs low Owns At)

theorem it_ne (l : Tx) : (l != []) = !l.isEmpty := by cases l <;> rfl
abbrev acW (w : World) (k r b : Int) (v : Value) (X Z : ByteArray) : World := w.alloc (.cells #[.int .i64 k, .int .i32 r, .int .u8 b, v, .string X, .string Z] 65)
theorem acW_below (w : World) (k r b : Int) (v : Value) (X Z : ByteArray) : Below w.heap.size w (acW w k r b v X Z) := (Below.refl _ _).alloc (Nat.le_refl _) _
def Canned (a : Ac) (w : World) (e : Ending) (w' : World) : Prop := e = .returned (.bool (cbt a)) ∧ Below w.heap.size w w'
section
variable (a : Ac) (A : Option Addr) (c : Nat) (w : World)
end
end Go.Proofs.YtjklnnklgkihlaaGreatDoor.Vt
namespace Go.Proofs.YtjklnnklgkihlaaGreatDoor.Vt
open Go.RowKit
open Cel (Blk Kept Tabs low Owns At)

section
variable (a : Ac) (A : Option Addr) (c : Nat) (w : World)
end
end Go.Proofs.YtjklnnklgkihlaaGreatDoor.Vt
