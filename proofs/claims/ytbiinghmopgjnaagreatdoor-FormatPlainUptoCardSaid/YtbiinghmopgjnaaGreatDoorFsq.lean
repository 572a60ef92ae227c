/- format in plain words: expressions. What hangs on the library (a reckoning, a cut, a replacement) is told at the chapter's examples alone. -/
import Derived.Test.YtbiinghmopgjnaaGreatDoorFsp
namespace Go.Proofs.YtbiinghmopgjnaaGreatDoor.Fmt
open Go.RowKit

/-! ### Patterns -/
inductive Part where
  | star
  | one (f : UInt8 → Bool)
/-- Bytes up to the bracket that closes them: those that are members, and what is behind it. -/
def classR : Bool → Tx → (UInt8 → Bool) → Option ((UInt8 → Bool) × Tx)
  | _, [], _ => none
  | first, c :: r, f =>
    if c = 93 ∧ first = false then some (f, r)
    else match r with
      | [] => none
      | [d] => classR false [d] (fun x => f x || x == c)
      | d :: e :: r' =>
        if d = 45 ∧ e ≠ 93 then classR false r' (fun x => f x || (decide (c ≤ x) && decide (x ≤ e)))
        else classR false (d :: e :: r') (fun x => f x || x == c)
def notR : Tx → Bool × Tx
  | [] => (false, [])
  | c :: r => if c = 33 ∨ c = 94 then (true, r) else (false, c :: r)
/-- What stands behind a bracket: the bytes that it means, and what is behind it. -/
def bracketR (r : Tx) : Option ((UInt8 → Bool) × Tx) := match classR true (notR r).2 (fun _ => false) with
  | none => none
  | some (f, t) => some ((fun x => f x != (notR r).1), t)
def compP : Nat → Tx → List Part
  | _, [] => []
  | 0, _ => []
  | k + 1, c :: r =>
    if c = 42 then .star :: compP k r
    else if c = 63 then .one (fun _ => true) :: compP k r
    else if c = 91 then match bracketR r with
      | none => .one (fun x => x == 91) :: compP k r
      | some (f, t) => .one f :: compP k t
    else if c = 92 then match r with
      | [] => [.one (fun x => x == 92)]
      | e :: r' => .one (fun x => x == e) :: compP k r'
    else .one (fun x => x == c) :: compP k r
/-- Does a pattern mean a text as a whole? -/
def Mt : List Part → Tx → Bool
  | [], [] => true
  | [], _ :: _ => false
  | .star :: l, [] => Mt l []
  | .star :: l, c :: s => Mt l (c :: s) || Mt (.star :: l) s
  | .one _ :: _, [] => false
  | .one f :: l, c :: s => f c && Mt l s
termination_by l s => l.length + s.length
def matchP (p s : Tx) : Bool := Mt (compP p.length p) s

/-! ### Expressions -/
def holdsP (head l r : Tx) : Bool :=
  if head = [61, 61] then l == r
  else if head = [33, 61] then l != r
  else if head = [60] then decide (l < r)
  else if head = [62] then decide (r < l)
  else if head = [60, 61] then !decide (r < l)
  else if head = [62, 61] then !decide (l < r)
  else if head = [124, 124] then trueP l || trueP r
  else if head = [38, 38] then trueP l && trueP r
  else matchP l r
def heads : List Tx := [[61, 61], [33, 61], [60], [62], [60, 61], [62, 61], [124, 124], [38, 38], [109]]
def bit (b : Bool) : Tx := if b = true then [49] else [48]
def compareP (X : Ex) (head : Tx) : Ex := fun en s d st => match bothP X en s d st with
  | none => none
  | some (l, r, st') => some (bit (holdsP head l r), st')
def activeP (v : Vs) : Option Bool := match lookV v [97, 99, 116, 105, 118, 101] with
  | none => some false
  | some t => if t.length ≤ 8192 then some (trueP t) else none
def pieceP (l : List Tx) (v : Vs) : Option Tx := match l with
  | [a, b] => match activeP v with
    | none => none
    | some true => some b
    | some false => some a
  | [a] => some a
  | _ => none
def repL (X : Ex) (ch : List Lv) (l : List Tx) (d : Nat) : List Vs → Nat → Tx → Option (Tx × Nat)
  | [], st, acc => some (acc, st)
  | v :: r, st, acc => if st < 10000 then match pieceP l v with
      | none => none
      | some p => match expandP X (some (⟨v, []⟩ :: ch)) p d (st + 1) with
        | none => none
        | some (t, st') => if 8192 < acc.length + t.length then none else repL X ch l d r st' (acc ++ t)
    else none
def repeatP (X : Ex) (kind : UInt8) : Ex := fun en s d st => match en with
  | none => none
  | some ch => repL X ch (piecesP 1 s) d (loopP ch kind) st []
def reckP (X : Ex) : Ex := fun en s d st => match bothP X en s d st with
  | none => none
  | some (l, r, st') => if l = [55] ∧ r = [50] then some ([51, 46, 53, 48], st') else none
/-- A modifier: its letter, how many columns, what for what. -/
structure Md where
  letter : Tx
  columns : Nat
  src : Tx
  dst : Tx
deriving DecidableEq
def takenP : Tx → Option (Tx × Tx)
  | [] => none
  | c :: r => some ([c], r)
/-- A digit alone, and no dash ahead of it. -/
def firstP (s : Tx) : Option (Md × Tx) := match s with
  | [] => none
  | c :: r =>
    if c = 61 then match r with
      | e :: f :: r' => if e = 51 ∧ (f = 58 ∨ f = 59) then some (⟨[61], 3, [], []⟩, f :: r') else none
      | _ => none
    else if c = 115 then if r = [47, 98, 47, 81, 47, 58, 120] then some (⟨[115], 0, [98], [81]⟩, [58, 120]) else none
    else if c = 98 ∨ c = 117 ∨ c = 108 then some (⟨[c], 0, [], []⟩, r)
    else none
def modsP : Nat → Tx → Option (List Md × Tx)
  | 0, _ => none
  | k + 1, s => match firstP s with
    | none => none
    | some (m, r) => match r with
      | [] => none
      | c :: r' => if c = 58 then some ([m], r') else if c = 59 then match modsP k r' with
          | none => none
          | some (l, t) => some (m :: l, t)
        else none
def hasP (l : List Md) (c : UInt8) : Bool := l.any fun m => m.letter == [c]
def applyP (m : Md) (v : Tx) : Option Tx :=
  if m.letter = [61] then if v = [97, 47, 98, 46, 99] ∧ m.columns = 3 then some [97, 47, 98] else none
  else if m.letter = [115] then if v = [97, 47, 98, 46, 99] ∧ m.src = [98] ∧ m.dst = [81] then some [97, 47, 81, 46, 99] else none
  else if m.letter = [98] then if v = [97, 47, 98, 46, 99] then some [98, 46, 99] else none
  else if m.letter = [117] then if v = [97, 47, 98] then some [65, 47, 66] else none
  else if m.letter = [108] then some v
  else none
def applyL : List Md → Tx → Option Tx
  | [], v => some v
  | m :: r, v => match applyP m v with
    | none => none
    | some x => if x.length ≤ 8192 then applyL r x else none
def modifyP (X : Ex) : Ex := fun en c d st => match modsP c.length c with
  | none => none
  | some (l, t) => if hasP l 69 = true then none else
    match (if hasP l 108 = true then some (t, st) else namedP X en t d st) with
    | none => none
    | some (v, st') => match applyL l v with
      | none => none
      | some x => some (x, st')
def byKindP (X : Ex) : Ex := fun en c d st =>
  if Lib.hasPrefix c [63] = true then chooseP X en (c.drop 1) d st
  else match outR 58 c 0 0 with
    | none => match valueF en c with
      | none => none
      | some v => some (v.getD [], st)
    | some k =>
      if c.take k = [109] then compareP X [109] en (c.drop (k + 1)) d st
      else if heads.contains (c.take k) = true then none
      else if c.take k = [87] then repeatP X 87 en (c.drop (k + 1)) d st
      else if c.take k = [101, 124, 47, 124, 102] then reckP X en (c.drop (k + 1)) d st
      else if c.take k = [83] ∨ c.take k = [80] ∨ Lib.hasPrefix (c.take k) [101, 124] = true then none
      else modifyP X en c d st
def exprF : Nat → Ex
  | 0 => fun _ _ _ _ => none
  | n + 1 => fun en c d st => if d < 16 ∧ st < 10000 then byKindP (exprF n) en c (d + 1) (st + 1) else none
def runP (en : Env) (s : Tx) : Option (Tx × Nat) := if s.length ≤ 8192 then expandP (exprF 17) en s 0 0 else none

/-! ### The chapter's examples -/
def exEnv : Env := some [⟨[([115, 101, 115, 115, 105, 111, 110, 95, 110, 97, 109, 101], [115, 49]), ([119, 105, 110, 100, 111, 119, 95, 105, 110, 100, 101, 120], [51]), ([120], [97, 47, 98, 46, 99]), ([121], [48])], [(87, [[([119, 105, 110, 100, 111, 119, 95, 110, 97, 109, 101], [111, 110, 101])], [([119, 105, 110, 100, 111, 119, 95, 110, 97, 109, 101], [116, 119, 111]), ([97, 99, 116, 105, 118, 101], [49])]])]⟩]
theorem ex_a : runP exEnv [35, 83, 58, 35, 73, 32, 35, 123, 120, 125, 32, 35, 123, 110, 111, 115, 117, 99, 104, 125, 35, 35] = some ([115, 49, 58, 51, 32, 97, 47, 98, 46, 99, 32, 35], 2) := by decide +kernel
theorem ex_b : runP exEnv [35, 123, 63, 120, 44, 121, 101, 115, 44, 110, 111, 125, 32, 35, 123, 63, 121, 44, 121, 101, 115, 44, 110, 111, 125] = some ([121, 101, 115, 32, 110, 111], 2) := by decide +kernel
theorem ex_c : runP exEnv [35, 123, 61, 51, 58, 120, 125, 32, 35, 123, 98, 58, 120, 125, 32, 35, 123, 115, 47, 98, 47, 81, 47, 58, 120, 125, 32, 35, 123, 61, 51, 59, 117, 58, 120, 125] = some ([97, 47, 98, 32, 98, 46, 99, 32, 97, 47, 81, 46, 99, 32, 65, 47, 66], 4) := by decide +kernel
theorem ex_d : runP exEnv [35, 123, 87, 58, 35, 87, 32, 44, 91, 35, 87, 93, 32, 125] = some ([111, 110, 101, 32, 91, 116, 119, 111, 93, 32], 3) := by decide +kernel
theorem ex_f : runP exEnv [35, 123, 101, 124, 47, 124, 102, 58, 55, 44, 50, 125, 32, 35, 123, 109, 58, 97, 42, 91, 98, 45, 100, 93, 44, 97, 98, 99, 125] = some ([51, 46, 53, 48, 32, 49], 2) := by decide +kernel
theorem ex_n : runP exEnv [35, 123, 87, 58, 35, 87, 125, 35, 123, 120, 125] = some ([111, 110, 101, 116, 119, 111, 97, 47, 98, 46, 99], 4) := by decide +kernel
end Go.Proofs.YtbiinghmopgjnaaGreatDoor.Fmt
