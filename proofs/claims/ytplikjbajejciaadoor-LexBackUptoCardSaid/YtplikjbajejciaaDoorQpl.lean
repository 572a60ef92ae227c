/- lex: the layer in plain words: texts as lists of bytes, commands as words. -/
import Derived.Test.YtplikjbajejciaaDoorQba
namespace Go.Proofs.YtplikjbajejciaaDoor.Lex
open Go.RowKit
/-- The pairs of names and values that a text may ask for. -/
abbrev Env := List (Tx × Tx)
/-- What may stand right behind a word. -/
def brk : Tx → Bool
  | [] => true
  | c :: _ => c == 32 || (c == 9 || (c == 10 || c == 59))
def lettersL : Tx := [97, 98, 99, 100, 101, 102, 103, 104, 105, 106, 107, 108, 109, 110, 111, 112, 113, 114, 115, 116, 117, 118, 119, 120, 121, 122, 65, 66, 67, 68, 69, 70, 71, 72, 73, 74, 75, 76, 77, 78, 79, 80, 81, 82, 83, 84, 85, 86, 87, 88, 89, 90, 95]
def digitsL : Tx := [48, 49, 50, 51, 52, 53, 54, 55, 56, 57]
def isL (c : UInt8) : Bool := lettersL.contains c
def isD (c : UInt8) : Bool := digitsL.contains c
/-- The value of a name: that of the last pair that has it. -/
def valP (env : Env) (n : Tx) : Tx := env.foldl (fun a p => if p.1 = n then p.2 else a) []
/-- A line more behind a line feed. -/
def nl (c : UInt8) (n : Nat) : Nat := if c = 10 then n + 1 else n
/-- How many bytes of a name come next: more of it, or all of it. -/
def nameR : Tx → Nat
  | [] => 0
  | c :: r => if isL c || isD c then nameR r + 1 else 0
def nameN : Tx → Nat
  | [] => 0
  | c :: r => if isL c then nameR r + 1 else 0
/-- What stands behind a dollar sign: its value, and what stands behind that. -/
def nam (env : Env) (s : Tx) : Option (Tx × Tx) :=
  match s with
  | [] => some ([36], [])
  | c :: r =>
    if c = 123 then
      if nameN r = 0 then none
      else match r.drop (nameN r) with
        | [] => none
        | d :: r' => if d = 125 then some (valP env (r.take (nameN r)), r') else none
    else if nameN s = 0 then some ([36], s)
    else some (valP env (s.take (nameN s)), s.drop (nameN s))
def esc (s : Tx) (n : Nat) : Option (Tx × Tx × Nat) :=
  match s with
  | [] => none
  | c :: r => if c = 10 then some ([], r, n + 1) else some ([c], r, n)
def lett : Tx → Tx
  | [c] => if c = 110 then [10] else if c = 116 then [9] else if c = 101 then [27] else [c]
  | t => t
/-- Where within a word, or a block: plainly, in single quotes, in double ones. -/
inductive Q where
  | pl | sg | db
deriving DecidableEq
/-- One step within a word. -/
inductive Sp where
  | bad (e : Nat)
  | fin
  | go (q : Q) (t : Tx) (s : Tx) (n : Nat)
def escS (q : Q) (f : Tx → Tx) (s : Tx) (n : Nat) : Sp :=
  match esc s n with
  | none => .bad 4
  | some (t, r, k) => .go q (f t) r k
def namS (env : Env) (q : Q) (s : Tx) (n : Nat) : Sp :=
  match nam env s with
  | none => .bad 4
  | some (t, r) => .go q t r n
def stepW (env : Env) (q : Q) (s : Tx) (n : Nat) : Sp :=
  match q, s with
  | .pl, [] => .fin
  | .pl, c :: r =>
    if brk (c :: r) then .fin
    else if c = 39 then .go .sg [] r n
    else if c = 34 then .go .db [] r n
    else if c = 92 then escS .pl id r n
    else if c = 36 then namS env .pl r n
    else .go .pl [c] r n
  | .sg, [] => .bad 4
  | .sg, c :: r => if c = 39 then .go .pl [] r n else .go .sg [c] r (nl c n)
  | .db, [] => .bad 4
  | .db, c :: r =>
    if c = 34 then .go .pl [] r n
    else if c = 92 then escS .db lett r n
    else if c = 36 then namS env .db r n
    else .go .db [c] r (nl c n)
/-- What a word comes to: it is wrong, or its text, what stands behind it, in which line. -/
inductive WR where
  | bad (e : Nat)
  | got (m : Tx) (s : Tx) (n : Nat)
def wordF (env : Env) : Nat → Q → Tx → Tx → Nat → WR
  | 0, _, _, _, _ => .bad 0
  | f + 1, q, m, s, n => match stepW env q s n with
    | .bad e => .bad e
    | .fin => .got m s n
    | .go q' t s' n' => if m.length + t.length > 8192 then .bad 2 else wordF env f q' (m ++ t) s' n'
/-- Does the value of HOME stand here? -/
def home : Tx → Bool
  | [] => false
  | c :: r => c == 126 && (r.head? == some 47 || brk r)
def homeL : Tx := [72, 79, 77, 69]
def wordP (env : Env) (s : Tx) (n : Nat) : WR :=
  if home s then
    if (valP env homeL).length > 8192 then .bad 2 else wordF env (s.length + 1) .pl (valP env homeL) s.tail n
  else wordF env (s.length + 1) .pl [] s n
/-- One step within a block. -/
inductive Sb where
  | bad
  | fin (s : Tx) (n : Nat)
  | go (q : Q) (d : Int) (s : Tx) (n : Nat)
def onB (d : Int) (s : Tx) (n : Nat) : Sb := if 0 < d then .go .pl d s n else if brk s then .fin s n else .bad
/-- The byte that comes next is passed over. -/
def tk : Tx → Nat → Tx × Nat
  | [], n => ([], n)
  | c :: r, n => (r, nl c n)
def stepB (q : Q) (d : Int) (s : Tx) (n : Nat) : Sb :=
  match q, s with
  | .pl, [] => .bad
  | .pl, c :: r =>
    if c = 123 then onB (d + 1) r n
    else if c = 125 then onB (d - 1) r n
    else if c = 92 then onB d (tk r n).1 (tk r n).2
    else if c = 39 then .go .sg d r n
    else if c = 34 then .go .db d r n
    else onB d r (nl c n)
  | .sg, [] => .bad
  | .sg, c :: r => if c = 39 then .go .pl d r n else .go .sg d r (nl c n)
  | .db, [] => .bad
  | .db, c :: r =>
    if c = 92 then .go .db d (tk r n).1 (tk r n).2
    else if c = 34 then .go .pl d r n
    else .go .db d r (nl c n)
def blockF : Nat → Q → Int → Tx → Nat → Option (Tx × Nat)
  | 0, _, _, _, _ => none
  | f + 1, q, d, s, n => match stepB q d s n with
    | .bad => none
    | .fin s' n' => some (s', n')
    | .go q' d' s' n' => blockF f q' d' s' n'
def blockP (s : Tx) (n : Nat) : Option (Tx × Nat) := blockF (s.length + 1) .pl 0 s n
/-- A word: its text, the line in which it begins, is it a block? -/
structure Wd where
  text : Tx
  line : Nat
  block : Bool
deriving DecidableEq
/-- A command. -/
structure Ln where
  words : List Wd
  group : Nat
deriving DecidableEq
def endC (L : List Ln) (ws : List Wd) (g : Nat) : List Ln := if ws = [] then L else L ++ [⟨ws, g⟩]
/-- The next command's group behind a line feed. -/
def grp (L : List Ln) (g : Nat) : Nat :=
  match L.getLast? with
  | none => g
  | some l => if l.group = g then g + 1 else g
/-- A remark is passed over. -/
def skipR : Tx → Tx
  | [] => []
  | c :: r => if c = 10 then c :: r else skipR r
def many (L : List Ln) (ws : List Wd) : Bool := ws.length == 256 || (ws.isEmpty && L.length == 1000)
/-- One step between words. -/
inductive Sr where
  | bad (e : Nat)
  | fin
  | go (L : List Ln) (ws : List Wd) (g : Nat) (s : Tx) (n : Nat)
def stepR (env : Env) (L : List Ln) (ws : List Wd) (g : Nat) (s : Tx) (n : Nat) : Sr :=
  match s with
  | [] => .fin
  | c :: r =>
    if c = 10 then .go (endC L ws g) [] (grp (endC L ws g) g) r (n + 1)
    else if c = 59 then .go (endC L ws g) [] g r n
    else if c = 32 ∨ c = 9 then .go L ws g r n
    else if c = 35 then .go L ws g (skipR (c :: r)) n
    else if c = 123 then
      if many L ws then .bad 3
      else match blockP (c :: r) n with
        | none => .bad 4
        | some (s', n') => .go L (ws ++ [⟨r.take (r.length - (s'.length + 1)), n, true⟩]) g s' n'
    else if c = 125 then .bad 4
    else if c = 92 ∧ r.head? = some 10 then .go L ws g r.tail (n + 1)
    else if many L ws then .bad 3
    else match wordP env (c :: r) n with
      | .bad e => .bad e
      | .got t s' n' => .go L (ws ++ [⟨t, n, false⟩]) g s' n'
/-- What a text comes to: it is wrong, and where, or its commands. -/
inductive RR where
  | bad (e : Nat) (line : Nat)
  | done (L : List Ln)
def readF (env : Env) : Nat → List Ln → List Wd → Nat → Tx → Nat → RR
  | 0, _, _, _, _, _ => .bad 0 0
  | f + 1, L, ws, g, s, n => match stepR env L ws g s n with
    | .bad e => .bad e n
    | .fin => .done (endC L ws g)
    | .go L' ws' g' s' n' => readF env f L' ws' g' s' n'
def splitP (env : Env) (s : Tx) : RR :=
  if s.length > 65536 then .bad 2 0 else readF env (s.length + 1) [] [] 1 s 1
end Go.Proofs.YtplikjbajejciaaDoor.Lex
