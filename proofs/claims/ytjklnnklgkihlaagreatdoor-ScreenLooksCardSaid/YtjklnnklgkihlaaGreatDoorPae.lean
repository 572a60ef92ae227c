/- Runes written as bytes come back, by the decoder and by the language's own range over a text; on lists and integers, no program is named here. -/
import Derived.Test.YtjklnnklgkihlaaGreatDoorPab
import Derived.Test.YtjklnnklgkihlaaGreatDoorProg
import Derived.WalkKit
import Derived.WalkLawsBesides
import Derived.WalkSpells
import Derived.WalkSmall
import Derived.Lib.Hide
import Derived.Outline
import Derived.Maps.AppendAt
import Derived.Deep.AppendLies
import Derived.Deep.Draws
import Derived.Lib.AppendIntMem
import Derived.BigQuiet
import Derived.Deep.QuietTactic
import Derived.StillTailTactics
import Derived.Deep.DeepCutAuto
namespace Go.Proofs.YtjklnnklgkihlaaGreatDoor.Cel

theorem u8_of (n : Nat) (h : n < 256) : (UInt8.ofNat n).toNat = n := by simp; omega

set_option maxRecDepth 100000 in
/-- The bytes of a rune that can be written. -/
theorem enc_form {r : Int} (h : good r) :
    (r < 128 ∧ ∃ a : UInt8, enc r = [a] ∧ (a.toNat : Int) = r) ∨
    (128 ≤ r ∧ r < 2048 ∧ ∃ a b : UInt8, enc r = [a, b] ∧ (a.toNat : Int) = 192 + r / 64 ∧ (b.toNat : Int) = 128 + r % 64) ∨
    (2048 ≤ r ∧ r < 65536 ∧ ∃ a b c : UInt8, enc r = [a, b, c] ∧ (a.toNat : Int) = 224 + r / 4096 ∧ (b.toNat : Int) = 128 + r / 64 % 64 ∧ (c.toNat : Int) = 128 + r % 64) ∨
    (65536 ≤ r ∧ r < 1114112 ∧ ∃ a b c d : UInt8, enc r = [a, b, c, d] ∧ (a.toNat : Int) = 240 + r / 262144 ∧ (b.toNat : Int) = 128 + r / 4096 % 64 ∧ (c.toNat : Int) = 128 + r / 64 % 64 ∧ (d.toNat : Int) = 128 + r % 64) := by
  have hv := good_valid h
  have hg := h
  unfold good at hg
  obtain ⟨n, rfl⟩ : ∃ n : Nat, r = (n : Int) := ⟨r.toNat, by omega⟩
  by_cases h1 : n < 128
  · left
    refine ⟨by omega, UInt8.ofNat n, ?_, by rw [u8_of n (by omega)]⟩
    simp only [enc, Utf8.encode, hv, if_true, Int.toNat_natCast, if_pos h1]
  · by_cases h2 : n < 2048
    · right; left
      refine ⟨by omega, by omega, UInt8.ofNat (192 + n / 64), UInt8.ofNat (128 + n % 64), ?_, by rw [u8_of _ (by omega)]; omega, by rw [u8_of _ (by omega)]; omega⟩
      simp only [enc, Utf8.encode, hv, if_true, Int.toNat_natCast, if_neg h1, if_pos h2]
    · by_cases h3 : n < 65536
      · right; right; left
        refine ⟨by omega, by omega, UInt8.ofNat (224 + n / 4096), UInt8.ofNat (128 + n / 64 % 64), UInt8.ofNat (128 + n % 64), ?_, by rw [u8_of _ (by omega)]; omega, by rw [u8_of _ (by omega)]; omega, by rw [u8_of _ (by omega)]; omega⟩
        simp only [enc, Utf8.encode, hv, if_true, Int.toNat_natCast, if_neg h1, if_neg h2, if_pos h3]
      · right; right; right
        refine ⟨by omega, by omega, UInt8.ofNat (240 + n / 262144), UInt8.ofNat (128 + n / 4096 % 64), UInt8.ofNat (128 + n / 64 % 64), UInt8.ofNat (128 + n % 64), ?_, by rw [u8_of _ (by omega)]; omega, by rw [u8_of _ (by omega)]; omega, by rw [u8_of _ (by omega)]; omega, by rw [u8_of _ (by omega)]; omega⟩
        simp only [enc, Utf8.encode, hv, if_true, Int.toNat_natCast, if_neg h1, if_neg h2, if_neg h3]

theorem run_cons (d : Dec) (b : UInt8) (l : List UInt8) : run d (b :: l) = ((run (step d (b.toNat : Int)).1 l).1, (step d (b.toNat : Int)).2 ++ (run (step d (b.toNat : Int)).1 l).2) := rfl
theorem step_fits {d : Dec} {b : Int} (h : fits d b) : step d b = next d b := by unfold step; rw [if_pos h]
theorem opened_eq {b k m l u : Int} (h1 : more b = k) (h2 : mask b = m) (h3 : lo b = l) (h4 : hi b = u) : opened b = ⟨1, 1 + k, m, l, u⟩ := by unfold opened; rw [h1, h2, h3, h4]

/-- A rune's bytes are that rune, whatever goes on behind. -/
theorem run_enc {r : Int} (h : good r) (l : List UInt8) : run zero (enc r ++ l) = ((run zero l).1, r :: (run zero l).2) := by
  have hg := h
  unfold good at hg
  rcases enc_form h with ⟨h1, a, e, ha⟩ | ⟨h1, h2, a, b, e, ha, hb⟩ | ⟨h1, h2, a, b, c, e, ha, hb, hc⟩ | ⟨h1, h2, a, b, c, d, e, ha, hb, hc, hd⟩
  · rw [e, List.cons_append, List.nil_append, run_zero_cons, first_one (by omega), ha]
    rfl
  · have hm : more (a.toNat : Int) ≠ -1 := by unfold more; rw [if_pos (by omega)]; omega
    have e0 : opened (a.toNat : Int) = ⟨1, 1, r / 64, 128, 191⟩ :=
      opened_eq (k := 0) (by unfold more; rw [if_pos (by omega)]) (by unfold mask; rw [if_pos (by omega)]; omega) (by unfold lo; rw [if_neg (by omega), if_neg (by omega)]) (by unfold hi; rw [if_neg (by omega), if_neg (by omega)])
    have f1 : fits ⟨1, 1, r / 64, 128, 191⟩ (b.toNat : Int) := ⟨by simp, show 128 ≤ (b.toNat : Int) by omega, show (b.toNat : Int) ≤ 191 by omega⟩
    have v : r / 64 * 64 + (b.toNat : Int) % 64 = r := by omega
    rw [e, List.cons_append, List.cons_append, List.nil_append, run_zero_cons, first_open (by omega) hm, e0, run_cons, step_fits f1, next_one rfl]
    simp only [List.nil_append, List.cons_append, v]
  · have hm : more (a.toNat : Int) = 1 := by unfold more; rw [if_neg (by omega), if_pos (by omega)]
    have e0 : ∃ l u : Int, opened (a.toNat : Int) = ⟨1, 2, r / 4096, l, u⟩ ∧ l ≤ (b.toNat : Int) ∧ (b.toNat : Int) ≤ u := by
      refine ⟨lo (a.toNat : Int), hi (a.toNat : Int), opened_eq (k := 1) hm (by unfold mask; rw [if_neg (by omega), if_pos (by omega)]; omega) rfl rfl, ?_, ?_⟩
      · unfold lo; repeat' split
        all_goals omega
      · unfold hi; repeat' split
        all_goals omega
    obtain ⟨x, u, e0, hx, hu⟩ := e0
    have f1 : fits ⟨1, 2, r / 4096, x, u⟩ (b.toNat : Int) := ⟨by simp, hx, hu⟩
    have f2 : fits ⟨1 + 1, 2 - 1, r / 4096 * 64 + (b.toNat : Int) % 64, 128, 191⟩ (c.toNat : Int) := ⟨by simp, show 128 ≤ (c.toNat : Int) by omega, show (c.toNat : Int) ≤ 191 by omega⟩
    have v : (r / 4096 * 64 + (b.toNat : Int) % 64) * 64 + (c.toNat : Int) % 64 = r := by omega
    rw [e, List.cons_append, List.cons_append, List.cons_append, List.nil_append, run_zero_cons, first_open (by omega) (by omega), e0, run_cons, step_fits f1, next_more (by simp), run_cons, step_fits f2, next_one rfl]
    simp only [List.nil_append, List.cons_append, v]
  · have hm : more (a.toNat : Int) = 2 := by unfold more; rw [if_neg (by omega), if_neg (by omega), if_pos (by omega)]
    have e0 : ∃ l u : Int, opened (a.toNat : Int) = ⟨1, 3, r / 262144, l, u⟩ ∧ l ≤ (b.toNat : Int) ∧ (b.toNat : Int) ≤ u := by
      refine ⟨lo (a.toNat : Int), hi (a.toNat : Int), opened_eq (k := 2) hm (by unfold mask; rw [if_neg (by omega), if_neg (by omega)]; omega) rfl rfl, ?_, ?_⟩
      · unfold lo; repeat' split
        all_goals omega
      · unfold hi; repeat' split
        all_goals omega
    obtain ⟨x, u, e0, hx, hu⟩ := e0
    have f1 : fits ⟨1, 3, r / 262144, x, u⟩ (b.toNat : Int) := ⟨by simp, hx, hu⟩
    have f2 : fits ⟨1 + 1, 3 - 1, r / 262144 * 64 + (b.toNat : Int) % 64, 128, 191⟩ (c.toNat : Int) := ⟨by simp, show 128 ≤ (c.toNat : Int) by omega, show (c.toNat : Int) ≤ 191 by omega⟩
    have f3 : fits ⟨1 + 1 + 1, 3 - 1 - 1, (r / 262144 * 64 + (b.toNat : Int) % 64) * 64 + (c.toNat : Int) % 64, 128, 191⟩ (d.toNat : Int) := ⟨by simp, show 128 ≤ (d.toNat : Int) by omega, show (d.toNat : Int) ≤ 191 by omega⟩
    have v : ((r / 262144 * 64 + (b.toNat : Int) % 64) * 64 + (c.toNat : Int) % 64) * 64 + (d.toNat : Int) % 64 = r := by omega
    rw [e, List.cons_append, List.cons_append, List.cons_append, List.cons_append, List.nil_append, run_zero_cons, first_open (by omega) (by omega), e0, run_cons, step_fits f1, next_more (by simp), run_cons, step_fits f2, next_more (by simp), run_cons, step_fits f3, next_one rfl]
    simp only [List.nil_append, List.cons_append, v]

theorem run_bytes : ∀ (ns : List Int) (l : List UInt8), (∀ r ∈ ns, good r) → run zero (bytes ns ++ l) = ((run zero l).1, ns ++ (run zero l).2)
  | [], l, _ => rfl
  | r :: ns, l, h => by
    rw [bytes_cons, List.append_assoc, run_enc (h r (by simp)), run_bytes ns l fun x hx => h x (by simp [hx])]
    simp
/-- Runes that can be written come back. -/
theorem runes_bytes (ns : List Int) (h : ∀ r ∈ ns, good r) : runes (bytes ns) = ns := by
  have e := run_bytes ns [] h
  rw [List.append_nil] at e
  unfold runes
  rw [e]
  simp [run, lost, zero]
/-- Bytes behind runes that were written are decoded by themselves. -/
theorem runes_behind (ns : List Int) (l : List UInt8) (h : ∀ r ∈ ns, good r) : runes (bytes ns ++ l) = ns ++ runes l := by
  unfold runes
  rw [run_bytes ns l h]
  simp

theorem enc_length {r : Int} (h : good r) : 1 ≤ (enc r).length ∧ (enc r).length ≤ 4 := by
  rcases enc_form h with ⟨_, a, e, _⟩ | ⟨_, _, a, b, e, _⟩ | ⟨_, _, a, b, c, e, _⟩ | ⟨_, _, a, b, c, d, e, _⟩
  all_goals (rw [e]; simp)
theorem bytes_length : ∀ ns : List Int, (∀ r ∈ ns, good r) → ns.length ≤ (bytes ns).length ∧ (bytes ns).length ≤ 4 * ns.length
  | [], _ => by simp [bytes]
  | r :: ns, h => by
    have h1 := enc_length (h r (by simp))
    have h2 := bytes_length ns fun x hx => h x (by simp [hx])
    rw [bytes_cons, List.length_append, List.length_cons]
    omega

theorem get_mid (pre l post : List UInt8) (k : Nat) (b : UInt8) (h : l[k]? = some b) : ByteArray.get! ⟨(pre ++ (l ++ post)).toArray⟩ (pre.length + k) = b := by
  have hk : k < l.length := (List.getElem?_eq_some_iff.1 h).1
  have e : (pre ++ (l ++ post))[pre.length + k]? = some b := by
    rw [List.getElem?_append_right (by omega), show pre.length + k - pre.length = k by omega, List.getElem?_append_left hk, h]
  show (pre ++ (l ++ post)).toArray[pre.length + k]! = b
  simp [List.getElem!_eq_getElem?_getD, e]

/-- The language's range takes the same rune, of the same length, off a text of runes that were written. -/
theorem decode_at {r : Int} (h : good r) (pre post : List UInt8) : Utf8.decode ⟨(pre ++ (enc r ++ post)).toArray⟩ pre.length = (r.toNat, (enc r).length) := by
  have hg := h
  unfold good at hg
  have hsz : (⟨(pre ++ (enc r ++ post)).toArray⟩ : ByteArray).size = pre.length + (enc r).length + post.length := by
    show (pre ++ (enc r ++ post)).toArray.size = _
    simp; omega
  have hv : ∀ n : Nat, (n : Int) = r → Utf8.valid (Int.ofNat n) = true := fun n hn => by show Utf8.valid (n : Int) = true; rw [hn]; exact good_valid h
  rcases enc_form h with ⟨h1, a, e, ha⟩ | ⟨h1, h2, a, b, e, ha, hb⟩ | ⟨h1, h2, a, b, c, e, ha, hb, hc⟩ | ⟨h1, h2, a, b, c, d, e, ha, hb, hc, hd⟩
  · have g0 := get_mid pre (enc r) post 0 a (by rw [e]; rfl)
    generalize (⟨(pre ++ (enc r ++ post)).toArray⟩ : ByteArray) = s at *
    unfold Utf8.decode
    simp only [g0]
    rw [if_pos (by omega), e]
    exact Prod.ext (by show _ = r.toNat; omega) rfl
  · have g0 := get_mid pre (enc r) post 0 a (by rw [e]; rfl)
    have g1 := get_mid pre (enc r) post 1 b (by rw [e]; rfl)
    generalize (⟨(pre ++ (enc r ++ post)).toArray⟩ : ByteArray) = s at *
    rw [e] at hsz
    have hl : pre.length + 1 < s.size := by rw [hsz]; simp; omega
    unfold Utf8.decode
    simp only [g0, g1]
    rw [if_neg (by omega), if_pos (by simp [hl]; omega), if_pos (by omega), e]
    exact Prod.ext (by show _ = r.toNat; omega) rfl
  · have g0 := get_mid pre (enc r) post 0 a (by rw [e]; rfl)
    have g1 := get_mid pre (enc r) post 1 b (by rw [e]; rfl)
    have g2 := get_mid pre (enc r) post 2 c (by rw [e]; rfl)
    generalize (⟨(pre ++ (enc r ++ post)).toArray⟩ : ByteArray) = s at *
    rw [e] at hsz
    have hl : pre.length + 1 < s.size := by rw [hsz]; simp; omega
    have hl2 : pre.length + 2 < s.size := by rw [hsz]; simp; omega
    have en : (((a.toNat % 16 * 4096 + b.toNat % 64 * 64 + c.toNat % 64 : Nat)) : Int) = r := by omega
    unfold Utf8.decode
    simp only [g0, g1, g2]
    rw [if_neg (by omega), if_neg (by simp; omega), if_pos (by simp [hl, hl2]; omega), if_pos (by
      rw [Bool.and_eq_true]
      exact ⟨by simp; omega, hv _ en⟩), e]
    exact Prod.ext (by show _ = r.toNat; omega) rfl
  · have g0 := get_mid pre (enc r) post 0 a (by rw [e]; rfl)
    have g1 := get_mid pre (enc r) post 1 b (by rw [e]; rfl)
    have g2 := get_mid pre (enc r) post 2 c (by rw [e]; rfl)
    have g3 := get_mid pre (enc r) post 3 d (by rw [e]; rfl)
    generalize (⟨(pre ++ (enc r ++ post)).toArray⟩ : ByteArray) = s at *
    rw [e] at hsz
    have hl : pre.length + 1 < s.size := by rw [hsz]; simp; omega
    have hl2 : pre.length + 2 < s.size := by rw [hsz]; simp; omega
    have hl3 : pre.length + 3 < s.size := by rw [hsz]; simp; omega
    have en : (((a.toNat % 8 * 262144 + b.toNat % 64 * 4096 + c.toNat % 64 * 64 + d.toNat % 64 : Nat)) : Int) = r := by omega
    unfold Utf8.decode
    simp only [g0, g1, g2, g3]
    rw [if_neg (by omega), if_neg (by simp; omega), if_neg (by simp; omega), if_pos (by simp [hl, hl2, hl3]; omega), if_pos (by
      rw [Bool.and_eq_true]
      exact ⟨by simp; omega, hv _ en⟩), e]
    exact Prod.ext (by show _ = r.toNat; omega) rfl
end Go.Proofs.YtjklnnklgkihlaaGreatDoor.Cel
/- Words on memory for layer 1: the tables of the program, a block known whole, what a call leaves as it was. -/
namespace Go.Proofs.YtjklnnklgkihlaaGreatDoor.Cel
open Go.RowKit

/-- A block that is just these cells. -/
def Blk (w : World) (g : Nat) (t : TypeId) (cs : Array Value) : Prop := w.heap[g]? = some (.cells cs t (0, 0))
section
variable {w w' : World} {g : Nat} {t : TypeId} {cs : Array Value}
theorem Blk.lt (h : Blk w g t cs) : g < w.heap.size := by
  rcases Nat.lt_or_ge g w.heap.size with hlt | hge
  · exact hlt
  · unfold Blk at h; rw [Array.getElem?_eq_none hge] at h; cases h
theorem Blk.cell (h : Blk w g t cs) (i : Nat) : w.cell? ⟨g, i, none⟩ = cs[i]? := cell_of_row w g i cs t (0, 0) h
theorem Blk.frozen (h : Blk w g t cs) (i : Nat) : w.frozen? ⟨g, i, none⟩ = false := by
  unfold Blk at h
  simp [World.frozen?, h]
theorem Blk.new (w : World) (t : TypeId) (cs : Array Value) : Blk (w.alloc (.cells cs t)) w.heap.size t cs := heap_alloc_new w _
theorem Blk.drew (h : Blk w g t cs) : Blk w.drew g t cs := h
theorem Blk.drewN (h : Blk w g t cs) (n : Nat) : Blk (w.drewN n) g t cs := h
theorem Blk.alloc (h : Blk w g t cs) (o : Obj) : Blk (w.alloc o) g t cs := (Below.heap_alloc w o g h.lt).trans h
theorem Blk.set_ (h : Blk w g t cs) (i : Nat) (u : Value) : Blk (w.setCell ⟨g, i, none⟩ u) g t (cs.setIfInBounds i u) := by
  unfold Blk at h ⊢
  simp [World.setCell, Array.getElem?_modify, h]
theorem Blk.far (h : Blk w g t cs) {p : Addr} (hp : g ≠ p.block) (u : Value) : Blk (w.setCell p u) g t cs := (Below.heap_setCell w p u g hp).trans h
theorem Blk.below {B : Nat} (h : Blk w g t cs) (hb : Below B w w') (hg : g < B) : Blk w' g t cs := (hb.block g hg).trans h
end

/-- What was there is as it was, but for the blocks that p names. -/
structure Kept (w w' : World) (p : Nat → Prop) : Prop where
  os : w'.os = w.os
  tape : w'.tape = w.tape
  output : w'.output = w.output
  size : w.heap.size ≤ w'.heap.size
  block : ∀ k, k < w.heap.size → ¬ p k → w'.heap[k]? = w.heap[k]?
section
variable {w w' w'' : World} {p q : Nat → Prop}
theorem Kept.refl (w : World) (p : Nat → Prop) : Kept w w p := ⟨rfl, rfl, rfl, Nat.le_refl _, fun _ _ _ => rfl⟩
theorem Kept.trans (h : Kept w w' p) (k : Kept w' w'' q) (hq : ∀ i, i < w.heap.size → q i → p i) : Kept w w'' p :=
  ⟨k.os.trans h.os, k.tape.trans h.tape, k.output.trans h.output, Nat.le_trans h.size k.size, fun i hi hp => (k.block i (Nat.lt_of_lt_of_le hi h.size) fun hh => hp (hq i hi hh)).trans (h.block i hi hp)⟩
theorem Kept.more (h : Kept w w' p) (hq : ∀ i, p i → q i) : Kept w w' q := ⟨h.os, h.tape, h.output, h.size, fun k hk hp => h.block k hk fun hh => hp (hq k hh)⟩
theorem Kept.drew (h : Kept w w' p) : Kept w w'.drew p := ⟨h.os, h.tape, h.output, h.size, h.block⟩
theorem Kept.drewN (h : Kept w w' p) (n : Nat) : Kept w (w'.drewN n) p := ⟨h.os, h.tape, h.output, h.size, h.block⟩
theorem Kept.alloc (h : Kept w w' p) (o : Obj) : Kept w (w'.alloc o) p :=
  h.trans (q := p) ⟨rfl, rfl, rfl, by simp, fun k hk _ => Below.heap_alloc _ _ _ hk⟩ fun _ _ hh => hh
theorem Kept.setCell (h : Kept w w' p) {a : Addr} (ha : p a.block) (u : Value) : Kept w (w'.setCell a u) p :=
  h.trans (q := p) ⟨rfl, rfl, rfl, by simp [World.setCell], fun k _ hp => Below.heap_setCell _ _ _ _ fun e => hp (by rw [e]; exact ha)⟩ fun _ _ hh => hh
theorem Kept.grown (h : Kept w w' p) {row : Option Nat} (hg : w'.grownBy w'' row) (hr : ∀ k, row = some k → k < w.heap.size → p k) : Kept w w'' p :=
  h.trans (q := fun k => row = some k) ⟨hg.os, hg.tape, hg.output, hg.size, fun k hk hp => hg.block k hk fun e => hp e.symm⟩ fun i hi hh => hr i hh hi
theorem Kept.below {B : Nat} (h : Kept w w' p) (hB : B ≤ w.heap.size) (hp : ∀ k, k < B → ¬ p k) : Below B w w' := ⟨h.os, h.tape, h.output, h.size, fun k hk => h.block k (by omega) (hp k hk)⟩
theorem Kept.of_below {B : Nat} (h : Below B w w') (hp : ∀ k, B ≤ k → k < w.heap.size → p k) : Kept w w' p :=
  ⟨h.os, h.tape, h.output, h.size, fun k hk hn => h.block k (Nat.lt_of_not_le fun hB => hn (hp k hB hk))⟩
theorem Kept.grownBy {row : Option Nat} (h : Kept w w' p) (hp : ∀ k, p k → some k = row) : w.grownBy w' row := ⟨h.os, h.tape, h.output, h.size, fun k hk hn => h.block k hk fun hh => hn (hp k hh)⟩
theorem Kept.blk {g : Nat} {t : TypeId} {cs : Array Value} (h : Kept w w' p) (hb : Blk w g t cs) (hp : ¬ p g) : Blk w' g t cs := (h.block g hb.lt hp).trans hb
theorem Kept.owns {base : Nat} {e : TypeId} {size : Nat} {v : Value} {n : Nat} {xs : List Value} (h : Kept w w' p) (ho : w.ownsRow base e size v n xs) (hp : ∀ k, v.ownBlock = some k → ¬ p k) : w'.ownsRow base e size v n xs := by
  obtain ⟨h1, h2⟩ := ho
  refine ⟨h1, ?_⟩
  rcases h2 with h2 | ⟨g, cap, cur, hv, hg, hh, r⟩
  · exact Or.inl h2
  · refine Or.inr ⟨g, cap, cur, hv, hg, ?_, r⟩
    rw [h.block g (Array.getElem?_eq_some_iff.1 hh).1 (hp g (by rw [hv]; rfl))]
    exact hh
end
theorem below_kept {w w' : World} (h : Below w.heap.size w w') (p : Nat → Prop) : Kept w w' p := Kept.of_below h fun k h1 h2 => by omega
theorem own_rebase {w : World} {base base' : Nat} {e : TypeId} {size : Nat} {v : Value} {n : Nat} {xs : List Value} (h : w.ownsRow base e size v n xs) (hb : ∀ k, v.ownBlock = some k → base' ≤ k) : w.ownsRow base' e size v n xs := by
  obtain ⟨h1, h2⟩ := h
  refine ⟨h1, ?_⟩
  rcases h2 with h2 | ⟨g, cap, cur, hv, hg, r⟩
  · exact Or.inl h2
  · exact Or.inr ⟨g, cap, cur, hv, hb g (by rw [hv]; rfl), r⟩

theorem ret_int {k : IntKind} {a b : Int} (h : a = b) : Ending.returned (.int k a) = .returned (.int k b) := by rw [h]
theorem ret_bool {a b : Bool} (h : a = b) : Ending.returned (.bool a) = .returned (.bool b) := by rw [h]
theorem ret_str {a b : ByteArray} (h : a = b) : Ending.returned (.string a) = .returned (.string b) := by rw [h]

/-! ### The program's tables -/
def rows : List (Int × Int × Int × Int × Int) := [(194, 223, 128, 191, 0), (224, 224, 160, 191, 1), (225, 236, 128, 191, 1), (237, 237, 128, 159, 1), (238, 239, 128, 191, 1), (240, 240, 144, 191, 2), (241, 243, 128, 191, 2), (244, 244, 128, 143, 2)]
def rowCells : Array Value := (rows.flatMap fun s => [Value.int .u8 s.1, Value.int .u8 s.2.1, Value.int .u8 s.2.2.1, Value.int .u8 s.2.2.2.1, Value.int .i64 s.2.2.2.2]).toArray
def dbl : List Nat := [0, 1, 56, 2, 57, 49, 28, 3, 61, 58, 42, 50, 38, 29, 17, 4, 62, 47, 59, 36, 45, 43, 51, 22, 53, 39, 33, 30, 24, 18, 12, 5, 63, 55, 48, 27, 60, 41, 37, 16, 46, 35, 44, 21, 52, 32, 23, 11, 54, 26, 40, 15, 34, 20, 31, 10, 25, 14, 19, 9, 13, 8, 7, 6]
def dbCells : Array Value := (dbl.map fun k => Value.int .u8 ((k : Nat) : Int)).toArray
def u10Cells : Array Value := (Lib.pow10Tab.map fun z => Value.int .u64 z).toArray
structure Tabs (w : World) : Prop where
  rows : ∃ t fr, w.heap[3]? = some (.cells rowCells t fr)
  u10 : ∃ t fr, w.heap[4]? = some (.cells u10Cells t fr)
  db : ∃ t fr, w.heap[9]? = some (.cells dbCells t fr)
/-- So many blocks hold the variables. -/
abbrev low : Nat := max 3 (max 4 9) + 1
section
variable {w w' : World}
theorem Tabs.below {B : Nat} (h : Tabs w) (hb : Below B w w') (hB : low ≤ B) : Tabs w' := by
  unfold low at hB
  obtain ⟨⟨t, fr, h1⟩, ⟨t2, fr2, h2⟩, t3, fr3, h3⟩ := h
  exact ⟨⟨t, fr, (hb.block _ (by omega)).trans h1⟩, ⟨t2, fr2, (hb.block _ (by omega)).trans h2⟩, ⟨t3, fr3, (hb.block _ (by omega)).trans h3⟩⟩
theorem Tabs.kept {p : Nat → Prop} (h : Tabs w) (hb : Kept w w' p) (hp : ∀ k, k < low → ¬ p k) (hl : low ≤ w.heap.size) : Tabs w' := h.below (hb.below (B := low) hl hp) (Nat.le_refl _)
end
theorem gU10 : Tryz.prog.globalNamed "internal/strconv.uint64pow10" = some 4 := by kernel_rfl
theorem Tabs.tabIs {w : World} (h : Tabs w) : Lib.TabIs Tryz.prog w "internal/strconv.uint64pow10" .u64 Lib.pow10Tab := by
  obtain ⟨t, fr, h2⟩ := h.u10
  unfold Lib.TabIs World.var?
  rw [gU10]
  simp only [Option.bind_some, h2]
  rfl

theorem info_rune : (Tryz.prog.info? 21).map (fun i => (i.zero, i.size, i.bytes)) = some (some (.int .i32 0), 1, 4) := by kernel_rfl
theorem info_byte : (Tryz.prog.info? 5).map (fun i => (i.zero, i.size, i.bytes)) = some (some (.int .u8 0), 1, 1) := by kernel_rfl

theorem row_at (cs : Array Value) (hcs : cs = rowCells) (k : Nat) (hk : k < 8) : ∃ s : Int × Int × Int × Int × Int, rows[k]? = some s ∧ 194 ≤ s.1 ∧ s.1 ≤ 244 ∧ 194 ≤ s.2.1 ∧ s.2.1 ≤ 244 ∧ 128 ≤ s.2.2.1 ∧ s.2.2.1 ≤ 191 ∧ 128 ≤ s.2.2.2.1 ∧ s.2.2.2.1 ≤ 191 ∧ 0 ≤ s.2.2.2.2 ∧ s.2.2.2.2 ≤ 2 ∧
    ∀ w : World, (Instr.index 190 (.agg cs) (.int .i64 k)).run Tryz.prog w = .ok (.agg #[.int .u8 s.1, .int .u8 s.2.1, .int .u8 s.2.2.1, .int .u8 s.2.2.2.1, .int .i64 s.2.2.2.2]) w := by
  subst hcs
  match k, hk with
  | 0, _ => exact ⟨_, rfl, by decide, by decide, by decide, by decide, by decide, by decide, by decide, by decide, by decide, by decide, fun _ => by kernel_rfl⟩
  | 1, _ => exact ⟨_, rfl, by decide, by decide, by decide, by decide, by decide, by decide, by decide, by decide, by decide, by decide, fun _ => by kernel_rfl⟩
  | 2, _ => exact ⟨_, rfl, by decide, by decide, by decide, by decide, by decide, by decide, by decide, by decide, by decide, by decide, fun _ => by kernel_rfl⟩
  | 3, _ => exact ⟨_, rfl, by decide, by decide, by decide, by decide, by decide, by decide, by decide, by decide, by decide, by decide, fun _ => by kernel_rfl⟩
  | 4, _ => exact ⟨_, rfl, by decide, by decide, by decide, by decide, by decide, by decide, by decide, by decide, by decide, by decide, fun _ => by kernel_rfl⟩
  | 5, _ => exact ⟨_, rfl, by decide, by decide, by decide, by decide, by decide, by decide, by decide, by decide, by decide, by decide, fun _ => by kernel_rfl⟩
  | 6, _ => exact ⟨_, rfl, by decide, by decide, by decide, by decide, by decide, by decide, by decide, by decide, by decide, by decide, fun _ => by kernel_rfl⟩
  | 7, _ => exact ⟨_, rfl, by decide, by decide, by decide, by decide, by decide, by decide, by decide, by decide, by decide, by decide, fun _ => by kernel_rfl⟩
  | n + 8, hk => exact absurd hk (by omega)
end Go.Proofs.YtjklnnklgkihlaaGreatDoor.Cel
/- The walks of the program's decoder: a byte taken, a byte begun, a byte gone on with, what is pending dropped. -/
namespace Go.Proofs.YtjklnnklgkihlaaGreatDoor.Cel
open Go.RowKit

def Dec.cells (d : Dec) : Array Value := #[.int .i64 d.p, .int .i64 d.m, .int .i32 d.r, .int .u8 d.lo, .int .u8 d.hi]
/-- The decoder d lies in block g. -/
abbrev At (w : World) (g : Nat) (d : Dec) : Prop := Blk w g 171 d.cells
/-- Runes as cells. -/
def zs (l : List Int) : List Value := l.map (Value.int .i32)
theorem zs_append (l k : List Int) : zs (l ++ k) = zs l ++ zs k := by simp [zs]
theorem zs_length (l : List Int) : (zs l).length = l.length := by simp [zs]
/-- The slice v holds just these runes, in a row of the call's own. -/
abbrev Owns (w : World) (base : Nat) (v : Value) (l : List Int) : Prop := w.ownsRow base 21 1 v l.length (zs l)
theorem owns_nil (w : World) (base : Nat) : Owns w base (.slice none 0 0) [] := World.ownsRow_nil _ _ _ _

/-- What a method of the decoder leaves: its new state, the list with what was told behind it, and all else as it was. -/
def Fed (db base : Nat) (v : Value) (l : List Int) (w : World) (d : Dec) (out : List Int) (e : Ending) (w' : World) : Prop :=
  ∃ v', e = .returned v' ∧ At w' db d ∧ Owns w' base v' (l ++ out) ∧ Kept w w' (fun k => k = db ∨ v.ownBlock = some k) ∧ (v'.ownBlock = v.ownBlock ∨ ∃ k, v'.ownBlock = some k ∧ w.heap.size ≤ k)

theorem new_any (w : World) : Calls Tryz.prog 104 #[] w fun e w' => e = .returned (.pointer (some ⟨w.heap.size, 0, none⟩)) ∧ w.alloc (.cells zero.cells 171) = w' := by
  go_enter Tryz.func104, Tryz.ntmps104
  go_wp2
  go_ret
  exact ⟨rfl, rfl⟩

section
variable {ops : Array Oper} {rest : List Oper} {op : Oper} {a : Act} {w : World} {Q : Exit → Act → World → Prop}
/-- A store of all the decoder's fields. -/
theorem wpList_store_dec (hgd : op.guard = none) (x y : Operand) (ho : op.op = .store 171 x y) (g : Nat) (d0 d : Dec) (hx : a.eval x = .pointer (some ⟨g, 0, none⟩)) (hy : a.eval y = .agg d.cells)
    (h0 : At w g d0) (h : ∀ w1, At w1 g d → Kept w w1 (fun k => k = g) → wpList Tryz.prog ops Q rest (a.put op.dst undef) w1) : wpList Tryz.prog ops Q (op :: rest) a w :=
  wpList_store_row hgd 171 x y ho g d.cells hx hy 171 d0.cells h0 (by show _ = some 5; kernel_rfl) rfl (by simp [Dec.cells, Value.oneCell'])
    (h _ (setRow_heap w g d0.cells d.cells _ _ h0) ⟨rfl, rfl, rfl, by simp, fun k _ hk => setRow_other w g k _ hk⟩)
/-- One rune appended to a list of the call's own. -/
theorem wpList_append_rune (hgd : op.guard = none) (s x : Operand) (ho : op.op = .call { callee := .builtin .append, args := #[s, x], argTypes := #[127, 127] })
    (base : Nat) (v : Value) (l : List Int) (r : Int) (c : Nat) (hs : a.eval s = v) (hown : Owns w base v l) (hx : a.eval x = .slice (some ⟨w.heap.size, 0, none⟩) 1 c) (hbase : base ≤ w.heap.size) (hn : l.length ≤ 1099511627776)
    (h : ∀ v' w', Owns w' base v' (l ++ [r]) → Kept w w' (fun k => v.ownBlock = some k) → (v'.ownBlock = v.ownBlock ∨ ∃ k, v'.ownBlock = some k ∧ w.heap.size ≤ k) → wpList Tryz.prog ops Q rest (a.put op.dst v') w') :
    wpList Tryz.prog ops Q (op :: rest) a (w.alloc (.cells #[.int .i32 r] 21)) := by
  obtain ⟨i0, hi0, hz0, hz1, hz2⟩ := info_parts info_rune
  refine wpList_append_own_at _ hgd s x 127 ho base 21 i0 (.int .i32 0) 1 4 Tryz.underlying127 hi0 hz0 hz1 hz2 rfl (by decide) v l.length (zs l) hs (hown.alloc _) ⟨w.heap.size, 0, none⟩ 1 c [.int .i32 r] hx rfl (cell_one_new _ _ _)
    (by intro u hu; simp at hu; subst hu; rfl) (by unfold maxLen; omega) (by omega) (by simp; omega) ?_
  intro v' w' h1 h2 _ h4
  refine h v' w' ?_ ?_ ?_
  · show w'.ownsRow base 21 1 v' (l ++ [r]).length (zs (l ++ [r]))
    rw [zs_append, List.length_append]
    exact h1
  · exact ((Kept.refl w _).alloc _).grown h2 fun k hk _ => hk
  · rcases h4 with h4 | h4
    · exact .inl h4
    · exact .inr ⟨_, h4, by simp⟩
end

set_option maxRecDepth 100000 in
theorem drop_any (d : Dec) (hi : Inv d) (db base : Nat) (v : Value) (l : List Int) (w : World) (hd : At w db d) (hown : Owns w base v l) (hbase : base ≤ w.heap.size) (hne : v.ownBlock ≠ some db) (hn : l.length ≤ 1099511627776) :
    Calls Tryz.prog 138 #[.pointer (some ⟨db, 0, none⟩), v] w (Fed db base v l w zero (lost d)) := by
  have c0 : w.cell? ⟨db, 0, none⟩ = some (.int .i64 d.p) := hd.cell 0
  by_cases hp : d.p = 0
  · have hpb : (d.p == 0) = true := by simp [hp]
    have HP := Lib.hid hp
    clear hp
    go_enter Tryz.func138, Tryz.ntmps138
    go_wp2
    go_ret
    refine ⟨v, rfl, ?_, ?_, Kept.refl _ _, .inl rfl⟩
    · rw [← hi.zero_of HP.out]; exact hd
    · unfold lost; rw [if_pos HP.out, List.append_nil]; exact hown
  · have hpb : (d.p == 0) = false := by simp [hp]
    have HL : Hid (lost d = [65533]) := by show _ = _; unfold lost; rw [if_neg hp]
    go_enter Tryz.func138, Tryz.ntmps138
    go_wp2_with (first
      | (refine wpList_store_dec rfl (.tmp 13) (.tmp 12) rfl db d zero rfl rfl hd ?_; intro w1 hd1 hk1; have hs1 := hk1.size)
      | (at_builtin; refine wpList_append_rune rfl (.tmp 14) (.tmp 15) rfl base v l 65533 1 rfl (hk1.owns hown fun k hk e => hne (by rw [hk, e])) rfl (by omega) hn ?_; intro v' w2 hown2 hk2 hat2))
    go_ret
    refine ⟨v', rfl, hk2.blk hd1 hne, by rw [HL.out]; exact hown2, (hk1.more fun _ h => .inl h).trans hk2 fun _ _ h => .inr h, ?_⟩
    rcases hat2 with h | ⟨k, h, hk⟩
    · exact .inl h
    · exact .inr ⟨k, h, by omega⟩

set_option maxRecDepth 100000 in
set_option maxHeartbeats 400000 in
theorem goOn_any (d : Dec) (hi : Inv d) (db base : Nat) (v : Value) (l : List Int) (b : Int) (w : World) (hd : At w db d) (hown : Owns w base v l) (hbase : base ≤ w.heap.size) (hne : v.ownBlock ≠ some db) (hn : l.length ≤ 1099511627776)
    (hp : 0 < d.p) (hb0 : 0 ≤ b) (hb1 : b ≤ 255) :
    Calls Tryz.prog 154 #[.pointer (some ⟨db, 0, none⟩), v, .int .u8 b] w (Fed db base v l w (next d b).1 (next d b).2) := by
  have hbd := hi.bd
  have b1 := hbd.p1
  have b2 := hbd.m0
  have b3 := hbd.m1
  have b4 := hbd.r0
  have b5 := hbd.r1
  have c0 : w.cell? ⟨db, 0, none⟩ = some (.int .i64 d.p) := hd.cell 0
  have c1 : w.cell? ⟨db, 1, none⟩ = some (.int .i64 d.m) := hd.cell 1
  have c2 : w.cell? ⟨db, 2, none⟩ = some (.int .i32 d.r) := hd.cell 2
  have e1 : bits BinOp.and IntKind.i32 b 63 = b % 64 := bits_mask .i32 31 (by decide) wraps_i32 6 (by decide) b hb0 (by omega)
  have e2 : bits BinOp.or IntKind.i32 (d.r * 64) (b % 64) = d.r * 64 + b % 64 := i32_or6 _ _ (by omega) (by omega) (by omega) (by omega) (by omega)
  by_cases hm : d.m = 1
  · have hmb : (d.m == 1) = true := by simp [hm]
    have HN : Hid (next d b = (zero, [d.r * 64 + b % 64])) := next_one hm
    clear hm
    go_enter Tryz.func154, Tryz.ntmps154
    go_wp2_with (first
      | (refine wpList_store_dec rfl (.tmp 24) (.tmp 23) rfl db d zero rfl rfl hd ?_; intro w1 hd1 hk1; have hs1 := hk1.size)
      | (at_builtin; refine wpList_append_rune rfl (.tmp 25) (.tmp 27) rfl base v l (d.r * 64 + b % 64) 1 rfl (hk1.owns hown fun k hk e => hne (by rw [hk, e])) rfl (by omega) hn ?_; intro v' w2 hown2 hk2 hat2))
    go_ret
    refine ⟨v', rfl, by rw [HN.out]; exact hk2.blk hd1 hne, by rw [HN.out]; exact hown2, (hk1.more fun _ h => .inl h).trans hk2 fun _ _ h => .inr h, ?_⟩
    rcases hat2 with h | ⟨k, h, hk⟩
    · exact .inl h
    · exact .inr ⟨k, h, by omega⟩
  · have hmb : (d.m == 1) = false := by simp [hm]
    have HN : Hid (next d b = (⟨d.p + 1, d.m - 1, d.r * 64 + b % 64, 128, 191⟩, [])) := next_more hm
    clear hm
    have e3 : IntKind.i64.wrap (d.p + 1) = d.p + 1 := IntWalk.i64_in _ (by omega)
    have e4 : IntKind.i64.wrap (d.m - 1) = d.m - 1 := IntWalk.i64_in _ (by omega)
    go_enter Tryz.func154, Tryz.ntmps154
    go_wp2
    go_still_tail 14, (by kernel_rfl)
    change wpList _ _ _ _ _ w.drew
    have hd' : At w.drew db d := hd
    have hk' : Kept w w.drew (fun k => k = db ∨ v.ownBlock = some k) := (Kept.refl w _).drew
    have hown' : Owns w.drew base v l := hown.drew
    generalize w.drew = w2 at *
    refine wpList_store_dec rfl (.tmp 42) (.tmp 41) rfl db d ⟨d.p + 1, d.m - 1, d.r * 64 + b % 64, 128, 191⟩ rfl rfl hd' ?_
    intro w1 hd1 hk1
    go_wp2
    go_ret
    refine ⟨v, rfl, by rw [HN.out]; exact hd1, ?_, hk'.trans hk1 fun _ _ h => .inl h, .inl rfl⟩
    rw [HN.out, List.append_nil]
    exact hk1.owns hown' fun k hk e => hne (by rw [hk, e])
end Go.Proofs.YtjklnnklgkihlaaGreatDoor.Cel
/- The walks of the program's decoder, on: a byte begun, a byte taken, fed, the end. -/
namespace Go.Proofs.YtjklnnklgkihlaaGreatDoor.Cel
open Go.RowKit

def findRow : List (Int × Int × Int × Int × Int) → Int → Option (Int × Int × Int × Int × Int)
  | [], _ => none
  | s :: l, b => if s.1 ≤ b ∧ b ≤ s.2.1 then some s else findRow l b
theorem findRow_drop (b : Int) (k : Nat) (s : Int × Int × Int × Int × Int) (h : rows[k]? = some s) : findRow (rows.drop k) b = if s.1 ≤ b ∧ b ≤ s.2.1 then some s else findRow (rows.drop (k + 1)) b := by
  obtain ⟨hk, e⟩ := List.getElem?_eq_some_iff.1 h
  rw [List.drop_eq_getElem_cons hk, e]
  rfl
theorem findRow_none {b : Int} (h : findRow rows b = none) : more b = -1 := by
  unfold rows at h
  simp only [findRow] at h
  repeat' split at h
  all_goals (first | cases h | skip)
  unfold more
  rw [if_neg (by omega), if_neg (by omega), if_neg (by omega)]
theorem findRow_some {b : Int} {s : Int × Int × Int × Int × Int} (h : findRow rows b = some s) :
    more b = s.2.2.2.2 ∧ lo b = s.2.2.1 ∧ hi b = s.2.2.2.1 ∧ ((s.2.2.2.2 = 0 ∧ mask b = b % 32) ∨ (s.2.2.2.2 = 1 ∧ mask b = b % 16) ∨ (s.2.2.2.2 = 2 ∧ mask b = b % 8)) := by
  unfold rows at h
  simp only [findRow] at h
  repeat' split at h
  all_goals (first | cases h | skip)
  all_goals (
    refine ⟨?_, ?_, ?_, ?_⟩
    · show more b = _
      unfold more; repeat' split
      all_goals (show (_ : Int) = _; first | rfl | (exfalso; omega))
    · show lo b = _
      unfold lo; repeat' split
      all_goals (show (_ : Int) = _; first | rfl | (exfalso; omega))
    · show hi b = _
      unfold hi; repeat' split
      all_goals (show (_ : Int) = _; first | rfl | (exfalso; omega))
    · have hm : mask b = (if b ≤ 223 then b - 192 else if b ≤ 239 then b - 224 else b - 240) := rfl
      first
        | exact Or.inl ⟨rfl, by rw [hm]; repeat' split
                                all_goals omega⟩
        | exact Or.inr (Or.inl ⟨rfl, by rw [hm]; repeat' split
                                        all_goals omega⟩)
        | exact Or.inr (Or.inr ⟨rfl, by rw [hm]; repeat' split
                                        all_goals omega⟩))

set_option maxRecDepth 100000 in
set_option maxHeartbeats 1000000 in
theorem begin_any (db base : Nat) (v : Value) (l : List Int) (b : Int) (w : World) (ht : Tabs w) (hd : At w db zero) (hown : Owns w base v l) (hbase : base ≤ w.heap.size) (hne : v.ownBlock ≠ some db) (hn : l.length ≤ 1099511627776)
    (hb0 : 0 ≤ b) (hb1 : b ≤ 255) :
    Calls Tryz.prog 155 #[.pointer (some ⟨db, 0, none⟩), v, .int .u8 b] w (Fed db base v l w (first b).1 (first b).2) := by
  by_cases h1 : b < 128
  · have HN : Hid (first b = (zero, [b])) := first_one h1
    go_enter Tryz.func155, Tryz.ntmps155
    go_wp2_with (at_builtin; refine wpList_append_rune rfl (.tmp 12) (.tmp 15) rfl base v l b 1 rfl hown rfl (by omega) hn ?_; intro v' w2 hown2 hk2 hat2)
    go_ret
    exact ⟨v', rfl, by rw [HN.out]; exact hk2.blk hd hne, by rw [HN.out]; exact hown2, hk2.more fun _ h => .inr h, hat2⟩
  · have e1 : bits BinOp.and IntKind.i32 b 31 = b % 32 := bits_mask .i32 31 (by decide) wraps_i32 5 (by decide) b hb0 (by omega)
    have e2 : bits BinOp.and IntKind.i32 b 15 = b % 16 := bits_mask .i32 31 (by decide) wraps_i32 4 (by decide) b hb0 (by omega)
    have e3 : bits BinOp.and IntKind.i32 b 7 = b % 8 := bits_mask .i32 31 (by decide) wraps_i32 3 (by decide) b hb0 (by omega)
    obtain ⟨t, fr, hg⟩ := ht.rows
    obtain ⟨cs, hcs⟩ : ∃ cs, cs = rowCells := ⟨_, rfl⟩
    rw [← hcs] at hg
    have HS : Hid ((Tryz.prog.info? 190).map (·.size) = some cs.size) := by rw [hcs]; show _ = _; kernel_rfl
    have HA : Hid (∀ k : Nat, k < 8 → _) := row_at cs hcs
    clear hcs
    go_enter Tryz.func155, Tryz.ntmps155
    go_wp2_with (refine wpList_load_row rfl 190 _ rfl 3 rfl t cs fr _ hg Tryz.underlying190 rfl HS.out ?_)
    go_loopw [18] (fun i wr => ∃ k : Nat, k ≤ 8 ∧ i = .int .i64 k ∧ Hid (findRow (rows.drop k) b = findRow rows b) ∧ Below w.heap.size w wr) (fun i _ => 8 - (intOf i).toNat)
    case atStart => exact ⟨0, by omega, rfl, rfl, Below.refl _ _⟩
    case round =>
      obtain ⟨k, hk, rfl, HL, hb⟩ := hrel
      have hbs := hb.size
      have hdr : At wr db zero := hd.below hb hd.lt
      have hor : Owns wr base v l := (below_kept hb fun _ => False).owns hown fun _ _ h => h
      by_cases hlt : k < 8
      · obtain ⟨s, hs, b1, b2, b3, b4, b5, b6, b7, b8, b9, b10, hidx⟩ := HA.out k hlt
        have HD := Lib.hid (findRow_drop b k s hs)
        clear hs
        obtain ⟨s1, s2, s3, s4, s5⟩ := s
        simp only at b1 b2 b3 b4 b5 b6 b7 b8 b9 b10 hidx
        by_cases c1 : s1 ≤ b
        · by_cases c2 : b ≤ s2
          · have hf := findRow_some (HL.out.symm.trans (HD.out.trans (if_pos ⟨c1, c2⟩)))
            simp only at hf
            obtain ⟨f1, f2, f3, f4⟩ := hf
            rcases f4 with ⟨rfl, f4⟩ | ⟨rfl, f4⟩ | ⟨rfl, f4⟩
            · have HN : Hid (first b = (⟨1, 1, b % 32, s3, s4⟩, [])) := by
                show _ = _
                rw [first_open (b := b) (by omega) (by omega), opened_eq f1 f4 f2 f3]
                rfl
              clear f1 f2 f3 f4
              go_wp2_with (refine wpList_store_dec rfl (.tmp 47) (.tmp 46) rfl db zero ⟨1, 1, b % 32, s3, s4⟩ rfl rfl (hdr.alloc _) ?_; intro w1 hd1 hk1)
              go_ret
              refine ⟨v, rfl, by rw [HN.out]; exact hd1, ?_, ?_, .inl rfl⟩
              · rw [HN.out, List.append_nil]
                exact hk1.owns (hor.alloc _) fun k hk e => hne (by rw [hk, e])
              · exact ((below_kept hb _).alloc _).trans hk1 fun _ _ h => .inl h
            · have HN : Hid (first b = (⟨1, 2, b % 16, s3, s4⟩, [])) := by
                show _ = _
                rw [first_open (b := b) (by omega) (by omega), opened_eq f1 f4 f2 f3]
                rfl
              clear f1 f2 f3 f4
              go_wp2_with (refine wpList_store_dec rfl (.tmp 47) (.tmp 46) rfl db zero ⟨1, 2, b % 16, s3, s4⟩ rfl rfl (hdr.alloc _) ?_; intro w1 hd1 hk1)
              go_ret
              refine ⟨v, rfl, by rw [HN.out]; exact hd1, ?_, ?_, .inl rfl⟩
              · rw [HN.out, List.append_nil]
                exact hk1.owns (hor.alloc _) fun k hk e => hne (by rw [hk, e])
              · exact ((below_kept hb _).alloc _).trans hk1 fun _ _ h => .inl h
            · have HN : Hid (first b = (⟨1, 3, b % 8, s3, s4⟩, [])) := by
                show _ = _
                rw [first_open (b := b) (by omega) (by omega), opened_eq f1 f4 f2 f3]
                rfl
              clear f1 f2 f3 f4
              go_wp2_with (refine wpList_store_dec rfl (.tmp 47) (.tmp 46) rfl db zero ⟨1, 3, b % 8, s3, s4⟩ rfl rfl (hdr.alloc _) ?_; intro w1 hd1 hk1)
              go_ret
              refine ⟨v, rfl, by rw [HN.out]; exact hd1, ?_, ?_, .inl rfl⟩
              · rw [HN.out, List.append_nil]
                exact hk1.owns (hor.alloc _) fun k hk e => hne (by rw [hk, e])
              · exact ((below_kept hb _).alloc _).trans hk1 fun _ _ h => .inl h
          · have HV : Hid (findRow (rows.drop (k + 1)) b = findRow rows b) := by show _ = _; rw [← HL.out, HD.out, if_neg (by simp only; omega)]
            go_wp2
            go_roundw
            case rel => exact ⟨k + 1, by omega, by go_num, HV, hb.alloc hbs _⟩
            case measure => simp [intOf]; omega
        · have HV : Hid (findRow (rows.drop (k + 1)) b = findRow rows b) := by show _ = _; rw [← HL.out, HD.out, if_neg (by simp only; omega)]
          go_wp2
          go_roundw
          case rel => exact ⟨k + 1, by omega, by go_num, HV, hb.alloc hbs _⟩
          case measure => simp [intOf]; omega
      · have HN : Hid (first b = (zero, [65533])) := by
          have e : k = 8 := by omega
          show _ = _
          refine first_bad (by omega) (findRow_none ?_)
          rw [← HL.out, e]
          rfl
        go_wp2_with (at_builtin; refine wpList_append_rune rfl (.tmp 50) (.tmp 51) rfl base v l 65533 1 rfl hor rfl (by omega) hn ?_; intro v' w2 hown2 hk2 hat2)
        go_ret
        refine ⟨v', rfl, by rw [HN.out]; exact hk2.blk hdr hne, by rw [HN.out]; exact hown2, (below_kept hb _).trans hk2 fun _ _ h => .inr h, ?_⟩
        rcases hat2 with h | ⟨k, h, hk⟩
        · exact .inl h
        · exact .inr ⟨k, h, by omega⟩
end Go.Proofs.YtjklnnklgkihlaaGreatDoor.Cel
/- The walks of the program's decoder, whole: a byte taken, fed, the end, a text decoded at once. -/
namespace Go.Proofs.YtjklnnklgkihlaaGreatDoor.Cel
open Go.RowKit

theorem Fed.ne {db : Nat} {v v' : Value} {w : World} (hd : db < w.heap.size) (hne : v.ownBlock ≠ some db) (h : v'.ownBlock = v.ownBlock ∨ ∃ k, v'.ownBlock = some k ∧ w.heap.size ≤ k) : v'.ownBlock ≠ some db := by
  rcases h with h | ⟨k, h, hk⟩
  · rw [h]; exact hne
  · rw [h]; intro e; injection e with e; omega
theorem Fed.then {db base : Nat} {v v1 : Value} {l : List Int} {w w1 w2 : World} {d2 : Dec} {o1 o2 : List Int} {e : Ending}
    (hk : Kept w w1 (fun k => k = db ∨ v.ownBlock = some k)) (hv : v1.ownBlock = v.ownBlock ∨ ∃ k, v1.ownBlock = some k ∧ w.heap.size ≤ k)
    (h : Fed db base v1 (l ++ o1) w1 d2 o2 e w2) : Fed db base v l w d2 (o1 ++ o2) e w2 := by
  obtain ⟨v2, he, h1, h2, h3, h4⟩ := h
  refine ⟨v2, he, h1, by rw [← List.append_assoc]; exact h2, hk.trans h3 ?_, ?_⟩
  · intro i hi hp
    rcases hp with hp | hp
    · exact .inl hp
    · rcases hv with hv | ⟨k, hv, hk'⟩
      · exact .inr (by rw [← hv]; exact hp)
      · exfalso
        rw [hv] at hp
        injection hp with hp
        omega
  · rcases h4 with h4 | ⟨k, h4, hk'⟩
    · rcases hv with hv | ⟨k, hv, hk'⟩
      · exact .inl (h4.trans hv)
      · exact .inr ⟨k, h4.trans hv, hk'⟩
    · exact .inr ⟨k, h4, Nat.le_trans hk.size hk'⟩

set_option maxRecDepth 100000 in
set_option maxHeartbeats 400000 in
theorem take_any (d : Dec) (hi : Inv d) (db base : Nat) (v : Value) (l : List Int) (b : Int) (w : World) (ht : Tabs w) (hd : At w db d) (hown : Owns w base v l) (hlow : low ≤ base) (hdb : low ≤ db) (hbase : base ≤ w.heap.size) (hne : v.ownBlock ≠ some db)
    (hn : l.length ≤ 1099511627000) (hb0 : 0 ≤ b) (hb1 : b ≤ 255) :
    Calls Tryz.prog 114 #[.pointer (some ⟨db, 0, none⟩), v, .int .u8 b] w (Fed db base v l w (step d b).1 (step d b).2) := by
  have c0 : w.cell? ⟨db, 0, none⟩ = some (.int .i64 d.p) := hd.cell 0
  have c3 : w.cell? ⟨db, 3, none⟩ = some (.int .u8 d.lo) := hd.cell 3
  have c4 : w.cell? ⟨db, 4, none⟩ = some (.int .u8 d.hi) := hd.cell 4
  by_cases hf : fits d b
  · have HN : Hid (step d b = next d b) := step_fits hf
    obtain ⟨f1, f2, f3⟩ := hf
    have hg := goOn_any d hi db base v l b w hd hown hbase hne (by omega) f1 hb0 hb1
    go_enter Tryz.func114, Tryz.ntmps114
    go_wp2_with (go_at_call 154; refine hg.mono ?_; rintro e w' ⟨v', rfl, h1, h2, h3, h4⟩)
    go_ret
    exact ⟨v', rfl, by rw [HN.out]; exact h1, by rw [HN.out]; exact h2, h3, h4⟩
  · have HN : Hid (step d b = ((first b).1, lost d ++ (first b).2)) := by show _ = _; unfold step; rw [if_neg hf]
    have hll := lost_length d
    have hlp : pend d ≤ 1 := by unfold pend; split <;> omega
    have hdl := hd.lt
    have hdrop := drop_any d hi db base v l w hd hown hbase hne (by omega)
    have hbeg : ∀ (v1 : Value) (w1 : World), At w1 db zero → Owns w1 base v1 (l ++ lost d) → Kept w w1 (fun k => k = db ∨ v.ownBlock = some k) → (v1.ownBlock = v.ownBlock ∨ ∃ k, v1.ownBlock = some k ∧ w.heap.size ≤ k) →
        Calls Tryz.prog 155 #[.pointer (some ⟨db, 0, none⟩), v1, .int .u8 b] w1 (Fed db base v l w (first b).1 (lost d ++ (first b).2)) := by
      intro v1 w1 h1 h2 h3 h4
      refine (begin_any db base v1 (l ++ lost d) b w1 (ht.kept h3 ?_ (Nat.le_trans hlow hbase)) h1 h2 (Nat.le_trans hbase h3.size) (Fed.ne hdl hne h4) (by rw [List.length_append]; omega) hb0 hb1).mono fun e w2 hh => Fed.then h3 h4 hh
      intro k hk hp
      rcases hp with hp | hp
      · omega
      · have := (hown.lt k hp).1
        omega
    have HB := Lib.hid hbeg
    clear hbeg hll hlp
    have hways : ¬ 0 < d.p ∨ (0 < d.p ∧ ¬ d.lo ≤ b) ∨ (0 < d.p ∧ d.lo ≤ b ∧ ¬ b ≤ d.hi) := by unfold fits at hf; omega
    clear hf
    rcases hways with f1 | ⟨f1, f2⟩ | ⟨f1, f2, f3⟩
    all_goals
      go_enter Tryz.func114, Tryz.ntmps114
      go_wp2_with (first
        | (go_at_call 138; refine hdrop.mono ?_; rintro e w1 ⟨v1, rfl, h1, h2, h3, h4⟩)
        | (go_at_call 155; refine (HB.out v1 w1 h1 h2 h3 h4).mono ?_; rintro e w2 ⟨v2, rfl, k1, k2, k3, k4⟩))
      go_ret
      exact ⟨v2, rfl, by rw [HN.out]; exact k1, by rw [HN.out]; exact k2, k3, k4⟩

/-- A byte fed: what is told lies in new memory; of what was there the decoder alone has turned. -/
theorem feed_any (d : Dec) (hi : Inv d) (db : Nat) (b : Int) (w : World) (ht : Tabs w) (hd : At w db d) (hlow : low ≤ w.heap.size) (hdb : low ≤ db) (hb0 : 0 ≤ b) (hb1 : b ≤ 255) :
    Calls Tryz.prog 76 #[.pointer (some ⟨db, 0, none⟩), .int .u8 b] w fun e w' => ∃ v, e = .returned v ∧ At w' db (step d b).1 ∧ Owns w' w.heap.size v (step d b).2 ∧ Kept w w' (fun k => k = db) := by
  have hg := take_any d hi db w.heap.size (.slice none 0 0) [] b w ht hd (owns_nil _ _) hlow hdb (Nat.le_refl _) (by simp [Value.ownBlock]) (by simp) hb0 hb1
  go_enter Tryz.func76, Tryz.ntmps76
  go_wp2_with (go_at_call 114; refine hg.mono ?_; rintro e w' ⟨v', rfl, h1, h2, h3, h4⟩)
  go_ret
  exact ⟨v', rfl, h1, h2, h3.more fun k hk => by simpa [Value.ownBlock] using hk⟩

theorem end_any (d : Dec) (hi : Inv d) (db : Nat) (w : World) (hd : At w db d) :
    Calls Tryz.prog 153 #[.pointer (some ⟨db, 0, none⟩)] w fun e w' => ∃ v, e = .returned v ∧ At w' db zero ∧ Owns w' w.heap.size v (lost d) ∧ Kept w w' (fun k => k = db) := by
  have hg := drop_any d hi db w.heap.size (.slice none 0 0) [] w hd (owns_nil _ _) (Nat.le_refl _) (by simp [Value.ownBlock]) (by simp)
  go_enter Tryz.func153, Tryz.ntmps153
  go_wp2_with (go_at_call 138; refine hg.mono ?_; rintro e w' ⟨v', rfl, h1, h2, h3, h4⟩)
  go_ret
  exact ⟨v', rfl, h1, h2, h3.more fun k hk => by simpa [Value.ownBlock] using hk⟩

theorem take_succ_bytes (s : ByteArray) (k : Nat) (h : k < s.size) : s.data.toList.take (k + 1) = s.data.toList.take k ++ [s[k]] := by
  rw [List.take_succ_eq_append_getElem (by simpa using h)]; rfl

end Go.Proofs.YtjklnnklgkihlaaGreatDoor.Cel
/- Layer 5 in plain words: what a parser has begun, what a byte does to it, what it tells. No word of the model. -/
namespace Go.Proofs.YtjklnnklgkihlaaGreatDoor.Vt
open Cel (Dec zero lost)
abbrev Tx := List UInt8

/-- What is told. -/
structure Ac where
  k : Int
  r : Int
  b : Int
  ps : List Int
  it : Tx
  tx : Tx
/-- A parser: 0 ground, 1 osc, 2 data, 3 string, 4 escape, 5 csi, 6 dcs, 7 ignore; its decoder; what was begun. -/
structure Ps where
  s : Nat
  d : Dec
  k : Int
  b : Int
  ps : List Int
  it : Tx
  tx : Tx
  af : Bool
def ps0 : Ps := ⟨0, zero, 0, 0, [], [], [], false⟩
def prt (r : Int) : Ac := ⟨1, r, 0, [], [], []⟩
def ctl (x : Int) : Ac := ⟨2, 0, x, [], [], []⟩
def act (S : Ps) : Ac := ⟨S.k, 0, S.b, S.ps.take 32, S.it, S.tx⟩

def isTx (s : Nat) : Bool := s == 1 || s == 2 || s == 3
def isHd (s : Nat) : Bool := s != 0 && !isTx s
def isBet (x : Int) : Bool := decide (32 ≤ x) && decide (x ≤ 47)
def isMk (x : Int) : Bool := decide (60 ≤ x) && decide (x ≤ 63)
def isFin (k x : Int) : Bool := decide ((if k = 3 then 48 else 64) ≤ x) && decide (x < 127)
def bare : Tx → Tx
  | [] => []
  | u :: l => if isMk (u.toNat : Int) then l else u :: l
def opens (x : Int) : Nat := if x = 91 then 5 else if x = 93 then 1 else if x = 80 then 6 else if x = 88 ∨ x = 94 ∨ x = 95 then 3 else 0
def opened (S : Ps) (x : Int) : Nat := if S.it ≠ [] then 0 else opens x
def fits (S : Ps) (x : Int) : Bool :=
  if isBet x then decide ((bare S.it).length < 2) else if isMk x then S.it.isEmpty && S.ps.isEmpty else x != 58 && (bare S.it).length == 0
/-- Numbers, and a digit or a ; behind. -/
def more1 (l : List Int) : List Int := if l = [] then [-1] else l
def lastOf (l : List Int) : Int := l.getD (l.length - 1) 0
def digit (l : List Int) (x : Int) : List Int := l.set (l.length - 1) (min (max (lastOf l) 0 * 10 + (x - 48)) 9999)
def withB (l : List Int) (x : Int) : List Int :=
  if x ≠ 59 then digit (more1 l) x else if (more1 l).length - 1 < 32 then more1 l ++ [-1] else more1 l
def add (S : Ps) (u : UInt8) : Ps :=
  if isBet (u.toNat : Int) || isMk (u.toNat : Int) then { S with it := S.it ++ [u] } else { S with ps := withB S.ps (u.toNat : Int) }
def put (S : Ps) (u : UInt8) : Ps := if S.tx.length < 1024 then { S with tx := S.tx ++ [u] } else S
def ground (S : Ps) (x : Int) : Ps × List Ac := ({ S with d := (Cel.step S.d x).1 }, (Cel.step S.d x).2.map prt)
def escP (S : Ps) : Ps := ⟨4, zero, 3, 0, [], [], [], isTx S.s⟩
def escA (S : Ps) : List Ac := (lost S.d).map prt ++ if S.s = 1 ∨ S.s = 2 then [act S] else []
def begun (s : Nat) (k : Int) : Ps := ⟨s, zero, k, 0, [], [], [], false⟩
/-- The final byte of a head; S has it already. -/
def ended (S : Ps) (x : Int) : Ps × List Ac :=
  if S.s = 4 then
    if opened S x = 5 then ({ S with s := 5, k := 4, b := 0, ps := [], it := [], tx := [], af := false }, [])
    else if opened S x = 6 then ({ S with s := 6, k := 6, b := 0, ps := [], it := [], tx := [], af := false }, [])
    else if opened S x = 1 then ({ S with s := 1, k := 5, b := 0, ps := [], it := [], tx := [], af := false }, [])
    else if opened S x = 3 then ({ S with s := 3 }, [])
    else if S.af = true ∧ S.it = [] ∧ x = 92 then (ps0, [])
    else (ps0, [act S])
  else if S.s = 5 then (ps0, [act S])
  else ({ S with s := 2 }, [])
def step (S : Ps) (u : UInt8) : Ps × List Ac :=
  let x : Int := u.toNat
  if x = 24 ∨ x = 26 then (ps0, [])
  else if x = 27 then (escP S, escA S)
  else if isTx S.s then
    if S.s = 1 ∧ x = 7 then (ps0, [act S])
    else if x < 32 then (S, [])
    else if S.s = 3 then (S, []) else (put S u, [])
  else if x < 32 then ({ S with d := zero }, (lost S.d).map prt ++ [ctl x])
  else if 127 < x ∧ isHd S.s = true then ground ps0 x
  else if x = 127 then (S, [])
  else if S.s = 0 then ground S x
  else if S.s = 7 then if isFin S.k x then (if S.k = 6 then { ps0 with s := 3 } else ps0, []) else (S, [])
  else if isFin S.k x then ended { S with b := x } x
  else if fits S x then (add S u, [])
  else ({ S with s := 7 }, [])
def run : Ps → Tx → Ps × List Ac
  | S, [] => (S, [])
  | S, u :: l => ((run (step S u).1 l).1, (step S u).2 ++ (run (step S u).1 l).2)
theorem run_app (S : Ps) (a b : Tx) : run S (a ++ b) = ((run (run S a).1 b).1, (run S a).2 ++ (run (run S a).1 b).2) := by
  induction a generalizing S with
  | nil => simp [run]
  | cons u a ih => simp only [List.cons_append, run, ih, List.append_assoc]

/-- From byte j on, in state S, it goes on as from byte m on, in state S2, behind what has been told. -/
def Goes (l : Tx) (j : Nat) (S : Ps) (m : Nat) (S2 : Ps) (new : List Ac) : Prop := run S (l.drop j) = ((run S2 (l.drop m)).1, new ++ (run S2 (l.drop m)).2)
section
variable {l : Tx} {j m n : Nat} {S S1 S2 S3 : Ps} {a b : List Ac} {u : UInt8}
theorem Goes.refl : Goes l j S j S [] := by unfold Goes; simp
theorem Goes.trans (h : Goes l j S m S2 a) (k : Goes l m S2 n S3 b) : Goes l j S n S3 (a ++ b) := by
  unfold Goes at *; rw [h, k, List.append_assoc]
theorem Goes.one (hj : j < l.length) (hu : l[j] = u) (hs : step S u = (S2, a)) : Goes l j S (j + 1) S2 a := by
  unfold Goes
  rw [List.drop_eq_getElem_cons hj, hu]
  simp only [run, hs]
theorem Goes.then (h : Goes l j S m S2 a) (hm : m < l.length) (hu : l[m] = u) (hs : step S2 u = (S3, b)) : Goes l j S (m + 1) S3 (a ++ b) := h.trans (Goes.one hm hu hs)
/-- A byte that both take alike. -/
theorem Goes.alike (h : Goes l j S m S2 a) (hm : m < l.length) (hu : l[m] = u) (hs : step S2 u = step S3 u) : Goes l j S m S3 a := by
  have e : run S2 (l.drop m) = run S3 (l.drop m) := by
    rw [List.drop_eq_getElem_cons hm, hu]
    simp only [run, hs]
  unfold Goes at *
  rw [h, e]
theorem Goes.whole (h : Goes l 0 S l.length S2 a) : run S l = (S2, a) := by
  unfold Goes at h
  rw [List.drop_length] at h
  simpa [run] using h
end

/-- The bounds that a parser keeps. -/
structure Bd (S : Ps) : Prop where
  s1 : S.s ≤ 7
  k0 : 0 ≤ S.k
  k1 : S.k ≤ 6
  b0 : 0 ≤ S.b
  b1 : S.b ≤ 255
  pl : S.ps.length ≤ 33
  pz : ∀ p ∈ S.ps, -1 ≤ p ∧ p ≤ 9999
  il : S.it.length ≤ 3
  tl : S.tx.length ≤ 1024
  di : Cel.Inv S.d
theorem bd0 : Bd ps0 := ⟨by decide, by decide, by decide, by decide, by decide, by decide, (fun p hp => by cases hp), by decide, by decide, Cel.inv_zero⟩
theorem u8_le (u : UInt8) : 0 ≤ (u.toNat : Int) ∧ (u.toNat : Int) ≤ 255 := by have := u.toNat_lt; omega
theorem bare_le (l : Tx) : (bare l).length ≤ l.length ∧ l.length ≤ (bare l).length + 1 := by
  unfold bare; split
  · simp
  · split <;> simp
theorem more1_len (l : List Int) : (more1 l).length ≠ 0 ∧ ((more1 l).length = l.length ∨ ((more1 l).length = 1 ∧ l = [])) := by
  unfold more1; split
  · rename_i h; exact ⟨by simp, Or.inr ⟨rfl, h⟩⟩
  · rename_i h; exact ⟨fun e => h (List.eq_nil_of_length_eq_zero e), Or.inl rfl⟩
theorem more1_mem {l : List Int} (h : ∀ p ∈ l, -1 ≤ p ∧ p ≤ 9999) : ∀ p ∈ more1 l, -1 ≤ p ∧ p ≤ 9999 := by
  unfold more1; split
  · intro p hp; simp at hp; omega
  · exact h
theorem withB_len {l : List Int} {x : Int} (h : l.length ≤ 33) : (withB l x).length ≤ 33 ∧ withB l x ≠ [] := by
  obtain ⟨h1, h2⟩ := more1_len l
  have hl : (more1 l).length ≤ 33 := by rcases h2 with h2 | ⟨h2, _⟩ <;> omega
  unfold withB
  split
  · unfold digit
    rw [List.length_set]
    exact ⟨hl, fun e => h1 (by have h9 := congrArg List.length e; rw [List.length_set] at h9; exact h9)⟩
  · split
    · rw [List.length_append]; exact ⟨by simp only [List.length_singleton]; omega, by simp⟩
    · exact ⟨hl, fun e => h1 (by rw [e]; rfl)⟩
theorem lastOf_mem {l : List Int} (h : l.length ≠ 0) : lastOf l ∈ l := by
  unfold lastOf
  rw [List.getD_eq_getElem?_getD, List.getElem?_eq_getElem (by omega), Option.getD_some]
  exact List.getElem_mem _
theorem withB_mem {l : List Int} {x : Int} (h : ∀ p ∈ l, -1 ≤ p ∧ p ≤ 9999) (hx : 48 ≤ x) : ∀ p ∈ withB l x, -1 ≤ p ∧ p ≤ 9999 := by
  have hm := more1_mem h
  have hl := hm _ (lastOf_mem (more1_len l).1)
  intro p hp
  unfold withB at hp
  split at hp
  · unfold digit at hp
    rcases List.mem_or_eq_of_mem_set hp with hp | hp
    · exact hm p hp
    · subst hp; omega
  · split at hp
    · rcases List.mem_append.1 hp with hp | hp
      · exact hm p hp
      · simp at hp; omega
    · exact hm p hp
theorem add_bd {S : Ps} {u : UInt8} (h : Bd S) (hf : fits S (u.toNat : Int) = true) (hx : isBet (u.toNat : Int) = true ∨ isMk (u.toNat : Int) = true ∨ 48 ≤ (u.toNat : Int)) : Bd (add S u) := by
  have hb := bare_le S.it
  unfold add
  split
  · rename_i hc
    refine ⟨h.s1, h.k0, h.k1, h.b0, h.b1, h.pl, h.pz, ?_, h.tl, h.di⟩
    rw [List.length_append, List.length_singleton]
    unfold fits at hf
    split at hf
    · simp at hf; omega
    · rename_i h2
      simp only [h2, Bool.false_or] at hc
      rw [if_pos hc] at hf
      simp at hf
      rw [hf.1]; decide
  · rename_i hc
    simp only [Bool.or_eq_true, not_or] at hc
    exact ⟨h.s1, h.k0, h.k1, h.b0, h.b1, (withB_len h.pl).1, withB_mem h.pz (by rcases hx with hx | hx | hx; exact absurd hx hc.1; exact absurd hx hc.2; exact hx), h.il, h.tl, h.di⟩
theorem put_bd {S : Ps} {u : UInt8} (h : Bd S) : Bd (put S u) := by
  unfold put
  split
  · exact ⟨h.s1, h.k0, h.k1, h.b0, h.b1, h.pl, h.pz, h.il, by rw [List.length_append, List.length_singleton]; omega, h.di⟩
  · exact h
end Go.Proofs.YtjklnnklgkihlaaGreatDoor.Vt
