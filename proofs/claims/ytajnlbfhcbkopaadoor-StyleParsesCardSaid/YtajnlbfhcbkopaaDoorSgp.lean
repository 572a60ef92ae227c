/- Package style's Sgr: what it stands on. -/
import Derived.Test.YtajnlbfhcbkopaaDoorCcd
namespace Go.Proofs.YtajnlbfhcbkopaaDoor.Sty
open Go.RowKit

/-- The bits of a that are not in b. -/
def an (a b : Nat) : Nat := (BitVec.ofNat 64 a &&& ~~~BitVec.ofNat 64 b).toNat
theorem an_le (a b : Nat) (ha : a < 256) : an a b ≤ a := by
  unfold an
  rw [BitVec.toNat_and, BitVec.toNat_ofNat, Nat.mod_eq_of_lt (by omega : a < 2 ^ 64)]
  exact Nat.and_le_left
theorem bits_an (a b : Nat) (ha : a < 256) : bits .andNot .i64 (a : Int) (b : Int) = (an a b : Int) := by
  have h := an_le a b ha
  unfold bits
  simp only [IntKind.bits, BitVec.ofInt_natCast]
  exact i64_small ((an a b : Nat) : Int) (Int.natCast_nonneg _) (by omega)
theorem onN_bit (a i : Nat) : onN a i = a.testBit i := by unfold onN; exact Nat.testBit_eq_decide_div_mod_eq.symm
theorem an_on (a b i : Nat) (hi : i < 64) : onN (an a b) i = (onN a i && !onN b i) := by
  rw [onN_bit, onN_bit, onN_bit]
  unfold an
  rw [← BitVec.getLsbD, BitVec.getLsbD_and, BitVec.getLsbD_not, BitVec.getLsbD_ofNat, BitVec.getLsbD_ofNat]
  simp [hi]
theorem an_bit (a b i : Nat) (ha : a < 256) (hi : i < 8) : (bits .and .i64 ((an a b : Int) / 2 ^ i) 1 != 0) = (onN a i && !onN b i) := by
  have h := an_le a b ha
  rw [← an_on a b i (by omega)]
  have e : ((an a b : Int) / 2 ^ i) = ((an a b / 2 ^ i : Nat) : Int) := by simp
  have h2 := bits_mask .i64 63 (by decide) i64_small 1 (by decide) ((an a b : Int) / 2 ^ i) (by rw [e]; exact Int.natCast_nonneg _) (by rw [e]; have := Nat.div_le_self (an a b) (2 ^ i); omega)
  have e1 : ((2 : Int) ^ 1 - 1) = 1 := by decide
  rw [e1, e] at h2
  rw [e, h2]
  unfold onN
  have e2 : ((2 : Int) ^ 1) = 2 := by decide
  rw [e2]
  by_cases hc : an a b / 2 ^ i % 2 = 1
  · have : (((an a b / 2 ^ i : Nat) : Int) % 2) = 1 := by omega
    rw [this, hc]; rfl
  · have h0 : an a b / 2 ^ i % 2 = 0 := by omega
    have : (((an a b / 2 ^ i : Nat) : Int) % 2) = 0 := by omega
    rw [this, h0]; rfl

def digitAt (i : Nat) : Tx := [([49, 50, 51, 52, 53, 55, 56, 57] : Tx).getD i 0]
/-- The numbers of the first k attributes that are turned on. -/
def onCodes (t g : Nat) (k : Nat) : List Tx := ((List.range k).filter fun i => onN t i && !onN g i).map digitAt
theorem onCodes_succ (t g k : Nat) : onCodes t g (k + 1) = if (onN t k && !onN g k) = true then onCodes t g k ++ [digitAt k] else onCodes t g k := by
  unfold onCodes
  rw [List.range_succ, List.filter_append]
  by_cases h : (onN t k && !onN g k) = true
  · rw [if_pos h]; simp [h]
  · rw [if_neg h]; simp [h]
theorem onCodes_len (t g k : Nat) : (onCodes t g k).length ≤ k := by
  unfold onCodes
  rw [List.length_map]
  have := List.length_filter_le (fun i => onN t i && !onN g i) (List.range k)
  simpa using this
/-- The numbers of an escape that turns the look f into the look t (both right). -/
def codesOf (f t : St) : List Tx :=
  let clr := decide (an f.2.2.toNat t.2.2.toNat ≠ 0)
  let g : St := if clr = true then (-1, -1, 0) else f
  (if clr = true then [[48]] else []) ++ onCodes t.2.2.toNat g.2.2.toNat 8 ++ (if t.1 ≠ g.1 then [codeS t.1 30] else []) ++ (if t.2.1 ≠ g.2.1 then [codeS t.2.1 40] else [])
/-- The escape. -/
def sgrS (f t : St) : Tx := if f = t then [] else [27, 91] ++ Lib.join (codesOf f t) [59] ++ [109]
theorem orP_right (fg bg at_ : Int) : rightS (orP fg bg at_).1 (orP fg bg at_).2.1 (orP fg bg at_).2.2 = true := by
  unfold orP
  by_cases h : rightS fg bg at_ = true
  · rw [if_pos h]; exact h
  · rw [if_neg h]; decide
theorem rightS_parts {a b c : Int} (h : rightS a b c = true) : isCol a = true ∧ isCol b = true ∧ 0 ≤ c ∧ c ≤ 255 := by
  unfold rightS at h
  simp only [Bool.and_eq_true, decide_eq_true_eq] at h
  exact ⟨h.1, h.2.1, h.2.2.1, h.2.2.2⟩

theorem info_str : (Tryd.prog.info? 9).map (fun i => (i.zero, i.size, i.bytes)) = some (some (.string { data := #[] }), 1, 16) := by kernel_rfl
def strv (l : List Tx) : List Value := l.map fun x => Value.string (bs x)
section
variable {ops : Array Oper} {rest : List Oper} {op : Oper} {a : Act} {w : World} {Q : Exit → Act → World → Prop}
/-- One text appended to a row of the call's own, or to nil. -/
theorem wpList_app_str (hgd : op.guard = none) (s x : Operand) (ho : op.op = .call { callee := .builtin .append, args := #[s, x], argTypes := #[46, 46] })
    (base : Nat) (v : Value) (n : Nat) (xs : List Value) (b : ByteArray) (c : Nat) (hs : a.eval s = v) (hown : w.ownsRow base 9 1 v n xs) (hx : a.eval x = .slice (some ⟨w.heap.size, 0, none⟩) 1 c) (hbase : base ≤ w.heap.size) (hn : n + 1 ≤ 8796093022208)
    (h : ∀ v' w', w'.ownsRow base 9 1 v' (n + 1) (xs ++ [.string b]) → Below base w w' → w.grownBy w' v.ownBlock → (v'.ownBlock = v.ownBlock ∨ v'.ownBlock = some (w.heap.size + 1)) → wpList Tryd.prog ops Q rest (a.put op.dst v') w') :
    wpList Tryd.prog ops Q (op :: rest) a (w.alloc (.cells #[.string b] 9)) := by
  obtain ⟨i0, hi0, hz0, hz1, hz2⟩ := info_parts info_str
  have hal := hown.alloc (.cells #[.string b] 9)
  refine wpList_append_own_at _ hgd s x 46 ho base 9 i0 (.string { data := #[] }) 1 16 Tryd.underlying46 hi0 hz0 hz1 hz2 rfl (by decide) v n xs hs hal ⟨w.heap.size, 0, none⟩ 1 c [.string b] hx rfl (cell_one_new _ _ _)
    (by intro u hu; simp at hu; subst hu; rfl) (by unfold maxLen; omega) (by omega) (by simp; omega) ?_
  intro v' w' hown' hgr _ hwh
  refine h v' w' hown' (((Below.refl base w).alloc hbase _).grown hgr (by simp; omega) (fun k hk => (hown.lt k hk).1)) ?_ (by simpa using hwh)
  exact ⟨hgr.os, hgr.tape, hgr.output, Nat.le_trans (by simp) hgr.size, fun i hi hne => (hgr.block i (by simp; omega) hne).trans (Below.heap_alloc _ _ _ hi)⟩
end
end Go.Proofs.YtajnlbfhcbkopaaDoor.Sty
