/- The digits at the front of a text: strings.TrimLeft at the ten digits, and package calc's 'digits'. -/
import Derived.Test.YtbiinghmopgjnaaGreatDoorFun
import Derived.ProofKit
import Derived.Deep.Draws
import Derived.Lib.IndexBytes
namespace Go.Proofs.YtbiinghmopgjnaaGreatDoor.Cal
open Go.RowKit

/-- A block that is just these cells. -/
def Blk (w : World) (g : Nat) (t : TypeId) (cs : Array Value) : Prop := w.heap[g]? = some (.cells cs t (0, 0))
section
variable {w w' : World} {g : Nat} {t : TypeId} {cs : Array Value}
theorem Blk.lt (h : Blk w g t cs) : g < w.heap.size := by
  rcases Nat.lt_or_ge g w.heap.size with hlt | hge
  · exact hlt
  · unfold Blk at h; rw [Array.getElem?_eq_none hge] at h; cases h
theorem Blk.cell (h : Blk w g t cs) (i : Nat) : w.cell? ⟨g, i, none⟩ = cs[i]? := cell_of_row w g i cs t (0, 0) h
theorem Blk.frozen (h : Blk w g t cs) (i : Nat) : w.frozen? ⟨g, i, none⟩ = false := by
  unfold Blk at h
  simp [World.frozen?, h]
theorem Blk.new (w : World) (t : TypeId) (cs : Array Value) : Blk (w.alloc (.cells cs t)) w.heap.size t cs := heap_alloc_new w _
theorem Blk.alloc (h : Blk w g t cs) (o : Obj) : Blk (w.alloc o) g t cs := (Below.heap_alloc w o g h.lt).trans h
theorem Blk.set_ (h : Blk w g t cs) (i : Nat) (u : Value) : Blk (w.setCell ⟨g, i, none⟩ u) g t (cs.setIfInBounds i u) := by
  unfold Blk at h ⊢
  simp [World.setCell, Array.getElem?_modify, h]
theorem Blk.far (h : Blk w g t cs) {p : Addr} (hp : g ≠ p.block) (u : Value) : Blk (w.setCell p u) g t cs := (Below.heap_setCell w p u g hp).trans h
theorem Blk.below {B : Nat} (h : Blk w g t cs) (hb : Below B w w') (hg : g < B) : Blk w' g t cs := (hb.block g hg).trans h
end
theorem ret_str {a b : ByteArray} (h : a = b) : Ending.returned (.string a) = .returned (.string b) := by rw [h]

def isDig (c : UInt8) : Bool := decide (48 ≤ c.toNat) && decide (c.toNat ≤ 57)
def dropW (l : List UInt8) : List UInt8 := l.dropWhile isDig
/-- The set of the first so many digits. -/
def asc (k : Nat) : Array Value := ((List.range 256).map fun i => Value.bool (decide (48 ≤ i) && decide (i < 48 + k))).toArray
theorem asc_zero : asc 0 = Tryz.zeroCells229 := by kernel_rfl
theorem asc_size (k : Nat) : (asc k).size = 256 := by unfold asc; simp
theorem asc_at (k i : Nat) (h : i < (asc k).size) : (asc k)[i] = .bool (decide (48 ≤ i) && decide (i < 48 + k)) := by
  simp [asc]
theorem asc_step (k : Nat) (hk : k < 10) : (asc k).setIfInBounds (48 + k) (.bool true) = asc (k + 1) := by
  refine Array.ext (by simp [asc_size]) fun i h1 h2 => ?_
  have h3 := h2
  rw [asc_size] at h3
  rw [Array.getElem_setIfInBounds (by rw [asc_size]; exact h3), asc_at, asc_at]
  by_cases c : 48 + k = i
  · rw [if_pos c]
    congr 1
    rw [Bool.eq_iff_iff]
    simp
    omega
  · rw [if_neg c]
    congr 1
    rw [Bool.eq_iff_iff]
    simp
    omega
theorem asc_get (k n : Nat) (hn : n < 256) : (asc k)[n]? = some (.bool (decide (48 ≤ n) && decide (n < 48 + k))) := by
  unfold asc
  simp [hn]

theorem contains_any (g n : Nat) (w : World) (hn : n < 256) (t : TypeId) (h : Blk w g t (asc 10)) :
    Calls Tryz.prog 209 #[.pointer (some ⟨g, 0, none⟩), .int .u8 n] w fun e w' => e = .returned (.bool (decide (48 ≤ n) && decide (n < 58))) ∧ w = w' := by
  have hc := h.cell n
  rw [asc_get 10 n hn] at hc
  go_enter Tryz.func209, Tryz.ntmps209
  go_wp2
  go_ret
  exact ⟨rfl, rfl⟩

section
variable {P : Program} {ops : Array Oper} {rest : List Oper} {op : Oper} {a : Act} {w : World} {Q : Exit → Act → World → Prop}
/-- A store of a whole row. -/
theorem wpList_store_blk (hgd : op.guard = none) (ty : TypeId) (x y : Operand) (ho : op.op = .store ty x y) (g : Nat) (cells : Array Value) (hx : a.eval x = .pointer (some ⟨g, 0, none⟩)) (hy : a.eval y = .agg cells)
    (t : TypeId) (old : Array Value) (hg : Blk w g t old) (hi : (P.info? ty).map (·.size) = some cells.size) (hold : old.size = cells.size) (h1 : cells.all (·.oneCell') = true)
    (h : ∀ w1, Blk w1 g t cells → (∀ B, B ≤ g → Below B w w1) → wpList P ops Q rest (a.put op.dst undef) w1) : wpList P ops Q (op :: rest) a w :=
  wpList_store_row hgd ty x y ho g cells hx hy t old hg hi hold h1
    (h _ (setRow_heap w g old cells _ _ hg) fun B hB => ⟨rfl, rfl, rfl, by simp, fun k hk => setRow_other w g k _ (by omega)⟩)
end
/-- A result that lies in memory, and one that doesn't. -/
theorem results_cell_tmp {P : Program} {fn : Func} {p q : Tmp} {ty : TypeId} (h : fn.results = #[.cell p ty, .tmp q]) (tmps : Array Value) (w : World) (g : Nat) (t : TypeId) (cs : Array Value) (fr : Nat × Nat) (d : TypeDesc)
    (hp : tmps.getD p undef = .pointer (some ⟨g, 0, none⟩)) (hg : w.heap[g]? = some (.cells cs t fr))
    (hu : P.underlying ty = some d) (hd : (match d with | .struct _ | .array _ _ => true | _ => false) = true) (hi : (P.info? ty).map (·.size) = some cs.size) :
    (results fn tmps).run P w = .ok (.tuple #[.agg cs, tmps.getD q undef]) w := by
  have hp' : tmps[p]?.getD undef = .pointer (some ⟨g, 0, none⟩) := by simpa using hp
  simp [results, h, hp', asAddr, run_loadVar_row w g t ty cs fr d hg hu hd hi]
def tenDigits : ByteArray := { data := #[48, 49, 50, 51, 52, 53, 54, 55, 56, 57] }
set_option maxRecDepth 100000 in
set_option maxHeartbeats 400000 in
theorem makeSet_any (s : ByteArray) (hs : s = tenDigits) (w : World) :
    Calls Tryz.prog 179 #[.string s] w fun e w' => e = .returned (.tuple #[.agg (asc 10), .bool true]) ∧ Below w.heap.size w w' := by
  have h10 : s.size = 10 := by rw [hs]; rfl
  have HC : Hid (∀ (k : Nat) (hk : k < s.size), s[k].toNat = 48 + k) := by
    show ∀ (k : Nat) (hk : k < s.size), s[k].toNat = 48 + k
    subst hs
    decide
  have H10 := Lib.hid h10
  clear h10 hs
  go_enter Tryz.func179, Tryz.ntmps179
  go_wp2
  go_loopw [4, 5] (fun i c wr => ∃ k : Nat, k ≤ 10 ∧ i = .int .i64 k ∧ Blk wr w.heap.size 229 (asc k) ∧ Below w.heap.size w wr) (fun i _ _ => 10 - (intOf i).toNat)
  case atStart =>
    refine ⟨0, by omega, rfl, ?_, (Below.refl _ _).alloc (Nat.le_refl _) _⟩
    rw [asc_zero]
    exact Blk.new w _ _
  case round =>
    obtain ⟨k, hk, rfl, hblk, hb⟩ := hrel
    have hbs := hb.size
    have hlt2 := hblk.lt
    by_cases hlt : k < 10
    · have hsz : k < s.size := by rw [H10.out]; exact hlt
      have hch := HC.out k hsz
      have HS := Lib.hid H10.out
      have hc0 := hblk.cell (48 + k)
      rw [asc_get _ _ (by omega)] at hc0
      have hf0 := hblk.frozen (48 + k)
      have hset := hblk.set_ (48 + k) (.bool true)
      rw [asc_step k hlt] at hset
      go_wp2
      go_roundw
      case rel => exact ⟨k + 1, by omega, by go_num, hset, hb.setCell (by simp) _⟩
      case measure => simp [intOf]; omega
    · obtain rfl : k = 10 := by omega
      clear hlt HC
      generalize hcs : asc 10 = cs at *
      have hsz : (Tryz.prog.info? 229).map (·.size) = some cs.size := by rw [← hcs, asc_size]; kernel_rfl
      have h1 : cs.all (·.oneCell') = true := by rw [← hcs]; kernel_rfl
      have HSZ := Lib.hid hsz
      have H1 := Lib.hid h1
      have HCS := Lib.hid hcs
      clear hsz hcs h1
      have hs1 : s.size ≤ 10 := by rw [H10.out]; exact Nat.le_refl _
      go_wp2_with (first
        | (refine wpList_load_row rfl 229 _ rfl w.heap.size rfl _ cs _ _ hblk Tryz.underlying229 rfl HSZ.out ?_)
        | (refine wpList_store_blk rfl 229 (.tmp 2) (.tmp 20) rfl w.heap.size cs rfl rfl _ cs hblk HSZ.out rfl H1.out ?_; intro w1 hblk1 hb1))
      refine bodyPost_ret (v := .tuple #[.agg cs, .bool true]) ?_ rfl ⟨by rw [HCS.out], hb.trans (hb1 _ (Nat.le_refl _))⟩
      exact results_cell_tmp (p := 2) (q := 3) (by kernel_rfl) _ w1 w.heap.size _ cs _ _ rfl hblk1 Tryz.underlying229 rfl HSZ.out

theorem dropW_nil : dropW [] = [] := rfl
theorem dropW_yes {c : UInt8} {l : List UInt8} (h : isDig c = true) : dropW (c :: l) = dropW l := by unfold dropW; rw [List.dropWhile_cons_of_pos (by simpa using h)]
theorem dropW_no {c : UInt8} {l : List UInt8} (h : isDig c = false) : dropW (c :: l) = c :: l := by unfold dropW; rw [List.dropWhile_cons_of_neg (by simpa using h)]
theorem list_head (r : ByteArray) (h : 0 < r.size) : r.data.toList = r[0] :: (r.extract 1 r.size).data.toList := by
  have e : r.data.toList = r.data.toList.take 1 ++ r.data.toList.drop 1 := (List.take_append_drop ..).symm
  have e1 : r.data.toList.take 1 = [r[0]] := by
    rw [List.take_one]
    rw [List.head?_eq_getElem?, List.getElem?_eq_getElem (by simpa using h)]
    rfl
  have e2 : (r.extract 1 r.size).data.toList = r.data.toList.drop 1 := Lib.extract_to_end r 1
  rw [e, e1, e2]
  rfl
set_option maxRecDepth 100000 in
set_option maxHeartbeats 400000 in
theorem trimLeftSet_any (s : ByteArray) (g : Nat) (w : World) (hs : s.size ≤ 9223372036854775807) (hg : Blk w g 229 (asc 10)) :
    Calls Tryz.prog 180 #[.string s, .pointer (some ⟨g, 0, none⟩)] w fun e w' => e = .returned (.string ⟨(dropW s.data.toList).toArray⟩) ∧ w = w' := by
  go_enter Tryz.func180, Tryz.ntmps180
  go_wp2
  go_loop [0] (fun v => ∃ r : ByteArray, v = .string r ∧ r.size ≤ 9223372036854775807 ∧ Hid (dropW r.data.toList = dropW s.data.toList)) (fun v => match v with | .string r => r.size | _ => 0)
  case atStart => exact ⟨s, rfl, hs, rfl⟩
  case round =>
    obtain ⟨r, rfl, hr, hD⟩ := hrel
    by_cases h0 : 0 < r.size
    · have hl := list_head r h0
      cases hd : isDig r[0]
      · have hv : Hid (r = ⟨(dropW s.data.toList).toArray⟩) := by
          show _ = _
          rw [← hD.out, hl, dropW_no hd, ← hl]
        have hcn := contains_any g r[0].toNat w (UInt8.toNat_lt _) _ hg
        rw [show (decide (48 ≤ r[0].toNat) && decide (r[0].toNat < 58)) = false by rw [← hd]; unfold isDig; congr 1; rw [Bool.eq_iff_iff]; simp; omega] at hcn
        clear hl hd
        go_wp2_with fail
        refine hcn.mono ?_
        rintro e w' ⟨rfl, rfl⟩
        go_wp2_with fail
        go_ret
        exact ⟨ret_str hv.out, rfl⟩
      · have hv : Hid (dropW (r.extract 1 r.size).data.toList = dropW s.data.toList) := by
          show _ = _
          rw [← hD.out, hl, dropW_yes hd]
        have hcn := contains_any g r[0].toNat w (UInt8.toNat_lt _) _ hg
        rw [show (decide (48 ≤ r[0].toNat) && decide (r[0].toNat < 58)) = true by rw [← hd]; unfold isDig; congr 1; rw [Bool.eq_iff_iff]; simp; omega] at hcn
        clear hl hd
        go_wp2_with fail
        refine hcn.mono ?_
        rintro e w' ⟨rfl, rfl⟩
        go_wp2_with fail
        go_round
        case rel => exact ⟨_, rfl, by simp; omega, hv⟩
        case measure => simp; omega
    · have hv : Hid (r = ⟨(dropW s.data.toList).toArray⟩) := by
        show _ = _
        have hz : r.data.toList = [] := List.eq_nil_of_length_eq_zero (by simpa using h0)
        rw [← hD.out, hz, dropW_nil]
        exact ByteArray.ext (Array.ext' hz)
      go_wp2_with fail
      go_ret
      exact ⟨ret_str hv.out, rfl⟩

set_option maxRecDepth 100000 in
set_option maxHeartbeats 400000 in
theorem trimLeft_any (s : ByteArray) (w : World) (hs : s.size ≤ 9223372036854775807) :
    Calls Tryz.prog 149 #[.string s, .string tenDigits] w fun e w' => e = .returned (.string ⟨(dropW s.data.toList).toArray⟩) ∧ Below w.heap.size w w' := by
  by_cases h0 : s.data.toList = []
  · have hv : Hid (s = ⟨(dropW s.data.toList).toArray⟩) := by
      show _ = _
      rw [h0, dropW_nil]
      exact ByteArray.ext (Array.ext' h0)
    have h1 : s.toList.isEmpty = true := by rw [Lib.toList_data, h0]; rfl
    have h2 : s.toList = [] := by rw [Lib.toList_data, h0]
    have ht1 : tenDigits.toList.isEmpty = false := by rw [Lib.toList_data]; rfl
    clear h0
    go_enter Tryz.func149, Tryz.ntmps149
    go_wp2_with fail
    go_ret
    exact ⟨ret_str hv.out, Below.refl _ _⟩
  · have h1 : s.toList.isEmpty = false := by rw [Lib.toList_data]; simpa using h0
    have h2 : (!s.toList.isEmpty) = true := by rw [h1]; rfl
    have HM := makeSet_any tenDigits rfl w
    have ht1 : tenDigits.toList.isEmpty = false := by rw [Lib.toList_data]; rfl
    have ht2 : (!tenDigits.toList.isEmpty) = true := by rw [ht1]; rfl
    have ht3 : tenDigits.size ≤ 10 := by decide
    have ht4 : 10 ≤ tenDigits.size := by decide
    generalize tenDigits = t at *
    generalize hcs : asc 10 = cs at *
    have hsz : (Tryz.prog.info? 229).map (·.size) = some cs.size := by rw [← hcs, asc_size]; kernel_rfl
    have hzs : (Tryz.zeroCells229).size = cs.size := by rw [← hcs, asc_size]; kernel_rfl
    have hc1 : cs.all (·.oneCell') = true := by rw [← hcs]; kernel_rfl
    have HSZ := Lib.hid hsz
    have HZS := Lib.hid hzs
    have H1 := Lib.hid hc1
    have HCS := Lib.hid hcs
    clear hsz hcs hc1 hzs
    go_enter Tryz.func149, Tryz.ntmps149
    go_wp2_with fail
    refine HM.mono ?_
    rintro e w1 ⟨rfl, hb1⟩
    have hs1 := hb1.size
    go_wp2_with (refine wpList_store_blk rfl 229 (.tmp 5) (.tmp 29) rfl w1.heap.size cs rfl rfl _ _ (Blk.new w1 _ _) HSZ.out HZS.out H1.out ?_; intro w2 hblk2 hb2)
    have hb3 := hb1.trans (((Below.refl _ w1).alloc hs1 _).trans (hb2 _ hs1))
    rw [← HCS.out] at hblk2
    have hT := trimLeftSet_any s w1.heap.size w2 hs hblk2
    go_wp2_with fail
    refine hT.mono ?_
    rintro e w' ⟨rfl, rfl⟩
    go_wp2_with fail
    go_ret
    exact ⟨rfl, hb3⟩

/-- calc.digits: what stands behind the digits, and whether there was one. -/
theorem dropW_len (l : List UInt8) : (dropW l).length ≤ l.length := by
  induction l with
  | nil => exact Nat.le_refl _
  | cons c l ih =>
    cases h : isDig c
    · rw [dropW_no h]; exact Nat.le_refl _
    · rw [dropW_yes h, List.length_cons]; omega
theorem digits_any (s : ByteArray) (w : World) (hs : s.size ≤ 9223372036854775807) :
    Calls Tryz.prog 128 #[.string s] w fun e w' => e = .returned (.tuple #[.string ⟨(dropW s.data.toList).toArray⟩, .bool (decide ((dropW s.data.toList).length < s.size))]) ∧ Below w.heap.size w w' := by
  have hT := trimLeft_any s w hs
  have hl : (dropW s.data.toList).length ≤ 9223372036854775807 := Nat.le_trans (dropW_len _) (by simpa using hs)
  have hz : (⟨(dropW s.data.toList).toArray⟩ : ByteArray).size = (dropW s.data.toList).length := by simp [ByteArray.size]
  generalize (dropW s.data.toList) = l at *
  generalize (⟨l.toArray⟩ : ByteArray) = r at *
  rw [← hz] at hl ⊢
  clear hz
  unfold tenDigits at hT
  go_enter Tryz.func128, Tryz.ntmps128
  go_wp2_with fail
  refine hT.mono ?_
  rintro e w1 ⟨rfl, hb1⟩
  go_wp2_with fail
  go_ret2
  exact ⟨by simp, hb1⟩
end Go.Proofs.YtbiinghmopgjnaaGreatDoor.Cal
