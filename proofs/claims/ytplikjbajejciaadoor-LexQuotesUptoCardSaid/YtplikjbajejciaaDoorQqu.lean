/- lex: words as they are written. -/
import Derived.Test.YtplikjbajejciaaDoorQba
import Derived.Test.YtplikjbajejciaaDoorShelf
import Derived.Shelf.Strings.SlTrimAscii
import Derived.Shelf.Strings.OnBuilder
import Derived.IntWalk
namespace Go.Proofs.YtplikjbajejciaaDoor.Lex
open Go.RowKit
def bareL : Tx := [97, 98, 99, 100, 101, 102, 103, 104, 105, 106, 107, 108, 109, 110, 111, 112, 113, 114, 115, 116, 117, 118, 119, 120, 121, 122, 65, 66, 67, 68, 69, 70, 71, 72, 73, 74, 75, 76, 77, 78, 79, 80, 81, 82, 83, 84, 85, 86, 87, 88, 89, 90, 48, 49, 50, 51, 52, 53, 54, 55, 56, 57, 95, 46, 47, 58, 61, 64, 37, 43, 44, 45]
def escQ (c : UInt8) : Tx := if 0 ≤ Lib.indexByte [34, 92, 36] c then [92, c] else [c]
/-- A word as it is written. -/
def quoteP (s : Tx) : Tx :=
  if s ≠ [] ∧ Lib.trimS s bareL = [] then s
  else if 0 ≤ Lib.indexByte s 39 then 34 :: (s.flatMap escQ ++ [34])
  else 39 :: (s ++ [39])
theorem qb_end {P : Program} {fn : Func} {R : Ending → World → Prop} {a : Act} {w : World} (h : fn.results = #[]) (hd : a.defers = []) (hR : R (.returned (.tuple #[])) w) : bodyPost P fn R .normal a w :=
  ⟨hd, _, results_none h _ _ _, hR⟩
theorem trim_any (cs l : Tx) (hcs : cs.length < 4294967281) (ha : cs.all (fun b => decide (b.toNat < 128)) = true) (hl : l.length ≤ 281474976710656) (w : World) :
    Calls Tryd.prog 16 #[.string (bs l), .string (bs cs)] w fun e w' => e = .returned (.string (bs (Lib.trimS l cs))) ∧ Below w.heap.size w w' := by
  have h := Any.strings_Trim_laid Tryd.lays160 (by kernel_rfl) (bs l) (bs cs) w (by rw [bs_size]; omega) (by rw [bs_size]; exact hcs) (by rw [bs_list]; exact fun _ x hx => by have := List.all_eq_true.1 ha x (List.mem_of_getElem? hx); simpa using this)
  rw [bs_list, bs_list] at h
  exact h
set_option maxRecDepth 100000 in
set_option maxHeartbeats 1000000 in
theorem copyCheck_any (B b : Nat) (bs : List Value) (w : World) (h : Lib.IsBuilder 55 5 B b bs w) :
    Calls Tryd.prog 33 #[.pointer (some ⟨b, 0, none⟩)] w fun e w' => e = .returned (.tuple #[]) ∧ Lib.BuilderAt 55 5 B b (.pointer (some ⟨b, 0, none⟩)) bs w' ∧ Below B w w' := by
  have hsz : (Tryd.prog.info? 55).map (·.size) = some 2 := by kernel_rfl
  obtain ⟨j, hj, hjs⟩ := Option.map_eq_some_iff.1 hsz
  rcases h with h | h
  · have hc := h.cell0
    have hf := h.frozen0
    have hsh := h.shape
    have hu := h.used (.pointer (some ⟨b, 0, none⟩))
    have hb : Below B w (w.setCell ⟨b, 0, none⟩ (.pointer (some ⟨b, 0, none⟩))) := (Below.refl B w).setCell (p := ⟨b, 0, none⟩) h.1 _
    go_enter Tryd.func33, Tryd.ntmps33
    go_wp2
    rw [Lib.run_to_unsafe w ⟨b, 0, none⟩ Tryd.underlying53 Tryd.underlying81 hj (by rw [hjs]; decide) hsh (Nat.zero_lt_succ 1)]
    simp only [Result.andThen]
    rw [Oper.upon_value]
    go_wp2
    rw [run_callFunc_extern Tryd.func51 (by kernel_rfl) (by kernel_rfl) (by kernel_rfl) (e := Extern.AbiNoEscape.same) (by kernel_rfl), Lib.run_noEscape]
    simp only [Result.andThen]
    rw [Oper.upon_value]
    go_wp2
    rw [Lib.run_from_unsafe w ⟨b, 0, none⟩ Tryd.underlying81 Tryd.underlying53 hj hsh (by kernel_rfl)]
    simp only [Result.andThen]
    rw [Oper.upon_value]
    go_wp2
    exact qb_end rfl rfl ⟨rfl, hu, hb⟩
  · have hc := h.cell0
    have hne : ∀ W : World, (binOp .neq 53 (.pointer (some ⟨b, 0, none⟩)) (.pointer (some ⟨b, 0, none⟩))).run Tryd.prog W = .ok (.bool false) W := fun W => Lib.run_neq_ptr_same W _ Tryd.underlying53 hj
    go_enter Tryd.func33, Tryd.ntmps33
    go_wp2
    exact qb_end rfl rfl ⟨rfl, h, Below.refl _ _⟩
theorem info_byte : (Tryd.prog.info? 5).map (fun i => (i.zero, i.size, i.bytes)) = some (some (.int .u8 0), 1, 1) := by kernel_rfl
theorem own_succ {w : World} {B e size n : Nat} {v : Value} {xs : List Value} (h : w.ownsRow B e size v (n + 1) xs) : ∃ g cap, v = .slice (some ⟨g, 0, none⟩) (n + 1) cap := by
  rcases h.2 with ⟨_, h0⟩ | ⟨g, cap, cur, hv, _⟩
  · omega
  · exact ⟨g, cap, hv⟩
section
variable {ops : Array Oper} {rest : List Oper} {op : Oper} {a : Act} {w : World} {Q : Exit → Act → World → Prop}
theorem wpList_app_byte (hgd : op.guard = none) (s x : Operand) (ho : op.op = .call { callee := .builtin .append, args := #[s, x], argTypes := #[42, 42] })
    (B : Nat) (v : Value) (xs : List Value) (r : Int) (hs : a.eval s = v) (hown : w.ownsRow B 5 1 v xs.length xs) (g c : Nat) (hx : a.eval x = .slice (some ⟨g, 0, none⟩) 1 c) (hg : w.cell? ⟨g, 0, none⟩ = some (.int .u8 r)) (hB : B ≤ w.heap.size) (hn : xs.length ≤ 10000000)
    (h : ∀ v' w', w'.ownsRow B 5 1 v' (xs.length + 1) (xs ++ [.int .u8 r]) → w.grownBy w' v.ownBlock → wpList Tryd.prog ops Q rest (a.put op.dst v') w') :
    wpList Tryd.prog ops Q (op :: rest) a w := by
  have hi := info_byte
  cases hq : Tryd.prog.info? 5 with
  | none => rw [hq] at hi; cases hi
  | some i =>
    rw [hq] at hi
    simp only [Option.map_some, Option.some.injEq, Prod.mk.injEq] at hi
    obtain ⟨hz, hsz, hby⟩ := hi
    have hmx : maxLen = 9223372036854775807 := rfl
    refine wpList_append_own w hgd s x 42 ho B 5 i (.int .u8 0) 1 1 Tryd.underlying42 hq hz hsz hby rfl (by decide) v xs.length xs hs hown ⟨g, 0, none⟩ 1 c [.int .u8 r] hx (by rfl) (by intro j u hj; match j, hj with | 0, hj => (simp at hj; subst hj; simp [Addr.add]; exact hg)) (by intro u hu; simp at hu; subst hu; rfl) (by omega) (by omega) (by omega) ?_
    intro v' w' h2 h3 _
    exact h v' w' h2 h3
end
set_option maxRecDepth 100000 in
set_option maxHeartbeats 1000000 in
theorem writeByte_any (B b : Nat) (bs : List Value) (r : Int) (w : World) (h : Lib.IsBuilder 55 5 B b bs w) (hn : bs.length ≤ 10000000) (hB : B ≤ w.heap.size) :
    Calls Tryd.prog 18 #[.pointer (some ⟨b, 0, none⟩), .int .u8 r] w fun e w' => e = .returned .nilIface ∧ Lib.IsBuilder 55 5 B b (bs ++ [.int .u8 r]) w' ∧ Below B w w' := by
  have hcc := copyCheck_any B b bs w h
  clear h
  go_enter Tryd.func18, Tryd.ntmps18
  go_wp2_with fail
  refine hcc.mono ?_
  rintro _ w1 ⟨rfl, h1, hb1⟩
  obtain ⟨hBb, v, hbk, hown, hne⟩ := h1
  have c1 : w1.cell? ⟨b, 1, none⟩ = some v := by rw [Lib.cell_of_heap hbk]; rfl
  obtain ⟨ao, cap, hv⟩ : ∃ ao cap, v = .slice ao bs.length cap := by
    rcases hown.2 with ⟨hv, h0⟩ | ⟨g, cap, cur, hv, _⟩
    · exact ⟨none, 0, by rw [hv, h0]⟩
    · exact ⟨_, _, hv⟩
  have hblt : b < w1.heap.size := by
    rcases Nat.lt_or_ge b w1.heap.size with h' | h'
    · exact h'
    · simp [Array.getElem?_eq_none h'] at hbk
  subst hv
  have hbs := hb1.size
  have HOB := Lib.hid (hown.alloc (.cells #[.int .u8 r] 5))
  have HNC := Lib.hid ((BL.new w1 5 [.int .u8 r]).cell 0)
  have hBX : B ≤ (w1.alloc (.cells #[.int .u8 r] 5)).heap.size := by simp; omega
  have HBX := Lib.hid hBX
  have HBK := Lib.hid ((Below.heap_alloc w1 (.cells #[.int .u8 r] 5) b hblt).trans hbk)
  have HBL := Lib.hid (show b < (w1.alloc (.cells #[.int .u8 r] 5)).heap.size by simp; omega)
  have HB1 := Lib.hid (hb1.alloc (show B ≤ w1.heap.size by omega) (.cells #[.int .u8 r] 5))
  have HLOW := Lib.hid (fun k hk => (hown.lt k hk).1)
  have HNE := Lib.hid hne
  clear hb1 hcc hown hbk hBX hne
  go_wp2_with (at_builtin; refine wpList_app_byte rfl (.tmp 11) (.tmp 13) rfl B (.slice ao bs.length cap) bs r rfl HOB.out w1.heap.size 1 rfl HNC.out HBX.out hn ?_; intro v' w2 hown2 hgr; have hbk2 := (hgr.block b HBL.out (fun e => HNE.out e.symm)).trans HBK.out; have d1 : w2.cell? ⟨b, 1, none⟩ = some (.slice ao bs.length cap) := (by rw [Lib.cell_of_heap hbk2]; rfl); have f1 : w2.frozen? ⟨b, 1, none⟩ = false := Lib.frozen_of_heap hbk2 1; obtain ⟨g, cap2, rfl⟩ := own_succ hown2; have HW2 := Lib.hid (And.intro hown2 (And.intro hgr hbk2)); clear hown2 hgr hbk2)
  go_ret
  refine ⟨rfl, .inr ?_, ?_⟩
  · exact Lib.BuilderAt.put (T := 55) (e := 5) hBb HW2.out.2.2 (bs' := bs ++ [.int .u8 r]) (by simpa using HW2.out.1) (by decide)
  · exact (HB1.out.grown HW2.out.2.1 HBX.out (fun k hk => HLOW.out k hk)).setCell (p := ⟨b, 1, none⟩) hBb _
/-- Bytes, quoted one by one. -/
def escL (s : Tx) : Tx := s.flatMap escQ
theorem escL_len (s : Tx) : (escL s).length ≤ 2 * s.length := by
  unfold escL
  induction s with
  | nil => exact Nat.le_refl _
  | cons c s ih =>
    rw [List.flatMap_cons, List.length_append, List.length_cons]
    have : (escQ c).length ≤ 2 := by unfold escQ; split <;> simp
    omega
theorem escL_snoc (s : Tx) {k : Nat} (h : k < s.length) : escL (s.take (k + 1)) = escL (s.take k) ++ escQ s[k] := by
  unfold escL
  rw [List.take_succ_eq_append_getElem h, List.flatMap_append]
  simp
theorem byteCells_app (a b : Tx) : Lib.byteCells (a ++ b) = Lib.byteCells a ++ Lib.byteCells b := by simp [Lib.byteCells]
theorem builder_below {B b : Nat} {bs : List Value} {w w' : World} (h : Lib.IsBuilder 55 5 B b bs w) (hb : Below w.heap.size w w') : Lib.IsBuilder 55 5 B b bs w' := by
  have key : ∀ {p : Value}, Lib.BuilderAt 55 5 B b p bs w → Lib.BuilderAt 55 5 B b p bs w' := fun {p} hx => by
    obtain ⟨h1, v, h2, h3, h4⟩ := hx
    refine ⟨h1, v, (hb.block b (Array.getElem?_eq_some_iff.1 h2).1).trans h2, ⟨h3.1, ?_⟩, h4⟩
    rcases h3.2 with h | ⟨g, cap, cur, e1, e2, e3, e4⟩
    · exact .inl h
    · exact .inr ⟨g, cap, cur, e1, e2, (hb.block g (Array.getElem?_eq_some_iff.1 e3).1).trans e3, e4⟩
  rcases h with h | h
  · exact .inl (key h)
  · exact .inr (key h)
set_option maxRecDepth 100000 in
set_option maxHeartbeats 4000000 in
/-- A word as the program writes it. -/
theorem Word_any (s : Tx) (hl : s.length ≤ 2000000) (w : World) :
    Calls Tryd.prog 12 #[.string (bs s)] w fun e w' => e = .returned (.string (bs (quoteP s))) ∧ Below w.heap.size w w' := by
  have HT : Hid (∀ V : World, Calls Tryd.prog 16 #[.string (bs s), .string (bs bareL)] V fun e w' => e = .returned (.string (bs (Lib.trimS s bareL))) ∧ Below V.heap.size V w') := fun V => trim_any bareL s (by decide) (by decide) (by omega) V
  have HC : Hid (∀ V : World, Calls Tryd.prog 17 #[.string (bs s), .string { data := #[39] }] V fun e w' => e = .returned (.bool (decide (0 ≤ Lib.indexByte s 39))) ∧ w' = V) := fun V => by
    have := Tryd.strings_Contains_one (bs s) 39 V
    rw [bs_list] at this
    exact this
  have hsz : (bs s).size = s.length := bs_size s
  have z1 : ((bs s).size : Int) ≤ 2000000 := by omega
  obtain ⟨b2, hb2⟩ : ∃ b, b = decide (0 ≤ Lib.indexByte s 39) := ⟨_, rfl⟩
  rw [← hb2] at HC
  by_cases hbare : s ≠ [] ∧ Lib.trimS s bareL = []
  · have hq : quoteP s = s := by unfold quoteP; rw [if_pos hbare]
    obtain ⟨h1, h2⟩ := hbare
    rw [hq]
    rw [h2] at HT
    have e0 : bs [] = { data := #[] } := rfl
    rw [e0] at HT
    have f1 : ((bs s).toList == ([] : List UInt8)) = false := by rw [bs_tl]; cases s with | nil => exact absurd rfl h1 | cons _ _ => rfl
    have f2 : ((bs s).toList != ([] : List UInt8)) = true := by rw [bne, f1]; rfl
    have f3 : (bs s).toList.isEmpty = false := by rw [bs_tl]; cases s with | nil => exact absurd rfl h1 | cons _ _ => rfl
    clear h1 h2 hq e0 hsz hb2
    generalize bs s = S at *
    go_enter Tryd.func12, Tryd.ntmps12
    go_wp2_with fail
    refine (HT.out _).mono ?_
    rintro _ w1 ⟨rfl, h1⟩
    have H1 := Lib.hid h1
    clear h1
    go_wp2_with fail
    go_ret
    exact ⟨rfl, H1.out⟩
  · have hib : ∀ (V : World) (c : UInt8), Calls Tryd.prog 19 #[.string { data := #[34, 92, 36] }, .int .u8 (c.toNat : Int)] V fun e w' => e = .returned (.int .i64 (Lib.indexByte [34, 92, 36] c)) ∧ w' = V := fun V c => by
      have := Tryd.strings_IndexByte { data := #[34, 92, 36] } (c.toNat : Int) V
      have e : ((c.toNat : Int).toNat).toUInt8 = c := by simp
      rw [e] at this
      exact this
    have HIB := Lib.hid hib
    have HQ := Lib.hid (show quoteP s = if 0 ≤ Lib.indexByte s 39 then 34 :: (escL s ++ [34]) else 39 :: (s ++ [39]) by unfold quoteP; rw [if_neg hbare]; rfl)
    have hcase : s = [] ∨ (s ≠ [] ∧ Lib.trimS s bareL ≠ []) := by
      by_cases h : s = []
      · exact .inl h
      · exact .inr ⟨h, fun e => hbare ⟨h, e⟩⟩
    clear hib hbare
    have HEND : Hid (∀ V : World, True) := fun _ => trivial
    clear HEND
    rcases hcase with rfl | ⟨h1, h2⟩
    · have hb2' : b2 = false := by rw [hb2]; rfl
      subst hb2'
      have e0 : bs [] = { data := #[] } := rfl
      rw [e0] at HC ⊢
      have hq : bs (quoteP []) = { data := #[39, 39] } := rfl
      rw [hq]
      clear hb2 hsz z1 e0 hq HQ HT
      go_enter Tryd.func12, Tryd.ntmps12
      go_wp2_with fail
      refine (HC.out _).mono ?_
      rintro _ w1 ⟨rfl, rfl⟩
      go_wp2_with fail
      go_ret
      exact ⟨rfl, Below.refl _ _⟩
    · have f1 : ((bs s).toList == ([] : List UInt8)) = false := by rw [bs_tl]; cases s with | nil => exact absurd rfl h1 | cons _ _ => rfl
      have f2 : ((bs s).toList != ([] : List UInt8)) = true := by rw [bne, f1]; rfl
      have f3 : (bs s).toList.isEmpty = false := by rw [bs_tl]; cases s with | nil => exact absurd rfl h1 | cons _ _ => rfl
      have f4 : ((bs (Lib.trimS s bareL)).toList == ([] : List UInt8)) = false := by
        rw [bs_tl]
        cases hx : Lib.trimS s bareL with
        | nil => exact absurd hx h2
        | cons _ _ => rfl
      clear h1 h2
      generalize bs (Lib.trimS s bareL) = T at *
      cases b2 with
      | false =>
        have hno : ¬ 0 ≤ Lib.indexByte s 39 := by simpa using hb2
        have HR := Lib.hid (show bs (quoteP s) = { data := #[39] } ++ bs s ++ { data := #[39] } by
          rw [HQ.out, if_neg hno]
          show bs ([39] ++ (s ++ [39])) = bs [39] ++ bs s ++ bs [39]
          rw [bs_app, bs_app]; rfl)
        clear hb2 hno HQ hsz
        generalize bs s = S at *
        go_enter Tryd.func12, Tryd.ntmps12
        go_wp2_with fail
        refine (HT.out _).mono ?_
        rintro _ w1 ⟨rfl, h1⟩
        have H1 := Lib.hid h1
        clear h1
        go_wp2_with fail
        refine (HC.out _).mono ?_
        rintro _ w2 ⟨rfl, rfl⟩
        go_wp2_with fail
        go_ret
        exact ⟨by rw [HR.out]; rfl, H1.out⟩
      | true =>
        have hyes : 0 ≤ Lib.indexByte s 39 := by simpa using hb2
        have HR := Lib.hid (show bs (quoteP s) = bs (34 :: (escL s ++ [34])) by rw [HQ.out, if_pos hyes])
        clear hb2 hyes HQ
        go_enter Tryd.func12, Tryd.ntmps12
        go_wp2_with fail
        refine (HT.out _).mono ?_
        rintro _ w1 ⟨rfl, h1⟩
        have H1 := Lib.hid h1
        clear h1
        go_wp2_with fail
        refine (HC.out _).mono ?_
        rintro _ w2 ⟨rfl, rfl⟩
        have hB := H1.out.size
        have hbn : Below w.heap.size w (w2.alloc (.cells #[.pointer none, .slice none 0 0] 55)) := H1.out.alloc hB _
        have hib0 : Lib.IsBuilder 55 5 w.heap.size w2.heap.size [] (w2.alloc (.cells #[.pointer none, .slice none 0 0] 55)) := .inl ⟨hB, .slice none 0 0, heap_alloc_new w2 _, ⟨rfl, .inl ⟨rfl, rfl⟩⟩, by simp [Value.ownBlock]⟩
        have HBN := Lib.hid hbn
        have HI0 := Lib.hid hib0
        have HB := Lib.hid hB
        clear hbn hib0 hB
        go_wp2_with fail
        refine (writeByte_any w.heap.size w2.heap.size [] 34 _ HI0.out (by simp) HBN.out.size).mono ?_
        rintro _ w3 ⟨rfl, h3, b3⟩
        have H3 := Lib.hid h3
        have B3 := Lib.hid (HBN.out.trans b3)
        clear h3 b3
        have hz3 : (s.length : Int) ≤ 2000000 := by omega
        go_wp2_with fail
        have hbase : w.heap.size ≤ w2.heap.size := HB.out
        generalize w2.heap.size = bb at *
        go_loopw [24] (fun v wr => ∃ k : Nat, k ≤ s.length ∧ v = .int .i64 (k : Int) ∧ Lib.IsBuilder 55 5 w.heap.size bb (Lib.byteCells (34 :: escL (s.take k))) wr ∧ Below w.heap.size w wr) (fun v _ => s.length - (intOf v).toNat)
        case atStart => exact ⟨0, by omega, rfl, H3.out, B3.out⟩
        case round =>
          obtain ⟨k, hk, rfl, hI, hBe⟩ := hrel
          have HI := Lib.hid hI
          have HBE := Lib.hid hBe
          have hel := escL_len (s.take k)
          rw [List.length_take] at hel
          have hcl : (Lib.byteCells (34 :: escL (s.take k))).length ≤ 5000000 := by rw [Lib.byteCells_length, List.length_cons]; omega
          have HCL := Lib.hid hcl
          clear hI hBe hel hcl
          by_cases hlt : k < s.length
          · have hks : k < (bs s).size := by omega
            have hki : (k : Int) < ((bs s).size : Int) := by omega
            have egk : (bs s)[k] = s[k] := by
              show (bs s).data[k] = s[k]
              simp [bs]
              rfl
            obtain ⟨c, hc⟩ : ∃ c, c = s[k] := ⟨_, rfl⟩
            rw [← hc] at egk
            have HES := Lib.hid (show escL (s.take (k + 1)) = escL (s.take k) ++ escQ c by rw [escL_snoc s hlt, hc]; rfl)
            clear hc
            by_cases hq : 0 ≤ Lib.indexByte [34, 92, 36] c
            · have HQ2 := Lib.hid (show escQ c = [92, c] by unfold escQ; rw [if_pos hq])
              obtain ⟨z, hz⟩ : ∃ z, z = Lib.indexByte [34, 92, 36] c := ⟨_, rfl⟩
              have HI2 := Lib.hid (fun V => HIB.out V c)
              rw [← hz] at HI2 hq
              clear hz
              go_wp2_with fail
              refine (HI2.out _).mono ?_
              rintro _ w4 ⟨rfl, rfl⟩
              go_wp2_with fail
              refine (writeByte_any w.heap.size bb _ 92 _ HI.out (by have := HCL.out; omega) HBE.out.size).mono ?_
              rintro _ w5 ⟨rfl, h5, b5⟩
              have H5 := Lib.hid h5
              have B5 := Lib.hid (HBE.out.trans b5)
              clear h5 b5
              go_wp2_with fail
              refine (writeByte_any w.heap.size bb _ _ _ H5.out (by rw [List.length_append]; have := HCL.out; simp; omega) B5.out.size).mono ?_
              rintro _ w6 ⟨rfl, h6, b6⟩
              have H6 := Lib.hid h6
              have B6 := Lib.hid (B5.out.trans b6)
              clear h6 b6
              go_wp2_with fail
              go_roundw
              case measure => simp [intOf]; omega
              case rel =>
                refine ⟨k + 1, by omega, by go_num, ?_, B6.out⟩
                have := H6.out
                rw [HES.out, HQ2.out, show (34 :: (escL (s.take k) ++ [92, c]) : Tx) = (34 :: escL (s.take k)) ++ [92] ++ [c] by simp, byteCells_app, byteCells_app]
                exact this
            · have HQ2 := Lib.hid (show escQ c = [c] by unfold escQ; rw [if_neg hq])
              obtain ⟨z, hz⟩ : ∃ z, z = Lib.indexByte [34, 92, 36] c := ⟨_, rfl⟩
              have HI2 := Lib.hid (fun V => HIB.out V c)
              rw [← hz] at HI2 hq
              clear hz
              go_wp2_with fail
              refine (HI2.out _).mono ?_
              rintro _ w4 ⟨rfl, rfl⟩
              go_wp2_with fail
              refine (writeByte_any w.heap.size bb _ _ _ HI.out (by have := HCL.out; omega) HBE.out.size).mono ?_
              rintro _ w6 ⟨rfl, h6, b6⟩
              have H6 := Lib.hid h6
              have B6 := Lib.hid (HBE.out.trans b6)
              clear h6 b6
              go_wp2_with fail
              go_roundw
              case measure => simp [intOf]; omega
              case rel =>
                refine ⟨k + 1, by omega, by go_num, ?_, B6.out⟩
                have := H6.out
                rw [HES.out, HQ2.out, show (34 :: (escL (s.take k) ++ [c]) : Tx) = (34 :: escL (s.take k)) ++ [c] by simp, byteCells_app]
                exact this
          · have hke : k = s.length := by omega
            have hki : ¬ (k : Int) < ((bs s).size : Int) := by omega
            have hkn : (bs s).size ≤ k := by omega
            have HI4 : Hid (Lib.IsBuilder 55 5 w.heap.size bb (Lib.byteCells (34 :: escL s)) wr) := by
              have := HI.out
              rw [hke, List.take_length] at this
              exact this
            have HCL4 : Hid ((Lib.byteCells (34 :: escL s)).length ≤ 5000000) := by
              have := HCL.out
              rw [hke, List.take_length] at this
              exact this
            clear hke
            go_wp2_with fail
            refine (writeByte_any w.heap.size bb _ 34 _ HI4.out (by have := HCL4.out; omega) HBE.out.size).mono ?_
            rintro _ w6 ⟨rfl, h6, b6⟩
            have H6 := Lib.hid h6
            have B6 := Lib.hid (HBE.out.trans b6)
            clear h6 b6
            go_wp2_with fail
            have hbi : Lib.IsBuilder 55 5 w.heap.size bb (Lib.byteCells (34 :: (escL s ++ [34]))) w6 := by
              have := H6.out
              rw [show (34 :: (escL s ++ [34]) : Tx) = (34 :: escL s) ++ [34] by simp, byteCells_app]
              exact this
            refine (Tryd.Builder_String_any w.heap.size bb (34 :: (escL s ++ [34])) w6 hbi B6.out.size).mono ?_
            rintro _ w7 ⟨rfl, b7⟩
            have B7 := Lib.hid (B6.out.trans b7)
            clear b7 hbi
            go_wp2_with fail
            go_ret
            exact ⟨by rw [HR.out]; rfl, B7.out⟩
end Go.Proofs.YtplikjbajejciaaDoor.Lex
