/- lex: the document's own answer to a word as it is written. -/
import Derived.Test.YtplikjbajejciaaDoorQrq
import Derived.Test.YtplikjbajejciaaDoorQjo
namespace Go.Proofs.YtplikjbajejciaaDoor.Lex
open Go.RowKit
theorem info_u8' : ∃ i, Tryd.prog.info? 5 = some i ∧ i.zero = some (.int .u8 0) ∧ i.size = 1 ∧ i.bytes = 1 := by
  have hi := info_byte
  cases hq : Tryd.prog.info? 5 with
  | none => rw [hq] at hi; cases hi
  | some i =>
    rw [hq] at hi
    simp only [Option.map_some, Option.some.injEq, Prod.mk.injEq] at hi
    exact ⟨i, rfl, hi⟩
section
variable {ops : Array Oper} {rest : List Oper} {op : Oper} {a : Act} {w : World} {Q : Exit → Act → World → Prop}
/-- A text appended to bytes of the call's own. -/
theorem wpList_append_tx2 (hgd : op.guard = none) (s x : Operand) (ho : op.op = .call { callee := .builtin .append, args := #[s, x], argTypes := #[42, 9] }) (base : Nat) (v : Value) (L : Tx) (hs : a.eval s = v) (hown : w.ownsRow base 5 1 v L.length (bytV L)) (t : Tx) (hx : a.eval x = .string (bs t))
    (hl : L.length + t.length ≤ 10000000) (hbase : base ≤ w.heap.size)
    (h : ∀ v' w', w'.ownsRow base 5 1 v' (L ++ t).length (bytV (L ++ t)) → w.grownBy w' v.ownBlock → wpList Tryd.prog ops Q rest (a.put op.dst v') w') : wpList Tryd.prog ops Q (op :: rest) a w := by
  obtain ⟨i, hq, hz, hs1, hby⟩ := info_u8'
  have hts : (bs t).size = t.length := bs_size t
  refine Lib.wpList_append_own_string w hgd s x 42 9 ho base 5 i Tryd.underlying42 Tryd.underlying9 hq hz hs1 hby v L.length (bytV L) hs hown (bs t) hx (by rw [hts]; unfold maxLen; omega) (by rw [hts]; omega) hbase fun v1 w1 hown1 hgr1 _ => h v1 w1 ?_ hgr1
  rw [hts, strCells_bs] at hown1
  rw [List.length_append, bytV_app]
  exact hown1
/-- A byte appended to bytes of the call's own. -/
theorem wpList_app_b (hgd : op.guard = none) (s x : Operand) (ho : op.op = .call { callee := .builtin .append, args := #[s, x], argTypes := #[42, 42] })
    (B : Nat) (v : Value) (L : Tx) (u : UInt8) (hs : a.eval s = v) (hown : w.ownsRow B 5 1 v L.length (bytV L)) (g c : Nat) (hx : a.eval x = .slice (some ⟨g, 0, none⟩) 1 c) (hg : BL w g 5 [.int .u8 (u.toNat : Int)]) (hB : B ≤ w.heap.size) (hn : L.length ≤ 10000000)
    (h : ∀ v' w', w'.ownsRow B 5 1 v' (L ++ [u]).length (bytV (L ++ [u])) → w.grownBy w' v.ownBlock → wpList Tryd.prog ops Q rest (a.put op.dst v') w') :
    wpList Tryd.prog ops Q (op :: rest) a w := by
  have hl : (bytV L).length = L.length := by simp [bytV]
  refine wpList_app_byte hgd s x ho B v (bytV L) (u.toNat : Int) hs (by rw [hl]; exact hown) g c hx (by rw [hg.cell 0]; rfl) hB (by rw [hl]; exact hn) ?_
  intro v' w' h2 h3
  refine h v' w' ?_ h3
  rw [hl] at h2
  rw [bytV_app, List.length_append]
  exact h2
end
theorem own_text {w : World} {base : Nat} {v : Value} {l : Tx} (h : w.ownsRow base 5 1 v l.length (bytV l)) : (convert 42 9 v).run Tryd.prog w = .ok (.string (bs l)) w := by
  obtain ⟨h1, h2⟩ := h
  rcases h2 with ⟨rfl, h0⟩ | ⟨g, cap, cur, rfl, k1, k2, k3, k4, k5, k6⟩
  · have : l = [] := List.eq_nil_of_length_eq_zero (by omega)
    subst this
    exact run_convert_bytes_nil w 42 5 Tryd.underlying42 Tryd.underlying5 0 0 9 Tryd.underlying9
  · refine run_convert_bytes_back (P := Tryd.prog) w 42 9 5 ⟨g, 0, none⟩ cap l Tryd.underlying42 Tryd.underlying5 Tryd.underlying9 fun j hj => ?_
    have e2 : (⟨g, 0, none⟩ : Addr).add j = ⟨g, j, none⟩ := by unfold Addr.add; split <;> simp_all
    rw [e2, cell_of_row w g j cur _ _ k2, ← Array.getElem?_toList]
    have h8 : (cur.toList.take (l.length * 1))[j]? = (bytV l)[j]? := by rw [k6]
    rw [List.getElem?_take, if_pos (by omega)] at h8
    rw [h8]
    simp [bytV, List.getElem?_eq_getElem hj]
theorem own_one (w : World) (B : Nat) (u : UInt8) (hB : B ≤ w.heap.size) : (w.alloc (.cells #[.int .u8 (u.toNat : Int)] 5)).ownsRow B 5 1 (.slice (some ⟨w.heap.size, 0, none⟩) 1 1) [u].length (bytV [u]) :=
  ⟨rfl, .inr ⟨w.heap.size, 1, #[.int .u8 (u.toNat : Int)], rfl, hB, heap_alloc_new w _, Nat.le_refl _, by unfold maxLen; omega, rfl, rfl⟩⟩
/-- What the document's loop has found out at a place. -/
def bareK (s : Tx) (k : Nat) : Bool := (s.take k).all bareB
def singK (s : Tx) (k : Nat) : Bool := (s.take k).contains 39
theorem bareK_succ {s : Tx} {k : Nat} (h : k < s.length) : bareK s (k + 1) = (bareK s k && bareB s[k]) := by
  unfold bareK
  rw [List.take_succ_eq_append_getElem h, List.all_append]
  simp
theorem singK_succ {s : Tx} {k : Nat} (h : k < s.length) : singK s (k + 1) = (singK s k || s[k] == 39) := by
  unfold singK
  rw [List.take_succ_eq_append_getElem h, Bool.eq_iff_iff, Bool.or_eq_true, List.contains_iff_mem, List.contains_iff_mem, List.mem_append, List.mem_singleton, beq_iff_eq]
  exact or_congr Iff.rfl eq_comm
theorem quoteP_eq {s : Tx} (hs : s ≠ []) : quoteP s = if bareK s s.length then s else if singK s s.length then 34 :: (escL s ++ [34]) else 39 :: (s ++ [39]) := by
  unfold bareK singK
  rw [List.take_length]
  by_cases h : s.all bareB = true
  · rw [if_pos h]
    exact quoteP_bare hs (fun c hc => List.all_eq_true.1 h c hc)
  · rw [if_neg h, quoteP_not (fun hh => h (List.all_eq_true.2 hh.2))]
    by_cases hm : (39 : UInt8) ∈ s
    · rw [if_pos hm, if_pos (List.contains_iff_mem.2 hm)]
    · rw [if_neg hm, if_neg (fun hh => hm (List.contains_iff_mem.1 hh))]
theorem u8_nat {c : UInt8} {n : Nat} (h : c.toNat = n) : c = UInt8.ofNat n := by
  rw [← h]; simp
set_option maxRecDepth 100000 in
set_option maxHeartbeats 16000000 in
/-- The document's answer, to a text of a byte at least. -/
theorem refQuote_some (s : Tx) (hl : s.length ≤ 2000000) (hs : s ≠ []) (w : World) :
    Calls Tryd.prog 7 #[.string (bs s)] w fun e w' => e = .returned (.string (bs (quoteP s))) ∧ Below w.heap.size w w' := by
  have HLET : Hid (∀ (n : Nat) (V : World), Calls Tryd.prog 13 #[.int .u8 (n : Int), .bool false] V fun e w' => e = .returned (.bool (letP n)) ∧ w' = V) := letter_any
  have f2 : (bs s).toList.isEmpty = false := by rw [bs_tl]; cases s with | nil => exact absurd rfl hs | cons _ _ => rfl
  obtain ⟨S, hS⟩ : ∃ S, S = bs s := ⟨_, rfl⟩
  have hsz : S.size = s.length := by rw [hS]; exact bs_size s
  have HG : Hid (∀ (j : Nat) (h : j < S.size) (h' : j < s.length), S[j] = s[j]) := by subst hS; exact Lib.hid (fun j h h' => rfl)
  have HQP := Lib.hid (quoteP_eq hs)
  have HTL : Hid (S = bs s) := hS
  rw [← hS] at f2 ⊢
  have HSZ := Lib.hid hsz
  have z1 : (S.size : Int) ≤ 2000000 := by omega
  clear hS hl hs hsz
  go_enter Tryd.func7, Tryd.ntmps7
  go_wp2_with fail
  go_loopw [3, 4, 5] (fun b g i wr => ∃ k : Nat, k ≤ S.size ∧ i = .int .i64 (k : Int) ∧ b = .bool (bareK s k) ∧ g = .bool (singK s k) ∧ wr = w) (fun _ _ i _ => S.size - (intOf i).toNat)
  case atStart => exact ⟨0, Nat.zero_le _, rfl, rfl, rfl, rfl⟩
  case round =>
    obtain ⟨k, hk, rfl, rfl, rfl, rfl⟩ := hrel
    by_cases hlt : k < S.size
    · have hks := HSZ.out
      have hkl : k < s.length := by omega
      have hki : (k : Int) < (S.size : Int) := by omega
      obtain ⟨n, hn⟩ : ∃ n : Nat, n = S[k].toNat := ⟨_, rfl⟩
      have hn2 : s[k].toNat = n := by rw [← HG.out k hlt hkl, hn]
      have hxi : ((S[k].toNat : Nat) : Int) = (n : Int) := by rw [hn]
      have hb1 : bareK s (k + 1) = (bareK s k && (letP n || nineP n)) := by rw [bareK_succ hkl, bare_let, hn2]
      have hg1 : singK s (k + 1) = (singK s k || decide (n = 39)) := by
        rw [singK_succ hkl]
        congr 1
        rw [Bool.eq_iff_iff, beq_iff_eq, decide_eq_true_eq]
        constructor
        · intro h; rw [← hn2, h]; rfl
        · intro h; rw [h] at hn2; exact u8_nat hn2
      have HB1 := Lib.hid hb1
      have HG1 := Lib.hid hg1
      clear hn hn2 hb1 hg1 hks hkl
      generalize bareK s k = bk at *
      generalize singK s k = gk at *
      obtain ⟨z, hz⟩ : ∃ z, z = letP n := ⟨_, rfl⟩
      have HLN : Hid (∀ V : World, Calls Tryd.prog 13 #[.int .u8 (n : Int), .bool false] V fun e w' => e = .returned (.bool z) ∧ w' = V) := fun V => by rw [hz]; exact HLET.out n V
      cases z with
      | true =>
        have h39 : ¬ ((n : Int) = 39) := by
          intro e
          obtain rfl : n = 39 := by omega
          revert hz; decide
        have HN := Lib.hid (show n ≠ 39 by omega)
        have E39 := Lib.hid (show ((n : Int) == 39) = false by simpa using h39)
        have HZ := Lib.hid hz
        clear hz
        go_wp2_with fail
        refine (HLN.out _).mono ?_
        rintro _ w4 ⟨rfl, rfl⟩
        cases gk <;>
        · go_wp2_with fail
          go_roundw
          case rel =>
            refine ⟨k + 1, hlt, by go_num, ?_, ?_, by trivial⟩
            · rw [HB1.out, ← HZ.out]; simp
            · rw [HG1.out, decide_eq_false HN.out]; first | rfl | (rw [E39.out]; rfl)
          case measure => simp [intOf]; omega
      | false =>
        have HZ := Lib.hid hz
        clear hz
        by_cases h9 : nineP n = true
        · have h9' := h9
          unfold nineP at h9'
          rw [decide_eq_true_eq] at h9'
          have HN9 := Lib.hid h9
          clear h9
          rcases h9' with rfl | rfl | rfl | rfl | rfl | rfl | rfl | rfl | rfl <;>
          · go_wp2_with fail
            refine (HLN.out _).mono ?_
            rintro _ w4 ⟨rfl, rfl⟩
            cases gk <;>
            · go_wp2_with fail
              go_roundw
              case rel =>
                refine ⟨k + 1, hlt, by go_num, ?_, ?_, by trivial⟩
                · rw [HB1.out, HN9.out]; simp
                · rw [HG1.out]; rfl
              case measure => simp [intOf]; omega
        · have h9' := h9
          unfold nineP at h9'
          rw [decide_eq_true_eq] at h9'
          have HN9 := Lib.hid (show nineP n = false by simpa using h9)
          by_cases h39 : (n : Int) = 39
          · have HN := Lib.hid (show n = 39 by omega)
            obtain rfl : n = 39 := by omega
            clear h39 h9 h9'
            go_wp2_with fail
            refine (HLN.out _).mono ?_
            rintro _ w4 ⟨rfl, rfl⟩
            cases gk <;>
            · go_wp2_with fail
              go_roundw
              case rel =>
                refine ⟨k + 1, hlt, by go_num, ?_, ?_, by trivial⟩
                · rw [HB1.out, HN9.out, ← HZ.out]; simp
                · rw [HG1.out, decide_eq_true HN.out]; simp
              case measure => simp [intOf]; omega
          · have HN := Lib.hid (show n ≠ 39 by omega)
            have E39 := Lib.hid (show ((n : Int) == 39) = false by simpa using h39)
            have hcl : (n : Int) < 37 ∨ (37 < (n : Int) ∧ (n : Int) < 39) ∨ (39 < (n : Int) ∧ (n : Int) < 43) ∨ (47 < (n : Int) ∧ (n : Int) < 58) ∨ (58 < (n : Int) ∧ (n : Int) < 61) ∨ (61 < (n : Int) ∧ (n : Int) < 64) ∨ 64 < (n : Int) := by omega
            clear h9 h9' h39
            rcases hcl with hcl | ⟨hcl, hcm⟩ | ⟨hcl, hcm⟩ | ⟨hcl, hcm⟩ | ⟨hcl, hcm⟩ | ⟨hcl, hcm⟩ | hcl <;>
            · go_wp2_with fail
              refine (HLN.out _).mono ?_
              rintro _ w4 ⟨rfl, rfl⟩
              cases gk <;>
              · go_wp2_with fail
                all_goals first
                  | (exfalso; rename_i hx; simp only [bne_eq_false_iff_eq] at hx; omega)
                  | skip
                go_roundw
                case rel =>
                  refine ⟨k + 1, hlt, by go_num, ?_, ?_, by trivial⟩
                  · rw [HB1.out, HN9.out, ← HZ.out]; simp
                  · rw [HG1.out, decide_eq_false HN.out]; first | rfl | (rw [E39.out]; rfl)
                case measure => simp [intOf]; omega
    · obtain rfl : k = S.size := by omega
      have hki : ¬ (S.size : Int) < (S.size : Int) := by omega
      have hBK := HQP.out
      rw [← HSZ.out] at hBK
      generalize hbq : bareK s S.size = bk at *
      generalize hgq : singK s S.size = gk at *
      clear hbq hgq
      cases bk with
      | true =>
        have HR := Lib.hid (show bs (quoteP s) = S by rw [hBK, HTL.out]; rfl)
        clear hBK
        go_wp2_with fail
        go_ret
        exact ⟨by rw [HR.out]; rfl, Below.refl _ _⟩
      | false =>
        cases gk with
        | false =>
          have HR := Lib.hid (show bs (quoteP s) = { data := #[39] } ++ S ++ { data := #[39] } by
            rw [hBK, HTL.out]
            show bs ([39] ++ (s ++ [39])) = bs [39] ++ bs s ++ bs [39]
            rw [bs_app, bs_app]; simp)
          clear hBK
          go_wp2_with fail
          go_ret
          exact ⟨by rw [HR.out]; rfl, Below.refl _ _⟩
        | true =>
          have HR := Lib.hid (show quoteP s = 34 :: (escL s ++ [34]) by rw [hBK]; rfl)
          clear hBK
          rename World => w0
          have HO0 := Lib.hid (own_one w0 w0.heap.size 34 (Nat.le_refl _))
          have HB0 := Lib.hid ((Below.refl w0.heap.size w0).alloc (Nat.le_refl _) (.cells #[.int .u8 34] 5))
          go_wp2_with fail
          go_loopw [8, 9] (fun bv i wr => ∃ k : Nat, k ≤ S.size ∧ i = .int .i64 (k : Int) ∧ wr.ownsRow w0.heap.size 5 1 bv (34 :: escL (s.take k)).length (bytV (34 :: escL (s.take k))) ∧ Below w0.heap.size w0 wr) (fun _ i _ => S.size - (intOf i).toNat)
          case atStart => exact ⟨0, Nat.zero_le _, rfl, HO0.out, HB0.out⟩
          case round =>
            obtain ⟨k, hk, rfl, hown, hb⟩ := hrel
            obtain ⟨A2, c2, rfl⟩ := own_slice hown
            have HO := Lib.hid hown
            have HB := Lib.hid hb
            have hel := escL_len (s.take k)
            rw [List.length_take] at hel
            have hks := HSZ.out
            have HLEN := Lib.hid (show (34 :: escL (s.take k)).length ≤ 4000001 by rw [List.length_cons]; omega)
            clear hown hb hel
            by_cases hlt : k < S.size
            · have hki : (k : Int) < (S.size : Int) := by omega
              have hkl : k < s.length := by omega
              obtain ⟨u, hu⟩ : ∃ u, u = S[k] := ⟨_, rfl⟩
              have hus : s[k] = u := by rw [← HG.out k hlt hkl, hu]
              have hxi : ((S[k].toNat : Nat) : Int) = (u.toNat : Int) := by rw [hu]
              have HES := Lib.hid (show escL (s.take (k + 1)) = escL (s.take k) ++ escQ u by rw [escL_snoc s hkl, hus])
              clear hu hus hks hkl
              obtain ⟨L, hL⟩ : ∃ L, L = 34 :: escL (s.take k) := ⟨_, rfl⟩
              rw [← hL] at HO HLEN ⊢
              have HES2 := Lib.hid (show 34 :: escL (s.take (k + 1)) = L ++ escQ u by rw [HES.out, hL]; rfl)
              clear hL
              obtain ⟨n0, hn0⟩ : ∃ n, n = L.length := ⟨_, rfl⟩
              have HN0 := Lib.hid hn0
              have HO1 : Hid (∀ v, v = Value.slice A2 n0 c2 → wr.ownsRow w0.heap.size 5 1 v L.length (bytV L)) := fun v hv => by rw [hv, HN0.out]; exact HO.out
              rw [← hn0]
              clear hn0 HO
              by_cases hq : u.toNat = 34 ∨ u.toNat = 92 ∨ u.toNat = 36
              · have HE := Lib.hid (show escQ u = [92, u] by
                  refine escQ_pos ?_
                  rcases hq with h | h | h
                  · exact .inl (u8_nat h)
                  · exact .inr (.inl (u8_nat h))
                  · exact .inr (.inr (u8_nat h)))
                have HOX : Hid (∀ v, v = Value.slice A2 n0 c2 → (wr.alloc (.cells #[.int .u8 92] 5)).ownsRow w0.heap.size 5 1 v L.length (bytV L)) := fun v hv => (HO1.out v hv).alloc _
                have HBX := Lib.hid (HB.out.alloc HB.out.size (.cells #[.int .u8 92] 5))
                have HNX : Hid (BL (wr.alloc (.cells #[.int .u8 92] 5)) wr.heap.size 5 [.int .u8 ((92 : UInt8).toNat : Int)]) := BL.new wr 5 [.int .u8 92]
                have hz : (u.toNat : Int) = 34 ∨ (u.toNat : Int) = 92 ∨ (u.toNat : Int) = 36 := by omega
                have HK := Lib.hid (show L.length ≤ 10000000 by have := HLEN.out; omega)
                clear hq
                obtain ⟨n1, hn1⟩ : ∃ n, (L ++ [92]).length = n := ⟨_, rfl⟩
                have HN1 := Lib.hid hn1
                obtain ⟨n2, hn2⟩ : ∃ n, ∀ x : UInt8, (L ++ [92] ++ [x]).length = n := ⟨L.length + 2, fun x => by simp⟩
                have HN2 := Lib.hid hn2
                clear hn2
                have HK1 := Lib.hid (show (L ++ [92]).length ≤ 10000000 by have := HLEN.out; rw [List.length_append]; simp; omega)
                clear hn1
                rcases hz with hz | hz | hz
                · rw [hz] at hxi
                  have HU := Lib.hid hz
                  go_wp2_with (at_builtin; first | (refine wpList_app_b rfl _ _ rfl w0.heap.size (.slice A2 n0 c2) L 92 rfl (HOX.out _ rfl) _ 1 rfl HNX.out HBX.out.size HK.out ?_; intro v5 w5 ho5 hg5; rw [HN1.out] at ho5; obtain ⟨A5, c5, rfl⟩ := own_slice ho5; have HO5 := Lib.hid ho5; have HB5 := Lib.hid (HBX.out.grown hg5 HBX.out.size (fun i hi => ((HOX.out _ rfl).lt i hi).1)); clear ho5 hg5; have HOY : Hid (∀ v, v = Value.slice A5 n1 c5 → (w5.alloc (.cells #[.int .u8 34] 5)).ownsRow w0.heap.size 5 1 v (L ++ [92]).length (bytV (L ++ [92]))) := (fun v hv => (by rw [hv, HN1.out]; exact HO5.out.alloc _)); have HBY := Lib.hid (HB5.out.alloc HB5.out.size (.cells #[.int .u8 34] 5)); have HNY : Hid (BL (w5.alloc (.cells #[.int .u8 34] 5)) w5.heap.size 5 [.int .u8 ((34 : UInt8).toNat : Int)]) := BL.new w5 5 [.int .u8 34]) | (refine wpList_app_b rfl _ _ rfl w0.heap.size (.slice A5 n1 c5) (L ++ [92]) 34 rfl (HOY.out _ rfl) _ 1 rfl HNY.out HBY.out.size HK1.out ?_; intro v6 w6 ho6 hg6; rw [HN2.out] at ho6; obtain ⟨A6, c6, rfl⟩ := own_slice ho6; have HO6 := Lib.hid ho6; have HB6 := Lib.hid (HBY.out.grown hg6 HBY.out.size (fun i hi => ((HOY.out _ rfl).lt i hi).1)); clear ho6 hg6))
                  go_roundw
                  case rel => exact ⟨k + 1, hlt, by go_num, by rw [HES2.out, HE.out, u8_nat (show u.toNat = 34 by have := HU.out; omega), show ∀ x : UInt8, L ++ [92, x] = L ++ [92] ++ [x] from fun x => by simp, HN2.out]; exact HO6.out, HB6.out⟩
                  case measure => simp [intOf]; omega
                · rw [hz] at hxi
                  have HU := Lib.hid hz
                  go_wp2_with (at_builtin; first | (refine wpList_app_b rfl _ _ rfl w0.heap.size (.slice A2 n0 c2) L 92 rfl (HOX.out _ rfl) _ 1 rfl HNX.out HBX.out.size HK.out ?_; intro v5 w5 ho5 hg5; rw [HN1.out] at ho5; obtain ⟨A5, c5, rfl⟩ := own_slice ho5; have HO5 := Lib.hid ho5; have HB5 := Lib.hid (HBX.out.grown hg5 HBX.out.size (fun i hi => ((HOX.out _ rfl).lt i hi).1)); clear ho5 hg5; have HOY : Hid (∀ v, v = Value.slice A5 n1 c5 → (w5.alloc (.cells #[.int .u8 92] 5)).ownsRow w0.heap.size 5 1 v (L ++ [92]).length (bytV (L ++ [92]))) := (fun v hv => (by rw [hv, HN1.out]; exact HO5.out.alloc _)); have HBY := Lib.hid (HB5.out.alloc HB5.out.size (.cells #[.int .u8 92] 5)); have HNY : Hid (BL (w5.alloc (.cells #[.int .u8 92] 5)) w5.heap.size 5 [.int .u8 ((92 : UInt8).toNat : Int)]) := BL.new w5 5 [.int .u8 92]) | (refine wpList_app_b rfl _ _ rfl w0.heap.size (.slice A5 n1 c5) (L ++ [92]) 92 rfl (HOY.out _ rfl) _ 1 rfl HNY.out HBY.out.size HK1.out ?_; intro v6 w6 ho6 hg6; rw [HN2.out] at ho6; obtain ⟨A6, c6, rfl⟩ := own_slice ho6; have HO6 := Lib.hid ho6; have HB6 := Lib.hid (HBY.out.grown hg6 HBY.out.size (fun i hi => ((HOY.out _ rfl).lt i hi).1)); clear ho6 hg6))
                  go_roundw
                  case rel => exact ⟨k + 1, hlt, by go_num, by rw [HES2.out, HE.out, u8_nat (show u.toNat = 92 by have := HU.out; omega), show ∀ x : UInt8, L ++ [92, x] = L ++ [92] ++ [x] from fun x => by simp, HN2.out]; exact HO6.out, HB6.out⟩
                  case measure => simp [intOf]; omega
                · rw [hz] at hxi
                  have HU := Lib.hid hz
                  go_wp2_with (at_builtin; first | (refine wpList_app_b rfl _ _ rfl w0.heap.size (.slice A2 n0 c2) L 92 rfl (HOX.out _ rfl) _ 1 rfl HNX.out HBX.out.size HK.out ?_; intro v5 w5 ho5 hg5; rw [HN1.out] at ho5; obtain ⟨A5, c5, rfl⟩ := own_slice ho5; have HO5 := Lib.hid ho5; have HB5 := Lib.hid (HBX.out.grown hg5 HBX.out.size (fun i hi => ((HOX.out _ rfl).lt i hi).1)); clear ho5 hg5; have HOY : Hid (∀ v, v = Value.slice A5 n1 c5 → (w5.alloc (.cells #[.int .u8 36] 5)).ownsRow w0.heap.size 5 1 v (L ++ [92]).length (bytV (L ++ [92]))) := (fun v hv => (by rw [hv, HN1.out]; exact HO5.out.alloc _)); have HBY := Lib.hid (HB5.out.alloc HB5.out.size (.cells #[.int .u8 36] 5)); have HNY : Hid (BL (w5.alloc (.cells #[.int .u8 36] 5)) w5.heap.size 5 [.int .u8 ((36 : UInt8).toNat : Int)]) := BL.new w5 5 [.int .u8 36]) | (refine wpList_app_b rfl _ _ rfl w0.heap.size (.slice A5 n1 c5) (L ++ [92]) 36 rfl (HOY.out _ rfl) _ 1 rfl HNY.out HBY.out.size HK1.out ?_; intro v6 w6 ho6 hg6; rw [HN2.out] at ho6; obtain ⟨A6, c6, rfl⟩ := own_slice ho6; have HO6 := Lib.hid ho6; have HB6 := Lib.hid (HBY.out.grown hg6 HBY.out.size (fun i hi => ((HOY.out _ rfl).lt i hi).1)); clear ho6 hg6))
                  go_roundw
                  case rel => exact ⟨k + 1, hlt, by go_num, by rw [HES2.out, HE.out, u8_nat (show u.toNat = 36 by have := HU.out; omega), show ∀ x : UInt8, L ++ [92, x] = L ++ [92] ++ [x] from fun x => by simp, HN2.out]; exact HO6.out, HB6.out⟩
                  case measure => simp [intOf]; omega
              · have HE := Lib.hid (show escQ u = [u] by
                  refine escQ_neg (fun h => hq ?_)
                  rcases h with rfl | rfl | rfl
                  · exact .inl rfl
                  · exact .inr (.inl rfl)
                  · exact .inr (.inr rfl))
                obtain ⟨n1, hn1⟩ : ∃ n, (L ++ [u]).length = n := ⟨_, rfl⟩
                have HN1 := Lib.hid hn1
                clear hn1
                have hz : (u.toNat : Int) < 34 ∨ (34 < (u.toNat : Int) ∧ (u.toNat : Int) < 36) ∨ (36 < (u.toNat : Int) ∧ (u.toNat : Int) < 92) ∨ 92 < (u.toNat : Int) := by omega
                have HK := Lib.hid (show L.length ≤ 10000000 by have := HLEN.out; omega)
                have HOX : Hid (∀ v, v = Value.slice A2 n0 c2 → (wr.alloc (.cells #[.int .u8 (u.toNat : Int)] 5)).ownsRow w0.heap.size 5 1 v L.length (bytV L)) := fun v hv => (HO1.out v hv).alloc _
                have HBX := Lib.hid (HB.out.alloc HB.out.size (.cells #[.int .u8 (u.toNat : Int)] 5))
                have HNX : Hid (BL (wr.alloc (.cells #[.int .u8 (u.toNat : Int)] 5)) wr.heap.size 5 [.int .u8 (u.toNat : Int)]) := BL.new wr 5 [.int .u8 (u.toNat : Int)]
                clear hq
                rcases hz with hz | ⟨hz, hz2⟩ | ⟨hz, hz2⟩ | hz
                · go_wp2_with (at_builtin; first | (exfalso; rename_i hx; first | omega | (simp only [beq_iff_eq] at hx; omega)) | (refine wpList_app_b rfl _ _ rfl w0.heap.size (.slice A2 n0 c2) L u rfl (HOX.out _ rfl) _ 1 rfl HNX.out HBX.out.size HK.out ?_; intro v5 w5 ho5 hg5; rw [HN1.out] at ho5; obtain ⟨A5, c5, rfl⟩ := own_slice ho5; have HO5 := Lib.hid ho5; have HB5 := Lib.hid (HBX.out.grown hg5 HBX.out.size (fun i hi => ((HOX.out _ rfl).lt i hi).1)); clear ho5 hg5))
                  go_roundw
                  case rel => exact ⟨k + 1, hlt, by go_num, by rw [HES2.out, HE.out, HN1.out]; exact HO5.out, HB5.out⟩
                  case measure => simp [intOf]; omega
                · go_wp2_with (at_builtin; first | (exfalso; rename_i hx; first | omega | (simp only [beq_iff_eq] at hx; omega)) | (refine wpList_app_b rfl _ _ rfl w0.heap.size (.slice A2 n0 c2) L u rfl (HOX.out _ rfl) _ 1 rfl HNX.out HBX.out.size HK.out ?_; intro v5 w5 ho5 hg5; rw [HN1.out] at ho5; obtain ⟨A5, c5, rfl⟩ := own_slice ho5; have HO5 := Lib.hid ho5; have HB5 := Lib.hid (HBX.out.grown hg5 HBX.out.size (fun i hi => ((HOX.out _ rfl).lt i hi).1)); clear ho5 hg5))
                  go_roundw
                  case rel => exact ⟨k + 1, hlt, by go_num, by rw [HES2.out, HE.out, HN1.out]; exact HO5.out, HB5.out⟩
                  case measure => simp [intOf]; omega
                · go_wp2_with (at_builtin; first | (exfalso; rename_i hx; first | omega | (simp only [beq_iff_eq] at hx; omega)) | (refine wpList_app_b rfl _ _ rfl w0.heap.size (.slice A2 n0 c2) L u rfl (HOX.out _ rfl) _ 1 rfl HNX.out HBX.out.size HK.out ?_; intro v5 w5 ho5 hg5; rw [HN1.out] at ho5; obtain ⟨A5, c5, rfl⟩ := own_slice ho5; have HO5 := Lib.hid ho5; have HB5 := Lib.hid (HBX.out.grown hg5 HBX.out.size (fun i hi => ((HOX.out _ rfl).lt i hi).1)); clear ho5 hg5))
                  go_roundw
                  case rel => exact ⟨k + 1, hlt, by go_num, by rw [HES2.out, HE.out, HN1.out]; exact HO5.out, HB5.out⟩
                  case measure => simp [intOf]; omega
                · go_wp2_with (at_builtin; first | (exfalso; rename_i hx; first | omega | (simp only [beq_iff_eq] at hx; omega)) | (refine wpList_app_b rfl _ _ rfl w0.heap.size (.slice A2 n0 c2) L u rfl (HOX.out _ rfl) _ 1 rfl HNX.out HBX.out.size HK.out ?_; intro v5 w5 ho5 hg5; rw [HN1.out] at ho5; obtain ⟨A5, c5, rfl⟩ := own_slice ho5; have HO5 := Lib.hid ho5; have HB5 := Lib.hid (HBX.out.grown hg5 HBX.out.size (fun i hi => ((HOX.out _ rfl).lt i hi).1)); clear ho5 hg5))
                  go_roundw
                  case rel => exact ⟨k + 1, hlt, by go_num, by rw [HES2.out, HE.out, HN1.out]; exact HO5.out, HB5.out⟩
                  case measure => simp [intOf]; omega
            · obtain rfl : k = S.size := by omega
              have hki : ¬ (S.size : Int) < (S.size : Int) := by omega
              obtain ⟨L, hL⟩ : ∃ L, L = 34 :: escL (s.take S.size) := ⟨_, rfl⟩
              have hL2 : L = 34 :: escL s := by rw [hL, HSZ.out, List.take_length]
              rw [← hL] at HO HLEN ⊢
              have HRR := Lib.hid (show quoteP s = L ++ [34] by rw [HR.out, hL2]; rfl)
              clear hL hL2
              obtain ⟨n0, hn0⟩ : ∃ n, n = L.length := ⟨_, rfl⟩
              have HN0 := Lib.hid hn0
              have HOX : Hid (∀ v, v = Value.slice A2 n0 c2 → (wr.alloc (.cells #[.int .u8 34] 5)).ownsRow w0.heap.size 5 1 v L.length (bytV L)) := fun v hv => by rw [hv, HN0.out]; exact HO.out.alloc _
              have HBX := Lib.hid (HB.out.alloc HB.out.size (.cells #[.int .u8 34] 5))
              have HNX : Hid (BL (wr.alloc (.cells #[.int .u8 34] 5)) wr.heap.size 5 [.int .u8 ((34 : UInt8).toNat : Int)]) := BL.new wr 5 [.int .u8 34]
              have HK := Lib.hid (show L.length ≤ 10000000 by have := HLEN.out; omega)
              rw [← hn0]
              obtain ⟨n1, hn1⟩ : ∃ n, (L ++ [34]).length = n := ⟨_, rfl⟩
              have HN1 := Lib.hid hn1
              clear hn1 hn0 HO
              go_wp2_with (at_builtin; refine wpList_app_b rfl _ _ rfl w0.heap.size (.slice A2 n0 c2) L 34 rfl (HOX.out _ rfl) _ 1 rfl HNX.out HBX.out.size HK.out ?_; intro v5 w5 ho5 hg5; have hcv := own_text ho5; rw [HN1.out] at ho5; obtain ⟨A5, c5, rfl⟩ := own_slice ho5; have HB5 := Lib.hid (HBX.out.grown hg5 HBX.out.size (fun i hi => ((HOX.out _ rfl).lt i hi).1)); clear ho5 hg5)
              go_ret
              exact ⟨by rw [HRR.out]; rfl, HB5.out⟩
end Go.Proofs.YtplikjbajejciaaDoor.Lex
