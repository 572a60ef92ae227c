/- lex: words as they are written, joined. -/
import Derived.Test.YtplikjbajejciaaDoorQsh
import Derived.Test.YtplikjbajejciaaDoorQjp
namespace Go.Proofs.YtplikjbajejciaaDoor.Lex
open Go.RowKit
/-- Texts that lie in a row. -/
def StAt (B : Nat) (w : World) (A : Option Addr) (l : List Tx) : Prop :=
  ∀ k (hk : k < l.length), ∃ g o, A = some ⟨g, o, none⟩ ∧ g < B ∧ w.cell? ⟨g, o + k, none⟩ = some (.string (bs l[k]))
theorem StAt.below {B : Nat} {w w' : World} {A : Option Addr} {l : List Tx} (h : StAt B w A l) (hb : Below B w w') : StAt B w' A l := fun k hk => by
  obtain ⟨g, o, e, hg, h1⟩ := h k hk
  exact ⟨g, o, e, hg, (hb.cell (p := ⟨g, o + k, none⟩) hg).trans h1⟩
def strL (l : List Tx) : List Value := l.map fun t => .string (bs t)
theorem strL_len (l : List Tx) : (strL l).length = l.length := by simp [strL]
theorem strL_app (l : List Tx) (x : Tx) : strL (l ++ [x]) = strL l ++ [.string (bs x)] := by simp [strL]
theorem info_str : (Tryd.prog.info? 9).map (fun i => (i.zero, i.size, i.bytes)) = some (some (.string ⟨#[]⟩), 1, 16) := by kernel_rfl
theorem info_str' : ∃ i, Tryd.prog.info? 9 = some i ∧ i.zero = some (.string ⟨#[]⟩) ∧ i.size = 1 ∧ i.bytes = 16 := by
  have hi := info_str
  cases hq : Tryd.prog.info? 9 with
  | none => rw [hq] at hi; cases hi
  | some i =>
    rw [hq] at hi
    simp only [Option.map_some, Option.some.injEq, Prod.mk.injEq] at hi
    exact ⟨i, rfl, hi⟩
section
variable {ops : Array Oper} {rest : List Oper} {o : Oper} {a : Act} {w : World} {Q : Exit → Act → World → Prop}
/-- One text appended to a row of the call's own. -/
theorem wpList_app_str (hgd : o.guard = none) (s x : Operand) (ho : o.op = .call { callee := .builtin .append, args := #[s, x], argTypes := #[22, 22] })
    (B : Nat) (v : Value) (l : List Tx) (y : Tx) (hs : a.eval s = v) (hown : w.ownsRow B 9 1 v l.length (strL l)) (g c : Nat) (hx : a.eval x = .slice (some ⟨g, 0, none⟩) 1 c) (hg : BL w g 9 [.string (bs y)]) (hB : B ≤ w.heap.size) (hn : l.length ≤ 2000000)
    (h : ∀ v' w', w'.ownsRow B 9 1 v' (l ++ [y]).length (strL (l ++ [y])) → w.grownBy w' v.ownBlock → wpList Tryd.prog ops Q rest (a.put o.dst v') w') :
    wpList Tryd.prog ops Q (o :: rest) a w := by
  obtain ⟨i0, hi0, hz0, hz1, hz2⟩ := info_str'
  refine wpList_append_own_at w hgd s x 22 ho B 9 i0 _ 1 16 Tryd.underlying22 hi0 hz0 hz1 hz2 rfl (by decide) v l.length (strL l) hs hown ⟨g, 0, none⟩ 1 c [.string (bs y)] hx rfl
    (fun j u hj => by rw [Addr.add_mid, Nat.zero_add, hg.cell j]; exact hj) (by simp [Value.oneCell']) (by unfold maxLen; omega) (by omega) hB ?_
  intro v' w' h2 h3 _ _
  refine h v' w' ?_ h3
  rw [strL_app, List.length_append]
  exact h2
theorem wpList_make_strs (hgd : o.guard = none) (x y : Operand) (ho : o.op = .makeSlice 22 x y) (n B : Nat) (hx : a.eval x = .int .i64 0) (hy : a.eval y = .int .i64 (n : Int)) (hn : n ≤ 2000000) (hB : B ≤ w.heap.size)
    (h : ∀ w1, w1.ownsRow B 9 1 (.slice (some ⟨w.heap.size, 0, none⟩) 0 n) 0 [] → w.grownBy w1 none → wpList Tryd.prog ops Q rest (a.put o.dst (.slice (some ⟨w.heap.size, 0, none⟩) 0 n)) w1) : wpList Tryd.prog ops Q (o :: rest) a w := by
  obtain ⟨i, hq, hz, hs, hby⟩ := info_str'
  refine wpList_plain hgd fun K hK => ?_
  obtain ⟨w1, hrun, h1, h2⟩ := run_make_own (P := Tryd.prog) w B 22 9 i _ 1 Tryd.underlying22 hq hz hs .i64 .i64 n (by rw [hby]; omega) (by unfold maxLen; omega) hB
  have hk := hK _ _ (h w1 h1 h2)
  unfold Oper.wp
  simp [execOp, ho, hx, hy, hrun, Result.andThen]
  exact hk
end
theorem own_below {w w' : World} {B e size n : Nat} {v : Value} {xs : List Value} (h : w.ownsRow B e size v n xs) (hb : Below w.heap.size w w') : w'.ownsRow B e size v n xs := by
  refine ⟨h.1, ?_⟩
  rcases h.2 with h | ⟨g, cap, cur, e1, e2, e3, e4⟩
  · exact .inl h
  · exact .inr ⟨g, cap, cur, e1, e2, (hb.block g (Array.getElem?_eq_some_iff.1 e3).1).trans e3, e4⟩
def quoL (l : List Tx) : List Tx := l.map quoteP
theorem joinP_count : ∀ l : List Tx, l.length ≤ (joinP l).length + 1
  | [] => by simp
  | [t] => by simp
  | t :: u :: l => by
    rw [joinP_cons]
    have := joinP_count (u :: l)
    simp only [List.length_cons, List.length_append] at *
    omega
theorem join_own {B : Nat} {w : World} {A : Option Addr} {c : Nat} {l : List Tx} (h : w.ownsRow B 9 1 (.slice A l.length c) l.length (strL (quoL l))) (hj : (joinP l).length ≤ 10000000) :
    Calls Tryd.prog 14 #[.slice A l.length c, .string { data := #[32] }] w fun e w' => e = .returned (.string (bs (joinP l))) ∧ Below w.heap.size w w' := by
  cases l with
  | nil => exact (Tryd.strings_Join_none A c { data := #[32] } w).mono fun e w' ⟨he, hw⟩ => ⟨he, hw ▸ Below.refl _ _⟩
  | cons t r =>
    rcases h.2 with ⟨_, h0⟩ | ⟨g, cap, cur, hv, hB, hh, hn, hm, hs, ht⟩
    · simp at h0
    simp only [Value.slice.injEq] at hv
    obtain ⟨rfl, -, rfl⟩ := hv
    have hlt : g < w.heap.size := (Array.getElem?_eq_some_iff.1 hh).1
    have hlen : ((quoL (t :: r)).map bs).length = (t :: r).length := by unfold quoL; simp
    have hdat : ((quoL (t :: r)).map bs).map (·.data.toList) = (t :: r).map quoteP := by
      unfold quoL
      rw [List.map_map, List.map_map]
      exact List.map_congr_left fun x _ => by simp [bs]
    have := Tryd.strings_Join g 0 c ((quoL (t :: r)).map bs) { data := #[32] } w (fun j x hx => by
      have hj1 : j < ((quoL (t :: r)).map bs).length := (List.getElem?_eq_some_iff.1 hx).1
      rw [hlen] at hj1
      rw [Nat.zero_add, cell_of_row w g j cur _ _ hh, ← Array.getElem?_toList]
      have h8 : (cur.toList.take ((t :: r).length * 1))[j]? = (strL (quoL (t :: r)))[j]? := by rw [ht]
      rw [List.getElem?_take, if_pos (by omega)] at h8
      rw [h8]
      unfold strL
      rw [List.getElem?_map] at hx ⊢
      cases hq : (quoL (t :: r))[j]? with
      | none => rw [hq] at hx; cases hx
      | some y => rw [hq] at hx; cases hx; rfl) hlt (by rw [hlen]; unfold maxLen at hm; have := joinP_count (t :: r); omega) (by rw [hlen]; exact hn) (by
        rw [hdat]
        show (joinP (t :: r)).length ≤ _
        omega)
    rw [hlen, hdat] at this
    exact this
set_option maxRecDepth 100000 in
set_option maxHeartbeats 4000000 in
/-- Words as the program writes them. -/
theorem Join_any (l : List Tx) (A : Option Addr) (c : Nat) (w : World) (hp : StAt w.heap.size w A l) (hn : l.length ≤ 1100000) (hl : ∀ t ∈ l, t.length ≤ 2000000) (hj : (joinP l).length ≤ 10000000) :
    Calls Tryd.prog 8 #[.slice A l.length c] w fun e w' => e = .returned (.string (bs (joinP l))) ∧ Below w.heap.size w w' := by
  have HP := Lib.hid hp
  have HL := Lib.hid hl
  have HQ : Hid (∀ k (h : k < l.length) (V : World), Calls Tryd.prog 6 #[.string (bs l[k])] V fun e w' => e = .returned (.string (bs (quoteP l[k]))) ∧ Below V.heap.size V w') := fun k h V => Quote_any l[k] (hl _ (List.getElem_mem h)) V
  clear hp hl
  go_enter Tryd.func8, Tryd.ntmps8
  go_wp2_with (refine wpList_make_strs rfl _ _ rfl l.length w.heap.size rfl rfl (by omega) (Nat.le_refl _) ?_; intro w1 ho1 hg1; have HO1 := Lib.hid ho1; have HB1 := Lib.hid ((Below.refl w.heap.size w).grown hg1 (Nat.le_refl _) (fun k hk => by cases hk)); clear ho1 hg1)
  have hbase : w.heap.size ≤ w1.heap.size := HB1.out.size
  go_loopw [3, 11] (fun qv i wr => ∃ k : Nat, k ≤ l.length ∧ i = .int .i64 (k : Int) ∧ wr.ownsRow w.heap.size 9 1 qv (quoL (l.take k)).length (strL (quoL (l.take k))) ∧ Below w.heap.size w wr) (fun _ i _ => l.length - (intOf i).toNat)
  case atStart => exact ⟨0, Nat.zero_le _, rfl, HO1.out, HB1.out⟩
  case round =>
    obtain ⟨k, hk, rfl, hown, hb⟩ := hrel
    obtain ⟨A2, c2, rfl⟩ := own_slice hown
    by_cases hlt : k < l.length
    · have hki : (k : Int) < (l.length : Int) := by omega
      obtain ⟨g, o, rfl, hg, hcell⟩ := HP.out k hlt
      have hc := (hb.cell (p := ⟨g, o + k, none⟩) hg).trans hcell
      have HTK := Lib.hid (show quoL (l.take (k + 1)) = quoL (l.take k) ++ [quoteP l[k]] by
        unfold quoL
        rw [List.take_succ_eq_append_getElem hlt, List.map_append]; rfl)
      have hkl : (quoL (l.take k)).length = k := by unfold quoL; rw [List.length_map, List.length_take, Nat.min_eq_left hk]
      rw [hkl]
      have HKL := Lib.hid hkl
      have HO := Lib.hid hown
      have HB := Lib.hid hb
      have HQK := Lib.hid (HQ.out k hlt)
      have HLT := Lib.hid hlt
      clear hown hb hcell hkl
      go_wp2_with fail
      refine (HQK.out _).mono ?_
      rintro _ w2 ⟨rfl, h2⟩
      have HB2 := Lib.hid (HB.out.trans (h2.mono HB.out.size))
      have HO2 := Lib.hid ((own_below HO.out h2).alloc (.cells #[.string (bs (quoteP l[k]))] 9))
      have HN2 := Lib.hid (BL.new w2 9 [.string (bs (quoteP l[k]))])
      have HB3 := Lib.hid (HB2.out.alloc HB2.out.size (.cells #[.string (bs (quoteP l[k]))] 9))
      have HO3 : Hid (∀ v, v = Value.slice A2 k c2 → World.ownsRow (w2.alloc (.cells #[.string (bs (quoteP l[k]))] 9)) w.heap.size 9 1 v (quoL (l.take k)).length (strL (quoL (l.take k)))) := Lib.hid fun v hv => by have := HO2.out; rw [hv]; rw [HKL.out] at this ⊢; exact this
      have HK1 := Lib.hid (show (quoL (l.take k)).length ≤ 2000000 by rw [HKL.out]; omega)
      clear h2
      go_wp2_with (at_builtin; refine wpList_app_str rfl _ _ rfl w.heap.size (.slice A2 k c2) (quoL (l.take k)) (quoteP l[k]) rfl (HO3.out _ rfl) w2.heap.size 1 rfl HN2.out HB3.out.size HK1.out ?_; intro v5 w5 ho5 hg5; have HO5 := Lib.hid ho5; have HB5 := Lib.hid (HB3.out.grown hg5 HB3.out.size (fun k hk => ((HO3.out _ rfl).lt k hk).1)); clear ho5 hg5)
      go_roundw
      case rel => exact ⟨k + 1, HLT.out, by go_num, by rw [HTK.out]; exact HO5.out, HB5.out⟩
      case measure => simp [intOf]; omega
    · obtain rfl : k = l.length := by omega
      have hki : ¬ (l.length : Int) < (l.length : Int) := by omega
      have hkl : (quoL (l.take l.length)).length = l.length := by unfold quoL; rw [List.take_length, List.length_map]
      rw [hkl, List.take_length] at hown
      have HO := Lib.hid hown
      have HB := Lib.hid hb
      rw [hkl]
      have HJN : Hid (Calls Tryd.prog 14 #[.slice A2 l.length c2, .string { data := #[32] }] wr fun e w' => e = .returned (.string (bs (joinP l))) ∧ Below wr.heap.size wr w') := Lib.hid (join_own HO.out hj)
      clear hown hb hkl
      go_wp2_with fail
      refine HJN.out.mono ?_
      rintro _ w2 ⟨rfl, h2⟩
      have HB2 := Lib.hid (HB.out.trans (h2.mono HB.out.size))
      clear h2
      go_wp2_with fail
      go_ret
      exact ⟨rfl, HB2.out⟩
end Go.Proofs.YtplikjbajejciaaDoor.Lex
