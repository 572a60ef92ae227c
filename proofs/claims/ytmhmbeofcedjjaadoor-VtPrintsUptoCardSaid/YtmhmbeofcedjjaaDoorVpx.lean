/- The walk of an action's bytes, put behind a row of bytes of the call's own. The walk of an action's bytes, put behind a row of bytes of the call's own (the rest). The walk of an action's bytes: strings; and of any action's. The walk of Print: any actions, as bytes. -/
import Derived.Test.YtmhmbeofcedjjaaDoorVpe
import Derived.Deep.RegionLaw
namespace Go.Proofs.YtmhmbeofcedjjaaDoor.Vt
open Go.RowKit
open Cel (Blk Kept Tabs low Owns At)

theorem step_append_byts {ops : Array Oper} {o : Oper} {a : Act} {w : World} {K : Act → World → Prop} {Q : Exit → Act → World → Prop} {E : Prop} (hgd : o.guard = none) (s x : Operand) (ho : o.op = .call { callee := .builtin .append, args := #[s, x], argTypes := #[24, 24] })
    (B : Nat) (v : Value) (l k : Tx) (hs : a.eval s = v) (hown : Byts w B v l) (g c : Nat) (hx : a.eval x = .slice (some ⟨g, 0, none⟩) k.length c) (hg : Blk w g 5 (byts k).toArray) (hB : B ≤ w.heap.size) (hn : l.length + k.length ≤ 140737488355328)
    (h : ∀ v' w', Byts w' B v' (l ++ k) → Bt B w w' → K (a.put o.dst v') w') :
    if Region.wanted o (yielded ops a.tmps) = true then Oper.wp Tryd.prog o a w K Q else E := by
  have hw : Region.wanted o (yielded ops a.tmps) = true := by simp [Region.wanted, hgd]
  rw [if_pos hw]
  obtain ⟨i0, hi0, hz0, hz1, hz2⟩ := info_parts info_u8
  refine wp_append_own w s x 24 ho B 5 i0 _ 1 1 Tryd.underlying24 hi0 hz0 hz1 hz2 rfl (by decide) v l.length (byts l) hs hown ⟨g, 0, none⟩ k.length c (byts k) hx (by rw [byts_len]; omega) ?_ (byts_one k) (by unfold maxLen; omega) (by omega) hB ?_
  · intro j u hj
    have ha : (⟨g, 0, none⟩ : Addr).add j = ⟨g, j, none⟩ := by unfold Addr.add; split <;> simp_all
    rw [ha, hg.cell]
    simpa using hj
  · intro v' w' h1 h2 _
    refine h v' w' ?_ (Bt.grown hown hB ((Kept.refl w _).grown h2 fun j hj _ => hj))
    show w'.ownsRow B 5 1 v' (l ++ k).length (byts (l ++ k))
    rw [List.length_append, byts_app]
    exact h1
theorem can_head {a : Ac} (h : headOf a = true) : a.it.length ≤ 3 ∧ a.ps.length ≤ 32 ∧ inP a.ps = true ∧ 64 ≤ a.b ∨ a.k = 3 := by
  unfold headOf at h
  simp only [Bool.and_eq_true] at h
  obtain ⟨h1, h2, h3⟩ := h
  have h2 := (bet_bd h2).2
  have h5 := (bare_le a.it).2
  unfold arep at h3
  simp only [Bool.and_eq_true, decide_eq_true_eq] at h3
  by_cases hk : a.k = 3
  · exact .inr hk
  · rw [fin4 hk] at h1
    simp at h1
    exact .inl ⟨by omega, h3.2.1, h3.1, h1.1⟩
theorem can_text {a : Ac} (h : textOf a = true) : a.tx.length ≤ 1024 := by
  unfold textOf at h
  simp only [Bool.and_eq_true, decide_eq_true_eq] at h
  exact h.2
theorem cbt_4 {a : Ac} (hk : a.k = 4) : cbt a = headOf a := by unfold cbt; rw [if_neg (by omega), if_neg (by omega), if_neg (by omega), if_pos hk]
theorem cbt_5 {a : Ac} (hk : a.k = 5) : cbt a = textOf a := by unfold cbt; rw [if_neg (by omega), if_neg (by omega), if_neg (by omega), if_neg (by omega), if_pos hk]
theorem cbt_6 {a : Ac} (hk : a.k = 6) : cbt a = (headOf a && textOf a) := by unfold cbt; rw [if_neg (by omega), if_neg (by omega), if_neg (by omega), if_neg (by omega), if_neg (by omega), if_pos hk]
theorem prn_4 {a : Ac} (hk : a.k = 4) : prn a = 27 :: 91 :: headB a := by unfold prn; rw [if_neg (by omega), if_neg (by omega), if_neg (by omega), if_pos hk]
theorem prn_5 {a : Ac} (hk : a.k = 5) : prn a = 27 :: 93 :: (a.tx ++ [7]) := by unfold prn; rw [if_neg (by omega), if_neg (by omega), if_neg (by omega), if_neg (by omega), if_pos hk]
theorem prn_6 {a : Ac} (hk : a.k = 6) : prn a = 27 :: 80 :: (headB a ++ a.tx ++ [27, 92]) := by unfold prn; rw [if_neg (by omega), if_neg (by omega), if_neg (by omega), if_neg (by omega), if_neg (by omega), if_pos hk]
/-- Two bytes' own new block. -/
theorem bytes2_new (w : World) {x y : Int} (h0 : 0 ≤ x) (h1 : x ≤ 255) (h2 : 0 ≤ y) (h3 : y ≤ 255) : Blk (w.alloc (.cells #[.int .u8 x, .int .u8 y] 5)) w.heap.size 5 (byts [byt x, byt y]).toArray := by
  have e : (byts [byt x, byt y]).toArray = #[.int .u8 x, .int .u8 y] := by unfold byts; simp [byt_nat h0 h1, byt_nat h2 h3]
  rw [e]; exact Blk.new _ _ _
theorem headB_len {a : Ac} (hit : a.it.length ≤ 3) (hps : a.ps.length ≤ 32) (hpz : inP a.ps = true) : (headB a).length ≤ 200 := by
  have h1 := nums_len hpz
  have h2 := congrArg List.length (mark_bare a.it).1
  rw [List.length_append] at h2
  unfold headB
  simp only [List.length_append, List.length_singleton]
  omega
section
variable (a : Ac) (A : Option Addr) (c : Nat) (w : World) (B : Nat) (v : Value) (l : Tx)
set_option maxRecDepth 100000 in
set_option maxHeartbeats 4000000 in
theorem append_4 (hown : Byts w B v l) (hB : B ≤ w.heap.size) (ht : Tabs w) (hlow : low ≤ B) (h : RdB B w A a.ps) (hc : cbt a = true) (hb1 : a.b ≤ 255) (hl : l.length ≤ 140737488340000) (hk : a.k = 4) :
    Calls Tryd.prog 17 #[v, acV a (.slice A a.ps.length c)] w (Putted B w (l ++ prn a)) := by
  rw [cbt_4 hk] at hc
  obtain ⟨q1, q2, q3, q4⟩ := (can_head hc).resolve_right (by omega)
  have HP : Hid (l ++ prn a = (l ++ [byt 27, byt 91]) ++ headB a) := by show _ = _; rw [prn_4 hk]; simp [byt]
  have hah := fun (w3 : World) (v3 : Value) (ho : Byts w3 B v3 (l ++ [byt 27, byt 91])) (hb : Bt B w w3) => appendHead_any a A c w3 B v3 (l ++ [byt 27, byt 91]) ho (Nat.le_trans hB hb.1.size) (ht.below hb.1 hlow) hlow (h.below hb.1) q1 q2 q3 (by omega) hb1 (by rw [List.length_append]; simp; omega)
  unfold acV at hah ⊢
  rw [hk] at hah ⊢
  have HAH := Lib.hid hah
  clear hah hc q1 q2 q3 q4 hb1
  generalize bs a.it = X at *
  generalize bs a.tx = Z at *
  generalize a.ps.length = n at *
  generalize a.b = b1 at *
  generalize a.r = r1 at *
  rw [HP.out]
  generalize headB a = R at *
  clear hk h HP
  obtain ⟨w1, hw1⟩ : ∃ w1, w1 = acW w 4 r1 b1 (.slice A n c) X Z := ⟨_, rfl⟩
  have hz : w1.heap.size = w.heap.size + 1 := by rw [hw1]; simp
  have kB : Bt B w w1 := by rw [hw1]; exact (Bt.refl B w).alloc _ hB
  have hbk : Blk w1 w.heap.size 38 #[.int .i64 4, .int .i32 r1, .int .u8 b1, .slice A n c, .string X, .string Z] := by rw [hw1]; exact Blk.new w _ _
  have ho1 : Byts w1 B v l := by rw [hw1]; exact hown.alloc _
  have HW : Hid (w.alloc (.cells #[.int .i64 4, .int .i32 r1, .int .u8 b1, .slice A n c, .string X, .string Z] 38) = w1) := hw1.symm
  have hB1 : B ≤ w1.heap.size := by omega
  clear hw1 hown
  have hz' : w.heap.size < w1.heap.size := by omega
  clear hz
  have hoA : Byts (w1.alloc (.cells #[.int .u8 27, .int .u8 91] 5)).drew B v l := ho1.alloc _
  have hgA : Blk (w1.alloc (.cells #[.int .u8 27, .int .u8 91] 5)).drew w1.heap.size 5 (byts [byt 27, byt 91]).toArray := bytes2_new w1 (by omega) (by omega) (by omega) (by omega)
  have hBA : B ≤ (w1.alloc (.cells #[.int .u8 27, .int .u8 91] 5)).drew.heap.size := by simp; omega
  have kA : Bt B w1 (w1.alloc (.cells #[.int .u8 27, .int .u8 91] 5)).drew := ((Bt.refl B w1).alloc _ hB1).drew
  have hbA : Blk (w1.alloc (.cells #[.int .u8 27, .int .u8 91] 5)).drew w.heap.size 38 _ := hbk.alloc _
  have hlA : l.length + [byt 27, byt 91].length ≤ 140737488355328 := by simp; omega
  go_enter Tryd.func17, Tryd.ntmps17
  go_wp2_with fail
  rw [HW.out]
  have c0 : w1.cell? ⟨w.heap.size, 0, none⟩ = some (.int .i64 4) := hbk.cell 0
  have c1 : w1.cell? ⟨w.heap.size, 1, none⟩ = some (.int .i32 r1) := hbk.cell 1
  have c2 : w1.cell? ⟨w.heap.size, 2, none⟩ = some (.int .u8 b1) := hbk.cell 2
  have c3 : w1.cell? ⟨w.heap.size, 3, none⟩ = some (.slice A n c) := hbk.cell 3
  have c4 : w1.cell? ⟨w.heap.size, 4, none⟩ = some (.string X) := hbk.cell 4
  have c5 : w1.cell? ⟨w.heap.size, 5, none⟩ = some (.string Z) := hbk.cell 5
  go_wp2_with fail
  go_region_law
    (first
      | (refine step_append_byts rfl (.tmp 36) (.tmp 37) rfl B v l [byt 27, byt 91] rfl hoA w1.heap.size 2 rfl hgA hBA hlA ?_; intro v3 w3 ho3 hb3; have hb4 := (kB.trans kA).trans hb3; have hbk3 := hb3.blk hbA (by decide); have d0 : w3.cell? ⟨w.heap.size, 0, none⟩ = some (.int .i64 4) := hbk3.cell 0; have d1 : w3.cell? ⟨w.heap.size, 1, none⟩ = some (.int .i32 r1) := hbk3.cell 1; have d2 : w3.cell? ⟨w.heap.size, 2, none⟩ = some (.int .u8 b1) := hbk3.cell 2; have d3 : w3.cell? ⟨w.heap.size, 3, none⟩ = some (.slice A n c) := hbk3.cell 3; have d4 : w3.cell? ⟨w.heap.size, 4, none⟩ = some (.string X) := hbk3.cell 4; have d5 : w3.cell? ⟨w.heap.size, 5, none⟩ = some (.string Z) := hbk3.cell 5)
      | (go_simp; go_at_call 33; refine (HAH.out w3 v3 ho3 hb4).mono ?_; rintro _ w4 ⟨v4, rfl, ho4, hb5⟩))
  all_goals
    go_wp2
    go_ret
    exact ⟨v4, rfl, ho4, hb4.trans hb5⟩
end
end Go.Proofs.YtmhmbeofcedjjaaDoor.Vt
namespace Go.Proofs.YtmhmbeofcedjjaaDoor.Vt
open Go.RowKit
open Cel (Blk Kept Tabs low Owns At good enc)

theorem rune_cells {r : Int} (h : good r) : Lib.runeCells r = byts (enc r) := by
  unfold Lib.runeCells
  have hg := h
  unfold good at hg
  rcases Cel.enc_form h with ⟨h1, a, e, ha⟩ | ⟨h1, h2, a, b, e, ha, hb⟩ | ⟨h1, h2, a, b, c, e, ha, hb, hc⟩ | ⟨h1, h2, a, b, c, d, e, ha, hb, hc, hd⟩
  · rw [Lib.encodeRuneZ_one (by omega) (by omega), e]; simp [byts, ha]
  · rw [Lib.encodeRuneZ_two (by omega) (by omega), e]; simp [byts, ha, hb]
  · rw [Lib.encodeRuneZ_three (by omega), e]; simp [byts, ha, hb, hc]
  · rw [Lib.encodeRuneZ_four (by omega) (by omega), e]; simp [byts, ha, hb, hc, hd]
theorem appendRune_any (B : Nat) (v : Value) (l : Tx) (r : Int) (w : World) (hown : Byts w B v l) (hB : B ≤ w.heap.size) (hl : l.length ≤ 140737488355000) (hr : good r) :
    Calls Tryd.prog 32 #[v, .int .i32 r] w (Putted B w (l ++ enc r)) := by
  have hg := hr
  unfold good at hg
  refine (Tryd.utf8_AppendRune_plain B v l.length (byts l) r (by omega) (by omega) w hown (by omega) hB).mono ?_
  rintro e w' ⟨v', rfl, ho, o, hgr⟩
  have h1 : Byts (w.alloc o) B v l := hown.alloc o
  refine ⟨v', rfl, ?_, ((Bt.refl B w).alloc o hB).trans (Bt.grown h1 (by simp; omega) ((Kept.refl _ _).grown hgr fun j hj _ => hj))⟩
  show w'.ownsRow B 5 1 v' (l ++ enc r).length (byts (l ++ enc r))
  rw [rune_cells hr] at ho
  rw [List.length_append, byts_app, ← byts_len (enc r)]
  exact ho
theorem valid_good {r : Int} (h : Utf8.valid r = true) : good r := by
  rw [validRune_eq] at h; unfold validRune at h; unfold good; simp at h; omega
section
variable (a : Ac) (w : World) (B : Nat) (v : Value) (l : Tx)
set_option maxHeartbeats 1000000 in
theorem append_1 (u : Value) (hown : Byts w B v l) (hB : B ≤ w.heap.size) (hc : cbt a = true) (hl : l.length ≤ 140737488340000) (hk : a.k = 1) :
    Calls Tryd.prog 17 #[v, acV a u] w (Putted B w (l ++ prn a)) := by
  have hr : good a.r := by
    unfold cbt at hc
    rw [if_pos hk] at hc
    simp only [Bool.and_eq_true] at hc
    exact valid_good hc.2.2
  have HP : Hid (l ++ prn a = l ++ enc a.r) := by show _ = _; unfold prn; rw [if_pos hk]
  rw [HP.out]
  have kB : Bt B w (acW w 1 a.r a.b u (bs a.it) (bs a.tx)) := (Bt.refl B w).alloc _ hB
  have hap := appendRune_any B v l a.r (acW w 1 a.r a.b u (bs a.it) (bs a.tx)) (hown.alloc _) (Nat.le_trans hB kB.1.size) (by omega) hr
  unfold acV
  rw [hk]
  clear HP hc hr hk hown
  generalize bs a.it = X at *
  generalize bs a.tx = Z at *
  generalize a.b = b1 at *
  generalize a.r = r1 at *
  have HK := Lib.hid kB
  clear kB
  go_enter Tryd.func17, Tryd.ntmps17
  go_wp2_with fail
  refine hap.mono ?_
  rintro e w4 ⟨v4, rfl, ho4, hb5⟩
  go_wp2
  go_ret
  exact ⟨v4, rfl, ho4, HK.out.trans hb5⟩
set_option maxHeartbeats 1000000 in
theorem append_2 (u : Value) (hown : Byts w B v l) (hB : B ≤ w.heap.size) (hc : cbt a = true) (hb0 : 0 ≤ a.b) (hl : l.length ≤ 140737488340000) (hk : a.k = 2) :
    Calls Tryd.prog 17 #[v, acV a u] w (Putted B w (l ++ prn a)) := by
  have hb1 : a.b ≤ 255 := by
    unfold cbt at hc
    rw [if_neg (by omega), if_pos hk] at hc
    simp only [Bool.and_eq_true, decide_eq_true_eq] at hc
    omega
  have HP : Hid (l ++ prn a = l ++ [byt a.b]) := by show _ = _; unfold prn; rw [if_neg (by omega), if_pos hk]
  rw [HP.out]
  unfold acV
  rw [hk]
  clear HP hc hk
  generalize bs a.it = X at *
  generalize bs a.tx = Z at *
  generalize a.b = b1 at *
  generalize a.r = r1 at *
  have kB : Bt B w ((w.alloc (.cells #[.int .i64 2, .int .i32 r1, .int .u8 b1, u, .string X, .string Z] 38)).alloc (.cells #[.int .u8 b1] 5)) := ((Bt.refl B w).alloc _ hB).alloc _ (by simp; omega)
  have ho2 : Byts ((w.alloc (.cells #[.int .i64 2, .int .i32 r1, .int .u8 b1, u, .string X, .string Z] 38)).alloc (.cells #[.int .u8 b1] 5)) B v l := (hown.alloc _).alloc _
  have hg2 : Blk ((w.alloc (.cells #[.int .i64 2, .int .i32 r1, .int .u8 b1, u, .string X, .string Z] 38)).alloc (.cells #[.int .u8 b1] 5)) (w.heap.size + 1) 5 (byts [byt b1]).toArray := by
    have := byte_new (w.alloc (.cells #[.int .i64 2, .int .i32 r1, .int .u8 b1, u, .string X, .string Z] 38)) hb0 hb1
    rw [World.size_alloc] at this
    exact this
  have hB2 : B ≤ ((w.alloc (.cells #[.int .i64 2, .int .i32 r1, .int .u8 b1, u, .string X, .string Z] 38)).alloc (.cells #[.int .u8 b1] 5)).heap.size := by simp; omega
  have hl2 : l.length + [byt b1].length ≤ 140737488355328 := by simp; omega
  have HK := Lib.hid kB
  clear kB
  go_enter Tryd.func17, Tryd.ntmps17
  go_wp2_with (at_builtin; refine wpList_append_byts rfl (.tmp 15) (.tmp 18) rfl B v l [byt b1] rfl ho2 (w.heap.size + 1) 1 rfl hg2 hB2 hl2 ?_; intro v4 w4 ho4 hb4)
  go_ret
  exact ⟨v4, rfl, ho4, HK.out.trans hb4⟩
set_option maxRecDepth 100000 in
set_option maxHeartbeats 4000000 in
theorem append_3 (u : Value) (hown : Byts w B v l) (hB : B ≤ w.heap.size) (hc : cbt a = true) (hb0 : 0 ≤ a.b) (hb1 : a.b ≤ 255) (hl : l.length ≤ 140737488340000) (hk : a.k = 3) :
    Calls Tryd.prog 17 #[v, acV a u] w (Putted B w (l ++ prn a)) := by
  have hit : a.it.length ≤ 2 := by
    unfold cbt at hc
    rw [if_neg (by omega), if_neg (by omega), if_pos hk] at hc
    simp only [Bool.and_eq_true] at hc
    exact (bet_bd hc.2.1).2
  have HP : Hid (l ++ prn a = ((l ++ [byt 27]) ++ a.it) ++ [byt a.b]) := by show _ = _; unfold prn; rw [if_neg (by omega), if_neg (by omega), if_pos hk]; simp [byt]
  rw [HP.out]
  unfold acV
  rw [hk]
  clear HP hc hk
  obtain ⟨it, hI⟩ : ∃ it, it = a.it := ⟨_, rfl⟩
  rw [← hI] at hit ⊢
  clear hI
  generalize hX : bs it = X at *
  generalize bs a.tx = Z at *
  generalize a.b = b1 at *
  generalize a.r = r1 at *
  have HX := Lib.hid hX
  clear hX
  obtain ⟨w1, hw1⟩ : ∃ w1, w1 = w.alloc (.cells #[.int .i64 3, .int .i32 r1, .int .u8 b1, u, .string X, .string Z] 38) := ⟨_, rfl⟩
  have hz : w1.heap.size = w.heap.size + 1 := by rw [hw1]; simp
  have kB : Bt B w w1 := by rw [hw1]; exact (Bt.refl B w).alloc _ hB
  have hbk : Blk w1 w.heap.size 38 #[.int .i64 3, .int .i32 r1, .int .u8 b1, u, .string X, .string Z] := by rw [hw1]; exact Blk.new w _ _
  have ho1 : Byts w1 B v l := by rw [hw1]; exact hown.alloc _
  have HW : Hid (w.alloc (.cells #[.int .i64 3, .int .i32 r1, .int .u8 b1, u, .string X, .string Z] 38) = w1) := hw1.symm
  have hB1 : B ≤ w1.heap.size := by omega
  have hz' : w.heap.size < w1.heap.size := by omega
  clear hw1 hown
  have ho2 : Byts (w1.alloc (.cells #[.int .u8 27] 5)) B v l := ho1.alloc _
  have hg2 : Blk (w1.alloc (.cells #[.int .u8 27] 5)) (w.heap.size + 1) 5 (byts [byt 27]).toArray := hz ▸ byte_new w1 (x := 27) (by omega) (by omega)
  have kA : Bt B w1 (w1.alloc (.cells #[.int .u8 27] 5)) := (Bt.refl B w1).alloc _ hB1
  have hB2 := Nat.le_trans hB1 kA.1.size
  have hl2 : l.length + [byt 27].length ≤ 140737488355328 := by simp; omega
  have hl3 : (l ++ [byt 27]).length + it.length ≤ 140737488355328 := by simp; omega
  have hl4 : ((l ++ [byt 27]) ++ it).length + [byt b1].length ≤ 140737488355328 := by simp; omega
  have HK := Lib.hid (kB.trans kA)
  have HBK := Lib.hid (kA.blk hbk (by decide))
  clear kB kA hz
  go_enter Tryd.func17, Tryd.ntmps17
  go_wp2_with (first
    | (at_builtin; rw [HW.out]; refine wpList_append_byts rfl (.tmp 22) (.tmp 23) rfl B v l [byt 27] rfl ho2 (w.heap.size + 1) 1 rfl hg2 hB2 hl2 ?_; intro v4 w4 ho4 hb4; have hb4' := HK.out.trans hb4; have hbk4 := hb4.blk HBK.out (by decide); have d4 : w4.cell? ⟨w.heap.size, 4, none⟩ = some (.string X) := hbk4.cell 4; have hB4 := Nat.le_trans hB2 hb4.1.size; have HB4 := Lib.hid hb4'; have HBK4 := Lib.hid hbk4; clear hb4 hb4' hbk4)
    | (at_builtin; refine wpList_append_btext rfl (.tmp 25) (.tmp 27) rfl B v4 (l ++ [byt 27]) it rfl ho4 X HX.out rfl hB4 hl3 ?_; intro v5 w5 ho5 hb5; have hb5' := HB4.out.trans hb5; have hbk5 := hb5.blk HBK4.out (by decide); have d5 : w5.cell? ⟨w.heap.size, 2, none⟩ = some (.int .u8 b1) := hbk5.cell 2; have hB5 := Nat.le_trans hB4 hb5.1.size; have HB5 := Lib.hid hb5'; have hB6 : B ≤ (w5.alloc (.cells #[.int .u8 b1] 5)).heap.size := Nat.le_trans hB5 (by simp); have ho6 : Byts (w5.alloc (.cells #[.int .u8 b1] 5)) B v5 ((l ++ [byt 27]) ++ it) := ho5.alloc _; have hg6 := byte_new w5 hb0 hb1; clear hb5 hb5' hbk5)
    | (at_builtin; refine wpList_append_byts rfl (.tmp 29) (.tmp 32) rfl B v5 ((l ++ [byt 27]) ++ it) [byt b1] rfl ho6 w5.heap.size 1 rfl hg6 hB6 hl4 ?_; intro v7 w7 ho7 hb7))
  go_ret
  exact ⟨v7, rfl, ho7, (HB5.out.trans ((Bt.refl B w5).alloc _ hB5)).trans hb7⟩
end
end Go.Proofs.YtmhmbeofcedjjaaDoor.Vt
namespace Go.Proofs.YtmhmbeofcedjjaaDoor.Vt
open Go.RowKit
open Cel (Blk Kept Tabs low Owns At good enc)

section
variable (a : Ac) (A : Option Addr) (c : Nat) (w : World) (B : Nat) (v : Value) (l : Tx)
set_option maxRecDepth 100000 in
set_option maxHeartbeats 4000000 in
theorem append_5 (u : Value) (hown : Byts w B v l) (hB : B ≤ w.heap.size) (hc : cbt a = true) (hl : l.length ≤ 140737488340000) (hk : a.k = 5) :
    Calls Tryd.prog 17 #[v, acV a u] w (Putted B w (l ++ prn a)) := by
  rw [cbt_5 hk] at hc
  have htx := can_text hc
  have HP : Hid (l ++ prn a = ((l ++ [byt 27, byt 93]) ++ a.tx) ++ [byt 7]) := by show _ = _; rw [prn_5 hk]; simp [byt]
  rw [HP.out]
  unfold acV
  rw [hk]
  clear HP hc hk
  obtain ⟨tx, hI⟩ : ∃ tx, tx = a.tx := ⟨_, rfl⟩
  rw [← hI] at htx ⊢
  clear hI
  generalize hX : bs tx = Z at *
  generalize bs a.it = X at *
  generalize a.b = b1 at *
  generalize a.r = r1 at *
  have HX := Lib.hid hX
  clear hX
  obtain ⟨w1, hw1⟩ : ∃ w1, w1 = w.alloc (.cells #[.int .i64 5, .int .i32 r1, .int .u8 b1, u, .string X, .string Z] 38) := ⟨_, rfl⟩
  have hz : w1.heap.size = w.heap.size + 1 := by rw [hw1]; simp
  have kB : Bt B w w1 := by rw [hw1]; exact (Bt.refl B w).alloc _ hB
  have hbk : Blk w1 w.heap.size 38 #[.int .i64 5, .int .i32 r1, .int .u8 b1, u, .string X, .string Z] := by rw [hw1]; exact Blk.new w _ _
  have ho1 : Byts w1 B v l := by rw [hw1]; exact hown.alloc _
  have HW : Hid (w.alloc (.cells #[.int .i64 5, .int .i32 r1, .int .u8 b1, u, .string X, .string Z] 38) = w1) := hw1.symm
  have hB1 : B ≤ w1.heap.size := by omega
  have hz' : w.heap.size < w1.heap.size := by omega
  clear hw1 hown
  have ho2 : Byts (w1.alloc (.cells #[.int .u8 27, .int .u8 93] 5)) B v l := ho1.alloc _
  have hg2 : Blk (w1.alloc (.cells #[.int .u8 27, .int .u8 93] 5)) (w.heap.size + 1) 5 (byts [byt 27, byt 93]).toArray := hz ▸ bytes2_new w1 (x := 27) (y := 93) (by omega) (by omega) (by omega) (by omega)
  have kA : Bt B w1 (w1.alloc (.cells #[.int .u8 27, .int .u8 93] 5)) := (Bt.refl B w1).alloc _ hB1
  have hB2 := Nat.le_trans hB1 kA.1.size
  have hl2 : l.length + [byt 27, byt 93].length ≤ 140737488355328 := by simp; omega
  have hl3 : (l ++ [byt 27, byt 93]).length + tx.length ≤ 140737488355328 := by simp; omega
  have hl4 : ((l ++ [byt 27, byt 93]) ++ tx).length + [byt 7].length ≤ 140737488355328 := by simp; omega
  have HK := Lib.hid (kB.trans kA)
  have HBK := Lib.hid (kA.blk hbk (by decide))
  clear kB kA hz
  go_enter Tryd.func17, Tryd.ntmps17
  go_wp2_with (first
    | (at_builtin; rw [HW.out]; refine wpList_append_byts rfl (.tmp 43) (.tmp 44) rfl B v l [byt 27, byt 93] rfl ho2 (w.heap.size + 1) 2 rfl hg2 hB2 hl2 ?_; intro v4 w4 ho4 hb4; have hb4' := HK.out.trans hb4; have hbk4 := hb4.blk HBK.out (by decide); have d4 : w4.cell? ⟨w.heap.size, 5, none⟩ = some (.string Z) := hbk4.cell 5; have hB4 := Nat.le_trans hB2 hb4.1.size; have HB4 := Lib.hid hb4'; clear hb4 hb4' hbk4)
    | (at_builtin; refine wpList_append_btext rfl (.tmp 46) (.tmp 48) rfl B v4 (l ++ [byt 27, byt 93]) tx rfl ho4 Z HX.out rfl hB4 hl3 ?_; intro v5 w5 ho5 hb5; have hb5' := HB4.out.trans hb5; have hB5 := Nat.le_trans hB4 hb5.1.size; have HB5 := Lib.hid hb5'; have hB6 : B ≤ (w5.alloc (.cells #[.int .u8 7] 5)).heap.size := Nat.le_trans hB5 (by simp); have ho6 : Byts (w5.alloc (.cells #[.int .u8 7] 5)) B v5 ((l ++ [byt 27, byt 93]) ++ tx) := ho5.alloc _; have hg6 := byte_new w5 (x := 7) (by omega) (by omega); clear hb5 hb5')
    | (at_builtin; refine wpList_append_byts rfl (.tmp 50) (.tmp 51) rfl B v5 ((l ++ [byt 27, byt 93]) ++ tx) [byt 7] rfl ho6 w5.heap.size 1 rfl hg6 hB6 hl4 ?_; intro v7 w7 ho7 hb7))
  go_ret
  exact ⟨v7, rfl, ho7, (HB5.out.trans ((Bt.refl B w5).alloc _ hB5)).trans hb7⟩
set_option maxRecDepth 100000 in
set_option maxHeartbeats 4000000 in
theorem append_6 (hown : Byts w B v l) (hB : B ≤ w.heap.size) (ht : Tabs w) (hlow : low ≤ B) (h : RdB B w A a.ps) (hc : cbt a = true) (hb1 : a.b ≤ 255) (hl : l.length ≤ 140737488340000) (hk : a.k = 6) :
    Calls Tryd.prog 17 #[v, acV a (.slice A a.ps.length c)] w (Putted B w (l ++ prn a)) := by
  rw [cbt_6 hk, Bool.and_eq_true] at hc
  obtain ⟨q1, q2, q3, q4⟩ := (can_head hc.1).resolve_right (by omega)
  have htx := can_text hc.2
  have HP : Hid (l ++ prn a = ((((l ++ [byt 27, byt 80]) ++ headB a) ++ a.tx) ++ [byt 27, byt 92])) := by show _ = _; rw [prn_6 hk]; simp [byt]
  have hah := fun (w3 : World) (v3 : Value) (ho : Byts w3 B v3 (l ++ [byt 27, byt 80])) (hb : Bt B w w3) => appendHead_any a A c w3 B v3 (l ++ [byt 27, byt 80]) ho (Nat.le_trans hB hb.1.size) (ht.below hb.1 hlow) hlow (h.below hb.1) q1 q2 q3 (by omega) hb1 (by rw [List.length_append]; simp; omega)
  have hRl := headB_len q1 q2 q3
  unfold acV at hah ⊢
  rw [hk] at hah ⊢
  have HAH := Lib.hid hah
  clear hah hc q1 q2 q3 q4 hb1
  rw [HP.out]
  obtain ⟨tx, hI⟩ : ∃ tx, tx = a.tx := ⟨_, rfl⟩
  rw [← hI] at htx HAH ⊢
  clear hI HP
  generalize hX : bs tx = Z at *
  have HX := Lib.hid hX
  clear hX
  generalize bs a.it = X at *
  generalize a.ps.length = n at *
  generalize a.b = b1 at *
  generalize a.r = r1 at *
  generalize headB a = R at *
  clear hk h
  obtain ⟨w1, hw1⟩ : ∃ w1, w1 = acW w 6 r1 b1 (.slice A n c) X Z := ⟨_, rfl⟩
  have hz : w1.heap.size = w.heap.size + 1 := by rw [hw1]; simp
  have kB : Bt B w w1 := by rw [hw1]; exact (Bt.refl B w).alloc _ hB
  have hbk : Blk w1 w.heap.size 38 #[.int .i64 6, .int .i32 r1, .int .u8 b1, .slice A n c, .string X, .string Z] := by rw [hw1]; exact Blk.new w _ _
  have ho1 : Byts w1 B v l := by rw [hw1]; exact hown.alloc _
  have HW : Hid (w.alloc (.cells #[.int .i64 6, .int .i32 r1, .int .u8 b1, .slice A n c, .string X, .string Z] 38) = w1) := hw1.symm
  have hB1 : B ≤ w1.heap.size := by omega
  clear hw1 hown
  have hz' : w.heap.size < w1.heap.size := by omega
  clear hz
  have hoA : Byts (w1.alloc (.cells #[.int .u8 27, .int .u8 80] 5)).drew B v l := ho1.alloc _
  have hgA : Blk (w1.alloc (.cells #[.int .u8 27, .int .u8 80] 5)).drew w1.heap.size 5 (byts [byt 27, byt 80]).toArray := bytes2_new w1 (by omega) (by omega) (by omega) (by omega)
  have hBA : B ≤ (w1.alloc (.cells #[.int .u8 27, .int .u8 80] 5)).drew.heap.size := by simp; omega
  have kA : Bt B w1 (w1.alloc (.cells #[.int .u8 27, .int .u8 80] 5)).drew := ((Bt.refl B w1).alloc _ hB1).drew
  have hbA : Blk (w1.alloc (.cells #[.int .u8 27, .int .u8 80] 5)).drew w.heap.size 38 _ := hbk.alloc _
  have hlA : l.length + [byt 27, byt 80].length ≤ 140737488355328 := by simp; omega
  have hl3 : ((l ++ [byt 27, byt 80]) ++ R).length + tx.length ≤ 140737488355328 := by simp; omega
  have hl4 : (((l ++ [byt 27, byt 80]) ++ R) ++ tx).length + [byt 27, byt 92].length ≤ 140737488355328 := by simp; omega
  go_enter Tryd.func17, Tryd.ntmps17
  go_wp2_with fail
  rw [HW.out]
  have c0 : w1.cell? ⟨w.heap.size, 0, none⟩ = some (.int .i64 6) := hbk.cell 0
  have c1 : w1.cell? ⟨w.heap.size, 1, none⟩ = some (.int .i32 r1) := hbk.cell 1
  have c2 : w1.cell? ⟨w.heap.size, 2, none⟩ = some (.int .u8 b1) := hbk.cell 2
  have c3 : w1.cell? ⟨w.heap.size, 3, none⟩ = some (.slice A n c) := hbk.cell 3
  have c4 : w1.cell? ⟨w.heap.size, 4, none⟩ = some (.string X) := hbk.cell 4
  have c5 : w1.cell? ⟨w.heap.size, 5, none⟩ = some (.string Z) := hbk.cell 5
  go_wp2_with fail
  go_region_law
    (first
      | (refine step_append_byts rfl (.tmp 55) (.tmp 56) rfl B v l [byt 27, byt 80] rfl hoA w1.heap.size 2 rfl hgA hBA hlA ?_; intro v3 w3 ho3 hb3; have hb4 := (kB.trans kA).trans hb3; have hbk3 := hb3.blk hbA (by decide); have d0 : w3.cell? ⟨w.heap.size, 0, none⟩ = some (.int .i64 6) := hbk3.cell 0; have d1 : w3.cell? ⟨w.heap.size, 1, none⟩ = some (.int .i32 r1) := hbk3.cell 1; have d2 : w3.cell? ⟨w.heap.size, 2, none⟩ = some (.int .u8 b1) := hbk3.cell 2; have d3 : w3.cell? ⟨w.heap.size, 3, none⟩ = some (.slice A n c) := hbk3.cell 3; have d4 : w3.cell? ⟨w.heap.size, 4, none⟩ = some (.string X) := hbk3.cell 4; have d5 : w3.cell? ⟨w.heap.size, 5, none⟩ = some (.string Z) := hbk3.cell 5)
      | (go_simp; go_at_call 33; refine (HAH.out w3 v3 ho3 hb4).mono ?_; rintro _ w4 ⟨v4, rfl, ho4, hb5⟩))
  all_goals
    have hbk4 := hb5.blk hbk3 (by decide)
    have e5 : w4.cell? ⟨w.heap.size, 5, none⟩ = some (.string Z) := hbk4.cell 5
    have hb6 := hb4.trans hb5
    have hB4 := Nat.le_trans hB hb6.1.size
    have HB6 := Lib.hid hb6
    clear hb4 hb5 hb6 hb3 kA kB
    go_wp2_with (first
      | (at_builtin; refine wpList_append_btext rfl (.tmp 60) (.tmp 62) rfl B v4 ((l ++ [byt 27, byt 80]) ++ R) tx rfl ho4 Z HX.out rfl hB4 hl3 ?_; intro v5 w5 ho5 hb5; have hb5' := HB6.out.trans hb5; have hB5 := Nat.le_trans hB4 hb5.1.size; have HB5 := Lib.hid hb5'; have hB7 : B ≤ (w5.alloc (.cells #[.int .u8 27, .int .u8 92] 5)).heap.size := Nat.le_trans hB5 (by simp); have ho6 : Byts (w5.alloc (.cells #[.int .u8 27, .int .u8 92] 5)) B v5 (((l ++ [byt 27, byt 80]) ++ R) ++ tx) := ho5.alloc _; have hg6 := bytes2_new w5 (x := 27) (y := 92) (by omega) (by omega) (by omega) (by omega); clear hb5 hb5')
      | (at_builtin; refine wpList_append_byts rfl (.tmp 64) (.tmp 65) rfl B v5 (((l ++ [byt 27, byt 80]) ++ R) ++ tx) [byt 27, byt 92] rfl ho6 w5.heap.size 2 rfl hg6 hB7 hl4 ?_; intro v7 w7 ho7 hb7))
    go_ret
    exact ⟨v7, rfl, ho7, (HB5.out.trans ((Bt.refl B w5).alloc _ hB5)).trans hb7⟩
theorem cbt_k (hc : cbt a = true) : a.k = 1 ∨ a.k = 2 ∨ a.k = 3 ∨ a.k = 4 ∨ a.k = 5 ∨ a.k = 6 := by
  unfold cbt at hc
  by_cases h1 : a.k = 1
  · exact .inl h1
  by_cases h2 : a.k = 2
  · exact .inr (.inl h2)
  by_cases h3 : a.k = 3
  · exact .inr (.inr (.inl h3))
  by_cases h4 : a.k = 4
  · exact .inr (.inr (.inr (.inl h4)))
  by_cases h5 : a.k = 5
  · exact .inr (.inr (.inr (.inr (.inl h5))))
  by_cases h6 : a.k = 6
  · exact .inr (.inr (.inr (.inr (.inr h6))))
  rw [if_neg h1, if_neg h2, if_neg h3, if_neg h4, if_neg h5, if_neg h6] at hc
  cases hc
theorem appendAction_any (hown : Byts w B v l) (hB : B ≤ w.heap.size) (ht : Tabs w) (hlow : low ≤ B) (h : RdB B w A a.ps) (hc : cbt a = true) (hb0 : 0 ≤ a.b) (hb1 : a.b ≤ 255) (hl : l.length ≤ 140737488340000) :
    Calls Tryd.prog 17 #[v, acV a (.slice A a.ps.length c)] w (Putted B w (l ++ prn a)) := by
  rcases cbt_k a hc with hk | hk | hk | hk | hk | hk
  · exact append_1 a w B v l _ hown hB hc hl hk
  · exact append_2 a w B v l _ hown hB hc hb0 hl hk
  · exact append_3 a w B v l _ hown hB hc hb0 hb1 hl hk
  · exact append_4 a A c w B v l hown hB ht hlow h hc hb1 hl hk
  · exact append_5 a w B v l _ hown hB hc hl hk
  · exact append_6 a A c w B v l hown hB ht hlow h hc hb1 hl hk
theorem prn_len (hc : cbt a = true) : (prn a).length ≤ 2000 := by
  rcases cbt_k a hc with hk | hk | hk | hk | hk | hk
  · have hr : good a.r := by
      unfold cbt at hc
      rw [if_pos hk] at hc
      simp only [Bool.and_eq_true] at hc
      exact valid_good hc.2.2
    have := (Cel.enc_length hr).2
    unfold prn; rw [if_pos hk]; omega
  · unfold prn; rw [if_neg (by omega), if_pos hk]; simp
  · unfold cbt at hc
    rw [if_neg (by omega), if_neg (by omega), if_pos hk] at hc
    simp only [Bool.and_eq_true] at hc
    have := (bet_bd hc.2.1).2
    unfold prn; rw [if_neg (by omega), if_neg (by omega), if_pos hk]; simp; omega
  · rw [cbt_4 hk] at hc
    obtain ⟨q1, q2, q3, _⟩ := (can_head hc).resolve_right (by omega)
    have := headB_len q1 q2 q3
    rw [prn_4 hk]; simp; omega
  · rw [cbt_5 hk] at hc
    have := can_text hc
    rw [prn_5 hk]; simp; omega
  · rw [cbt_6 hk, Bool.and_eq_true] at hc
    obtain ⟨q1, q2, q3, _⟩ := (can_head hc.1).resolve_right (by omega)
    have := headB_len q1 q2 q3
    have := can_text hc.2
    rw [prn_6 hk]; simp; omega
end
end Go.Proofs.YtmhmbeofcedjjaaDoor.Vt
namespace Go.Proofs.YtmhmbeofcedjjaaDoor.Vt
open Go.RowKit
open Cel (Blk Kept Tabs low Owns At good enc)

/-- Actions that can be read, below a floor. -/
def RdA (B : Nat) (w : World) (A : Option Addr) (l : List To) : Prop :=
  ∀ k (hk : k < l.length), (∃ g o, A = some ⟨g, o, none⟩ ∧ g < B ∧ ∀ i, i < 6 → w.cell? ⟨g, o + k * 6 + i, none⟩ = (acL l[k])[i]?) ∧ ∃ A2 c2, l[k].2 = .slice A2 l[k].1.ps.length c2 ∧ RdB B w A2 l[k].1.ps
/-- Actions of bytes and texts that can be. -/
def Ok (l : List To) : Prop := ∀ t ∈ l, Fitly t.1 ∧ 0 ≤ t.1.b ∧ t.1.b ≤ 255
theorem prnO_len (a : Ac) : (prnO a).length ≤ 2000 := by
  unfold prnO
  split
  · rename_i h; exact prn_len a h
  · simp
theorem prnAll_len : ∀ l : List Ac, (prnAll l).length ≤ 2000 * l.length
  | [] => by simp [prnAll]
  | a :: l => by
    have h1 := prnO_len a
    have h2 := prnAll_len l
    unfold prnAll at h2 ⊢
    rw [List.flatMap_cons, List.length_append, List.length_cons]
    omega
theorem prn_take {l : List To} {k : Nat} (hk : k < l.length) : prnAll (outs (l.take (k + 1))) = prnAll (outs (l.take k)) ++ prnO l[k].1 := by
  rw [List.take_succ_eq_append_getElem hk, outs_app, prnAll_app]
  show _ ++ prnAll [l[k].1] = _
  rw [prnAll_one]
set_option maxRecDepth 100000 in
set_option maxHeartbeats 4000000 in
theorem Print_any (A : Option Addr) (c : Nat) (l : List To) (w : World) (ht : Tabs w) (hlow : low ≤ w.heap.size) (h : RdA w.heap.size w A l) (hok : Ok l) (hl : l.length ≤ 70000000000) :
    Calls Tryd.prog 9 #[.slice A l.length c] w (Putted w.heap.size w (prnAll (outs l))) := by
  have H := Lib.hid h
  have HO := Lib.hid hok
  clear h hok
  go_enter Tryd.func9, Tryd.ntmps9
  go_wp2
  go_loopw [3, 8] (fun v i wr => ∃ k : Nat, k ≤ l.length ∧ i = .int .i64 k ∧ Byts wr w.heap.size v (prnAll (outs (l.take k))) ∧ Bt w.heap.size w wr) (fun _ i _ => l.length - (intOf i).toNat)
  case atStart => exact ⟨0, Nat.zero_le _, rfl, byts_nil _ _, Bt.refl _ _⟩
  case round =>
    obtain ⟨k, hk, rfl, ho, hb⟩ := hrel
    by_cases hlt : k < l.length
    · obtain ⟨⟨g, o, rfl, hg, hcell⟩, A2, c2, hv, hr⟩ := H.out k hlt
      obtain ⟨hf, hb0, hb1⟩ := HO.out l[k] (List.getElem_mem _)
      have HN := Lib.hid (prn_take hlt)
      have hlen : (prnAll (outs (l.take k))).length ≤ 140737488340000 := by
        have := prnAll_len (outs (l.take k))
        rw [outs_len, List.length_take] at this
        omega
      have hs := hb.1.size
      have hrd : ∀ i, i < 6 → wr.cell? ⟨g, o + k * 6 + i, none⟩ = (acL l[k])[i]? := fun i hi => (hb.1.cell (p := ⟨g, o + k * 6 + i, none⟩) hg).trans (hcell i hi)
      generalize l[k] = t at *
      obtain ⟨a, u⟩ := t
      simp only at hv hr hf hb0 hb1
      subst hv
      have x0 : wr.cell? ⟨g, o + k * 6, none⟩ = some (.int .i64 a.k) := hrd 0 (by omega)
      have x1 : wr.cell? ⟨g, o + k * 6 + 1, none⟩ = some (.int .i32 a.r) := hrd 1 (by omega)
      have x2 : wr.cell? ⟨g, o + k * 6 + 2, none⟩ = some (.int .u8 a.b) := hrd 2 (by omega)
      have x3 : wr.cell? ⟨g, o + k * 6 + 3, none⟩ = some (.slice A2 a.ps.length c2) := hrd 3 (by omega)
      have x4 : wr.cell? ⟨g, o + k * 6 + 4, none⟩ = some (.string (bs a.it)) := hrd 4 (by omega)
      have x5 : wr.cell? ⟨g, o + k * 6 + 5, none⟩ = some (.string (bs a.tx)) := hrd 5 (by omega)
      clear hrd hcell
      have HR := Lib.hid hr
      have hz1 : w.heap.size ≤ (acW wr a.k a.r a.b (.slice A2 a.ps.length c2) (bs a.it) (bs a.tx)).heap.size := Nat.le_trans hs (by simp)
      have hb1w : Bt w.heap.size w (acW wr a.k a.r a.b (.slice A2 a.ps.length c2) (bs a.it) (bs a.tx)) := hb.alloc _ hs
      have ho1 : Byts (acW wr a.k a.r a.b (.slice A2 a.ps.length c2) (bs a.it) (bs a.tx)) w.heap.size u3 (prnAll (outs (l.take k))) := ho.alloc _
      have hbk : Blk (acW wr a.k a.r a.b (.slice A2 a.ps.length c2) (bs a.it) (bs a.tx)) wr.heap.size 38 _ := Blk.new wr _ _
      have hcan := canBeTold_any a A2 c2 (acW wr a.k a.r a.b (.slice A2 a.ps.length c2) (bs a.it) (bs a.tx)) ((hr.below hb1w.1).rd hz1) hf
      have happ := fun (w2 : World) (hb2 : Bt w.heap.size w w2) (ho2 : Byts w2 w.heap.size u3 (prnAll (outs (l.take k)))) (hc : cbt a = true) => appendAction_any a A2 c2 w2 w.heap.size u3 (prnAll (outs (l.take k))) ho2 hb2.1.size (ht.below hb2.1 hlow) hlow (hr.below hb2.1) hc hb0 hb1 hlen
      have i1 : (0 : Int) ≤ (k : Int) := by omega
      have i2 : (k : Int) < (l.length : Int) := by omega
      have hz2 : wr.heap.size < (acW wr a.k a.r a.b (.slice A2 a.ps.length c2) (bs a.it) (bs a.tx)).heap.size := by simp
      have HZ2 := Lib.hid hz2
      have HPO : Hid (prnO a = if cbt a = true then prn a else []) := by show _ = _; rfl
      have HAPP := Lib.hid happ
      unfold Canned at hcan
      clear hr happ hz2 hz1
      generalize hW : acW wr a.k a.r a.b (.slice A2 a.ps.length c2) (bs a.it) (bs a.tx) = W1 at *
      have HW : Hid (wr.alloc (.cells #[.int .i64 a.k, .int .i32 a.r, .int .u8 a.b, .slice A2 a.ps.length c2, .string (bs a.it), .string (bs a.tx)] 38) = W1) := hW
      clear hW
      go_wp2_with fail
      rw [HW.out]
      refine hcan.mono ?_
      rintro e w2 ⟨rfl, hbc⟩
      have hb2 := hb1w.trans (Bt.of_below hbc hb1w.1.size)
      have hbk2 := hbk.below hbc HZ2.out
      have ho2 := (Cel.below_kept hbc fun _ => False).owns ho1 fun _ _ h => h
      cases hcb : cbt a with
      | false =>
        have HE : Hid (prnO a = []) := by show _ = _; rw [HPO.out, hcb]; rfl
        clear hcb
        go_wp2
        go_roundw
        case rel => exact ⟨k + 1, by omega, by go_num, by rw [HN.out, HE.out, List.append_nil]; exact ho2, hb2⟩
        case measure => simp [intOf]; omega
      | true =>
        have HE : Hid (prnO a = prn a) := by show _ = _; rw [HPO.out, hcb]; rfl
        have hap := HAPP.out w2 hb2 ho2 hcb
        clear hcb
        have d0 : w2.cell? ⟨wr.heap.size, 0, none⟩ = some (.int .i64 a.k) := hbk2.cell 0
        have d1 : w2.cell? ⟨wr.heap.size, 1, none⟩ = some (.int .i32 a.r) := hbk2.cell 1
        have d2 : w2.cell? ⟨wr.heap.size, 2, none⟩ = some (.int .u8 a.b) := hbk2.cell 2
        have d3 : w2.cell? ⟨wr.heap.size, 3, none⟩ = some (.slice A2 a.ps.length c2) := hbk2.cell 3
        have d4 : w2.cell? ⟨wr.heap.size, 4, none⟩ = some (.string (bs a.it)) := hbk2.cell 4
        have d5 : w2.cell? ⟨wr.heap.size, 5, none⟩ = some (.string (bs a.tx)) := hbk2.cell 5
        go_wp2_with fail
        refine hap.mono ?_
        rintro e w3 ⟨v3, rfl, ho3, hb3⟩
        go_wp2
        go_roundw
        case rel => exact ⟨k + 1, by omega, by go_num, by rw [HN.out, HE.out]; exact ho3, hb2.trans hb3⟩
        case measure => simp [intOf]; omega
    · obtain rfl : k = l.length := by omega
      go_wp2
      go_ret
      rw [List.take_of_length_le (Nat.le_refl _)] at ho
      exact ⟨_, rfl, ho, hb⟩
end Go.Proofs.YtmhmbeofcedjjaaDoor.Vt
