/- The walks of the document's own writing of one action: heads and strings; of any action. -/
import Derived.Test.YtmhmbeofcedjjaaDoorRo1
namespace Go.Proofs.YtmhmbeofcedjjaaDoor.Vt
open Go.RowKit
open Cel (Blk Kept Tabs low Owns At good enc)

section
variable (a : Ac) (A : Option Addr) (c : Nat) (w : World)
theorem hdo_no {a : Ac} (hk : a.k ≠ 3) (h : headOf a = false) : hdo a = false := by rw [hdo_head hk, h]
set_option maxRecDepth 100000 in
set_option maxHeartbeats 4000000 in
theorem one_4 (h : RdI w A a.ps) (hl : Fitly a) (hb0 : 0 ≤ a.b) (hb1 : a.b ≤ 255) (hk : a.k = 4) : Calls Tryd.prog 18 #[acV a (.slice A a.ps.length c)] w (OneR a w) := by
  have kb := acW_below w a.k a.r a.b (.slice A a.ps.length c) (bs a.it) (bs a.tx)
  have hh := head_ref a A c (acW w a.k a.r a.b (.slice A a.ps.length c) (bs a.it) (bs a.tx)) (h.kept kb) hl hb0 hb1
  have HP : Hid (prnO a = if hdo a = true then [27, 91] ++ headB a else []) := by show _ = _; unfold prnO; rw [cbt_4 hk, prn_4 hk, hdo_head (by omega)]; rfl
  have HRL : Hid (hdo a = true → (headB a).length ≤ 200) := fun q => by
    rw [hdo_head (by omega)] at q
    obtain ⟨q1, q2, q3, _⟩ := (can_head q).resolve_right (by omega)
    exact headB_len q1 q2 q3
  unfold OneR
  unfold Headed at hh
  unfold acV at hh ⊢
  rw [hk] at hh kb ⊢
  have HNE := Lib.hid (fun (h : prnO a = []) => (by rw [h]; rfl : (Value.string (bs (prnO a))) = .string { data := #[] }))
  have HYE := Lib.hid (fun (h : prnO a = [27, 91] ++ headB a) => (by rw [h] : (Value.string (bs (prnO a))) = .string (bs ([27, 91] ++ headB a))))
  have ha1 : ({ data := #[27, 91] } : ByteArray) ++ bs (headB a) = bs ([27, 91] ++ headB a) := bs_app [27, 91] (headB a)
  generalize prnO a = R at *
  generalize hdo a = Q at *
  generalize bs a.it = X at *
  generalize bs a.tx = Z at *
  generalize a.ps.length = n at *
  generalize a.b = b at *
  generalize a.r = r at *
  clear hk h hl
  have HK := Lib.hid kb
  clear kb
  cases hQ : Q with
  | false =>
    have HR : Hid (R = []) := by show _ = _; rw [HP.out, hQ]; rfl
    rw [hQ] at hh
    have hh' : Calls Tryd.prog 35 #[.agg #[.int .i64 4, .int .i32 r, .int .u8 b, .slice A n c, .string X, .string Z]] (acW w 4 r b (.slice A n c) X Z) fun e w' => e = .returned (.tuple #[.string { data := #[] }, .bool false]) ∧ Below (acW w 4 r b (.slice A n c) X Z).heap.size (acW w 4 r b (.slice A n c) X Z) w' := hh
    clear hQ hh ha1
    go_enter Tryd.func18, Tryd.ntmps18
    go_wp2_with (go_at_call 35; refine hh'.mono ?_; rintro e w' ⟨rfl, hb⟩)
    go_ret
    exact ⟨by rw [HNE.out HR.out]; rfl, HK.out.trans (hb.mono HK.out.size)⟩
  | true =>
    have HR : Hid (R = [27, 91] ++ headB a) := by show _ = _; rw [HP.out, hQ]; rfl
    have hrl := HRL.out hQ
    have s1 : (bs (headB a)).size ≤ 200 := by rw [bs_size]; exact hrl
    rw [hQ] at hh
    have hh' : Calls Tryd.prog 35 #[.agg #[.int .i64 4, .int .i32 r, .int .u8 b, .slice A n c, .string X, .string Z]] (acW w 4 r b (.slice A n c) X Z) fun e w' => e = .returned (.tuple #[.string (bs (headB a)), .bool true]) ∧ Below (acW w 4 r b (.slice A n c) X Z).heap.size (acW w 4 r b (.slice A n c) X Z) w' := hh
    clear hQ hh hrl
    generalize bs ([27, 91] ++ headB a) = E at *
    generalize bs (headB a) = E1 at *
    go_enter Tryd.func18, Tryd.ntmps18
    go_wp2_with (go_at_call 35; refine hh'.mono ?_; rintro e w' ⟨rfl, hb⟩)
    go_ret
    exact ⟨by rw [HYE.out HR.out]; rfl, HK.out.trans (hb.mono HK.out.size)⟩
set_option maxRecDepth 100000 in
set_option maxHeartbeats 4000000 in
theorem one_5 (v : Value) (hl : Fitly a) (hk : a.k = 5) : Calls Tryd.prog 18 #[acV a v] w (OneR a w) := by
  have kb := acW_below w a.k a.r a.b v (bs a.it) (bs a.tx)
  have qb : Blk (acW w a.k a.r a.b v (bs a.it) (bs a.tx)) w.heap.size 38 #[.int .i64 a.k, .int .i32 a.r, .int .u8 a.b, v, .string (bs a.it), .string (bs a.tx)] := Blk.new w _ _
  have hon := only_ref 32 255 a.tx hl.2.1
  rw [onl_txt] at hon
  have HT : Hid (textOf a = (noCtl a.tx && decide (a.tx.length ≤ 1024))) := by show _ = _; rfl
  have HP : Hid (prnO a = if textOf a = true then [27, 93] ++ a.tx ++ [7] else []) := by show _ = _; unfold prnO; rw [cbt_5 hk, prn_5 hk]; rfl
  unfold OneR acV
  rw [hk] at qb kb ⊢
  have HNE := Lib.hid (fun (h : prnO a = []) => (by rw [h]; rfl : (Value.string (bs (prnO a))) = .string { data := #[] }))
  have HYE := Lib.hid (fun (h : prnO a = [27, 93] ++ a.tx ++ [7]) => (by rw [h] : (Value.string (bs (prnO a))) = .string (bs ([27, 93] ++ a.tx ++ [7]))))
  have ha1 : ({ data := #[27, 93] } : ByteArray) ++ bs a.tx = bs ([27, 93] ++ a.tx) := bs_app [27, 93] a.tx
  have ha2 : bs ([27, 93] ++ a.tx) ++ { data := #[7] } = bs ([27, 93] ++ a.tx ++ [7]) := bs_app _ [7]
  have htl := hl.2.1
  have s1 : (bs a.tx).size ≤ 140737488355328 := by rw [bs_size]; exact htl
  have s2 : (bs ([27, 93] ++ a.tx)).size ≤ 140737488355330 := by rw [bs_size, List.length_append]; simp; omega
  have HSX : Hid ((bs a.tx).size = a.tx.length) := bs_size a.tx
  generalize prnO a = R at *
  generalize textOf a = Q at *
  generalize a.tx = tx at *
  generalize noCtl tx = F at *
  generalize bs ([27, 93] ++ tx ++ [7]) = E at *
  generalize bs ([27, 93] ++ tx) = E1 at *
  generalize bs tx = Z at *
  generalize bs a.it = X at *
  generalize a.b = b at *
  generalize a.r = r at *
  clear hk hl qb
  cases F with
  | false =>
    have HR : Hid (R = []) := by show _ = _; rw [HP.out, HT.out]; rfl
    clear ha1 ha2
    go_enter Tryd.func18, Tryd.ntmps18
    go_wp2_with (go_at_call 34; refine (hon _).mono ?_; rintro e w' ⟨rfl, rfl⟩)
    go_ret
    exact ⟨by rw [HNE.out HR.out]; rfl, kb⟩
  | true =>
    by_cases q : tx.length ≤ 1024
    · have d : decide ((Z.size : Int) ≤ 1024) = true := by rw [HSX.out]; simp; omega
      have HR : Hid (R = [27, 93] ++ tx ++ [7]) := by show _ = _; rw [HP.out, HT.out, decide_eq_true q]; rfl
      clear q
      go_enter Tryd.func18, Tryd.ntmps18
      go_wp2_with (go_at_call 34; refine (hon _).mono ?_; rintro e w' ⟨rfl, rfl⟩)
      go_ret
      exact ⟨by rw [HYE.out HR.out]; rfl, kb⟩
    · have d : decide ((Z.size : Int) ≤ 1024) = false := by rw [HSX.out]; simp; omega
      have HR : Hid (R = []) := by show _ = _; rw [HP.out, HT.out, decide_eq_false q]; rfl
      clear q ha1 ha2
      go_enter Tryd.func18, Tryd.ntmps18
      go_wp2_with (go_at_call 34; refine (hon _).mono ?_; rintro e w' ⟨rfl, rfl⟩)
      go_ret
      exact ⟨by rw [HNE.out HR.out]; rfl, kb⟩
set_option maxRecDepth 100000 in
set_option maxHeartbeats 4000000 in
theorem one_6 (h : RdI w A a.ps) (hl : Fitly a) (hb0 : 0 ≤ a.b) (hb1 : a.b ≤ 255) (hk : a.k = 6) : Calls Tryd.prog 18 #[acV a (.slice A a.ps.length c)] w (OneR a w) := by
  have kb := acW_below w a.k a.r a.b (.slice A a.ps.length c) (bs a.it) (bs a.tx)
  have qb : Blk (acW w a.k a.r a.b (.slice A a.ps.length c) (bs a.it) (bs a.tx)) w.heap.size 38 #[.int .i64 a.k, .int .i32 a.r, .int .u8 a.b, .slice A a.ps.length c, .string (bs a.it), .string (bs a.tx)] := Blk.new w _ _
  have hz : w.heap.size < (acW w a.k a.r a.b (.slice A a.ps.length c) (bs a.it) (bs a.tx)).heap.size := by simp
  have hh := head_ref a A c (acW w a.k a.r a.b (.slice A a.ps.length c) (bs a.it) (bs a.tx)) (h.kept kb) hl hb0 hb1
  have hon := only_ref 32 255 a.tx hl.2.1
  rw [onl_txt] at hon
  have HT : Hid (textOf a = (noCtl a.tx && decide (a.tx.length ≤ 1024))) := by show _ = _; rfl
  have HP : Hid (prnO a = if (hdo a && textOf a) = true then [27, 80] ++ headB a ++ a.tx ++ [27, 92] else []) := by show _ = _; unfold prnO; rw [cbt_6 hk, prn_6 hk, hdo_head (by omega)]; simp
  have HRL : Hid (hdo a = true → (headB a).length ≤ 200) := fun q => by
    rw [hdo_head (by omega)] at q
    obtain ⟨q1, q2, q3, _⟩ := (can_head q).resolve_right (by omega)
    exact headB_len q1 q2 q3
  unfold OneR
  unfold Headed at hh
  unfold acV at hh ⊢
  rw [hk] at hh kb qb hz ⊢
  have HNE := Lib.hid (fun (h : prnO a = []) => (by rw [h]; rfl : (Value.string (bs (prnO a))) = .string { data := #[] }))
  have HYE := Lib.hid (fun (h : prnO a = [27, 80] ++ headB a ++ a.tx ++ [27, 92]) => (by rw [h] : (Value.string (bs (prnO a))) = .string (bs ([27, 80] ++ headB a ++ a.tx ++ [27, 92]))))
  have htl := hl.2.1
  generalize prnO a = R at *
  generalize textOf a = QT at *
  generalize hdo a = Q at *
  generalize headB a = H at *
  generalize a.tx = tx at *
  generalize noCtl tx = F at *
  generalize a.ps.length = n at *
  generalize bs a.it = X at *
  generalize a.b = b at *
  generalize a.r = r at *
  clear hk h hl
  have ha1 : ({ data := #[27, 80] } : ByteArray) ++ bs H = bs ([27, 80] ++ H) := bs_app [27, 80] H
  have ha2 : bs ([27, 80] ++ H) ++ bs tx = bs ([27, 80] ++ H ++ tx) := bs_app _ _
  have ha3 : bs ([27, 80] ++ H ++ tx) ++ { data := #[27, 92] } = bs ([27, 80] ++ H ++ tx ++ [27, 92]) := bs_app _ [27, 92]
  have HSX : Hid ((bs tx).size = tx.length) := bs_size tx
  obtain ⟨w1, hw1⟩ : ∃ w1, w1 = acW w 6 r b (.slice A n c) X (bs tx) := ⟨_, rfl⟩
  rw [← hw1] at qb kb hh hz
  have HW : Hid (w.alloc (.cells #[.int .i64 6, .int .i32 r, .int .u8 b, .slice A n c, .string X, .string (bs tx)] 38) = w1) := hw1.symm
  clear hw1
  have c0 : w1.cell? ⟨w.heap.size, 0, none⟩ = some (.int .i64 6) := qb.cell 0
  have c1 : w1.cell? ⟨w.heap.size, 1, none⟩ = some (.int .i32 r) := qb.cell 1
  have c2 : w1.cell? ⟨w.heap.size, 2, none⟩ = some (.int .u8 b) := qb.cell 2
  have c3 : w1.cell? ⟨w.heap.size, 3, none⟩ = some (.slice A n c) := qb.cell 3
  have c4 : w1.cell? ⟨w.heap.size, 4, none⟩ = some (.string X) := qb.cell 4
  have c5 : w1.cell? ⟨w.heap.size, 5, none⟩ = some (.string (bs tx)) := qb.cell 5
  have HK := Lib.hid kb
  clear kb
  have hcase : Q = false ∨ Q = true ∧ F = false ∨ Q = true ∧ F = true ∧ 1024 < tx.length ∨ Q = true ∧ F = true ∧ tx.length ≤ 1024 := by
    cases Q <;> cases F <;> simp <;> omega
  rcases hcase with hQ | ⟨hQ, hF⟩ | ⟨hQ, hF, hx⟩ | ⟨hQ, hF, hx⟩
  · have HR : Hid (R = []) := by show _ = _; rw [HP.out, hQ]; rfl
    rw [hQ] at hh
    have hh' : Calls Tryd.prog 35 #[.agg #[.int .i64 6, .int .i32 r, .int .u8 b, .slice A n c, .string X, .string (bs tx)]] w1 fun e w' => e = .returned (.tuple #[.string { data := #[] }, .bool false]) ∧ Below w1.heap.size w1 w' := hh
    clear hQ hh ha1 ha2 ha3
    generalize bs tx = Z at *
    go_enter Tryd.func18, Tryd.ntmps18
    go_upto_region 1 with fail
    rw [HW.out]
    go_wp2_with fail
    refine hh'.mono ?_
    rintro e w2 ⟨rfl, hb⟩
    have d5 : w2.cell? ⟨w.heap.size, 5, none⟩ = some (.string Z) := (qb.below hb hz).cell 5
    go_wp2_with (go_at_call 34; refine (hon _).mono ?_; rintro e w' ⟨rfl, rfl⟩)
    go_ret
    exact ⟨by rw [HNE.out HR.out]; rfl, HK.out.trans (hb.mono HK.out.size)⟩
  · have HR : Hid (R = []) := by show _ = _; rw [HP.out, HT.out, hF]; simp
    rw [hQ] at hh
    rw [hF] at hon
    have hh' : Calls Tryd.prog 35 #[.agg #[.int .i64 6, .int .i32 r, .int .u8 b, .slice A n c, .string X, .string (bs tx)]] w1 fun e w' => e = .returned (.tuple #[.string (bs H), .bool true]) ∧ Below w1.heap.size w1 w' := hh
    clear hQ hF hh ha1 ha2 ha3
    generalize bs tx = Z at *
    go_enter Tryd.func18, Tryd.ntmps18
    go_upto_region 1 with fail
    rw [HW.out]
    go_wp2_with fail
    refine hh'.mono ?_
    rintro e w2 ⟨rfl, hb⟩
    have d5 : w2.cell? ⟨w.heap.size, 5, none⟩ = some (.string Z) := (qb.below hb hz).cell 5
    go_wp2_with (go_at_call 34; refine (hon _).mono ?_; rintro e w' ⟨rfl, rfl⟩)
    go_ret
    exact ⟨by rw [HNE.out HR.out]; rfl, HK.out.trans (hb.mono HK.out.size)⟩
  · have HR : Hid (R = []) := by show _ = _; rw [HP.out, HT.out, decide_eq_false (by omega)]; simp
    rw [hQ] at hh
    rw [hF] at hon
    have hh' : Calls Tryd.prog 35 #[.agg #[.int .i64 6, .int .i32 r, .int .u8 b, .slice A n c, .string X, .string (bs tx)]] w1 fun e w' => e = .returned (.tuple #[.string (bs H), .bool true]) ∧ Below w1.heap.size w1 w' := hh
    have d : decide (((bs tx).size : Int) ≤ 1024) = false := by rw [HSX.out]; simp; omega
    clear hQ hF hh ha1 ha2 ha3 hx
    generalize bs tx = Z at *
    go_enter Tryd.func18, Tryd.ntmps18
    go_upto_region 1 with fail
    rw [HW.out]
    go_wp2_with fail
    refine hh'.mono ?_
    rintro e w2 ⟨rfl, hb⟩
    have d5 : w2.cell? ⟨w.heap.size, 5, none⟩ = some (.string Z) := (qb.below hb hz).cell 5
    go_wp2_with (go_at_call 34; refine (hon _).mono ?_; rintro e w' ⟨rfl, rfl⟩)
    go_ret
    exact ⟨by rw [HNE.out HR.out]; rfl, HK.out.trans (hb.mono HK.out.size)⟩
  · have HR : Hid (R = [27, 80] ++ H ++ tx ++ [27, 92]) := by show _ = _; rw [HP.out, HT.out, decide_eq_true hx, hQ, hF]; rfl
    have hrl := HRL.out hQ
    rw [hQ] at hh
    rw [hF] at hon
    have hh' : Calls Tryd.prog 35 #[.agg #[.int .i64 6, .int .i32 r, .int .u8 b, .slice A n c, .string X, .string (bs tx)]] w1 fun e w' => e = .returned (.tuple #[.string (bs H), .bool true]) ∧ Below w1.heap.size w1 w' := hh
    have d : decide (((bs tx).size : Int) ≤ 1024) = true := by rw [HSX.out]; simp; omega
    have s1 : (bs H).size ≤ 200 := by rw [bs_size]; exact hrl
    have s2 : (bs tx).size ≤ 1024 := by rw [bs_size]; exact hx
    have s3 : (bs ([27, 80] ++ H)).size ≤ 202 := by rw [bs_size, List.length_append]; simp; omega
    have s4 : (bs ([27, 80] ++ H ++ tx)).size ≤ 1226 := by rw [bs_size, List.length_append, List.length_append]; simp; omega
    clear hQ hF hh hx hrl
    generalize bs ([27, 80] ++ H ++ tx ++ [27, 92]) = E4 at *
    generalize bs ([27, 80] ++ H ++ tx) = E3 at *
    generalize bs ([27, 80] ++ H) = E2 at *
    generalize bs H = E1 at *
    generalize bs tx = Z at *
    go_enter Tryd.func18, Tryd.ntmps18
    go_upto_region 1 with fail
    rw [HW.out]
    go_wp2_with fail
    refine hh'.mono ?_
    rintro e w2 ⟨rfl, hb⟩
    have d5 : w2.cell? ⟨w.heap.size, 5, none⟩ = some (.string Z) := (qb.below hb hz).cell 5
    go_wp2_with (go_at_call 34; refine (hon _).mono ?_; rintro e w' ⟨rfl, rfl⟩)
    go_ret
    exact ⟨by rw [HYE.out HR.out]; rfl, HK.out.trans (hb.mono HK.out.size)⟩
set_option maxRecDepth 100000 in
set_option maxHeartbeats 1000000 in
theorem one_0 (v : Value) (hk : a.k ≠ 1 ∧ a.k ≠ 2 ∧ a.k ≠ 3 ∧ a.k ≠ 4 ∧ a.k ≠ 5 ∧ a.k ≠ 6) : Calls Tryd.prog 18 #[acV a v] w (OneR a w) := by
  have HR : Hid (prnO a = []) := by show _ = _; unfold prnO cbt; rw [if_neg hk.1, if_neg hk.2.1, if_neg hk.2.2.1, if_neg hk.2.2.2.1, if_neg hk.2.2.2.2.1, if_neg hk.2.2.2.2.2]; rfl
  have kb := acW_below w a.k a.r a.b v (bs a.it) (bs a.tx)
  unfold OneR acV
  have HNE := Lib.hid (fun (h : prnO a = []) => (by rw [h]; rfl : (Value.string (bs (prnO a))) = .string { data := #[] }))
  generalize prnO a = R at *
  generalize bs a.it = X at *
  generalize bs a.tx = Z at *
  generalize a.b = b1 at *
  generalize a.r = r1 at *
  generalize a.k = k at *
  have d1 : (k == 1) = false := by simp; exact hk.1
  have d2 : (k == 2) = false := by simp; exact hk.2.1
  have d3 : (k == 3) = false := by simp; exact hk.2.2.1
  have d4 : (k == 4) = false := by simp; exact hk.2.2.2.1
  have d5 : (k == 5) = false := by simp; exact hk.2.2.2.2.1
  have d6 : (k == 6) = false := by simp; exact hk.2.2.2.2.2
  clear hk
  go_enter Tryd.func18, Tryd.ntmps18
  go_wp2
  go_ret
  exact ⟨by rw [HNE.out HR.out]; rfl, kb⟩
theorem One_any (h : RdI w A a.ps) (hl : Fitly a) (hb0 : 0 ≤ a.b) (hb1 : a.b ≤ 255) : Calls Tryd.prog 18 #[acV a (.slice A a.ps.length c)] w (OneR a w) := by
  by_cases h1 : a.k = 1
  · exact one_1 a w _ h1
  by_cases h2 : a.k = 2
  · exact one_2 a w _ hb0 hb1 h2
  by_cases h3 : a.k = 3
  · exact one_3 a w _ hl.1 hb0 hb1 h3
  by_cases h4 : a.k = 4
  · exact one_4 a A c w h hl hb0 hb1 h4
  by_cases h5 : a.k = 5
  · exact one_5 a w _ hl h5
  by_cases h6 : a.k = 6
  · exact one_6 a A c w h hl hb0 hb1 h6
  exact one_0 a w _ ⟨h1, h2, h3, h4, h5, h6⟩
end
end Go.Proofs.YtmhmbeofcedjjaaDoor.Vt
