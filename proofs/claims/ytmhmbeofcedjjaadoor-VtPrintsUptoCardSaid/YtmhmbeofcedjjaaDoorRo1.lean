/- The walks of the document's own writing of one action. -/
import Derived.Test.YtmhmbeofcedjjaaDoorRhe
import Derived.Laws.Cover4
namespace Go.Proofs.YtmhmbeofcedjjaaDoor.Vt
open Go.RowKit
open Cel (Blk Kept Tabs low Owns At good enc)

theorem rune_str (w : World) (r : Int) : (convert 57 9 (.slice (some ⟨w.heap.size, 0, none⟩) 1 1)).run Tryd.prog (w.alloc (.cells #[.int .i32 r] 21)) = .ok (.string (bs (enc r))) (w.alloc (.cells #[.int .i32 r] 21)) := by
  have hb : Blk (w.alloc (.cells #[.int .i32 r] 21)) w.heap.size 21 #[.int .i32 r] := Blk.new w _ _
  have h := run_convert_runes (P := Tryd.prog) (w.alloc (.cells #[.int .i32 r] 21)) 57 9 21 ⟨w.heap.size, 0, none⟩ 1 1 [r] (by simp) Tryd.underlying57 Tryd.underlying21 Tryd.underlying9 (fun j hj => by
    obtain rfl : j = 0 := by simp at hj; omega
    exact hb.cell 0)
  rw [h]
  have e : runesBytes ([r].take 1) = bs (enc r) := by
    rw [Cel.runesBytes_eq]
    simp [Cel.bytes, bs]
  rw [e]
def OneR (a : Ac) (w : World) (e : Ending) (w' : World) : Prop := e = .returned (.string (bs (prnO a))) ∧ Below w.heap.size w w'
theorem prnO_1 {a : Ac} (hk : a.k = 1) : prnO a = if (decide (32 ≤ a.r) && (a.r != 127 && Utf8.valid a.r)) = true then enc a.r else [] := by
  unfold prnO cbt prn; rw [if_pos hk, if_pos hk]
theorem cbt_2 {a : Ac} (hk : a.k = 2) : cbt a = (decide (a.b < 32) && (a.b != 24 && (a.b != 26 && a.b != 27))) := by unfold cbt; rw [if_neg (by omega), if_pos hk]
theorem cbt_3 {a : Ac} (hk : a.k = 3) : cbt a = (isFin 3 a.b && (btw a.it && (a.it != [] || opens a.b == 0))) := by unfold cbt; rw [if_neg (by omega), if_neg (by omega), if_pos hk, hk]
theorem prn_2 {a : Ac} (hk : a.k = 2) : prn a = [byt a.b] := by unfold prn; rw [if_neg (by omega), if_pos hk]
theorem prn_3 {a : Ac} (hk : a.k = 3) : prn a = 27 :: (a.it ++ [byt a.b]) := by unfold prn; rw [if_neg (by omega), if_neg (by omega), if_pos hk]
theorem str_nil : ({ data := #[] } : ByteArray) = bs [] := rfl
theorem valid_ways (r : Int) (h0 : 32 ≤ r) : Utf8.valid r = (decide (r ≤ 1114111) && !(decide (55296 ≤ r) && decide (r ≤ 57343))) := by
  rw [validRune_eq]
  unfold validRune
  by_cases h1 : r ≤ 1114111 <;> by_cases h2 : 55296 ≤ r <;> by_cases h3 : r ≤ 57343 <;> simp [h1, h2, h3] <;> omega
section
variable (a : Ac) (w : World)
set_option maxRecDepth 100000 in
set_option maxHeartbeats 4000000 in
theorem one_1 (v : Value) (hk : a.k = 1) : Calls Tryd.prog 18 #[acV a v] w (OneR a w) := by
  have kb := acW_below w 1 a.r a.b v (bs a.it) (bs a.tx)
  have qb : Blk (acW w 1 a.r a.b v (bs a.it) (bs a.tx)) w.heap.size 38 _ := Blk.new w _ _
  have hcv := rune_str (acW w 1 a.r a.b v (bs a.it) (bs a.tx)) a.r
  have kb2 : Below w.heap.size w ((acW w 1 a.r a.b v (bs a.it) (bs a.tx)).alloc (.cells #[.int .i32 a.r] 21)) := kb.alloc kb.size _
  have hz : (acW w 1 a.r a.b v (bs a.it) (bs a.tx)).heap.size = w.heap.size + 1 := by simp
  have HP : Hid (prnO a = if (decide (32 ≤ a.r) && (a.r != 127 && Utf8.valid a.r)) = true then enc a.r else []) := prnO_1 hk
  unfold OneR acV
  rw [hk]
  generalize prnO a = R at *
  generalize bs a.it = X at *
  generalize bs a.tx = Z at *
  generalize a.r = r at *
  generalize a.b = b at *
  rw [hz] at hcv
  have hne : ∀ {L : Tx}, R = L → (.string (bs R) : Value) = .string (bs L) := fun h => by rw [h]
  have HNE := Lib.hid (fun (h : R = []) => (by rw [h]; rfl : (Value.string (bs R)) = .string { data := #[] }))
  have HYE := Lib.hid (fun (h : R = enc r) => (by rw [h] : (Value.string (bs R)) = .string (bs (enc r))))
  clear hk hz hne qb
  generalize bs (enc r) = E at *
  by_cases q1 : 32 ≤ r
  · have d1 : decide (r < 32) = false := by simp; omega
    have hv := valid_ways r q1
    by_cases q2 : r = 127
    · have HE : Hid (R = []) := by show _ = _; rw [HP.out, q2]; rfl
      subst q2
      go_enter Tryd.func18, Tryd.ntmps18
      go_wp2
      go_ret
      exact ⟨by rw [HNE.out HE.out]; rfl, kb⟩
    · have d2 : (r == 127) = false := by simpa using q2
      have d2' : (r != 127) = true := by simpa using q2
      by_cases q3 : r ≤ 1114111
      · have d3 : decide (1114111 < r) = false := by simp; omega
        by_cases q4 : 55296 ≤ r
        · have d4 : decide (55296 ≤ r) = true := decide_eq_true q4
          by_cases q5 : r ≤ 57343
          · have d5 : decide (r ≤ 57343) = true := decide_eq_true q5
            have HE : Hid (R = []) := by show _ = _; rw [HP.out, hv, d4, d5]; simp
            clear q1 q2 q3 q4 q5 hv d2'
            go_enter Tryd.func18, Tryd.ntmps18
            go_wp2
            go_ret
            exact ⟨by rw [HNE.out HE.out]; rfl, kb⟩
          · have d5 : decide (r ≤ 57343) = false := decide_eq_false q5
            have HE : Hid (R = enc r) := by show _ = _; rw [HP.out, hv, d4, d5, decide_eq_true q3, decide_eq_true q1, d2']; rfl
            clear q1 q2 q3 q4 q5 hv d2'
            go_enter Tryd.func18, Tryd.ntmps18
            go_wp2
            go_ret
            exact ⟨by rw [HYE.out HE.out]; rfl, kb2⟩
        · have d4 : decide (55296 ≤ r) = false := decide_eq_false q4
          have HE : Hid (R = enc r) := by show _ = _; rw [HP.out, hv, d4, decide_eq_true q3, decide_eq_true q1, d2']; rfl
          clear q1 q2 q3 q4 hv d2'
          go_enter Tryd.func18, Tryd.ntmps18
          go_wp2
          go_ret
          exact ⟨by rw [HYE.out HE.out]; rfl, kb2⟩
      · have d3 : decide (1114111 < r) = true := by simp; omega
        have HE : Hid (R = []) := by show _ = _; rw [HP.out, hv, decide_eq_false q3]; simp
        clear q1 q2 q3 hv d2'
        go_enter Tryd.func18, Tryd.ntmps18
        go_wp2
        go_ret
        exact ⟨by rw [HNE.out HE.out]; rfl, kb⟩
  · have d1 : decide (r < 32) = true := by simp; omega
    have HE : Hid (R = []) := by show _ = _; rw [HP.out, decide_eq_false q1]; rfl
    clear q1
    go_enter Tryd.func18, Tryd.ntmps18
    go_wp2
    go_ret
    exact ⟨by rw [HNE.out HE.out]; rfl, kb⟩
set_option maxRecDepth 100000 in
set_option maxHeartbeats 4000000 in
theorem one_2 (v : Value) (hb0 : 0 ≤ a.b) (hb1 : a.b ≤ 255) (hk : a.k = 2) : Calls Tryd.prog 18 #[acV a v] w (OneR a w) := by
  have kb := acW_below w 2 a.r a.b v (bs a.it) (bs a.tx)
  have hcv := byte_str (acW w 2 a.r a.b v (bs a.it) (bs a.tx)) hb0 hb1
  have kb2 : Below w.heap.size w ((acW w 2 a.r a.b v (bs a.it) (bs a.tx)).alloc (.cells #[.int .u8 a.b] 5)) := kb.alloc kb.size _
  have hz : (acW w 2 a.r a.b v (bs a.it) (bs a.tx)).heap.size = w.heap.size + 1 := by simp
  have HP : Hid (prnO a = if (decide (a.b < 32) && (a.b != 24 && (a.b != 26 && a.b != 27))) = true then [byt a.b] else []) := by show _ = _; unfold prnO; rw [cbt_2 hk, prn_2 hk]
  unfold OneR acV
  rw [hk]
  generalize prnO a = R at *
  generalize bs a.it = X at *
  generalize bs a.tx = Z at *
  generalize a.r = r at *
  generalize a.b = b at *
  rw [hz] at hcv
  have HNE := Lib.hid (fun (h : R = []) => (by rw [h]; rfl : (Value.string (bs R)) = .string { data := #[] }))
  have HYE := Lib.hid (fun (h : R = [byt b]) => (by rw [h] : (Value.string (bs R)) = .string (bs [byt b])))
  clear hk hz
  generalize bs [byt b] = E at *
  by_cases q1 : b < 32
  · have d1 : decide (b < 32) = true := decide_eq_true q1
    by_cases q2 : b = 24
    · have HE : Hid (R = []) := by show _ = _; rw [HP.out, q2]; rfl
      subst q2
      go_enter Tryd.func18, Tryd.ntmps18
      go_wp2
      go_ret
      exact ⟨by rw [HNE.out HE.out]; rfl, kb⟩
    by_cases q3 : b = 26
    · have HE : Hid (R = []) := by show _ = _; rw [HP.out, q3]; rfl
      subst q3
      go_enter Tryd.func18, Tryd.ntmps18
      go_wp2
      go_ret
      exact ⟨by rw [HNE.out HE.out]; rfl, kb⟩
    by_cases q4 : b = 27
    · have HE : Hid (R = []) := by show _ = _; rw [HP.out, q4]; rfl
      subst q4
      go_enter Tryd.func18, Tryd.ntmps18
      go_wp2
      go_ret
      exact ⟨by rw [HNE.out HE.out]; rfl, kb⟩
    have d2 : (b != 24) = true := by simpa using q2
    have d3 : (b != 26) = true := by simpa using q3
    have d4 : (b != 27) = true := by simpa using q4
    have HE : Hid (R = [byt b]) := by show _ = _; rw [HP.out, d1, d2, d3, d4]; rfl
    clear q1 q2 q3 q4
    go_enter Tryd.func18, Tryd.ntmps18
    go_wp2
    go_ret
    exact ⟨by rw [HYE.out HE.out]; rfl, kb2⟩
  · have d1 : decide (b < 32) = false := decide_eq_false q1
    have HE : Hid (R = []) := by show _ = _; rw [HP.out, d1]; rfl
    clear q1
    go_enter Tryd.func18, Tryd.ntmps18
    go_wp2
    go_ret
    exact ⟨by rw [HNE.out HE.out]; rfl, kb⟩
set_option maxRecDepth 100000 in
set_option maxHeartbeats 4000000 in
theorem one_3 (v : Value) (hl : a.it.length ≤ 1000000000) (hb0 : 0 ≤ a.b) (hb1 : a.b ≤ 255) (hk : a.k = 3) : Calls Tryd.prog 18 #[acV a v] w (OneR a w) := by
  have kb := acW_below w 3 a.r a.b v (bs a.it) (bs a.tx)
  have qb : Blk (acW w 3 a.r a.b v (bs a.it) (bs a.tx)) w.heap.size 38 #[.int .i64 3, .int .i32 a.r, .int .u8 a.b, v, .string (bs a.it), .string (bs a.tx)] := Blk.new w _ _
  have hcv := byte_str (acW w 3 a.r a.b v (bs a.it) (bs a.tx)) hb0 hb1
  have kb2 : Below w.heap.size w ((acW w 3 a.r a.b v (bs a.it) (bs a.tx)).alloc (.cells #[.int .u8 a.b] 5)) := kb.alloc kb.size _
  have hon := only_ref 32 47 a.it (by omega)
  have HC : Hid (cbt a = (isFin 3 a.b && (btw a.it && (a.it != [] || opens a.b == 0)))) := cbt_3 hk
  have HP : Hid (prnO a = if cbt a = true then [27] ++ a.it ++ [byt a.b] else []) := by show _ = _; unfold prnO; rw [prn_3 hk]; rfl
  unfold OneR acV
  rw [hk]
  generalize prnO a = R at *
  generalize cbt a = Q at *
  generalize a.it = it at *
  generalize bs a.tx = Z at *
  generalize a.r = r at *
  generalize a.b = b at *
  have HNE := Lib.hid (fun (h : R = []) => (by rw [h]; rfl : (Value.string (bs R)) = .string { data := #[] }))
  have HYE := Lib.hid (fun (h : R = [27] ++ it ++ [byt b]) => (by rw [h] : (Value.string (bs R)) = .string (bs ([27] ++ it ++ [byt b]))))
  have HTL : Hid ((bs it).toList = it) := bs_tl it
  have HSX : Hid ((bs it).size = it.length) := bs_size it
  have ha1 : ({ data := #[27] } : ByteArray) ++ bs it = bs ([27] ++ it) := bs_app [27] it
  have ha2 : bs ([27] ++ it) ++ bs [byt b] = bs ([27] ++ it ++ [byt b]) := bs_app _ _
  have s1 : (bs it).size ≤ 1000000000 := by rw [bs_size]; exact hl
  have s2 : (bs ([27] ++ it)).size ≤ 1000000001 := by rw [bs_size, List.length_append]; simp; omega
  have s3 : (bs [byt b]).size ≤ 1 := by rw [bs_size]; simp
  generalize bs ([27] ++ it ++ [byt b]) = E at *
  generalize bs ([27] ++ it) = E1 at *
  generalize bs [byt b] = E2 at *
  generalize bs it = X at *
  obtain ⟨w1, hw1⟩ : ∃ w1, w1 = acW w 3 r b v X Z := ⟨_, rfl⟩
  rw [← hw1] at qb kb kb2 hcv
  have HW : Hid (w.alloc (.cells #[.int .i64 3, .int .i32 r, .int .u8 b, v, .string X, .string Z] 38) = w1) := hw1.symm
  clear hw1 hk
  have c0 : w1.cell? ⟨w.heap.size, 0, none⟩ = some (.int .i64 3) := qb.cell 0
  have c2 : w1.cell? ⟨w.heap.size, 2, none⟩ = some (.int .u8 b) := qb.cell 2
  have c4 : w1.cell? ⟨w.heap.size, 4, none⟩ = some (.string X) := qb.cell 4
  go_enter Tryd.func18, Tryd.ntmps18
  go_upto_region 1 with fail
  rw [HW.out]
  go_upto_region 12 with (go_at_call 34; refine (hon _).mono ?_; rintro e w' ⟨rfl, rfl⟩)
  go_cut [5] (fun s wx => s = .bool (opens b != 0) ∧ w1 = wx)
  case first =>
    clear c0 c2 c4 ha1 ha2 hcv
    have hc : b = 91 ∨ b = 93 ∨ b = 80 ∨ b = 88 ∨ b = 94 ∨ b = 95 ∨ ((b == 91) = false ∧ (b == 93) = false ∧ (b == 80) = false ∧ (b == 88) = false ∧ (b == 94) = false ∧ (b == 95) = false) := by simp; omega
    rcases hc with rfl | rfl | rfl | rfl | rfl | rfl | ⟨h1, h2, h3, h4, h5, h6⟩
    · go_wp2_with fail
      go_meet
      case rel => exact ⟨rfl, rfl⟩
    · go_wp2_with fail
      go_meet
      case rel => exact ⟨rfl, rfl⟩
    · go_wp2_with fail
      go_meet
      case rel => exact ⟨rfl, rfl⟩
    · go_wp2_with fail
      go_meet
      case rel => exact ⟨rfl, rfl⟩
    · go_wp2_with fail
      go_meet
      case rel => exact ⟨rfl, rfl⟩
    · go_wp2_with fail
      go_meet
      case rel => exact ⟨rfl, rfl⟩
    · have HN : Hid ((opens b != 0) = false) := by
        show _ = _
        have e : opens b = 0 := by
          simp at h1 h2 h3 h4 h5 h6
          unfold opens; rw [if_neg h1, if_neg h2, if_neg h3, if_neg (by omega)]
        rw [e]; rfl
      go_wp2_with fail
      go_meet
      case rel => exact ⟨by rw [HN.out], rfl⟩
  case rest =>
    obtain ⟨rfl, rfl⟩ := hcut
    have hob : ∀ q : Nat, (q == 0) = !(q != 0) := fun q => by cases q <;> rfl
    rw [hob] at HC
    have HF : Hid (btw it = (onl 32 47 it && decide (it.length ≤ 2))) := by show _ = _; rfl
    have HFI : Hid (isFin 3 b = (decide (48 ≤ b) && decide (b ≤ 126))) := by
      show _ = _
      unfold isFin
      rw [if_pos rfl]
      congr 2
      simp; omega
    clear hob
    generalize (opens b != 0) = O at *
    generalize onl 32 47 it = F at *
    go_upto_region 13 with fail
    go_cut [119] (fun s wx => s = .bool Q ∧ w1 = wx)
    case first =>
      have hsz := HSX.out
      have htl := HTL.out
      clear c0 c2 ha1 ha2 hcv s1 s2 s3
      cases F with
      | false =>
        have HQ : Hid (Q = false) := by show _ = _; rw [HC.out, HF.out]; simp
        clear hsz htl
        go_wp2_with fail
        go_meet
        case rel => exact ⟨by rw [HQ.out], rfl⟩
      | true =>
        by_cases q1 : it.length ≤ 2
        · have d1 : decide ((X.size : Int) ≤ 2) = true := by rw [hsz]; simp; omega
          by_cases q2 : 48 ≤ b
          · have d2 : decide (48 ≤ b) = true := decide_eq_true q2
            by_cases q3 : b ≤ 126
            · have d3 : decide (b ≤ 126) = true := decide_eq_true q3
              cases it with
              | nil =>
                have x1 : X.toList.isEmpty = true := by rw [htl]; rfl
                have x2 : X.toList = [] := htl
                cases O with
                | false =>
                  have HQ : Hid (Q = true) := by show _ = _; rw [HC.out, HF.out, HFI.out, d2, d3, decide_eq_true q1]; rfl
                  clear hsz htl q1 q2 q3
                  go_wp2_with fail
                  go_meet
                  case rel => exact ⟨by rw [HQ.out], rfl⟩
                | true =>
                  have HQ : Hid (Q = false) := by show _ = _; rw [HC.out, HF.out, HFI.out, d2, d3, decide_eq_true q1]; rfl
                  clear hsz htl q1 q2 q3
                  go_wp2_with fail
                  go_meet
                  case rel => exact ⟨by rw [HQ.out], rfl⟩
              | cons u t =>
                have x1 : X.toList.isEmpty = false := by rw [htl]; rfl
                have x2 : (X.toList == []) = false := by rw [htl]; rfl
                have HQ : Hid (Q = true) := by show _ = _; rw [HC.out, HF.out, HFI.out, d2, d3, decide_eq_true q1]; rfl
                clear hsz htl q1 q2 q3
                go_wp2_with fail
                go_meet
                case rel => exact ⟨by rw [HQ.out], rfl⟩
            · have d3 : decide (b ≤ 126) = false := decide_eq_false q3
              have HQ : Hid (Q = false) := by show _ = _; rw [HC.out, HFI.out, d3]; simp
              clear hsz htl q1 q2 q3
              go_wp2_with fail
              go_meet
              case rel => exact ⟨by rw [HQ.out], rfl⟩
          · have d2 : decide (48 ≤ b) = false := decide_eq_false q2
            have HQ : Hid (Q = false) := by show _ = _; rw [HC.out, HFI.out, d2]; rfl
            clear hsz htl q1 q2
            go_wp2_with fail
            go_meet
            case rel => exact ⟨by rw [HQ.out], rfl⟩
        · have d1 : decide ((X.size : Int) ≤ 2) = false := by rw [hsz]; simp; omega
          have HQ : Hid (Q = false) := by show _ = _; rw [HC.out, HF.out, decide_eq_false q1]; simp
          clear hsz htl q1
          go_wp2_with fail
          go_meet
          case rel => exact ⟨by rw [HQ.out], rfl⟩
    case rest =>
      obtain ⟨rfl, rfl⟩ := hcut
      cases hQ : Q with
      | false =>
        have HR : Hid (R = []) := by show _ = _; rw [HP.out, hQ]; rfl
        clear hQ
        go_wp2_with fail
        go_ret
        exact ⟨by rw [HNE.out HR.out]; rfl, kb⟩
      | true =>
        have HR : Hid (R = [27] ++ it ++ [byt b]) := by show _ = _; rw [HP.out, hQ]; rfl
        clear hQ
        go_wp2_with fail
        go_ret
        exact ⟨by rw [HYE.out HR.out]; rfl, kb2⟩
end
end Go.Proofs.YtmhmbeofcedjjaaDoor.Vt
