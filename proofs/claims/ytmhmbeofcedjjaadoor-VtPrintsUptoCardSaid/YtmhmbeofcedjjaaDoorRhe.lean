/- The walk of the document's own writing of a head. -/
import Derived.Test.YtmhmbeofcedjjaaDoorRon
namespace Go.Proofs.YtmhmbeofcedjjaaDoor.Vt
open Go.RowKit
open Cel (Blk Kept Tabs low Owns At good enc)

/-- Can a head be told, but for its numbers' span? -/
def hd2 (a : Ac) : Bool := onl 32 47 (bare a.it) && (decide ((bare a.it).length ≤ 2) && (decide (64 ≤ a.b) && (decide (a.b ≤ 126) && (decide (a.ps.length ≤ 32) && !(decide (a.ps.length = 1) && (a.ps.headD 0 == -1))))))
def hdo (a : Ac) : Bool := hd2 a && inP a.ps
theorem hdo_head {a : Ac} (hk : a.k ≠ 3) : hdo a = headOf a := by
  unfold hdo hd2 headOf btw arep inP
  rw [fin4 hk, onl_bet]
  have e1 : decide (a.b ≤ 126) = decide (a.b < 127) := by congr 1; simp; omega
  have e2 : (!(decide (a.ps.length = 1) && (a.ps.headD 0 == -1))) = (decide (a.ps.length ≠ 1) || a.ps.headD 0 != -1) := by
    by_cases h : a.ps.length = 1
    · simp [h, bne]
    · simp [h]
  rw [e1, e2]
  generalize decide (64 ≤ a.b) = q1
  generalize decide (a.b < 127) = q2
  generalize decide ((bare a.it).length ≤ 2) = q3
  generalize decide (a.ps.length ≤ 32) = q4
  generalize (decide (a.ps.length ≠ 1) || a.ps.headD 0 != -1) = q5
  generalize ((bare a.it).all fun u => isBet (u.toNat : Int)) = q6
  generalize (a.ps.all fun p => decide (-1 ≤ p) && decide (p ≤ 9999)) = q7
  cases q1 <;> cases q2 <;> cases q3 <;> cases q4 <;> cases q5 <;> cases q6 <;> cases q7 <;> rfl
def Hdd (R : Bool) (RB : Tx) (w : World) (e : Ending) (w' : World) : Prop := e = .returned (.tuple #[.string (bs (if R = true then RB else [])), .bool R]) ∧ Below w.heap.size w w'
def Headed (a : Ac) (w : World) : Ending → World → Prop := Hdd (hdo a) (headB a) w
/-- Is the first byte a mark? -/
def mk0 (l : Tx) : Bool := match l with
  | [] => false
  | u :: _ => isMk (u.toNat : Int)
theorem mk0_no {l : Tx} (h : mk0 l = false) : mark l = [] ∧ bare l = l := by
  cases l with
  | nil => exact ⟨rfl, rfl⟩
  | cons u r =>
    have e : bare (u :: r) = u :: r := by show (if isMk (u.toNat : Int) = true then r else u :: r) = _; rw [if_neg (by rw [show isMk (u.toNat : Int) = false from h]; decide)]
    refine ⟨?_, e⟩
    unfold mark
    rw [e, Nat.sub_self]; rfl
theorem mk0_yes {l : Tx} (h : mk0 l = true) : ∃ u r, l = u :: r ∧ mark l = l.take 1 ∧ bare l = r := by
  cases l with
  | nil => cases h
  | cons u r =>
    have h' : isMk (u.toNat : Int) = true := h
    have eb : bare (u :: r) = r := by show (if isMk (u.toNat : Int) = true then r else u :: r) = r; rw [if_pos h']
    refine ⟨u, r, rfl, ?_, eb⟩
    unfold mark
    rw [eb]
    congr 1
    simp
theorem inP_no' {l : List Int} {k : Nat} (hk : k < l.length) (h : ¬ (-1 ≤ l[k] ∧ l[k] ≤ 9999)) : inP l = false := by
  unfold inP
  rw [List.all_eq_false]
  exact ⟨l[k], List.getElem_mem _, by simpa using h⟩
set_option maxRecDepth 100000 in
set_option maxHeartbeats 4000000 in
theorem head_ref (a : Ac) (A : Option Addr) (c : Nat) (w : World) (h : RdI w A a.ps) (hl : Fitly a) (hb0 : 0 ≤ a.b) (hb1 : a.b ≤ 255) : Calls Tryd.prog 35 #[acV a (.slice A a.ps.length c)] w (Headed a w) := by
  have hbl := bare_le a.it
  have hon := only_ref 32 47 (bare a.it) (by have := hl.1; omega)
  have HH : Hid (hdo a = (hd2 a && inP a.ps)) := by show _ = _; rfl
  have H2 : Hid (hd2 a = (onl 32 47 (bare a.it) && (decide ((bare a.it).length ≤ 2) && (decide (64 ≤ a.b) && (decide (a.b ≤ 126) && (decide (a.ps.length ≤ 32) && !(decide (a.ps.length = 1) && (a.ps.headD 0 == -1)))))))) := by show _ = _; rfl
  have HB : Hid (headB a = mark a.it ++ nums a.ps ++ bare a.it ++ [byt a.b]) := by show _ = _; rfl
  have kb := acW_below w a.k a.r a.b (.slice A a.ps.length c) (bs a.it) (bs a.tx)
  have h1 : RdI (acW w a.k a.r a.b (.slice A a.ps.length c) (bs a.it) (bs a.tx)) A a.ps := h.kept kb
  have qb : Blk (acW w a.k a.r a.b (.slice A a.ps.length c) (bs a.it) (bs a.tx)) w.heap.size 38 #[.int .i64 a.k, .int .i32 a.r, .int .u8 a.b, .slice A a.ps.length c, .string (bs a.it), .string (bs a.tx)] := Blk.new w _ _
  have hz : (acW w a.k a.r a.b (.slice A a.ps.length c) (bs a.it) (bs a.tx)).heap.size = w.heap.size + 1 := by simp
  have hl1 := hl.1
  have hl3 := hl.2.2
  clear hl
  unfold Headed
  unfold acV
  generalize hdo a = R at *
  generalize hd2 a = R2 at *
  generalize headB a = RB at *
  generalize a.it = it at *
  generalize bs a.tx = Z at *
  generalize a.ps = ps at *
  generalize a.k = k1 at *
  generalize a.r = r1 at *
  generalize a.b = b1 at *
  clear h a
  have HSX : Hid ((bs it).size = it.length) := bs_size it
  have HIX := Lib.hid (fun (hk : 0 < it.length) (w : World) => run_index_at w it 0 hk)
  have HST := Lib.hid (fun (hk : 1 ≤ it.length) (w : World) => run_slice_to w it 1 hk)
  have HSF : Hid (∀ u r, it = u :: r → ∀ w : World, (Instr.slice 9 (.string (bs it)) (some (.int .i64 1)) none none).run Tryd.prog w = .ok (.string (bs r)) w) := fun u r e w => e ▸ run_slice_bs w u r
  obtain ⟨X, hX⟩ : ∃ X, X = bs it := ⟨_, rfl⟩
  rw [← hX] at HSX HIX HST HSF qb h1 kb hz ⊢
  have HX := Lib.hid hX
  clear hX
  obtain ⟨w1, hw1⟩ : ∃ w1, w1 = acW w k1 r1 b1 (.slice A ps.length c) X Z := ⟨_, rfl⟩
  rw [← hw1] at qb h1 kb hz
  have HW : Hid (w.alloc (.cells #[.int .i64 k1, .int .i32 r1, .int .u8 b1, .slice A ps.length c, .string X, .string Z] 38) = w1) := hw1.symm
  clear hw1
  have hw0 : w.heap.size < w1.heap.size := by omega
  have c2 : w1.cell? ⟨w.heap.size, 2, none⟩ = some (.int .u8 b1) := qb.cell 2
  have c3 : w1.cell? ⟨w.heap.size, 3, none⟩ = some (.slice A ps.length c) := qb.cell 3
  have c4 : w1.cell? ⟨w.heap.size, 4, none⟩ = some (.string X) := qb.cell 4
  clear hz
  go_enter Tryd.func35, Tryd.ntmps35
  go_upto_region 2 with fail
  rw [HW.out]
  go_upto_region 3 with fail
  go_cut [24] (fun s wx => s = .bool (mk0 it) ∧ w1 = wx)
  case first =>
    have hway : it.length = 0 ∧ mk0 it = false ∨ 0 < it.length ∧ ∃ u : UInt8, (∀ w : World, (Instr.index 9 (.string X) (.int .i64 0)).run Tryd.prog w = .ok (.int .u8 (u.toNat : Int)) w) ∧ mk0 it = isMk (u.toNat : Int) := by
      match it with
      | [] => exact .inl ⟨rfl, rfl⟩
      | u :: r => exact .inr ⟨by simp, u, HIX.out (by simp), rfl⟩
    have hsz := HSX.out
    rcases hway with ⟨h0, hm⟩ | ⟨h0, u, hix, hm⟩
    · have d0 : ¬ 0 < X.size := by omega
      have HM := Lib.hid hm
      clear hm hsz h0
      go_wp2_with fail
      go_meet
      case rel => exact ⟨by rw [HM.out], rfl⟩
    · have d0 : 0 < X.size := by omega
      have HM := Lib.hid hm
      clear hm hsz h0
      by_cases q1 : 60 ≤ (u.toNat : Int)
      · have d1 : decide (60 ≤ (u.toNat : Int)) = true := decide_eq_true q1
        have HU : Hid (isMk (u.toNat : Int) = decide ((u.toNat : Int) ≤ 63)) := by show _ = _; unfold isMk; rw [decide_eq_true q1]; rfl
        clear q1
        generalize (u.toNat : Int) = x at *
        go_wp2_with fail
        go_meet
        case rel => exact ⟨by rw [HM.out, HU.out], rfl⟩
      · have d1 : decide (60 ≤ (u.toNat : Int)) = false := decide_eq_false q1
        have HU : Hid (isMk (u.toNat : Int) = false) := by show _ = _; unfold isMk; rw [decide_eq_false q1]; rfl
        clear q1
        generalize (u.toNat : Int) = x at *
        go_wp2_with fail
        go_meet
        case rel => exact ⟨by rw [HM.out, HU.out], rfl⟩
  case rest =>
    obtain ⟨rfl, rfl⟩ := hcut
    have hway : mk0 it = false ∧ mark it = [] ∧ X = bs (bare it) ∨ mk0 it = true ∧ (∀ w : World, (Instr.slice 9 (.string X) none (some (.int .i64 1)) none).run Tryd.prog w = .ok (.string (bs (mark it))) w) ∧ (∀ w : World, (Instr.slice 9 (.string X) (some (.int .i64 1)) none none).run Tryd.prog w = .ok (.string (bs (bare it))) w) := by
      cases hm : mk0 it with
      | false =>
        obtain ⟨e1, e2⟩ := mk0_no hm
        exact .inl ⟨rfl, e1, by rw [e2]; exact HX.out⟩
      | true =>
        obtain ⟨u, r, e, em, eb⟩ := mk0_yes hm
        exact .inr ⟨rfl, by rw [em]; exact HST.out (by rw [e]; simp), by rw [eb]; exact HSF.out u r e⟩
    have HSY : Hid ((bs (bare it)).size = (bare it).length) := bs_size _
    clear HSF HST HIX HSX c4
    rcases hway with ⟨hm, hmk, rfl⟩ | ⟨hm, hst, hsf⟩
    all_goals
      rw [hm]
      clear hm
      go_upto_region 8 with (go_at_call 34; refine (hon _).mono ?_; rintro e w' ⟨rfl, rfl⟩)
      go_cut [65] (fun s wx => s = .bool (!R2) ∧ w1 = wx)
      case first =>
        have hY := HSY.out
        generalize bs (bare it) = Y at *
        generalize (bare it).length = ny at *
        generalize onl 32 47 (bare it) = F at *
        cases F with
        | false =>
          have HR : Hid (R2 = false) := by show _ = _; rw [H2.out]; rfl
          go_wp2_with fail
          go_meet
          case rel => exact ⟨by rw [HR.out]; rfl, rfl⟩
        | true =>
          by_cases q1 : ny ≤ 2
          · have d1 : decide ((2 : Int) < (Y.size : Int)) = false := by rw [hY]; simp; omega
            by_cases q2 : 64 ≤ b1
            · have d2 : decide (b1 < 64) = false := by simp; omega
              by_cases q3 : b1 ≤ 126
              · have d3 : decide (126 < b1) = false := by simp; omega
                by_cases q4 : ps.length ≤ 32
                · have d4 : decide ((32 : Int) < (ps.length : Int)) = false := by simp; omega
                  by_cases q5 : ps.length = 1
                  · obtain ⟨z, rfl⟩ : ∃ z, ps = [z] := by
                      match ps, q5 with
                      | [z], _ => exact ⟨z, rfl⟩
                    obtain ⟨g, o, rfl, _, hcell⟩ := h1 0 (by simp)
                    have hcell : w1.cell? ⟨g, o, none⟩ = some (.int .i64 z) := hcell
                    have HR : Hid (R2 = !(z == -1)) := by show _ = _; rw [H2.out, decide_eq_true q1, decide_eq_true q2, decide_eq_true q3, decide_eq_true q4, decide_eq_true q5]; rfl
                    clear q1 q2 q3 q4 q5 hY
                    by_cases q6 : z = -1
                    · subst q6
                      go_wp2_with fail
                      go_meet
                      case rel => exact ⟨by rw [HR.out]; rfl, rfl⟩
                    · have d6 : (z == -1) = false := by simpa using q6
                      have HR2 : Hid (R2 = true) := by show _ = _; rw [HR.out, d6]; rfl
                      clear q6
                      go_wp2_with fail
                      go_meet
                      case rel => exact ⟨by rw [HR2.out]; rfl, rfl⟩
                  · have d5 : ((ps.length : Int) == 1) = false := by simp; omega
                    have HR : Hid (R2 = true) := by show _ = _; rw [H2.out, decide_eq_true q1, decide_eq_true q2, decide_eq_true q3, decide_eq_true q4, decide_eq_false q5]; rfl
                    clear q1 q2 q3 q4 q5 hY
                    go_wp2_with fail
                    go_meet
                    case rel => exact ⟨by rw [HR.out]; rfl, rfl⟩
                · have d4 : decide ((32 : Int) < (ps.length : Int)) = true := by simp; omega
                  have HR : Hid (R2 = false) := by show _ = _; rw [H2.out, decide_eq_true q1, decide_eq_true q2, decide_eq_true q3, decide_eq_false q4]; rfl
                  clear q1 q2 q3 q4 hY
                  go_wp2_with fail
                  go_meet
                  case rel => exact ⟨by rw [HR.out]; rfl, rfl⟩
              · have d3 : decide (126 < b1) = true := by simp; omega
                have HR : Hid (R2 = false) := by show _ = _; rw [H2.out, decide_eq_true q1, decide_eq_true q2, decide_eq_false q3]; rfl
                clear q1 q2 q3 hY
                go_wp2_with fail
                go_meet
                case rel => exact ⟨by rw [HR.out]; rfl, rfl⟩
            · have d2 : decide (b1 < 64) = true := by simp; omega
              have HR : Hid (R2 = false) := by show _ = _; rw [H2.out, decide_eq_true q1, decide_eq_false q2]; rfl
              clear q1 q2 hY
              go_wp2_with fail
              go_meet
              case rel => exact ⟨by rw [HR.out]; rfl, rfl⟩
          · have d1 : decide ((2 : Int) < (Y.size : Int)) = true := by rw [hY]; simp; omega
            have HR : Hid (R2 = false) := by show _ = _; rw [H2.out, decide_eq_false q1]; rfl
            clear q1 hY
            go_wp2_with fail
            go_meet
            case rel => exact ⟨by rw [HR.out]; rfl, rfl⟩
      case rest =>
        obtain ⟨rfl, rfl⟩ := hcut
        cases hR2 : R2 with
        | false =>
          have HR : Hid (R = false) := by show _ = _; rw [HH.out, hR2]; rfl
          clear hR2
          go_wp2_with fail
          go_ret2
          exact ⟨by rw [HR.out]; rfl, kb⟩
        | true =>
          have hR2p : (decide (ps.length ≤ 32)) = true := by
            have := H2.out
            rw [hR2] at this
            have := this.symm
            simp only [Bool.and_eq_true] at this
            exact this.2.2.2.2.1
          have hp32 : ps.length ≤ 32 := of_decide_eq_true hR2p
          have HRP : Hid (R = inP ps) := by show _ = _; rw [HH.out, hR2]; rfl
          clear hR2 hR2p
          go_wp2_with fail
          go_loopw [8, 9] (fun s i wr => ∃ k : Nat, k ≤ ps.length ∧ i = .int .i64 k ∧ s = .string (bs (mark it ++ nums (ps.take k))) ∧ inP (ps.take k) = true ∧ Below w1.heap.size w1 wr) (fun _ i _ => ps.length - (intOf i).toNat)
          case atStart =>
            refine ⟨0, Nat.zero_le _, rfl, ?_, rfl, Below.refl _ _⟩
            rw [List.take_zero]
            show _ = Value.string (bs (mark it ++ []))
            rw [List.append_nil]
            try (rw [hmk]; rfl)
          case round =>
            obtain ⟨k, hk, rfl, rfl, hin, hb⟩ := hrel
            have qw := qb.below hb hw0
            have x3 : wr.cell? ⟨w.heap.size, 3, none⟩ = some (.slice A ps.length c) := qw.cell 3
            have x2 : wr.cell? ⟨w.heap.size, 2, none⟩ = some (.int .u8 b1) := qw.cell 2
            have hln := nums_len hin
            have hlk : (ps.take k).length ≤ 32 := by rw [List.length_take]; omega
            have hml : (mark it).length ≤ 1000000000 := by unfold mark; rw [List.length_take]; omega
            by_cases hlt : k < ps.length
            · obtain ⟨g, o, rfl, _, hcell⟩ := (h1.kept hb) k hlt
              have HN := Lib.hid (nums_take hlt)
              have HI := Lib.hid (fun h0 h9 => inP_take hlt hin h0 h9)
              have HF := Lib.hid (fun h => inP_no' hlt h)
              generalize ps[k] = z at *
              by_cases z0 : z < -1
              · have d0 : decide (z < -1) = true := decide_eq_true z0
                have HR : Hid (R = false) := by show _ = _; rw [HRP.out]; exact HF.out (by omega)
                clear z0
                go_wp2_with fail
                go_ret2
                exact ⟨by rw [HR.out]; rfl, kb.trans (hb.mono kb.size)⟩
              by_cases z1 : 9999 < z
              · have d0 : decide (z < -1) = false := decide_eq_false z0
                have d1 : decide (9999 < z) = true := decide_eq_true z1
                have HR : Hid (R = false) := by show _ = _; rw [HRP.out]; exact HF.out (by omega)
                clear z0 z1
                go_wp2_with fail
                go_ret2
                exact ⟨by rw [HR.out]; rfl, kb.trans (hb.mono kb.size)⟩
              have d0 : decide (z < -1) = false := decide_eq_false z0
              have d1 : decide (9999 < z) = false := decide_eq_false z1
              have HIN := Lib.hid (HI.out (by omega) (by omega))
              obtain ⟨L, hL⟩ : ∃ L, L = mark it ++ nums (ps.take k) := ⟨_, rfl⟩
              have hL5 : L.length ≤ 1000000200 := by rw [hL, List.length_append]; omega
              have HN2 : Hid (mark it ++ nums (ps.take (k + 1)) = L ++ (if 0 < k then [59] else []) ++ num1 z) := by show _ = _; rw [HN.out, hL]; simp
              rw [← hL]
              have ha1 : bs L ++ { data := #[59] } = bs (L ++ [59]) := bs_app L [59]
              have s1 : (bs L).size ≤ 1000000200 := by rw [bs_size]; exact hL5
              have s2 : (bs (L ++ [59])).size ≤ 1000000201 := by rw [bs_size, List.length_append]; simp; omega
              have hzc : z = -1 ∨ 0 ≤ z := by omega
              have HZ : Hid (0 ≤ z → num1 z = Lib.decDigits z.toNat) := fun h => by unfold num1 Lib.itoa; rw [if_neg (by omega), if_neg (by omega)]
              have hdl := fun (h : 0 ≤ z) => digits_len 3 z.toNat (by omega)
              have hdr := fun (h : 0 ≤ z) (w : World) => digits_ref z.toNat (by omega) w
              clear hL hin hln hlk HI HF z0 z1
              by_cases h0 : 0 < k
              · have HIF : Hid ((if 0 < k then [59] else []) = ([59] : Tx)) := by show _ = _; rw [if_pos h0]
                rcases hzc with rfl | hz
                · clear hdl hdr
                  go_wp2_with fail
                  go_roundw
                  case rel => exact ⟨k + 1, by omega, by go_num, by rw [HN2.out, HIF.out]; simp [num1], HIN.out, hb⟩
                  case measure => simp [intOf]; omega
                · have hd1 := hdr hz
                  have hd2' := hdl hz
                  rw [show ((z.toNat : Nat) : Int) = z by omega] at hd1
                  have ha2 : bs (L ++ [59]) ++ bs (Lib.decDigits z.toNat) = bs (L ++ [59] ++ Lib.decDigits z.toNat) := bs_app _ _
                  have s3 : (bs (Lib.decDigits z.toNat)).size ≤ 4 := by rw [bs_size]; exact hd2'
                  have HX2 : Hid (bs (L ++ [59] ++ Lib.decDigits z.toNat) = bs (mark it ++ nums (ps.take (k + 1)))) := by show _ = _; rw [HN2.out, HIF.out, HZ.out hz]
                  have d2 : decide (0 ≤ z) = true := decide_eq_true hz
                  clear hdr hdl hd2'
                  generalize bs (L ++ [59] ++ Lib.decDigits z.toNat) = X3 at *
                  generalize bs (L ++ [59]) = X2 at *
                  generalize bs (Lib.decDigits z.toNat) = XD at *
                  go_wp2_with fail
                  refine (hd1 _).mono ?_
                  rintro e w6 ⟨rfl, hb6⟩
                  have hb6' := hb.trans (hb6.mono hb.size)
                  go_wp2_with fail
                  go_roundw
                  case rel =>
                    repeat apply Exists.intro
                    refine ⟨?_, rfl⟩
                    exact ⟨k + 1, by omega, by go_num, by rw [HX2.out], HIN.out, hb6'⟩
                  case measure => simp [intOf]; omega
              · obtain rfl : k = 0 := by omega
                have hcell0 : wr.cell? ⟨g, o, none⟩ = some (.int .i64 z) := hcell
                clear hcell
                have HIF : Hid ((if 0 < 0 then [59] else []) = ([] : Tx)) := by show _ = _; rw [if_neg h0]
                rcases hzc with rfl | hz
                · clear hdl hdr
                  go_wp2_with fail
                  go_roundw
                  case rel => exact ⟨1, by omega, by go_num, by rw [HN2.out, HIF.out]; simp [num1], HIN.out, hb⟩
                  case measure => simp [intOf]; omega
                · have hd1 := hdr hz
                  have hd2' := hdl hz
                  rw [show ((z.toNat : Nat) : Int) = z by omega] at hd1
                  have ha2 : bs L ++ bs (Lib.decDigits z.toNat) = bs (L ++ Lib.decDigits z.toNat) := bs_app _ _
                  have s3 : (bs (Lib.decDigits z.toNat)).size ≤ 4 := by rw [bs_size]; exact hd2'
                  have HX2 : Hid (bs (L ++ Lib.decDigits z.toNat) = bs (mark it ++ nums (ps.take (0 + 1)))) := by show _ = _; rw [HN2.out, HIF.out, HZ.out hz]; simp
                  have d2 : decide (0 ≤ z) = true := decide_eq_true hz
                  clear hdr hdl hd2' ha1
                  generalize bs (L ++ Lib.decDigits z.toNat) = X3 at *
                  generalize bs L = X2 at *
                  generalize bs (Lib.decDigits z.toNat) = XD at *
                  go_wp2_with fail
                  refine (hd1 _).mono ?_
                  rintro e w6 ⟨rfl, hb6⟩
                  have hb6' := hb.trans (hb6.mono hb.size)
                  go_wp2_with fail
                  go_roundw
                  case rel =>
                    repeat apply Exists.intro
                    refine ⟨?_, rfl⟩
                    exact ⟨1, by omega, by go_num, by rw [HX2.out], HIN.out, hb6'⟩
                  case measure => simp [intOf]; omega
            · obtain rfl : k = ps.length := by omega
              have HR : Hid (R = true) := by
                show _ = _
                rw [HRP.out]
                rwa [List.take_of_length_le (Nat.le_refl _)] at hin
              obtain ⟨L, hL⟩ : ∃ L, L = mark it ++ nums (ps.take ps.length) := ⟨_, rfl⟩
              have hL5 : L.length ≤ 1000000200 := by rw [hL, List.length_append]; omega
              have hbl2 : (bare it).length ≤ 1000000000 := by omega
              rw [← hL]
              have HBB : Hid (RB = L ++ bare it ++ [byt b1]) := by show _ = _; rw [HB.out, hL, List.take_of_length_le (Nat.le_refl _)]
              have ha1 : bs L ++ bs (bare it) = bs (L ++ bare it) := bs_app _ _
              have ha2 : bs (L ++ bare it) ++ bs [byt b1] = bs (L ++ bare it ++ [byt b1]) := bs_app _ _
              have s1 : (bs L).size ≤ 1000000200 := by rw [bs_size]; exact hL5
              have s2 : (bs (bare it)).size ≤ 1000000000 := by rw [bs_size]; omega
              have s3 : (bs (L ++ bare it)).size ≤ 2000000200 := by rw [bs_size, List.length_append]; omega
              have s4 : (bs [byt b1]).size ≤ 1 := by rw [bs_size]; simp
              have hcv := byte_str wr hb0 hb1
              have hb7 : Below w1.heap.size w1 (wr.alloc (.cells #[.int .u8 b1] 5)) := hb.alloc hb.size _
              have HXE : Hid (bs (L ++ bare it ++ [byt b1]) = bs RB) := by show _ = _; rw [HBB.out]
              clear hL hin hln hlk
              generalize bs (L ++ bare it ++ [byt b1]) = X4 at *
              generalize bs (L ++ bare it) = X3 at *
              generalize bs [byt b1] = X2 at *
              go_wp2_with fail
              go_ret2
              exact ⟨by rw [HR.out, if_pos rfl, ← HXE.out]; rfl, kb.trans (hb7.mono kb.size)⟩
end Go.Proofs.YtmhmbeofcedjjaaDoor.Vt
