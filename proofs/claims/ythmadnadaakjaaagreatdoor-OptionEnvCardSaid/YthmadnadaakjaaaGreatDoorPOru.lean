/- The chapter's own answer: a letter, a digit, a user option's name. -/
import Derived.Test.YthmadnadaakjaaaGreatDoorPOet
import Derived.Test.YthmadnadaakjaaaGreatDoorPObg
import Derived.Test.YthmadnadaakjaaaGreatDoorPOsp
import Derived.Maps.AppendAt
namespace Go.Proofs.YthmadnadaakjaaaGreatDoor.Opt
open Go.RowKit

def letB (c : Int) : Bool := (decide (97 ≤ c) && decide (c ≤ 122)) || (decide (65 ≤ c) && decide (c ≤ 90))
def digB (c : Int) : Bool := decide (48 ≤ c) && decide (c ≤ 57)
theorem letter_any (c : Int) (w : World) : Calls Tryz.prog 97 #[.int .u8 c] w fun e w' => e = .returned (.bool (letB c)) ∧ w' = w := by
  unfold letB
  by_cases h1 : 97 ≤ c
  · by_cases h2 : c ≤ 122
    · go_enter Tryz.func97, Tryz.ntmps97
      go_wp2
      go_ret
      exact ⟨by simp <;> omega, rfl⟩
    · have h4 : ¬ c ≤ 90 := by omega
      have h3 : 65 ≤ c := by omega
      go_enter Tryz.func97, Tryz.ntmps97
      go_wp2
      go_ret
      exact ⟨by simp <;> omega, rfl⟩
  · by_cases h3 : 65 ≤ c
    · by_cases h4 : c ≤ 90
      · go_enter Tryz.func97, Tryz.ntmps97
        go_wp2
        go_ret
        exact ⟨by simp <;> omega, rfl⟩
      · go_enter Tryz.func97, Tryz.ntmps97
        go_wp2
        go_ret
        exact ⟨by simp <;> omega, rfl⟩
    · go_enter Tryz.func97, Tryz.ntmps97
      go_wp2
      go_ret
      exact ⟨by simp <;> omega, rfl⟩
theorem digit_any (c : Int) (w : World) : Calls Tryz.prog 98 #[.int .u8 c] w fun e w' => e = .returned (.bool (digB c)) ∧ w' = w := by
  unfold digB
  by_cases h1 : 48 ≤ c
  · by_cases h2 : c ≤ 57
    · go_enter Tryz.func98, Tryz.ntmps98
      go_wp2
      go_ret
      exact ⟨by simp <;> omega, rfl⟩
    · go_enter Tryz.func98, Tryz.ntmps98
      go_wp2
      go_ret
      exact ⟨by simp <;> omega, rfl⟩
  · go_enter Tryz.func98, Tryz.ntmps98
    go_wp2
    go_ret
    exact ⟨by simp <;> omega, rfl⟩

def okC (b : UInt8) : Bool := letB b.toNat || (digB b.toNat || (((b.toNat : Int) == 45) || ((b.toNat : Int) == 95)))
def userR (l : Tx) : Bool := decide (2 ≤ l.length) && (decide (l.length ≤ 64) && (((l.headD 0).toNat : Int) == 64 && (l.drop 1).all okC))
def Fine (l : Tx) (k : Nat) : Prop := ∀ j (h : j < l.length), 1 ≤ j → j < k → okC l[j] = true
theorem userR_yes {l : Tx} (h2 : 2 ≤ l.length) (h6 : l.length ≤ 64) (h0 : ((l.headD 0).toNat : Int) == 64) (hf : Fine l l.length) : userR l = true := by
  unfold userR
  simp only [h2, h6, h0, decide_true, Bool.true_and, List.all_eq_true]
  intro x hx
  obtain ⟨j, hj, rfl⟩ := List.mem_iff_getElem.1 hx
  rw [List.length_drop] at hj
  rw [List.getElem_drop]
  exact hf _ (by omega) (by omega) (by omega)
theorem userR_no {l : Tx} {j : Nat} (h : j < l.length) (h1 : 1 ≤ j) (hb : okC l[j] = false) : userR l = false := by
  unfold userR
  have : (l.drop 1).all okC = false := by
    rw [List.all_eq_false]
    refine ⟨l[j], ?_, by rw [hb]; simp⟩
    rw [List.mem_iff_getElem]
    refine ⟨j - 1, by rw [List.length_drop]; omega, ?_⟩
    rw [List.getElem_drop]
    congr 1
    omega
  rw [this]
  simp
set_option maxRecDepth 100000 in
set_option maxHeartbeats 2000000 in
theorem userRef_any (l : Tx) (hs : l.length ≤ 140737488355328) (w : World) :
    Calls Tryz.prog 77 #[.string (bs l)] w fun e w' => e = .returned (.bool (userR l)) ∧ w' = w := by
  obtain ⟨R, hR⟩ : ∃ R, R = userR l := ⟨_, rfl⟩
  rw [← hR]
  have HR := Lib.hid hR
  clear hR
  obtain ⟨S, hS⟩ : ∃ S, S = bs l := ⟨_, rfl⟩
  rw [← hS]
  have hsz : S.size = l.length := by rw [hS, bs_size]
  have HL := Lib.hid (show ∀ k (h : k < l.length) (h2 : k < S.size), S[k]'h2 = l[k] by intro k h h2; subst hS; rfl)
  clear hS
  by_cases h2 : 2 ≤ l.length
  · by_cases h6 : l.length ≤ 64
    · have h0 : S[0]'(by omega) = l.headD 0 := by
        rw [HL.out 0 (by omega) (by omega)]
        cases l with
        | nil => simp at h2
        | cons a r => rfl
      cases h0b : ((l.headD 0).toNat : Int) == 64 with
      | false =>
        have hv : R = false := by rw [HR.out]; unfold userR; rw [h0b]; simp
        have h0c : (((S[0]'(by omega)).toNat : Int) != 64) = true := by rw [h0, bne, h0b]; rfl
        clear h0b h0 HR
        subst hv
        go_enter Tryz.func77, Tryz.ntmps77
        go_wp2
        go_ret
        exact ⟨rfl, rfl⟩
      | true =>
        have h0c : (((S[0]'(by omega)).toNat : Int) != 64) = false := by rw [h0, bne, h0b]; rfl
        have HY := Lib.hid (show Fine l l.length → R = true from fun hf => by rw [HR.out]; exact userR_yes h2 h6 h0b hf)
        have HN := Lib.hid (show ∀ j (h : j < l.length), 1 ≤ j → okC l[j] = false → R = false from fun j h h1 hb => by rw [HR.out]; exact userR_no h h1 hb)
        clear h0b h0 HR
        go_enter Tryz.func77, Tryz.ntmps77
        go_wp2
        go_loop [3] (fun i => ∃ k : Nat, 1 ≤ k ∧ k ≤ l.length ∧ i = .int .i64 (k : Int) ∧ Hid (Fine l k)) (fun i => l.length - (intOf i).toNat)
        case atStart => exact ⟨1, by omega, by omega, rfl, fun j h h1 h2 => by omega⟩
        case round =>
          obtain ⟨k, hk1, hk, rfl, hf⟩ := hrel
          by_cases hlt : k < l.length
          · have hSk : k < S.size := by omega
            have hch := HL.out k hlt hSk
            have HOK := Lib.hid (show okC l[k] = (letB (S[k]'hSk).toNat || (digB (S[k]'hSk).toNat || ((((S[k]'hSk).toNat : Int) == 45) || (((S[k]'hSk).toNat : Int) == 95)))) by rw [hch]; rfl)
            have HN2 := Lib.hid (HN.out k hlt hk1)
            clear hch
            go_wp2_with fail
            refine (letter_any _ _).mono ?_
            rintro e w1 ⟨rfl, rfl⟩
            go_wp2_with fail
            refine (digit_any _ _).mono ?_
            rintro e w1 ⟨rfl, rfl⟩
            generalize letB (S[k]'hSk).toNat = b1 at HOK ⊢
            generalize digB (S[k]'hSk).toNat = b2 at HOK ⊢
            have HF1 := Lib.hid (show okC l[k] = true → Fine l (k + 1) from fun hb j h h1 h2 => by
              by_cases hj : j < k
              · exact hf.out j h h1 hj
              · obtain rfl : j = k := by omega
                exact hb)
            generalize okC l[k] = b0 at HOK HN2 HF1
            cases b1 with
            | true =>
              have hq := HF1.out (by rw [HOK.out]; rfl)
              go_wp2_with fail
              go_round
              case rel => exact ⟨k + 1, by omega, by omega, by go_num, hq⟩
              case measure => simp [intOf]; omega
            | false => cases b2 with
              | true =>
                have hq := HF1.out (by rw [HOK.out]; rfl)
                go_wp2_with fail
                go_round
                case rel => exact ⟨k + 1, by omega, by omega, by go_num, hq⟩
                case measure => simp [intOf]; omega
              | false => cases h45 : (((S[k]'hSk).toNat : Int) == 45) with
                | true =>
                  have hq := HF1.out (by rw [HOK.out, h45]; rfl)
                  have h45b : (((S[k]'hSk).toNat : Int) != 45) = false := by rw [bne, h45]; rfl
                  clear h45
                  go_wp2_with fail
                  go_round
                  case rel => exact ⟨k + 1, by omega, by omega, by go_num, hq⟩
                  case measure => simp [intOf]; omega
                | false =>
                  have h45b : (((S[k]'hSk).toNat : Int) != 45) = true := by rw [bne, h45]; rfl
                  cases h95 : (((S[k]'hSk).toNat : Int) == 95) with
                  | true =>
                    have hq := HF1.out (by rw [HOK.out, h95]; simp)
                    have h95b : (((S[k]'hSk).toNat : Int) != 95) = false := by rw [bne, h95]; rfl
                    clear h95 h45
                    go_wp2_with fail
                    go_round
                    case rel => exact ⟨k + 1, by omega, by omega, by go_num, hq⟩
                    case measure => simp [intOf]; omega
                  | false =>
                    have h95b : (((S[k]'hSk).toNat : Int) != 95) = true := by rw [bne, h95]; rfl
                    have hv := HN2.out (by rw [HOK.out, h45, h95]; rfl)
                    clear h95 h45
                    subst hv
                    go_wp2_with fail
                    go_ret
                    exact ⟨rfl, rfl⟩
          · obtain rfl : k = l.length := by omega
            have hv := HY.out hf.out
            subst hv
            go_wp2
            go_ret
            exact ⟨rfl, rfl⟩
    · have hv : R = false := by rw [HR.out]; unfold userR; simp [h6]
      subst hv
      go_enter Tryz.func77, Tryz.ntmps77
      go_wp2
      go_ret
      exact ⟨rfl, rfl⟩
  · have hv : R = false := by rw [HR.out]; unfold userR; simp [h2]
    subst hv
    go_enter Tryz.func77, Tryz.ntmps77
    go_wp2
    go_ret
    exact ⟨rfl, rfl⟩
end Go.Proofs.YthmadnadaakjaaaGreatDoor.Opt
/- The chapter's own answer: what stands ahead of an item's bracket. -/
namespace Go.Proofs.YthmadnadaakjaaaGreatDoor.Opt
open Go.RowKit

/-- Of a text: what stands ahead of its last bracket and the number in it; or all of it, and −1. -/
def ItemOk (l : Tx) (r : Tx × Int) : Prop :=
  (0 ≤ r.2 ∧ r.2 < 1000 ∧ l = itemP r.1 r.2) ∨ (r = (l, -1) ∧ ∀ a n, 0 ≤ n → n < 1000 → l ≠ itemP a n)
def digU (b : UInt8) : Bool := digB b.toNat
/-- What digits say. -/
def valD (d : Tx) : Int := d.foldl (fun v b => 10 * v + ((b.toNat : Int) - 48)) 0
/-- Digits as a number's: one to three, none but a lone nought ahead. -/
def numD (d : Tx) : Bool := d.all digU && (decide (1 ≤ d.length) && (decide (d.length ≤ 3) && (!(decide (1 < d.length) && ((d.headD 0).toNat : Int) == 48))))
theorem numD_itoa : ∀ n : Fin 1000, numD (Lib.itoa ((n.val : Nat) : Int)) = true ∧ valD (Lib.itoa ((n.val : Nat) : Int)) = ((n.val : Nat) : Int) := by decide +kernel
theorem dig_form {b : UInt8} (h : digU b = true) : ∃ k : Fin 10, b = UInt8.ofNat (48 + k.val) := by
  unfold digU digB at h
  simp only [Bool.and_eq_true, decide_eq_true_eq] at h
  refine ⟨⟨b.toNat - 48, by omega⟩, ?_⟩
  apply UInt8.toNat_inj.1
  show b.toNat = _
  rw [UInt8.toNat_ofNat']
  have : b.toNat < 256 := UInt8.toNat_lt _
  show b.toNat = (48 + (b.toNat - 48)) % 256
  omega
theorem itoa_one : ∀ x : Fin 10, numD [UInt8.ofNat (48 + x.val)] = true → Lib.itoa (valD [UInt8.ofNat (48 + x.val)]) = [UInt8.ofNat (48 + x.val)] := by decide +kernel
theorem itoa_two : ∀ x y : Fin 10, numD [UInt8.ofNat (48 + x.val), UInt8.ofNat (48 + y.val)] = true → Lib.itoa (valD [UInt8.ofNat (48 + x.val), UInt8.ofNat (48 + y.val)]) = [UInt8.ofNat (48 + x.val), UInt8.ofNat (48 + y.val)] := by decide +kernel
theorem itoa_three : ∀ x y z : Fin 10, numD [UInt8.ofNat (48 + x.val), UInt8.ofNat (48 + y.val), UInt8.ofNat (48 + z.val)] = true → Lib.itoa (valD [UInt8.ofNat (48 + x.val), UInt8.ofNat (48 + y.val), UInt8.ofNat (48 + z.val)]) = [UInt8.ofNat (48 + x.val), UInt8.ofNat (48 + y.val), UInt8.ofNat (48 + z.val)] := by decide +kernel
theorem digU_val {b : UInt8} (h : digU b = true) : 48 ≤ (b.toNat : Int) ∧ (b.toNat : Int) ≤ 57 := by
  unfold digU digB at h
  simpa only [Bool.and_eq_true, decide_eq_true_eq] using h
theorem numD_val {d : Tx} (h : numD d = true) : 0 ≤ valD d ∧ valD d < 1000 ∧ Lib.itoa (valD d) = d := by
  have h0 := h
  unfold numD at h
  simp only [Bool.and_eq_true, decide_eq_true_eq] at h
  obtain ⟨ha, h1, h3, -⟩ := h
  match d, ha, h1, h3, h0 with
  | [], _, h1, _, _ => simp at h1
  | [x], ha, _, _, h0 =>
    simp only [List.all_cons, Bool.and_eq_true] at ha
    have hx := digU_val ha.1
    obtain ⟨k, rfl⟩ := dig_form ha.1
    refine ⟨?_, ?_, itoa_one k h0⟩ <;> simp only [valD, List.foldl] <;> omega
  | [x, y], ha, _, _, h0 =>
    simp only [List.all_cons, Bool.and_eq_true] at ha
    have hx := digU_val ha.1
    have hy := digU_val ha.2.1
    obtain ⟨k, rfl⟩ := dig_form ha.1
    obtain ⟨m, rfl⟩ := dig_form ha.2.1
    refine ⟨?_, ?_, itoa_two k m h0⟩ <;> simp only [valD, List.foldl] <;> omega
  | [x, y, z], ha, _, _, h0 =>
    simp only [List.all_cons, Bool.and_eq_true] at ha
    have hx := digU_val ha.1
    have hy := digU_val ha.2.1
    have hz := digU_val ha.2.2.1
    obtain ⟨k, rfl⟩ := dig_form ha.1
    obtain ⟨m, rfl⟩ := dig_form ha.2.1
    obtain ⟨p, rfl⟩ := dig_form ha.2.2.1
    refine ⟨?_, ?_, itoa_three k m p h0⟩ <;> simp only [valD, List.foldl] <;> omega
  | _ :: _ :: _ :: _ :: _, _, _, h3, _ => simp at h3
/-- Every item's name: a text, a bracket, digits, a bracket. -/
theorem item_form {l a : Tx} {n : Int} (h0 : 0 ≤ n) (h1 : n < 1000) (h : l = itemP a n) : ∃ d, l = a ++ 91 :: (d ++ [93]) ∧ numD d = true ∧ valD d = n := by
  obtain ⟨m, rfl⟩ := Int.eq_ofNat_of_zero_le h0
  have := numD_itoa ⟨m, by omega⟩
  exact ⟨Lib.itoa m, by rw [h]; simp [itemP], this.1, this.2⟩
theorem item_of {l a d : Tx} (h : l = a ++ 91 :: (d ++ [93])) (hd : numD d = true) : 0 ≤ valD d ∧ valD d < 1000 ∧ l = itemP a (valD d) := by
  obtain ⟨h1, h2, h3⟩ := numD_val hd
  exact ⟨h1, h2, by rw [h, itemP, h3]; simp⟩
end Go.Proofs.YthmadnadaakjaaaGreatDoor.Opt
/- The chapter's Item walked. -/
namespace Go.Proofs.YthmadnadaakjaaaGreatDoor.Opt
open Go.RowKit

def Digs (l : Tx) (m : Nat) : Prop := ∀ j (h : j < l.length), m ≤ j → j + 1 < l.length → digU l[j] = true
theorem digU_91 : digU 91 = false := by decide
/-- Where the bracket stands. -/
theorem item_at {l a d : Tx} {k : Nat} (h : l = a ++ 91 :: (d ++ [93])) (hd : d.all digU = true) (hk : k + 1 < l.length) (hD : Digs l (k + 1)) (hn : digU (l[k]'(by omega)) = false) : a.length = k ∧ d = (l.take (l.length - 1)).drop (k + 1) := by
  have hlen : l.length = a.length + d.length + 2 := by rw [h]; simp; omega
  have hp : ∀ (hh : a.length < l.length), l[a.length] = 91 := by subst h; intro hh; simp
  have hda : ∀ (j : Nat) (hh : a.length + 1 + j < l.length) (hj : j < d.length), l[a.length + 1 + j] = d[j] := by
    intro j hh hj
    subst h
    rw [List.getElem_append_right (by omega)]
    have e : a.length + 1 + j - a.length = j + 1 := by omega
    simp only [e, List.getElem_cons_succ]
    rw [List.getElem_append_left hj]
  have hka : a.length = k := by
    rcases Nat.lt_trichotomy a.length k with hlt | he | hgt
    · have h2 := hda (k - a.length - 1) (by omega) (by omega)
      have e : a.length + 1 + (k - a.length - 1) = k := by omega
      simp only [e] at h2
      rw [h2, List.all_eq_true.1 hd _ (List.getElem_mem _)] at hn
      cases hn
    · exact he
    · have h2 := hD a.length (by omega) (by omega) (by omega)
      rw [hp, digU_91] at h2
      cases h2
  refine ⟨hka, ?_⟩
  subst hka
  have e1 : l.length - 1 = a.length + (1 + d.length) := by omega
  rw [e1]
  subst h
  rw [List.take_length_add_append, List.drop_length_add_append, Nat.add_comm 1, List.take_succ_cons]
  simp
theorem parts_of {l : Tx} {k : Nat} (hk : k + 1 < l.length) (h91 : l[k]'(by omega) = 91) (h93 : l[l.length - 1]'(by omega) = 93) : l = l.take k ++ 91 :: ((l.take (l.length - 1)).drop (k + 1) ++ [93]) := by
  have e1 : l = l.take (l.length - 1) ++ [93] := by
    conv => lhs; rw [← List.take_append_drop (l.length - 1) l]
    congr 1
    rw [List.drop_eq_getElem_cons (by omega), h93]
    congr 1
    rw [List.drop_eq_nil_iff]
    omega
  have e2 : l.take (l.length - 1) = l.take k ++ 91 :: (l.take (l.length - 1)).drop (k + 1) := by
    conv => lhs; rw [← List.take_append_drop k (l.take (l.length - 1))]
    rw [List.take_take, Nat.min_eq_left (by omega)]
    congr 1
    rw [List.drop_eq_getElem_cons (by rw [List.length_take]; omega), List.getElem_take, h91]
  conv => lhs; rw [e1, e2]
  simp
theorem digs_all {l : Tx} {k : Nat} (hD : Digs l (k + 1)) : ((l.take (l.length - 1)).drop (k + 1)).all digU = true := by
  rw [List.all_eq_true]
  intro x hx
  obtain ⟨j, hj, rfl⟩ := List.mem_iff_getElem.1 hx
  rw [List.length_drop, List.length_take] at hj
  rw [List.getElem_drop, List.getElem_take]
  exact hD _ (by omega) (by omega) (by omega)
theorem no_short {l : Tx} (h : l.length < 3) : ItemOk l (l, -1) := .inr ⟨rfl, fun a n h0 h1 he => by
  obtain ⟨d, hd, hn, -⟩ := item_form h0 h1 he
  have := congrArg List.length hd
  unfold numD at hn
  simp only [Bool.and_eq_true, decide_eq_true_eq] at hn
  have := hn.2.1
  simp at *
  omega⟩
theorem no_last {l : Tx} (h : 3 ≤ l.length) (hb : l[l.length - 1]'(by omega) ≠ 93) : ItemOk l (l, -1) := .inr ⟨rfl, fun a n h0 h1 he => by
  obtain ⟨d, hd, hn, -⟩ := item_form h0 h1 he
  apply hb
  have e : l = (a ++ 91 :: d) ++ [93] := by rw [hd]; simp
  have hl : l.length - 1 = (a ++ 91 :: d).length := by
    have := congrArg List.length e
    rw [List.length_append] at this
    rw [this]; rfl
  have h3 : ∀ k (hk : k < l.length), k = (a ++ 91 :: d).length → l[k] = 93 := by
    intro k hk hke
    subst hke
    have h4 : l[(a ++ 91 :: d).length]? = some 93 := by
      conv => lhs; rw [e]
      rw [List.getElem?_append_right (Nat.le_refl _)]; simp
    rw [List.getElem?_eq_getElem hk] at h4
    exact Option.some.inj h4
  exact h3 _ (by omega) hl⟩
theorem no_all {l : Tx} (hD : Digs l 0) : ItemOk l (l, -1) := .inr ⟨rfl, fun a n h0 h1 he => by
  obtain ⟨d, hd, hn, -⟩ := item_form h0 h1 he
  have hlen : l.length = a.length + d.length + 2 := by rw [hd]; simp; omega
  have hp : ∀ (hh : a.length < l.length), l[a.length] = 91 := by subst hd; intro hh; simp
  have h2 := hD a.length (by omega) (by omega) (by omega)
  rw [hp, digU_91] at h2
  cases h2⟩
theorem no_num {l : Tx} {k : Nat} (hk : k + 1 < l.length) (hD : Digs l (k + 1)) (hn : digU (l[k]'(by omega)) = false) (hno : l[k]'(by omega) ≠ 91 ∨ numD ((l.take (l.length - 1)).drop (k + 1)) = false) : ItemOk l (l, -1) := .inr ⟨rfl, fun a n h0 h1 he => by
  obtain ⟨d, hd, hnn, -⟩ := item_form h0 h1 he
  have hda : d.all digU = true := by
    have := hnn
    unfold numD at this
    simp only [Bool.and_eq_true] at this
    exact this.1
  obtain ⟨e1, e2⟩ := item_at hd hda hk hD hn
  rcases hno with h | h
  · have hp : ∀ (hh : a.length < l.length), l[a.length] = 91 := by subst hd; intro hh; simp
    subst e1
    exact h (hp _)
  · rw [← e2, hnn] at h
    cases h⟩
theorem yes_num {l : Tx} {k : Nat} (hk : k + 1 < l.length) (h91 : l[k]'(by omega) = 91) (h93 : l[l.length - 1]'(by omega) = 93) (hd : numD ((l.take (l.length - 1)).drop (k + 1)) = true) : ItemOk l (l.take k, valD ((l.take (l.length - 1)).drop (k + 1))) :=
  .inl (item_of (parts_of hk h91 h93) hd)
theorem valD_next (d : Tx) (k : Nat) (h : k < d.length) : valD (d.take (k + 1)) = 10 * valD (d.take k) + ((d[k].toNat : Int) - 48) := by
  unfold valD
  rw [List.take_succ_eq_append_getElem h, List.foldl_append]
  rfl
theorem valD_small (d : Tx) (h : d.all digU = true) (hl : d.length ≤ 3) : 0 ≤ valD d ∧ valD d < 1000 := by
  match d, h, hl with
  | [], _, _ => exact ⟨by decide, by decide⟩
  | [x], ha, _ =>
    simp only [List.all_cons, Bool.and_eq_true] at ha
    have hx := digU_val ha.1
    constructor <;> simp only [valD, List.foldl] <;> omega
  | [x, y], ha, _ =>
    simp only [List.all_cons, Bool.and_eq_true] at ha
    have hx := digU_val ha.1
    have hy := digU_val ha.2.1
    constructor <;> simp only [valD, List.foldl] <;> omega
  | [x, y, z], ha, _ =>
    simp only [List.all_cons, Bool.and_eq_true] at ha
    have hx := digU_val ha.1
    have hy := digU_val ha.2.1
    have hz := digU_val ha.2.2.1
    constructor <;> simp only [valD, List.foldl] <;> omega
  | _ :: _ :: _ :: _ :: _, _, h3 => simp at h3
theorem all_take {d : Tx} (h : d.all digU = true) (k : Nat) : (d.take k).all digU = true := by
  rw [List.all_eq_true] at h ⊢
  exact fun x hx => h x (List.mem_of_mem_take hx)
end Go.Proofs.YthmadnadaakjaaaGreatDoor.Opt
/- The chapter's own table. -/
namespace Go.Proofs.YthmadnadaakjaaaGreatDoor.Opt
open Go.RowKit Go.Shelf

structure RowD where
  name : Tx
  scope : Int
  kind : Tx
  first : Tx
  more : Tx
deriving DecidableEq
def rowL (o : RowD) : List Value := [.string (bs o.name), .int .i64 o.scope, .string (bs o.kind), .string (bs o.first), .string (bs o.more)]
def refL : List RowD := [
  ⟨[98, 117, 102, 102, 101, 114, 45, 108, 105, 109, 105, 116], 1, [110, 117, 109, 98, 101, 114], [50, 48], [49, 32, 50, 48]⟩,
  ⟨[99, 111, 109, 109, 97, 110, 100, 45, 97, 108, 105, 97, 115], 1, [97, 114, 114, 97, 121], [], []⟩,
  ⟨[100, 101, 102, 97, 117, 108, 116, 45, 116, 101, 114, 109, 105, 110, 97, 108], 1, [115, 116, 114, 105, 110, 103], [115, 99, 114, 101, 101, 110], []⟩,
  ⟨[101, 115, 99, 97, 112, 101, 45, 116, 105, 109, 101], 1, [110, 117, 109, 98, 101, 114], [53, 48, 48], [48, 32, 49, 48, 48, 48, 48]⟩,
  ⟨[101, 120, 105, 116, 45, 101, 109, 112, 116, 121], 1, [102, 108, 97, 103], [111, 110], []⟩,
  ⟨[101, 120, 105, 116, 45, 117, 110, 97, 116, 116, 97, 99, 104, 101, 100], 1, [102, 108, 97, 103], [111, 102, 102], []⟩,
  ⟨[102, 111, 99, 117, 115, 45, 101, 118, 101, 110, 116, 115], 1, [102, 108, 97, 103], [111, 102, 102], []⟩,
  ⟨[109, 101, 115, 115, 97, 103, 101, 45, 108, 105, 109, 105, 116], 1, [110, 117, 109, 98, 101, 114], [49, 48, 48], [48, 32, 49, 48, 48, 48]⟩,
  ⟨[115, 101, 116, 45, 99, 108, 105, 112, 98, 111, 97, 114, 100], 1, [99, 104, 111, 105, 99, 101], [101, 120, 116, 101, 114, 110, 97, 108], [111, 102, 102, 32, 101, 120, 116, 101, 114, 110, 97, 108, 32, 111, 110]⟩,
  ⟨[117, 115, 101, 114, 45, 107, 101, 121, 115], 1, [97, 114, 114, 97, 121], [], []⟩,
  ⟨[98, 97, 115, 101, 45, 105, 110, 100, 101, 120], 2, [110, 117, 109, 98, 101, 114], [48], [48, 32, 57, 57, 57, 57]⟩,
  ⟨[100, 101, 102, 97, 117, 108, 116, 45, 99, 111, 109, 109, 97, 110, 100], 2, [115, 116, 114, 105, 110, 103], [], []⟩,
  ⟨[100, 101, 102, 97, 117, 108, 116, 45, 115, 104, 101, 108, 108], 2, [115, 116, 114, 105, 110, 103], [47, 98, 105, 110, 47, 115, 104], []⟩,
  ⟨[100, 101, 115, 116, 114, 111, 121, 45, 117, 110, 97, 116, 116, 97, 99, 104, 101, 100], 2, [102, 108, 97, 103], [111, 102, 102], []⟩,
  ⟨[100, 101, 116, 97, 99, 104, 45, 111, 110, 45, 100, 101, 115, 116, 114, 111, 121], 2, [102, 108, 97, 103], [111, 110], []⟩,
  ⟨[100, 105, 115, 112, 108, 97, 121, 45, 116, 105, 109, 101], 2, [110, 117, 109, 98, 101, 114], [55, 53, 48], [48, 32, 49, 48, 48, 48, 48, 48]⟩,
  ⟨[104, 105, 115, 116, 111, 114, 121, 45, 108, 105, 109, 105, 116], 2, [110, 117, 109, 98, 101, 114], [50, 48, 48, 48], [48, 32, 50, 48, 48, 48]⟩,
  ⟨[107, 101, 121, 45, 116, 97, 98, 108, 101], 2, [115, 116, 114, 105, 110, 103], [114, 111, 111, 116], []⟩,
  ⟨[109, 101, 115, 115, 97, 103, 101, 45, 115, 116, 121, 108, 101], 2, [115, 116, 121, 108, 101], [102, 103, 61, 98, 108, 97, 99, 107, 44, 98, 103, 61, 121, 101, 108, 108, 111, 119], []⟩,
  ⟨[109, 111, 117, 115, 101], 2, [102, 108, 97, 103], [111, 102, 102], []⟩,
  ⟨[112, 114, 101, 102, 105, 120], 2, [115, 116, 114, 105, 110, 103], [67, 45, 98], []⟩,
  ⟨[112, 114, 101, 102, 105, 120, 50], 2, [115, 116, 114, 105, 110, 103], [78, 111, 110, 101], []⟩,
  ⟨[114, 101, 110, 117, 109, 98, 101, 114, 45, 119, 105, 110, 100, 111, 119, 115], 2, [102, 108, 97, 103], [111, 102, 102], []⟩,
  ⟨[114, 101, 112, 101, 97, 116, 45, 116, 105, 109, 101], 2, [110, 117, 109, 98, 101, 114], [53, 48, 48], [48, 32, 49, 48, 48, 48, 48]⟩,
  ⟨[115, 101, 116, 45, 116, 105, 116, 108, 101, 115], 2, [102, 108, 97, 103], [111, 102, 102], []⟩,
  ⟨[115, 101, 116, 45, 116, 105, 116, 108, 101, 115, 45, 115, 116, 114, 105, 110, 103], 2, [115, 116, 114, 105, 110, 103], [35, 83, 58, 35, 73, 58, 35, 87], []⟩,
  ⟨[115, 116, 97, 116, 117, 115], 2, [102, 108, 97, 103], [111, 110], []⟩,
  ⟨[115, 116, 97, 116, 117, 115, 45, 105, 110, 116, 101, 114, 118, 97, 108], 2, [110, 117, 109, 98, 101, 114], [49, 53], [48, 32, 51, 54, 48, 48]⟩,
  ⟨[115, 116, 97, 116, 117, 115, 45, 106, 117, 115, 116, 105, 102, 121], 2, [99, 104, 111, 105, 99, 101], [108, 101, 102, 116], [108, 101, 102, 116, 32, 99, 101, 110, 116, 114, 101, 32, 114, 105, 103, 104, 116]⟩,
  ⟨[115, 116, 97, 116, 117, 115, 45, 107, 101, 121, 115], 2, [99, 104, 111, 105, 99, 101], [101, 109, 97, 99, 115], [101, 109, 97, 99, 115, 32, 118, 105]⟩,
  ⟨[115, 116, 97, 116, 117, 115, 45, 108, 101, 102, 116], 2, [115, 116, 114, 105, 110, 103], [91, 35, 83, 93, 32], []⟩,
  ⟨[115, 116, 97, 116, 117, 115, 45, 108, 101, 102, 116, 45, 108, 101, 110, 103, 116, 104], 2, [110, 117, 109, 98, 101, 114], [49, 48], [48, 32, 50, 53, 48]⟩,
  ⟨[115, 116, 97, 116, 117, 115, 45, 112, 111, 115, 105, 116, 105, 111, 110], 2, [99, 104, 111, 105, 99, 101], [98, 111, 116, 116, 111, 109], [116, 111, 112, 32, 98, 111, 116, 116, 111, 109]⟩,
  ⟨[115, 116, 97, 116, 117, 115, 45, 114, 105, 103, 104, 116], 2, [115, 116, 114, 105, 110, 103], [32, 35, 84], []⟩,
  ⟨[115, 116, 97, 116, 117, 115, 45, 114, 105, 103, 104, 116, 45, 108, 101, 110, 103, 116, 104], 2, [110, 117, 109, 98, 101, 114], [52, 48], [48, 32, 50, 53, 48]⟩,
  ⟨[115, 116, 97, 116, 117, 115, 45, 115, 116, 121, 108, 101], 2, [115, 116, 121, 108, 101], [102, 103, 61, 98, 108, 97, 99, 107, 44, 98, 103, 61, 103, 114, 101, 101, 110], []⟩,
  ⟨[117, 112, 100, 97, 116, 101, 45, 101, 110, 118, 105, 114, 111, 110, 109, 101, 110, 116], 2, [97, 114, 114, 97, 121], [68, 73, 83, 80, 76, 65, 89, 44, 83, 83, 72, 95, 65, 71, 69, 78, 84, 95, 80, 73, 68], []⟩,
  ⟨[119, 111, 114, 100, 45, 115, 101, 112, 97, 114, 97, 116, 111, 114, 115], 2, [115, 116, 114, 105, 110, 103], [32, 45, 95, 64], []⟩,
  ⟨[97, 103, 103, 114, 101, 115, 115, 105, 118, 101, 45, 114, 101, 115, 105, 122, 101], 3, [102, 108, 97, 103], [111, 102, 102], []⟩,
  ⟨[97, 108, 108, 111, 119, 45, 114, 101, 110, 97, 109, 101], 3, [102, 108, 97, 103], [111, 110], []⟩,
  ⟨[97, 117, 116, 111, 109, 97, 116, 105, 99, 45, 114, 101, 110, 97, 109, 101], 3, [102, 108, 97, 103], [111, 102, 102], []⟩,
  ⟨[109, 97, 105, 110, 45, 112, 97, 110, 101, 45, 104, 101, 105, 103, 104, 116], 3, [110, 117, 109, 98, 101, 114], [50, 52], [49, 32, 49, 50, 48]⟩,
  ⟨[109, 97, 105, 110, 45, 112, 97, 110, 101, 45, 119, 105, 100, 116, 104], 3, [110, 117, 109, 98, 101, 114], [56, 48], [49, 32, 50, 53, 48]⟩,
  ⟨[109, 111, 100, 101, 45, 107, 101, 121, 115], 3, [99, 104, 111, 105, 99, 101], [101, 109, 97, 99, 115], [101, 109, 97, 99, 115, 32, 118, 105]⟩,
  ⟨[109, 111, 100, 101, 45, 115, 116, 121, 108, 101], 3, [115, 116, 121, 108, 101], [102, 103, 61, 98, 108, 97, 99, 107, 44, 98, 103, 61, 121, 101, 108, 108, 111, 119], []⟩,
  ⟨[109, 111, 110, 105, 116, 111, 114, 45, 97, 99, 116, 105, 118, 105, 116, 121], 3, [102, 108, 97, 103], [111, 102, 102], []⟩,
  ⟨[109, 111, 110, 105, 116, 111, 114, 45, 98, 101, 108, 108], 3, [102, 108, 97, 103], [111, 110], []⟩,
  ⟨[112, 97, 110, 101, 45, 97, 99, 116, 105, 118, 101, 45, 98, 111, 114, 100, 101, 114, 45, 115, 116, 121, 108, 101], 3, [115, 116, 121, 108, 101], [102, 103, 61, 103, 114, 101, 101, 110], []⟩,
  ⟨[112, 97, 110, 101, 45, 98, 97, 115, 101, 45, 105, 110, 100, 101, 120], 3, [110, 117, 109, 98, 101, 114], [48], [48, 32, 57, 57, 57, 57]⟩,
  ⟨[112, 97, 110, 101, 45, 98, 111, 114, 100, 101, 114, 45, 115, 116, 121, 108, 101], 3, [115, 116, 121, 108, 101], [100, 101, 102, 97, 117, 108, 116], []⟩,
  ⟨[115, 121, 110, 99, 104, 114, 111, 110, 105, 122, 101, 45, 112, 97, 110, 101, 115], 3, [102, 108, 97, 103], [111, 102, 102], []⟩,
  ⟨[119, 105, 110, 100, 111, 119, 45, 115, 116, 97, 116, 117, 115, 45, 99, 117, 114, 114, 101, 110, 116, 45, 102, 111, 114, 109, 97, 116], 3, [115, 116, 114, 105, 110, 103], [35, 73, 58, 35, 87, 35, 70], []⟩,
  ⟨[119, 105, 110, 100, 111, 119, 45, 115, 116, 97, 116, 117, 115, 45, 99, 117, 114, 114, 101, 110, 116, 45, 115, 116, 121, 108, 101], 3, [115, 116, 121, 108, 101], [100, 101, 102, 97, 117, 108, 116], []⟩,
  ⟨[119, 105, 110, 100, 111, 119, 45, 115, 116, 97, 116, 117, 115, 45, 102, 111, 114, 109, 97, 116], 3, [115, 116, 114, 105, 110, 103], [35, 73, 58, 35, 87, 35, 70], []⟩,
  ⟨[119, 105, 110, 100, 111, 119, 45, 115, 116, 97, 116, 117, 115, 45, 115, 101, 112, 97, 114, 97, 116, 111, 114], 3, [115, 116, 114, 105, 110, 103], [32], []⟩,
  ⟨[119, 105, 110, 100, 111, 119, 45, 115, 116, 97, 116, 117, 115, 45, 115, 116, 121, 108, 101], 3, [115, 116, 121, 108, 101], [100, 101, 102, 97, 117, 108, 116], []⟩,
  ⟨[119, 114, 97, 112, 45, 115, 101, 97, 114, 99, 104], 3, [102, 108, 97, 103], [111, 110], []⟩,
  ⟨[97, 108, 108, 111, 119, 45, 112, 97, 115, 115, 116, 104, 114, 111, 117, 103, 104], 4, [99, 104, 111, 105, 99, 101], [111, 102, 102], [111, 102, 102, 32, 111, 110, 32, 97, 108, 108]⟩,
  ⟨[97, 108, 116, 101, 114, 110, 97, 116, 101, 45, 115, 99, 114, 101, 101, 110], 4, [102, 108, 97, 103], [111, 110], []⟩,
  ⟨[99, 117, 114, 115, 111, 114, 45, 99, 111, 108, 111, 117, 114], 4, [99, 111, 108, 111, 117, 114], [100, 101, 102, 97, 117, 108, 116], []⟩,
  ⟨[114, 101, 109, 97, 105, 110, 45, 111, 110, 45, 101, 120, 105, 116], 4, [102, 108, 97, 103], [111, 102, 102], []⟩,
  ⟨[119, 105, 110, 100, 111, 119, 45, 97, 99, 116, 105, 118, 101, 45, 115, 116, 121, 108, 101], 4, [115, 116, 121, 108, 101], [100, 101, 102, 97, 117, 108, 116], []⟩,
  ⟨[119, 105, 110, 100, 111, 119, 45, 115, 116, 121, 108, 101], 4, [115, 116, 121, 108, 101], [100, 101, 102, 97, 117, 108, 116], []⟩]
theorem refL_len : refL.length = 63 := by decide
def rowsD (os : List RowD) : List Value := (os.map rowL).flatten
theorem rowL_len (o : RowD) : (rowL o).length = 5 := rfl
theorem rowsD_len (os : List RowD) : (rowsD os).length = 5 * os.length := by
  induction os with
  | nil => rfl
  | cons a r ih => rw [rowsD, List.map_cons, List.flatten_cons, List.length_append, rowL_len, List.length_cons]; show 5 + (rowsD r).length = _; omega
theorem info_row : ∃ ie z, Tryz.prog.info? 80 = some ie ∧ ie.zero = some z ∧ ie.size = 5 ∧ z.cells = #[.string (bs []), .int .i64 0, .string (bs []), .string (bs []), .string (bs [])] := by
  have h : (Tryz.prog.info? 80).map (fun i => (i.zero.map (·.cells), i.size)) = some (some #[.string (bs []), .int .i64 0, .string (bs []), .string (bs []), .string (bs [])], 5) := by kernel_rfl
  cases hi : Tryz.prog.info? 80 with
  | none => rw [hi] at h; cases h
  | some ie =>
    rw [hi] at h
    simp only [Option.map_some, Option.some.injEq, Prod.mk.injEq] at h
    cases hz : ie.zero with
    | none => rw [hz] at h; simp at h
    | some z => rw [hz] at h; simp only [Option.map_some, Option.some.injEq] at h; exact ⟨ie, z, rfl, hz, h.2, h.1⟩
theorem wpList_rows {ops : Array Oper} {rest : List Oper} {o : Oper} {a : Act} {w : World} {Q : Exit → Act → World → Prop} (hg : o.guard = none) (len : Nat) (parts : Array (Nat × Operand)) (ho : o.op = .buildSlice 146 len parts)
    (cells : Array Value) (hl : 0 < len) (hl2 : len ≤ 1000)
    (hf : Instr.fill (fun i => some (i * 5, 5)) ((Array.range (len * 5)).map ((#[.string (bs []), .int .i64 0, .string (bs []), .string (bs []), .string (bs [])] : Array Value)[· % 5]!)) (parts.map fun (i, x) => (i, a.eval x)).toList = some cells)
    (h : wpList Tryz.prog ops Q rest (a.put o.dst (.slice (some ⟨w.heap.size, 0, none⟩) len len)) (w.alloc (.cells cells 80))) : wpList Tryz.prog ops Q (o :: rest) a w := by
  obtain ⟨ie, z, h1, h2, h3, h4⟩ := info_row
  exact wpList_buildSlice hg 146 80 len parts ho cells ie z Tryz.underlying146 h1 h2 (by rw [h3]; omega) (by rw [h3]; omega) (by rw [h3, h4]; exact hf) h
set_option maxRecDepth 100000 in
set_option maxHeartbeats 8000000 in
theorem tableD_any (w : World) :
    Calls Tryz.prog 78 #[] w fun e w' => e = .returned (.slice (some ⟨w.heap.size, 0, none⟩) 63 63) ∧ BL w' w.heap.size 80 (rowsD refL) ∧ Below w.heap.size w w' := by
  have HB := Lib.hid (BL.new w 80 (rowsD refL))
  have HW := Lib.hid ((Below.refl w.heap.size w).alloc (Nat.le_refl _) (.cells (rowsD refL).toArray 80))
  go_enter Tryz.func78, Tryz.ntmps78
  go_wp2_with (refine wpList_rows rfl 63 _ rfl (rowsD refL).toArray (by decide) (by decide) (by kernel_rfl) ?_)
  go_ret
  exact ⟨rfl, HB.out, HW.out⟩
end Go.Proofs.YthmadnadaakjaaaGreatDoor.Opt
/- The chapter's answer is the program's: users' names, items. -/
namespace Go.Proofs.YthmadnadaakjaaaGreatDoor.Opt
open Go.RowKit

/-! ### A user option's name -/
theorem okC_eq : ∀ n : Fin 256, okC (UInt8.ofNat n.val) = nameCs.contains (UInt8.ofNat n.val) := by decide +kernel
theorem okC_cs (b : UInt8) : okC b = nameCs.contains b := by
  have := okC_eq ⟨b.toNat, UInt8.toNat_lt _⟩
  simpa using this
theorem dropWhile_nil {α : Type} (p : α → Bool) (l : List α) : (l.dropWhile p).isEmpty = l.all p := by
  induction l with
  | nil => rfl
  | cons a r ih =>
    rw [List.dropWhile_cons, List.all_cons]
    cases p a with
    | true => rw [if_pos rfl, ih]; rfl
    | false => rw [if_neg (by simp)]; rfl
theorem trimS_nil (l cs : Tx) : (Lib.trimS l cs).isEmpty = l.all (cs.contains ·) := by
  unfold Lib.trimS Lib.trimLeftS
  rw [dropWhile_nil]
  unfold Lib.trimRightS
  rw [List.all_reverse]
  generalize hr : l.reverse = r
  have hl : l.all (cs.contains ·) = r.all (cs.contains ·) := by rw [← hr, List.all_reverse]
  rw [hl]
  clear hr hl
  induction r with
  | nil => rfl
  | cons a r ih =>
    rw [List.dropWhile_cons, List.all_cons]
    cases hb : cs.contains a with
    | true => rw [if_pos rfl, ih]; rfl
    | false => rw [if_neg (by simp), List.all_cons, hb]
theorem user_eq (l : Tx) : userR l = userP l := by
  unfold userR userP
  cases l with
  | nil => rfl
  | cons c r =>
    have hp : Lib.hasPrefix (c :: r) [64] = ((c.toNat : Int) == 64) := by
      unfold Lib.hasPrefix
      simp only [List.isPrefixOf, Bool.and_true]
      rw [Bool.eq_iff_iff]
      simp only [beq_iff_eq]
      constructor
      · rintro rfl; rfl
      · intro h
        exact (UInt8.toNat_inj.1 (by exact_mod_cast h)).symm
    have hc : r.all okC = r.all (nameCs.contains ·) := by
      congr 1
      funext b
      exact okC_cs b
    cases h64 : ((c.toNat : Int) == 64) with
    | false => rw [hp, h64]; simp [h64]
    | true =>
      rw [h64] at hp
      have ht : Lib.trimPrefix (c :: r) [64] = r := by unfold Lib.trimPrefix; rw [if_pos hp]; rfl
      rw [hp, ht, trimS_nil, ← hc]
      have : ((List.headD (c :: r) 0).toNat : Int) == 64 := h64
      rw [this]
      cases r with
      | nil => rfl
      | cons d r => simp
theorem user_91 {l : Tx} (h : (91 : UInt8) ∈ l) : userR l = false := by
  cases hu : userR l with
  | false => rfl
  | true =>
    unfold userR at hu
    simp only [Bool.and_eq_true] at hu
    obtain ⟨-, -, h0, ha⟩ := hu
    cases l with
    | nil => cases h
    | cons c r =>
      rcases List.mem_cons.1 h with rfl | h
      · cases h0
      · exact absurd (List.all_eq_true.1 ha _ h) (by decide)

/-! ### An item -/
theorem digs_of {l a d : Tx} (h : l = a ++ 91 :: (d ++ [93])) (hd : d.all digU = true) : Digs l (a.length + 1) := by
  intro j hj h1 h2
  have hlen : l.length = a.length + d.length + 2 := by rw [h]; simp; omega
  subst h
  obtain ⟨m, rfl⟩ : ∃ m, j = a.length + 1 + m := ⟨j - a.length - 1, by omega⟩
  rw [List.getElem_append_right (by omega)]
  have e : a.length + 1 + m - a.length = m + 1 := by omega
  simp only [e, List.getElem_cons_succ]
  rw [List.getElem_append_left (by omega)]
  exact List.all_eq_true.1 hd _ (List.getElem_mem _)
theorem numD_all {d : Tx} (h : numD d = true) : d.all digU = true := by
  unfold numD at h
  simp only [Bool.and_eq_true] at h
  exact h.1
theorem item_uniq {l a a' : Tx} {n n' : Int} (h0 : 0 ≤ n) (h1 : n < 1000) (h : l = itemP a n) (h0' : 0 ≤ n') (h1' : n' < 1000) (h' : l = itemP a' n') : a = a' ∧ n = n' := by
  obtain ⟨d, hd, hn, hv⟩ := item_form h0 h1 h
  obtain ⟨d', hd', hn', hv'⟩ := item_form h0' h1' h'
  have hlen : l.length = a'.length + d'.length + 2 := by rw [hd']; simp; omega
  have hp : ∀ (hh : a'.length < l.length), l[a'.length] = 91 := by rw [hd']; intro hh; simp
  have hk : digU (l[a'.length]'(by omega)) = false := by rw [hp]; exact digU_91
  have hD := digs_of hd' (numD_all hn')
  obtain ⟨e1, e2⟩ := item_at hd (numD_all hn) (by have := hn'; unfold numD at this; simp only [Bool.and_eq_true, decide_eq_true_eq] at this; omega) hD hk
  obtain ⟨-, e3⟩ := item_at hd' (numD_all hn') (by have := hn'; unfold numD at this; simp only [Bool.and_eq_true, decide_eq_true_eq] at this; omega) hD hk
  refine ⟨?_, by rw [← hv, ← hv', e2, e3]⟩
  have h3 : a = l.take a.length := by rw [hd, List.take_left]
  have h4 : a' = l.take a'.length := by rw [hd', List.take_left]
  rw [h3, h4, e1]
theorem ItemOk.uniq {l : Tx} {r r' : Tx × Int} (h : ItemOk l r) (h' : ItemOk l r') : r = r' := by
  obtain ⟨a, n⟩ := r
  obtain ⟨a', n'⟩ := r'
  rcases h with ⟨h0, h1, h2⟩ | ⟨h0, h1⟩ <;> rcases h' with ⟨h0', h1', h2'⟩ | ⟨h0', h1'⟩
  · obtain ⟨rfl, rfl⟩ := item_uniq h0 h1 h2 h0' h1' h2'; rfl
  · exact absurd h2 (h1' _ _ h0 h1)
  · exact absurd h2' (h1 _ _ h0' h1')
  · rw [h0, h0']
theorem atoi_itoa : ∀ n : Fin 1000, atoiP (Lib.itoa ((n.val : Nat) : Int)) = (((n.val : Nat) : Int), false) := by decide +kernel
theorem itoa_no93 : ∀ n : Fin 1000, (Lib.itoa ((n.val : Nat) : Int) ++ [93]).take ((Lib.itoa ((n.val : Nat) : Int)).length) = Lib.itoa ((n.val : Nat) : Int) := fun n => by rw [List.take_left]
theorem indexByte_at (a r : Tx) (h : (91 : UInt8) ∉ a) : Lib.indexByte (a ++ 91 :: r) 91 = (a.length : Int) := by
  induction a with
  | nil => rfl
  | cons c a ih =>
    rw [List.mem_cons, not_or] at h
    have ih := ih h.2
    have hc : (c == 91) = false := beq_eq_false_iff_ne.2 (fun e => h.1 e.symm)
    rw [List.cons_append, Lib.indexByte, hc, ih]
    have : ((a.length : Int) == -1) = false := beq_eq_false_iff_ne.2 (by omega)
    rw [this]
    simp
theorem cutP_at (a r : Tx) (h : (91 : UInt8) ∉ a) : cutP (a ++ 91 :: r) = (a, r, true) := by
  unfold cutP
  rw [indexByte_at a r h, if_pos (by omega)]
  simp
theorem trimSuffix_at (d : Tx) : Lib.trimSuffix (d ++ [93]) [93] = d := by
  unfold Lib.trimSuffix Lib.hasSuffix
  rw [if_pos (by rw [List.isSuffixOf_iff_suffix]; exact List.suffix_append _ _)]
  simp
/-- The program's: an item whose front holds no bracket. -/
theorem cutItem_yes {a : Tx} {n : Int} (h0 : 0 ≤ n) (h1 : n < 1000) (h : (91 : UInt8) ∉ a) : cutItemP (itemP a n) = (a, n) := by
  obtain ⟨m, rfl⟩ := Int.eq_ofNat_of_zero_le h0
  have e : itemP a m = a ++ 91 :: (Lib.itoa m ++ [93]) := by simp [itemP]
  have hc := cutP_at a (Lib.itoa m ++ [93]) h
  have ha := atoi_itoa ⟨m, by omega⟩
  unfold cutItemP
  rw [e, hc]
  simp only [trimSuffix_at]
  rw [ha, if_neg]
  simp only [Bool.false_eq_true, false_or, not_or]
  exact ⟨by omega, by omega, by rw [e]; simp⟩
theorem cutItem_cases (l : Tx) : cutItemP l = (l, -1) ∨ ItemOk l (cutItemP l) := by
  unfold cutItemP
  split
  · exact .inl rfl
  · rename_i h
    simp only [not_or, Decidable.not_not] at h
    exact .inr (.inl ⟨by omega, by omega, h.2.2.2⟩)
theorem cutItem_rel {l : Tx} {r : Tx × Int} (h : ItemOk l r) : cutItemP l = r ∨ (cutItemP l = (l, -1) ∧ (91 : UInt8) ∈ r.1 ∧ 0 ≤ r.2 ∧ r.2 < 1000 ∧ l = itemP r.1 r.2) := by
  rcases cutItem_cases l with h1 | h1
  · rcases h with ⟨h2, h3, h4⟩ | ⟨h2, -⟩
    · by_cases h5 : (91 : UInt8) ∈ r.1
      · exact .inr ⟨h1, h5, h2, h3, h4⟩
      · left
        have := cutItem_yes h2 h3 h5
        rw [h4]
        exact this
    · left; rw [h1, h2]
  · exact .inl (h1.uniq h)
end Go.Proofs.YthmadnadaakjaaaGreatDoor.Opt
/- The chapter's own answer: a variable's name. -/
namespace Go.Proofs.YthmadnadaakjaaaGreatDoor.Opt.Ev
open Go.RowKit Go.Maps Go.Proofs.YthmadnadaakjaaaGreatDoor.Opt

def okE (j : Nat) (b : UInt8) : Bool := letB b.toNat || (((b.toNat : Int) == 95) || (digB b.toNat && decide (0 < j)))
theorem envCs_eq : ∀ n : Fin 256, envCs.contains (UInt8.ofNat n.val) = (letB (UInt8.ofNat n.val).toNat || ((((UInt8.ofNat n.val).toNat : Int) == 95) || digB (UInt8.ofNat n.val).toNat)) := by decide +kernel
theorem digCs_eq : ∀ n : Fin 256, decide (0 ≤ Lib.indexByte digCs (UInt8.ofNat n.val)) = digB (UInt8.ofNat n.val).toNat := by decide +kernel
theorem digLet : ∀ n : Fin 256, digB (UInt8.ofNat n.val).toNat = true → letB (UInt8.ofNat n.val).toNat = false ∧ (((UInt8.ofNat n.val).toNat : Int) == 95) = false := by decide +kernel
theorem envCs_at (b : UInt8) : envCs.contains b = (letB b.toNat || (((b.toNat : Int) == 95) || digB b.toNat)) := by
  have := envCs_eq ⟨b.toNat, UInt8.toNat_lt _⟩
  simpa using this
theorem digCs_at (b : UInt8) : decide (0 ≤ Lib.indexByte digCs b) = digB b.toNat := by
  have := digCs_eq ⟨b.toNat, UInt8.toNat_lt _⟩
  simpa using this
theorem digLet_at (b : UInt8) (h : digB b.toNat = true) : letB b.toNat = false ∧ ((b.toNat : Int) == 95) = false := by
  have := digLet ⟨b.toNat, UInt8.toNat_lt _⟩
  simp only [UInt8.ofNat_toNat] at this
  exact this h
theorem okE_cs {j : Nat} {b : UInt8} (h : okE j b = true) : envCs.contains b = true := by
  rw [envCs_at]
  unfold okE at h
  cases h1 : letB b.toNat with
  | true => rfl
  | false => cases h2 : ((b.toNat : Int) == 95) with
    | true => rfl
    | false =>
      rw [h1, h2] at h
      simp only [Bool.false_or, Bool.and_eq_true] at h
      rw [h.1]; rfl
theorem varP_yes {l : Tx} (h : ∀ j (hj : j < l.length), okE j l[j] = true) : varP l = (decide (1 ≤ l.length) && decide (l.length ≤ 64)) := by
  unfold varP
  cases l with
  | nil => rfl
  | cons c r =>
    have h1 : (Lib.trimS (c :: r) envCs).isEmpty = true := by
      rw [trimS_nil, List.all_eq_true]
      intro x hx
      obtain ⟨j, hj, rfl⟩ := List.mem_iff_getElem.1 hx
      exact okE_cs (h j hj)
    have h2 : decide (0 ≤ Lib.indexByte digCs ((c :: r).headD 0)) = false := by
      rw [digCs_at]
      show digB c.toNat = false
      have h0 := h 0 (by simp)
      cases hd : digB c.toNat with
      | false => rfl
      | true =>
        obtain ⟨g1, g2⟩ := digLet_at c hd
        unfold okE at h0
        rw [List.getElem_cons_zero, g1, g2] at h0
        simp at h0
    rw [h1, h2]
    simp
theorem varP_no {l : Tx} {j : Nat} (hj : j < l.length) (h : okE j l[j] = false) : varP l = false := by
  cases hv : varP l with
  | false => rfl
  | true =>
    unfold varP at hv
    simp only [Bool.and_eq_true, Bool.not_eq_true'] at hv
    obtain ⟨-, -, h3, h4⟩ := hv
    rw [trimS_nil, List.all_eq_true] at h3
    have h5 := h3 _ (List.getElem_mem hj)
    rw [envCs_at] at h5
    unfold okE at h
    cases h1 : letB l[j].toNat with
    | true => rw [h1] at h; cases h
    | false => cases h2 : ((l[j].toNat : Int) == 95) with
      | true => rw [h1, h2] at h; cases h
      | false =>
        rw [h1, h2] at h h5
        simp only [Bool.false_or] at h h5
        rw [h5] at h
        simp only [Bool.true_and, decide_eq_false_iff_not] at h
        obtain rfl : j = 0 := by omega
        cases l with
        | nil => cases hj
        | cons c r =>
          rw [digCs_at] at h4
          rw [List.getElem_cons_zero] at h5
          rw [show (List.headD (c :: r) 0) = c from rfl, h5] at h4
          cases h4
set_option maxRecDepth 100000 in
set_option maxHeartbeats 2000000 in
theorem envName_any (l : Tx) (hs : l.length ≤ 140737488355328) (w : World) :
    Calls Tryz.prog 62 #[.string (bs l)] w fun e w' => e = .returned (.bool (varP l)) ∧ w' = w := by
  obtain ⟨R, hR⟩ : ∃ R, R = varP l := ⟨_, rfl⟩
  rw [← hR]
  have HY := Lib.hid (show (∀ j (hj : j < l.length), okE j l[j] = true) → R = (decide (1 ≤ l.length) && decide (l.length ≤ 64)) from fun h => by rw [hR]; exact varP_yes h)
  have HN := Lib.hid (show ∀ j (hj : j < l.length), okE j l[j] = false → R = false from fun j hj h => by rw [hR]; exact varP_no hj h)
  clear hR
  obtain ⟨S, hS⟩ : ∃ S, S = bs l := ⟨_, rfl⟩
  rw [← hS]
  have hsz : S.size = l.length := by rw [hS, bs_size]
  have HL := Lib.hid (show ∀ k (h : k < l.length) (h2 : k < S.size), S[k]'h2 = l[k] by intro k h h2; subst hS; rfl)
  clear hS
  go_enter Tryz.func62, Tryz.ntmps62
  go_wp2
  go_loop [3] (fun i => ∃ k : Nat, k ≤ l.length ∧ i = .int .i64 (k : Int) ∧ Hid (∀ j (hj : j < l.length), j < k → okE j l[j] = true)) (fun i => l.length - (intOf i).toNat)
  case atStart => exact ⟨0, by omega, rfl, fun j h h2 => by omega⟩
  case round =>
    obtain ⟨k, hk, rfl, hf⟩ := hrel
    by_cases hlt : k < l.length
    · have hSk : k < S.size := by omega
      have hch := HL.out k hlt hSk
      have HOK := Lib.hid (show okE k l[k] = (letB (S[k]'hSk).toNat || ((((S[k]'hSk).toNat : Int) == 95) || (digB (S[k]'hSk).toNat && decide (0 < k)))) by rw [hch]; rfl)
      have HN2 := Lib.hid (HN.out k hlt)
      clear hch
      go_wp2_with fail
      refine (letter_any _ _).mono ?_
      rintro e w1 ⟨rfl, rfl⟩
      go_wp2_with fail
      refine (digit_any _ _).mono ?_
      rintro e w1 ⟨rfl, rfl⟩
      generalize letB (S[k]'hSk).toNat = b1 at HOK ⊢
      generalize digB (S[k]'hSk).toNat = b2 at HOK ⊢
      have HF1 := Lib.hid (show okE k l[k] = true → ∀ j (hj : j < l.length), j < k + 1 → okE j l[j] = true from fun hb j h h2 => by
        by_cases hj : j < k
        · exact hf.out j h hj
        · obtain rfl : j = k := by omega
          exact hb)
      generalize okE k l[k] = b0 at HOK HN2 HF1
      cases b1 with
      | true =>
        have hq := HF1.out (by rw [HOK.out]; rfl)
        go_wp2_with fail
        go_round
        case rel => exact ⟨k + 1, by omega, by go_num, hq⟩
        case measure => simp [intOf]; omega
      | false => cases h95 : (((S[k]'hSk).toNat : Int) == 95) with
        | true =>
          have hq := HF1.out (by rw [HOK.out, h95]; rfl)
          have h95b : (((S[k]'hSk).toNat : Int) != 95) = false := by rw [bne, h95]; rfl
          clear h95
          go_wp2_with fail
          go_round
          case rel => exact ⟨k + 1, by omega, by go_num, hq⟩
          case measure => simp [intOf]; omega
        | false =>
          have h95b : (((S[k]'hSk).toNat : Int) != 95) = true := by rw [bne, h95]; rfl
          cases b2 with
          | false =>
            have hv := HN2.out (by rw [HOK.out, h95]; rfl)
            clear h95
            subst hv
            go_wp2_with fail
            go_ret
            exact ⟨rfl, rfl⟩
          | true =>
            by_cases hk0 : 0 < k
            · have hq := HF1.out (by rw [HOK.out, decide_eq_true hk0]; simp)
              have hk0i : 0 < (k : Int) := by omega
              clear h95
              go_wp2_with fail
              go_round
              case rel => exact ⟨k + 1, by omega, by go_num, hq⟩
              case measure => simp [intOf]; omega
            · have hv := HN2.out (by rw [HOK.out, h95, decide_eq_false hk0]; rfl)
              have hk0i : ¬ 0 < (k : Int) := by omega
              clear h95
              subst hv
              go_wp2_with fail
              go_ret
              exact ⟨rfl, rfl⟩
    · have hv := HY.out (fun j h => hf.out j h (by omega))
      have hki : ¬ (k : Int) < (l.length : Int) := by omega
      clear HY HN
      by_cases h1 : 1 ≤ l.length
      · have h1i : 1 ≤ (l.length : Int) := by omega
        have HV := Lib.hid (show R = decide (l.length ≤ 64) by rw [hv, decide_eq_true h1]; rfl)
        clear hv
        by_cases h6 : l.length ≤ 64
        · have h6i : (l.length : Int) ≤ 64 := by omega
          go_wp2
          go_ret
          exact ⟨by rw [HV.out, decide_eq_true h6]; rfl, rfl⟩
        · have h6i : ¬ (l.length : Int) ≤ 64 := by omega
          go_wp2
          go_ret
          exact ⟨by rw [HV.out, decide_eq_false h6]; rfl, rfl⟩
      · have h1i : ¬ 1 ≤ (l.length : Int) := by omega
        have HV := Lib.hid (show R = false by rw [hv, decide_eq_false h1]; rfl)
        clear hv
        go_wp2
        go_ret
        exact ⟨by rw [HV.out]; rfl, rfl⟩
end Go.Proofs.YthmadnadaakjaaaGreatDoor.Opt.Ev
/- The chapter's own environments: a variable put. -/
namespace Go.Proofs.YthmadnadaakjaaaGreatDoor.Opt.Ev
open Go.RowKit Go.Maps Go.Proofs.YthmadnadaakjaaaGreatDoor.Opt

abbrev En := Tx × Tx × Bool
def varL (x : En) : List Value := [.string (bs x.1), .string (bs x.2.1), .bool x.2.2]
def varC (es : List En) : List Value := (es.map varL).flatten
theorem varL_len (x : En) : (varL x).length = 3 := rfl
theorem varL_one (x : En) : ∀ u ∈ varL x, u.oneCell' = true := by
  intro u hu
  simp only [varL, List.mem_cons, List.not_mem_nil, or_false] at hu
  rcases hu with rfl | rfl | rfl <;> rfl
theorem varL_all (x : En) : (varL x).toArray.all (·.oneCell') = true := by simp [varL, Value.oneCell']
theorem varC_app (es : List En) (x : En) : varC (es ++ [x]) = varC es ++ varL x := by simp [varC]
theorem varC_len (es : List En) : (varC es).length = es.length * 3 := by
  induction es with
  | nil => rfl
  | cons a r ih =>
    show (varL a ++ varC r).length = _
    rw [List.length_append, varL_len, List.length_cons, ih]; omega
theorem varC_at : ∀ {es : List En} {k : Nat} {o : En}, es[k]? = some o → ∀ j v, (varL o)[j]? = some v → (varC es)[k * 3 + j]? = some v
  | [], k, o, h => by simp at h
  | a :: r, 0, o, h => by
    intro j v hj
    simp only [List.getElem?_cons_zero, Option.some.injEq] at h
    subst h
    have hlt : j < (varL a).length := (List.getElem?_eq_some_iff.1 hj).1
    show (varL a ++ varC r)[0 * 3 + j]? = _
    rw [Nat.zero_mul, Nat.zero_add, List.getElem?_append_left hlt]
    exact hj
  | a :: r, k + 1, o, h => by
    intro j v hj
    rw [List.getElem?_cons_succ] at h
    show (varL a ++ varC r)[(k + 1) * 3 + j]? = _
    rw [List.getElem?_append_right (by rw [varL_len]; omega), varL_len]
    have e : (k + 1) * 3 + j - 3 = k * 3 + j := by omega
    rw [e]
    exact varC_at h j v hj
theorem varC_set : ∀ (es : List En) (k : Nat) (x : En) (tail : List Value), k < es.length → splice (varC es ++ tail) (k * 3) (varL x) = varC (es.set k x) ++ tail
  | [], k, x, tail, h => by cases h
  | a :: r, 0, x, tail, _ => by
    show (varL a ++ varC r ++ tail).take (0 * 3) ++ varL x ++ (varL a ++ varC r ++ tail).drop (0 * 3 + 3) = varL x ++ varC r ++ tail
    simp [varL]
  | a :: r, k + 1, x, tail, h => by
    have ih := varC_set r k x tail (by simpa using h)
    unfold splice at ih ⊢
    rw [varL_len] at ih ⊢
    have e1 : varC (a :: r) ++ tail = varL a ++ (varC r ++ tail) := by simp [varC]
    have e2 : varC ((a :: r).set (k + 1) x) ++ tail = varL a ++ (varC (r.set k x) ++ tail) := by simp [varC]
    rw [e1, e2, ← ih]
    have e3 : (k + 1) * 3 = (varL a).length + k * 3 := by rw [varL_len]; omega
    have e4 : (k + 1) * 3 + 3 = (varL a).length + (k * 3 + 3) := by rw [varL_len]; omega
    rw [e4, e3, List.take_length_add_append, List.drop_length_add_append]
    simp only [List.append_assoc]
section
variable {w w' : World} {B e size n : Nat} {v : Value} {xs : List Value}
theorem own_only {G : List Nat} (h : w.ownsRow B e size v n xs) (ho : Only G w w') (hn : ∀ k, v.ownBlock = some k → k ∉ G) : w'.ownsRow B e size v n xs := by
  obtain ⟨h1, h2⟩ := h
  refine ⟨h1, ?_⟩
  rcases h2 with h2 | ⟨g, cap, cur, rfl, hg, h3, h4⟩
  · exact .inl h2
  · have hlt : g < w.heap.size := (Array.getElem?_eq_some_iff.1 h3).1
    exact .inr ⟨g, cap, cur, rfl, hg, (ho.block g hlt (hn g rfl)).trans h3, h4⟩
theorem own_slice (h : w.ownsRow B e size v n xs) : ∃ A c, v = .slice A n c := by
  rcases h.2 with ⟨rfl, rfl⟩ | ⟨g, cap, cur, rfl, _⟩ <;> exact ⟨_, _, rfl⟩
theorem own_some (h : w.ownsRow B e size v n xs) (hn : 0 < n) : ∃ g c tail, v = .slice (some ⟨g, 0, none⟩) n c ∧ BL w g e (xs ++ tail) ∧ (xs ++ tail).length = c * size ∧ n ≤ c ∧ c ≤ maxLen := by
  rcases h.2 with ⟨_, h0⟩ | ⟨g, cap, cur, rfl, hg, h3, h4, h5, h6, h7⟩
  · omega
  · have e : xs ++ cur.toList.drop (n * size) = cur.toList := by rw [← h7, List.take_append_drop]
    refine ⟨g, cap, cur.toList.drop (n * size), rfl, ?_, ?_, h4, h5⟩
    · rw [e]; exact h3
    · rw [e, Array.length_toList]; exact h6
theorem own_of_bl {k g cap : Nat} {tail : List Value} (h1 : BL w g e (xs ++ tail)) (h2 : (xs ++ tail).length = cap * k) (h4 : n ≤ cap) (h5 : cap ≤ maxLen) (h6 : xs.length = n * k) : w.ownsRow 0 e k (.slice (some ⟨g, 0, none⟩) n cap) n xs := by
  refine ⟨h6, .inr ⟨g, cap, (xs ++ tail).toArray, rfl, Nat.zero_le _, h1, h4, h5, ?_, ?_⟩⟩
  · rw [List.size_toArray]; exact h2
  · rw [← h6]; exact List.take_left
theorem own_type (h : w.ownsRow B e size v n xs) {k : Nat} {t : TypeId} {cs : List Value} (hk : BL w k t cs) (hne : t ≠ e) : v.ownBlock ≠ some k := fun hv => by
  rcases h.2 with ⟨rfl, _⟩ | ⟨g, cap, cur, rfl, _, hh, _⟩
  · cases hv
  · have hg : g = k := Option.some.inj hv
    subst hg
    have e1 := Option.some.inj (hh.symm.trans hk)
    injection e1 with _ e2
    exact hne e2.symm
end
/-- The chapter's environment: its block, its row. -/
def REnv (w : World) (b : Nat) (q : Option Addr) (v : Value) (es : List En) : Prop := BL w b 120 [.pointer q, v] ∧ w.ownsRow 0 126 3 v es.length (varC es)
def rfoot (b : Nat) (v : Value) : List Nat := b :: (match v.ownBlock with | some g => [g] | none => [])
theorem mem_rfoot {b x : Nat} {v : Value} : x ∈ rfoot b v ↔ x = b ∨ v.ownBlock = some x := by
  unfold rfoot
  cases hv : v.ownBlock with
  | none => simp
  | some g => simp [eq_comm]
theorem REnv.only {w w' : World} {b : Nat} {q : Option Addr} {v : Value} {es : List En} {F : List Nat} (h : REnv w b q v es) (ho : Only F w w') (hF : ∀ x ∈ rfoot b v, x ∉ F) : REnv w' b q v es :=
  ⟨BL.only h.1 ho (hF b (mem_rfoot.2 (.inl rfl))), own_only h.2 ho (fun k hk => hF k (mem_rfoot.2 (.inr hk)))⟩
theorem REnv.below {w w' : World} {b : Nat} {q : Option Addr} {v : Value} {es : List En} (h : REnv w b q v es) (hb : Below w.heap.size w w') : REnv w' b q v es :=
  h.only (Only.of_below (F := []) hb) (fun _ _ => by simp)
def putA (es : List En) (x : En) : List En × Bool :=
  match es.findIdx? (fun y => y.1 == x.1) with
  | some k => (es.set k x, true)
  | none => if 500 ≤ es.length then (es, false) else (es ++ [x], true)
theorem putA_at {es : List En} {x : En} {k : Nat} (hk : k < es.length) (h1 : ∀ j (h : j < es.length), j < k → (es[j].1 == x.1) = false) (h2 : (es[k].1 == x.1) = true) : putA es x = (es.set k x, true) := by
  unfold putA
  rw [show es.findIdx? (fun y => y.1 == x.1) = some k from List.findIdx?_eq_some_iff_getElem.2 ⟨hk, h2, fun j hj => by rw [h1 j (by omega) hj]; simp⟩]
theorem putA_none {es : List En} {x : En} (h1 : ∀ j (h : j < es.length), (es[j].1 == x.1) = false) : putA es x = if 500 ≤ es.length then (es, false) else (es ++ [x], true) := by
  unfold putA
  rw [show es.findIdx? (fun y => y.1 == x.1) = none from List.findIdx?_eq_none_iff.2 (fun y hy => by
    obtain ⟨j, hj, rfl⟩ := List.mem_iff_getElem.1 hy
    exact h1 j hj)]
/-- What a call leaves of the chapter's environment that it is on. -/
def RLeft (w w' : World) (b : Nat) (q : Option Addr) (v : Value) (es' : List En) : Prop :=
  ∃ v', REnv w' b q v' es' ∧ Only (rfoot b v) w w' ∧ ∀ y ∈ rfoot b v', y ∈ rfoot b v ∨ w.heap.size ≤ y
theorem RLeft.same {w w' : World} {b : Nat} {q : Option Addr} {v : Value} {es : List En} (h : REnv w b q v es) (hb : Below w.heap.size w w') : RLeft w w' b q v es :=
  ⟨v, h.below hb, Only.of_below hb, fun _ hx => .inl hx⟩
theorem info_var : (Tryz.prog.info? 126).map (fun i => (i.zero, i.size, i.bytes)) = some (some (.agg #[.string (bs []), .string (bs []), .bool false]), 3, 40) := by kernel_rfl
end Go.Proofs.YthmadnadaakjaaaGreatDoor.Opt.Ev
