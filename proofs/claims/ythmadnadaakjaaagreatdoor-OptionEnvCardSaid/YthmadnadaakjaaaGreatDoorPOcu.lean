/- A text cut at a bracket; a user option's name; an item's name. -/
import Derived.Test.YthmadnadaakjaaaGreatDoorPOsp
import Derived.Lib.ItoaLen
namespace Go.Proofs.YthmadnadaakjaaaGreatDoor.Opt
open Go.RowKit

theorem cut_ext (l : Tx) (a b : Nat) : (bs l).extract a b = bs ((l.take b).drop a) := by
  unfold bs
  apply ByteArray.ext
  simp [ByteArray.data_extract, List.drop_take]
def cutP (l : Tx) : Tx × Tx × Bool := if 0 ≤ Lib.indexByte l 91 then (l.take (Lib.indexByte l 91).toNat, l.drop ((Lib.indexByte l 91).toNat + 1), true) else (l, [], false)

set_option maxRecDepth 100000 in
set_option maxHeartbeats 2000000 in
theorem cut1_at (l : Tx) (hl : l.length ≤ 281474976710656) (w : World) :
    Calls Tryz.prog 161 #[.string (bs l), .string ⟨#[91]⟩] w fun e w' => e = .returned (.tuple #[.string (bs (cutP l).1), .string (bs (cutP l).2.1), .bool (cutP l).2.2]) ∧ Below w.heap.size w w' := by
  have h1 := Tryz.stringslite_Index_one (bs l) 91 w
  rw [bs_list] at h1
  have H1 := Lib.hid h1
  clear h1
  obtain ⟨s, hs⟩ : ∃ s, s = bs l := ⟨_, rfl⟩
  have hsz : s.size = l.length := by rw [hs, bs_size]
  rw [← hs] at H1 ⊢
  by_cases hi : 0 ≤ Lib.indexByte l 91
  · obtain ⟨i, hi'⟩ : ∃ i : Nat, Lib.indexByte l 91 = (i : Int) := ⟨_, (Int.toNat_of_nonneg hi).symm⟩
    obtain ⟨hg, _⟩ := Lib.indexByte_some hi'
    have hlt : i < l.length := (List.getElem?_eq_some_iff.1 hg).1
    have ec : cutP l = (l.take i, l.drop (i + 1), true) := by unfold cutP; rw [if_pos hi, hi']; simp
    rw [ec]
    rw [hi'] at H1
    have i0 : (0 : Int) ≤ (i : Int) := Int.natCast_nonneg _
    have i1 : (i : Int) ≤ (s.size : Int) := by omega
    have i2 : (i : Int) + 1 ≤ (s.size : Int) := by omega
    have e1 : s.extract 0 i = bs (l.take i) := by rw [hs, cut_ext]; simp
    have e2 : s.extract (i + 1) s.size = bs (l.drop (i + 1)) := by rw [hsz, hs, cut_ext, List.take_of_length_le (Nat.le_refl _)]
    have E1 := Lib.hid e1
    have E2 := Lib.hid e2
    clear e1 e2 hs ec hi hi' hg
    go_enter Tryz.func161, Tryz.ntmps161
    go_wp2_with fail
    refine H1.out.mono ?_
    rintro e w' ⟨rfl, rfl⟩
    clear H1
    go_wp2_with fail
    go_region
    go_wp2_with fail
    go_ret3
    exact ⟨by rw [E1.out, show s.extract (i + 1) l.length = bs (l.drop (i + 1)) by rw [← hsz]; exact E2.out]; rfl, (Below.refl _ _).drew⟩
  · have hm : Lib.indexByte l 91 = -1 := by have := Lib.indexByte_ge l 91; omega
    have ec : cutP l = (l, [], false) := by unfold cutP; rw [if_neg hi]
    rw [ec]
    rw [hm] at H1
    have E1 := Lib.hid hs
    clear hs ec hi hm
    go_enter Tryz.func161, Tryz.ntmps161
    go_wp2_with fail
    refine H1.out.mono ?_
    rintro e w' ⟨rfl, rfl⟩
    clear H1
    go_wp2_with fail
    go_ret3
    exact ⟨by rw [E1.out]; rfl, Below.refl _ _⟩
set_option maxRecDepth 100000 in
set_option maxHeartbeats 2000000 in
theorem cut_at (l : Tx) (hl : l.length ≤ 281474976710656) (w : World) :
    Calls Tryz.prog 111 #[.string (bs l), .string ⟨#[91]⟩] w fun e w' => e = .returned (.tuple #[.string (bs (cutP l).1), .string (bs (cutP l).2.1), .bool (cutP l).2.2]) ∧ Below w.heap.size w w' := by
  have H1 := Lib.hid (cut1_at l hl w)
  go_enter Tryz.func111, Tryz.ntmps111
  go_wp2_with fail
  refine H1.out.mono ?_
  rintro e w' ⟨rfl, hb⟩
  have HB := Lib.hid hb
  clear hb H1
  go_wp2_with fail
  go_ret3
  exact ⟨rfl, HB.out⟩

/-! ### A user option's name -/
def nameCs : Tx := [97, 98, 99, 100, 101, 102, 103, 104, 105, 106, 107, 108, 109, 110, 111, 112, 113, 114, 115, 116, 117, 118, 119, 120, 121, 122, 65, 66, 67, 68, 69, 70, 71, 72, 73, 74, 75, 76, 77, 78, 79, 80, 81, 82, 83, 84, 85, 86, 87, 88, 89, 90, 48, 49, 50, 51, 52, 53, 54, 55, 56, 57, 45, 95]
theorem trim_any (cs l : Tx) (hcs : cs.length < 4294967281) (ha : cs.all (fun b => decide (b.toNat < 128)) = true) (hl : l.length ≤ 281474976710656) (w : World) :
    Calls Tryz.prog 92 #[.string (bs l), .string (bs cs)] w fun e w' => e = .returned (.string (bs (Lib.trimS l cs))) ∧ Below w.heap.size w w' := by
  have h := Any.strings_Trim_laid Tryz.lays160 (by kernel_rfl) (bs l) (bs cs) w (by rw [bs_size]; omega) (by rw [bs_size]; exact hcs) (by rw [bs_list]; exact ascii_of_all ha)
  rw [bs_list, bs_list] at h
  exact h
/-- It begins with the mark, and behind that stand letters, digits, dashes and underscores alone, not too many. -/
def userP (l : Tx) : Bool := Lib.hasPrefix l [64] && (!(Lib.trimPrefix l [64]).isEmpty && (decide (l.length ≤ 64) && (Lib.trimS (Lib.trimPrefix l [64]) nameCs).isEmpty))
theorem bs_tl (l : Tx) : (bs l).toList = l := by unfold bs; simp
theorem bs_nil (l : Tx) : bs l = ⟨#[]⟩ ↔ l = [] := ⟨fun h => bs_inj (b := []) h, fun h => by rw [h]; rfl⟩
set_option maxRecDepth 100000 in
set_option maxHeartbeats 2000000 in
theorem user_any (l : Tx) (hl : l.length ≤ 281474976710656) (w : World) :
    Calls Tryz.prog 101 #[.string (bs l)] w fun e w' => e = .returned (.bool (userP l)) ∧ Below w.heap.size w w' := by
  have h1 := Tryz.strings_CutPrefix (bs l) ⟨#[64]⟩ w
  rw [bs_list] at h1
  have hd : (Lib.trimPrefix l [64]).length ≤ l.length := by unfold Lib.trimPrefix; split <;> simp
  have h2 := fun w' => trim_any nameCs (Lib.trimPrefix l [64]) (by decide) (by decide) (by omega) w'
  have h1' : Calls Tryz.prog 149 #[.string (bs l), .string ⟨#[64]⟩] w fun e w' => e = .returned (.tuple #[.string (bs (Lib.trimPrefix l [64])), .bool (Lib.hasPrefix l [64])]) ∧ w' = w := h1
  have H1 := Lib.hid h1'
  have H2 := Lib.hid h2
  have hsz : (bs l).size = l.length := bs_size l
  have hu : userP l = (Lib.hasPrefix l [64] && (!(Lib.trimPrefix l [64]).isEmpty && (decide (l.length ≤ 64) && (Lib.trimS (Lib.trimPrefix l [64]) nameCs).isEmpty))) := rfl
  rw [hu]
  clear hu h1 h2 h1'
  generalize (Lib.trimS (Lib.trimPrefix l [64]) nameCs) = t at H2 ⊢
  generalize Lib.trimPrefix l [64] = p at H1 H2 ⊢
  generalize Lib.hasPrefix l [64] = q at H1 ⊢
  cases q with
  | false =>
    go_enter Tryz.func101, Tryz.ntmps101
    go_wp2_with fail
    refine H1.out.mono ?_
    rintro e w' ⟨rfl, rfl⟩
    clear H1
    go_wp2_with fail
    go_ret
    exact ⟨rfl, Below.refl _ _⟩
  | true =>
    cases hp : p.isEmpty with
    | true =>
      obtain rfl := List.isEmpty_iff.1 hp
      have hx : (bs []).toList.isEmpty = true := by rw [bs_tl]; rfl
      go_enter Tryz.func101, Tryz.ntmps101
      go_wp2_with fail
      refine H1.out.mono ?_
      rintro e w' ⟨rfl, rfl⟩
      clear H1
      go_wp2_with fail
      go_ret
      exact ⟨rfl, Below.refl _ _⟩
    | false =>
      have hx : (bs p).toList.isEmpty = false := by rw [bs_tl]; exact hp
      by_cases h64 : l.length ≤ 64
      · have h64' : (l.length : Int) ≤ 64 := by omega
        have hd1 : decide (l.length ≤ 64) = true := decide_eq_true h64
        rw [hd1]
        clear hp hd1
        have ht : (bs t).toList.isEmpty = t.isEmpty := by rw [bs_tl]
        obtain ⟨b, hb⟩ : ∃ b, b = t.isEmpty := ⟨_, rfl⟩
        rw [← hb] at ht ⊢
        clear hb
        go_enter Tryz.func101, Tryz.ntmps101
        go_wp2_with fail
        refine H1.out.mono ?_
        rintro e w' ⟨rfl, rfl⟩
        clear H1
        go_wp2_with fail
        refine (H2.out w').mono ?_
        rintro e w2 ⟨rfl, hb⟩
        have HB := Lib.hid hb
        clear hb H2
        go_wp2_with fail
        go_ret
        exact ⟨rfl, HB.out⟩
      · have h64' : ¬ (l.length : Int) ≤ 64 := by omega
        have hd1 : decide (l.length ≤ 64) = false := decide_eq_false h64
        rw [hd1]
        clear hp hd1 H2
        go_enter Tryz.func101, Tryz.ntmps101
        go_wp2_with fail
        refine H1.out.mono ?_
        rintro e w' ⟨rfl, rfl⟩
        clear H1
        go_wp2_with fail
        go_ret
        exact ⟨rfl, Below.refl _ _⟩
end Go.Proofs.YthmadnadaakjaaaGreatDoor.Opt
/- An item's name, and what stands ahead of its bracket. -/
namespace Go.Proofs.YthmadnadaakjaaaGreatDoor.Opt
open Go.RowKit

def itemP (a : Tx) (n : Int) : Tx := a ++ ([91] ++ (Lib.itoa n ++ [93]))
set_option maxRecDepth 100000 in
set_option maxHeartbeats 2000000 in
theorem itemName_any {B : Nat} (a : Tx) (n : Int) (h0 : -9223372036854775808 ≤ n) (h1 : n ≤ 9223372036854775807) (hl : a.length ≤ 281474976710656) (hl2 : (Lib.itoa n).length ≤ 100) (w : World) (ht : Tabs B w) :
    Calls Tryz.prog 54 #[.string (bs a), .int .i64 n] w fun e w' => e = .returned (.string (bs (itemP a n))) ∧ Below w.heap.size w w' := by
  have H1 := Lib.hid (itoa_any n h0 h1 w ht)
  have hsz : (bs a).size = a.length := bs_size a
  have hsz2 : (bs (Lib.itoa n)).size = (Lib.itoa n).length := bs_size _
  have e1 : ((bs a ++ ⟨#[91]⟩) ++ bs (Lib.itoa n)) ++ ⟨#[93]⟩ = bs (itemP a n) := by
    show ((bs a ++ bs [91]) ++ bs (Lib.itoa n)) ++ bs [93] = _
    rw [bs_app, bs_app, bs_app]; simp [itemP, List.append_assoc]
  have E1 := Lib.hid e1
  clear e1 ht
  go_enter Tryz.func54, Tryz.ntmps54
  go_wp2_with fail
  refine H1.out.mono ?_
  rintro e w' ⟨rfl, hb⟩
  have HB := Lib.hid hb
  clear hb H1
  go_wp2_with fail
  go_ret
  exact ⟨by rw [E1.out]; rfl, HB.out⟩

def cutItemP (l : Tx) : Tx × Int :=
  if (atoiP (Lib.trimSuffix (cutP l).2.1 [93])).2 = true ∨ (atoiP (Lib.trimSuffix (cutP l).2.1 [93])).1 < 0 ∨ 1000 ≤ (atoiP (Lib.trimSuffix (cutP l).2.1 [93])).1 ∨ l ≠ itemP (cutP l).1 (atoiP (Lib.trimSuffix (cutP l).2.1 [93])).1 then (l, -1)
  else ((cutP l).1, (atoiP (Lib.trimSuffix (cutP l).2.1 [93])).1)
theorem cutP_le (l : Tx) : (cutP l).1.length ≤ l.length ∧ (cutP l).2.1.length ≤ l.length := by
  unfold cutP
  split <;> simp <;> omega
theorem trimSuffix_le (l p : Tx) : (Lib.trimSuffix l p).length ≤ l.length := by unfold Lib.trimSuffix; split <;> simp
set_option maxRecDepth 100000 in
set_option maxHeartbeats 2000000 in
theorem cutItem_any {B : Nat} (l : Tx) (hl : l.length ≤ 140737488355328) (w : World) (ht : Tabs B w) (hB : B ≤ w.heap.size) :
    Calls Tryz.prog 72 #[.string (bs l)] w fun e w' => e = .returned (.tuple #[.string (bs (cutItemP l).1), .int .i64 (cutItemP l).2]) ∧ Below w.heap.size w w' := by
  have H1 := Lib.hid (cut_at l (by omega) w)
  have hle := cutP_le l
  have hle2 := trimSuffix_le (cutP l).2.1 [93]
  have h2 : ∀ w', Calls Tryz.prog 112 #[.string (bs (cutP l).2.1), .string ⟨#[93]⟩] w' fun e w'' => e = .returned (.string (bs (Lib.trimSuffix (cutP l).2.1 [93]))) ∧ w'' = w' := fun w' => by
    have := Tryz.strings_TrimSuffix (bs (cutP l).2.1) ⟨#[93]⟩ w' (by rw [bs_size]; omega)
    rw [bs_list] at this
    exact this
  have H2 := Lib.hid h2
  have HT := Lib.hid ht
  have H3 := Lib.hid (fun w' (ht' : Tabs B w') => atoi_any (Lib.trimSuffix (cutP l).2.1 [93]) (by omega) w' ht')
  have H4 := Lib.hid (fun n w' (h0 : 0 ≤ n) (h1 : n < 1000) (ht' : Tabs B w') => itemName_any (cutP l).1 n (by omega) (by omega) (by omega) (by have := Lib.itoa_length_le n (by omega) (by omega); omega) w' ht')
  have he : cutItemP l = if (atoiP (Lib.trimSuffix (cutP l).2.1 [93])).2 = true ∨ (atoiP (Lib.trimSuffix (cutP l).2.1 [93])).1 < 0 ∨ 1000 ≤ (atoiP (Lib.trimSuffix (cutP l).2.1 [93])).1 ∨ l ≠ itemP (cutP l).1 (atoiP (Lib.trimSuffix (cutP l).2.1 [93])).1 then (l, -1)
    else ((cutP l).1, (atoiP (Lib.trimSuffix (cutP l).2.1 [93])).1) := rfl
  rw [he]
  clear he ht h2 hle hle2
  generalize Lib.trimSuffix (cutP l).2.1 [93] = d at H2 H3 ⊢
  generalize (cutP l).2.2 = k at H1
  generalize (cutP l).2.1 = b at H1 H2
  generalize (cutP l).1 = a at H1 H4 ⊢
  generalize atoiP d = r at H3 ⊢
  obtain ⟨v, x⟩ := r
  dsimp only at H3 ⊢
  obtain ⟨R, hR⟩ : ∃ R : Tx × Int, R = if x = true ∨ v < 0 ∨ 1000 ≤ v ∨ l ≠ itemP a v then (l, -1) else (a, v) := ⟨_, rfl⟩
  rw [← hR]
  have HR := Lib.hid hR
  clear hR
  go_enter Tryz.func72, Tryz.ntmps72
  go_wp2_with fail
  refine H1.out.mono ?_
  rintro e w1 ⟨rfl, hb1⟩
  have HB1 := Lib.hid hb1
  have HT1 := Lib.hid (HT.out.below (hb1.mono hB))
  clear hb1 H1
  go_wp2_with fail
  refine (H2.out w1).mono ?_
  rintro e w2 ⟨rfl, rfl⟩
  clear H2
  go_wp2_with fail
  refine (H3.out w2 HT1.out).mono ?_
  rintro e w3 ⟨⟨ev, rfl, hev⟩, hb3⟩
  have HB3 := Lib.hid (HB1.out.trans (hb3.mono HB1.out.size))
  have HT3 := Lib.hid (HT1.out.below (hb3.mono (Nat.le_trans hB HB1.out.size)))
  clear hb3 H3
  cases x with
  | true =>
    rw [if_pos rfl] at hev
    obtain ⟨te, pe, rfl⟩ := hev
    have HV := Lib.hid (show R = (l, -1) by rw [HR.out, if_pos (.inl rfl)])
    go_wp2_with fail
    go_ret2
    exact ⟨by rw [HV.out]; rfl, HB3.out⟩
  | false =>
    obtain rfl : ev = .nilIface := by simpa using hev
    clear hev
    by_cases hv0 : v < 0
    have HV := Lib.hid (show R = (l, -1) by rw [HR.out, if_pos (.inr (.inl hv0))])
    · go_wp2_with fail
      go_ret2
      exact ⟨by rw [HV.out]; rfl, HB3.out⟩
    · by_cases hv1 : 1000 ≤ v
      · have hv1' : v ≥ 1000 := hv1
        have HV := Lib.hid (show R = (l, -1) by rw [HR.out, if_pos (.inr (.inr (.inl hv1)))])
        go_wp2_with fail
        go_ret2
        exact ⟨by rw [HV.out]; rfl, HB3.out⟩
      · have d0 : decide (v < 0) = false := decide_eq_false hv0
        have d1 : decide (1000 ≤ v) = false := decide_eq_false hv1
        have H5 := Lib.hid (H4.out v w3 (by omega) (by omega) HT3.out)
        clear H4
        by_cases hq : l = itemP a v
        · have hx : bs l = bs (itemP a v) := by rw [← hq]
          have HX := Lib.hid hx
          clear hx
          have hv1' : ¬ v ≥ 1000 := hv1
          have HV := Lib.hid (show R = (a, v) by rw [HR.out, if_neg (by simp only [Bool.false_eq_true, false_or, not_or]; exact ⟨hv0, hv1, fun h => h hq⟩)])
          go_wp2_with fail
          refine H5.out.mono ?_
          rintro e w4 ⟨rfl, hb4⟩
          have HB4 := Lib.hid (HB3.out.trans (hb4.mono HB3.out.size))
          clear hb4 H5
          rw [← HX.out]
          go_wp2_with fail
          go_ret2
          exact ⟨by rw [HV.out]; rfl, HB4.out⟩
        · have hx : ((bs l).toList == (bs (itemP a v)).toList) = false := by rw [bs_tl, bs_tl]; exact beq_eq_false_iff_ne.2 hq
          have hv1' : ¬ v ≥ 1000 := hv1
          have HQ := Lib.hid hq
          clear hq
          have HV := Lib.hid (show R = (l, -1) by rw [HR.out, if_pos (.inr (.inr (.inr HQ.out)))])
          go_wp2_with fail
          refine H5.out.mono ?_
          rintro e w4 ⟨rfl, hb4⟩
          have HB4 := Lib.hid (HB3.out.trans (hb4.mono HB3.out.size))
          clear hb4 H5
          go_wp2_with fail
          go_ret2
          exact ⟨by rw [HV.out]; rfl, HB4.out⟩
end Go.Proofs.YthmadnadaakjaaaGreatDoor.Opt
/- The table, scope by scope. -/
namespace Go.Proofs.YthmadnadaakjaaaGreatDoor.Opt
open Go.RowKit Go.Shelf

/-- What tells options: they are told one by one, behind what has come; or a round says 'no more'. -/
def Tells (J Jx : List Op8 → World → Prop) (pre os : List Op8) (e : Ending) (W' : World) : Prop :=
  (e = .returned (.bool true) ∧ J (pre ++ os) W') ∨ (e = .returned (.bool false) ∧ ∃ q, q <+: os ∧ Jx (pre ++ q) W')
theorem calls_at {P : Program} {f : FuncId} {args : Array Value} {w w' : World} {R : Ending → World → Prop} (e : w = w') (h : Calls P f args w R) : Calls P f args w' R := e ▸ h
theorem info_opt : ∃ ie z, Tryz.prog.info? 73 = some ie ∧ ie.zero = some z ∧ ie.size = 7 ∧ z.cells = #[.string (bs []), .int .i64 0, .string (bs []), .string (bs []), .int .i64 0, .int .i64 0, .string (bs [])] := by
  have h : (Tryz.prog.info? 73).map (fun i => (i.zero.map (·.cells), i.size)) = some (some #[.string (bs []), .int .i64 0, .string (bs []), .string (bs []), .int .i64 0, .int .i64 0, .string (bs [])], 7) := by kernel_rfl
  cases hi : Tryz.prog.info? 73 with
  | none => rw [hi] at h; cases h
  | some ie =>
    rw [hi] at h
    simp only [Option.map_some, Option.some.injEq, Prod.mk.injEq] at h
    cases hz : ie.zero with
    | none => rw [hz] at h; simp at h
    | some z => rw [hz] at h; simp only [Option.map_some, Option.some.injEq] at h; exact ⟨ie, z, rfl, hz, h.2, h.1⟩
theorem wpList_opts {ops : Array Oper} {rest : List Oper} {o : Oper} {a : Act} {w : World} {Q : Exit → Act → World → Prop} (hg : o.guard = none) (len : Nat) (parts : Array (Nat × Operand)) (ho : o.op = .buildSlice 140 len parts)
    (cells : Array Value) (hl : 0 < len) (hl2 : len ≤ 1000)
    (hf : Instr.fill (fun i => some (i * 7, 7)) ((Array.range (len * 7)).map ((#[.string (bs []), .int .i64 0, .string (bs []), .string (bs []), .int .i64 0, .int .i64 0, .string (bs [])] : Array Value)[· % 7]!)) (parts.map fun (i, x) => (i, a.eval x)).toList = some cells)
    (h : wpList Tryz.prog ops Q rest (a.put o.dst (.slice (some ⟨w.heap.size, 0, none⟩) len len)) (w.alloc (.cells cells 73))) : wpList Tryz.prog ops Q (o :: rest) a w := by
  obtain ⟨ie, z, h1, h2, h3, h4⟩ := info_opt
  exact wpList_buildSlice hg 140 73 len parts ho cells ie z Tryz.underlying140 h1 h2 (by rw [h3]; omega) (by rw [h3]; omega) (by rw [h3, h4]; exact hf) h
def Rounds (l N : Nat) (J Jx : List Op8 → World → Prop) : Prop :=
  ∀ m pre x W, x.scope ≠ 0 → J pre W → pre.length < N → YieldAt Fence.wide m Tryz.prog l #[optV x] W fun e W' =>
      (e = .returned (.bool true) ∧ J (pre ++ [x]) W' ∧ KT W W') ∨ (e = .returned (.bool false) ∧ Jx (pre ++ [x]) W')

set_option maxRecDepth 100000 in
set_option maxHeartbeats 8000000 in
theorem ofPane_at (l N B0 : Nat) (J Jx : List Op8 → World → Prop) (hJ : AbidesFrom B0 J) (hY : Rounds l N J Jx) (pre : List Op8) (W : World) (h0 : J pre W) (hN : pre.length + 6 ≤ N) :
    Calls Tryz.prog 153 #[.func (.yield l) #[] #[]] W fun e W' => Tells J Jx pre panL e W' := by
  have HB := Lib.hid (BL.new W 73 (rowsC panL))
  have H0 := Lib.hid (hJ _ _ _ none h0 (World.grownBy_alloc W (.cells (rowsC panL).toArray 73) none) (fun r e => by cases e))
  have HY := Lib.hid hY
  have HJ := Lib.hid hJ
  clear hJ hY h0
  go_enter Tryz.func153, Tryz.ntmps153
  go_wp2_with (refine wpList_opts rfl 6 _ rfl (rowsC panL).toArray (by decide) (by decide) (by kernel_rfl) ?_)
  refine (callsIn_wide.1 (each_in 0 l N B0 J Jx HJ.out HY.out 4 (by decide) panL (by decide) W.heap.size 73 pre _ HB.out H0.out hN (by decide) (by decide))).mono ?_
  clear HB H0 HY HJ
  rintro e W3 (⟨rfl, h⟩ | ⟨rfl, h⟩)
  · have H := Lib.hid h
    clear h
    go_wp2_with fail
    exact bodyPost_ret (results_tmp rfl _ _ _) rfl (.inl ⟨rfl, H.out⟩)
  · have H := Lib.hid h
    clear h
    go_wp2_with fail
    exact bodyPost_ret (results_tmp rfl _ _ _) rfl (.inr ⟨rfl, H.out⟩)

set_option maxRecDepth 100000 in
set_option maxHeartbeats 8000000 in
theorem ofServer_at (l N B0 : Nat) (J Jx : List Op8 → World → Prop) (hJ : AbidesFrom B0 J) (hY : Rounds l N J Jx) (pre : List Op8) (W : World) (h0 : J pre W) (hN : pre.length + 10 ≤ N) :
    Calls Tryz.prog 150 #[.func (.yield l) #[] #[]] W fun e W' => Tells J Jx pre srvL e W' := by
  have HB := Lib.hid (BL.new W 73 (rowsC srvL))
  have H0 := Lib.hid (hJ _ _ _ none h0 (World.grownBy_alloc W (.cells (rowsC srvL).toArray 73) none) (fun r e => by cases e))
  have HY := Lib.hid hY
  have HJ := Lib.hid hJ
  clear hJ hY h0
  go_enter Tryz.func150, Tryz.ntmps150
  go_wp2_with (refine wpList_opts rfl 10 _ rfl (rowsC srvL).toArray (by decide) (by decide) (by kernel_rfl) ?_)
  refine (callsIn_wide.1 (each_in 0 l N B0 J Jx HJ.out HY.out 1 (by decide) srvL (by decide) W.heap.size 73 pre _ HB.out H0.out hN (by decide) (by decide))).mono ?_
  clear HB H0 HY HJ
  rintro e W3 (⟨rfl, h⟩ | ⟨rfl, h⟩)
  · have H := Lib.hid h
    clear h
    go_wp2_with fail
    exact bodyPost_ret (results_tmp rfl _ _ _) rfl (.inl ⟨rfl, H.out⟩)
  · have H := Lib.hid h
    clear h
    go_wp2_with fail
    exact bodyPost_ret (results_tmp rfl _ _ _) rfl (.inr ⟨rfl, H.out⟩)

set_option maxRecDepth 100000 in
set_option maxHeartbeats 8000000 in
theorem ofWindow_at (l N B0 : Nat) (J Jx : List Op8 → World → Prop) (hJ : AbidesFrom B0 J) (hY : Rounds l N J Jx) (pre : List Op8) (W : World) (h0 : J pre W) (hN : pre.length + 19 ≤ N) :
    Calls Tryz.prog 152 #[.func (.yield l) #[] #[]] W fun e W' => Tells J Jx pre winL e W' := by
  have HB := Lib.hid (BL.new W 73 (rowsC winL))
  have H0 := Lib.hid (hJ _ _ _ none h0 (World.grownBy_alloc W (.cells (rowsC winL).toArray 73) none) (fun r e => by cases e))
  have HY := Lib.hid hY
  have HJ := Lib.hid hJ
  clear hJ hY h0
  go_enter Tryz.func152, Tryz.ntmps152
  go_wp2_with (refine wpList_opts rfl 19 _ rfl (rowsC winL).toArray (by decide) (by decide) (by kernel_rfl) ?_)
  refine (callsIn_wide.1 (each_in 0 l N B0 J Jx HJ.out HY.out 3 (by decide) winL (by decide) W.heap.size 73 pre _ HB.out H0.out hN (by decide) (by decide))).mono ?_
  clear HB H0 HY HJ
  rintro e W3 (⟨rfl, h⟩ | ⟨rfl, h⟩)
  · have H := Lib.hid h
    clear h
    go_wp2_with fail
    exact bodyPost_ret (results_tmp rfl _ _ _) rfl (.inl ⟨rfl, H.out⟩)
  · have H := Lib.hid h
    clear h
    go_wp2_with fail
    exact bodyPost_ret (results_tmp rfl _ _ _) rfl (.inr ⟨rfl, H.out⟩)

set_option maxRecDepth 100000 in
set_option maxHeartbeats 8000000 in
theorem ofSession_at (l N B0 : Nat) (J Jx : List Op8 → World → Prop) (hJ : AbidesFrom B0 J) (hY : Rounds l N J Jx) (pre : List Op8) (W : World) (h0 : J pre W) (hN : pre.length + 28 ≤ N) :
    Calls Tryz.prog 151 #[.func (.yield l) #[] #[]] W fun e W' => Tells J Jx pre sesL e W' := by
  have HB := Lib.hid (BL.new W 73 (rowsC sesL))
  have H0 := Lib.hid (hJ _ _ _ none h0 (World.grownBy_alloc W (.cells (rowsC sesL).toArray 73) none) (fun r e => by cases e))
  have HY := Lib.hid hY
  have HJ := Lib.hid hJ
  clear hJ hY h0
  go_enter Tryz.func151, Tryz.ntmps151
  go_wp2_with (refine wpList_opts rfl 28 _ rfl (rowsC sesL).toArray (by decide) (by decide) (by kernel_rfl) ?_)
  refine (callsIn_wide.1 (each_in 0 l N B0 J Jx HJ.out HY.out 2 (by decide) sesL (by decide) W.heap.size 73 pre _ HB.out H0.out hN (by decide) (by decide))).mono ?_
  clear HB H0 HY HJ
  rintro e W3 (⟨rfl, h⟩ | ⟨rfl, h⟩)
  · have H := Lib.hid h
    clear h
    go_wp2_with fail
    exact bodyPost_ret (results_tmp rfl _ _ _) rfl (.inl ⟨rfl, H.out⟩)
  · have H := Lib.hid h
    clear h
    go_wp2_with fail
    exact bodyPost_ret (results_tmp rfl _ _ _) rfl (.inr ⟨rfl, H.out⟩)
end Go.Proofs.YthmadnadaakjaaaGreatDoor.Opt
/- The table whole. -/
namespace Go.Proofs.YthmadnadaakjaaaGreatDoor.Opt
open Go.RowKit Go.Shelf

def TabEnd (J Jx : List Op8 → World → Prop) (W' : World) : Prop := (∃ xs, xs = tabL ∧ J xs W') ∨ (∃ pre, pre <+: tabL ∧ Jx pre W')

set_option maxRecDepth 100000 in
set_option maxHeartbeats 2000000 in
theorem table_at (l B0 : Nat) (J Jx : List Op8 → World → Prop) (hJ : AbidesFrom B0 J) (hY : Rounds l 63 J Jx) (W : World) (h0 : J [] W) :
    Calls Tryz.prog 102 #[.func (.yield l) #[] #[]] W fun e W' => (∃ v, e = .returned v) ∧ TabEnd J Jx W' := by
  have HJ := Lib.hid hJ
  have HY := Lib.hid hY
  have H0 := Lib.hid h0
  clear hJ hY h0
  go_enter Tryz.func102, Tryz.ntmps102
  go_wp2_with fail
  refine (ofServer_at l 63 B0 J Jx HJ.out HY.out [] _ H0.out (by decide)).mono ?_
  rintro e W1 (⟨rfl, h1⟩ | ⟨rfl, q, hq, hx⟩)
  · have H1 := Lib.hid h1
    clear h1
    go_wp2_with fail
    refine (ofSession_at l 63 B0 J Jx HJ.out HY.out _ _ H1.out (by decide)).mono ?_
    rintro e W2 (⟨rfl, h2⟩ | ⟨rfl, q, hq, hx⟩)
    · have H2 := Lib.hid h2
      clear h2
      go_wp2_with fail
      refine (ofWindow_at l 63 B0 J Jx HJ.out HY.out _ _ H2.out (by decide)).mono ?_
      rintro e W3 (⟨rfl, h3⟩ | ⟨rfl, q, hq, hx⟩)
      · have H3 := Lib.hid h3
        clear h3
        go_wp2_with fail
        refine (ofPane_at l 63 B0 J Jx HJ.out HY.out _ _ H3.out (by decide)).mono ?_
        rintro e W4 (⟨rfl, h4⟩ | ⟨rfl, q, hq, hx⟩)
        · have H4 := Lib.hid (show TabEnd J Jx W4 from .inl ⟨_, by simp [tabL], h4⟩)
          clear h4
          go_wp2_with fail
          exact body_end rfl rfl ⟨⟨_, rfl⟩, H4.out⟩
        · have H4 := Lib.hid (show TabEnd J Jx W4 from .inr ⟨_, (by simpa [tabL] using hq), hx⟩)
          clear hq hx
          go_wp2_with fail
          exact body_end rfl rfl ⟨⟨_, rfl⟩, H4.out⟩
      · have H4 := Lib.hid (show TabEnd J Jx W3 from .inr ⟨_, (by simpa [tabL] using hq.trans (List.prefix_append winL panL)), hx⟩)
        clear hq hx
        go_wp2_with fail
        exact body_end rfl rfl ⟨⟨_, rfl⟩, H4.out⟩
    · have H4 := Lib.hid (show TabEnd J Jx W2 from .inr ⟨_, (by simpa [tabL] using hq.trans (List.prefix_append sesL (winL ++ panL))), hx⟩)
      clear hq hx
      go_wp2_with fail
      exact body_end rfl rfl ⟨⟨_, rfl⟩, H4.out⟩
  · have H4 := Lib.hid (show TabEnd J Jx W1 from .inr ⟨_, (by simpa [tabL] using hq.trans (List.prefix_append srvL (sesL ++ (winL ++ panL)))), hx⟩)
    clear hq hx
    go_wp2_with fail
    exact body_end rfl rfl ⟨⟨_, rfl⟩, H4.out⟩

/-- The table as an iterator's contract. -/
theorem table_stops (n : Nat) (w : World) :
    SeqStopsK Fence.wide n Tryz.prog 102 #[] (fun x : Op8 => #[optV x]) KT (fun xs => xs = tabL) (fun pre => pre <+: tabL) 63 w := fun l J Jx W _ hJ _ hY h0 =>
  callsIn_wide.2 (table_at l W.heap.size J Jx hJ (fun m pre x W1 _ hj hl => YieldAt.anyDepth rfl m (hY pre x W1 hj hl)) W h0)
/-- An option whose scope is no nought. -/
abbrev OpS := { o : Op8 // o.scope ≠ 0 }
/-- The same, the body being told that no option's scope is nought. -/
theorem table_stopsS (n : Nat) (w : World) :
    SeqStopsK Fence.wide n Tryz.prog 102 #[] (fun x : OpS => #[optV x.1]) KT (fun xs => xs.map (·.1) = tabL) (fun pre => pre.map (·.1) <+: tabL) 63 w := fun l J Jx W _ hJ _ hY h0 => by
  have h := table_at l W.heap.size (fun pre W => ∃ p : List OpS, p.map (·.1) = pre ∧ J p W) (fun pre W => ∃ p : List OpS, p.map (·.1) = pre ∧ Jx p W)
    (fun s A B row ⟨p, hp, hj⟩ hg hr => ⟨p, hp, hJ p A B row hj hg hr⟩)
    (fun m pre x W1 hx ⟨p, hp, hj⟩ hl => by
      have hy := YieldAt.anyDepth (m' := m) rfl (hY p ⟨x, hx⟩ W1 hj (by rw [← List.length_map (f := (·.1)), hp]; exact hl))
      refine YieldAt.mono hy fun e W' h => ?_
      rcases h with ⟨he, h1, h2⟩ | ⟨he, h1⟩
      · exact .inl ⟨he, ⟨_, by rw [List.map_append, hp]; rfl, h1⟩, h2⟩
      · exact .inr ⟨he, ⟨_, by rw [List.map_append, hp]; rfl, h1⟩⟩) W ⟨[], rfl, h0⟩
  refine callsIn_wide.2 (h.mono fun e W' hh => ?_)
  obtain ⟨hv, hh⟩ := hh
  refine ⟨hv, ?_⟩
  rcases hh with ⟨xs, hx, p, hp, hj⟩ | ⟨pre, hpre, p, hp, hj⟩
  · exact .inl ⟨p, hp.trans hx, hj⟩
  · exact .inr ⟨p, (by show List.map (fun x : OpS => x.1) p <+: tabL; rw [hp]; exact hpre), hj⟩
end Go.Proofs.YthmadnadaakjaaaGreatDoor.Opt
/- What a whole name stands for. -/
namespace Go.Proofs.YthmadnadaakjaaaGreatDoor.Opt
open Go.RowKit Go.Shelf
attribute [local go_sem] Oper.semAt_some

def arrK : Tx := [97, 114, 114, 97, 121]
def strK : Tx := [115, 116, 114, 105, 110, 103]
def placeL (o : Op8) (i : Int) : List Value := [.string (bs o.name), .int .i64 o.scope, .string (bs o.kind), .string (bs o.first), .int .i64 o.least, .int .i64 o.most, .string (bs o.choices), .int .i64 i]
theorem placeL_one (o : Op8) (i : Int) : (placeL o i).toArray.all (·.oneCell') = true := by simp [placeL, Value.oneCell']
def placeV (o : Op8) (i : Int) : Value := .agg (placeL o i).toArray
def noOpt : Op8 := ⟨[], 0, [], [], 0, 0, []⟩
def isIt (a : Tx) (i : Int) (o : Op8) : Bool := o.name == a && (i == -1 || o.kind == arrK)
def namedP (l : Tx) : Option (Op8 × Int) :=
  if userP l = true then some (⟨l, 4, strK, [], 0, 0, []⟩, -1)
  else (tabL.find? (isIt (cutItemP l).1 (cutItemP l).2)).map fun o => (o, (cutItemP l).2)
def namedV (r : Option (Op8 × Int)) : Value := match r with
  | some (o, i) => .tuple #[placeV o i, .bool true]
  | none => .tuple #[placeV noOpt 0, .bool false]

theorem BL.kept {W W' : World} {row : Option Nat} {b B : Nat} {t : TypeId} {xs : List Value} (h : BL W b t xs) (hg : W.grownBy W' row) (hr : ∀ r, row = some r → B ≤ r ∧ ∃ o : Obj, W.heap[r]? = some o ∧ o.isCells = false) : BL W' b t xs :=
  h.keep (hg.block b h.lt (fun e => by
    obtain ⟨_, o, ho, hc⟩ := hr b e.symm
    unfold BL at h; rw [h] at ho; cases ho; cases hc))
theorem BL.putD {W : World} {b D : Nat} {t : TypeId} {xs : List Value} {o : Obj} (h : BL W b t xs) (hD : W.heap[D]? = some o) (hc : o.isCells = false) (o' : Obj) : BL (W.putObj D o') b t xs :=
  (World.putObj_heap_other (by intro e; subst e; unfold BL at h; rw [h] at hD; cases hD; cases hc)).trans h
theorem find_hit {f : Op8 → Bool} {p l : List Op8} {o : Op8} (h : p ++ [o] <+: l) (h1 : ∀ x ∈ p, f x = false) (h2 : f o = true) : l.find? f = some o := by
  obtain ⟨t, rfl⟩ := h
  rw [List.find?_append, List.find?_append, List.find?_eq_none.2 (fun x hx => by rw [h1 x hx]; simp)]
  simp [h2]
set_option maxRecDepth 100000 in
set_option maxHeartbeats 4000000 in
theorem named_any {B : Nat} (l : Tx) (hl : l.length ≤ 140737488355328) (w : World) (ht : Tabs B w) (hB : B ≤ w.heap.size) :
    Calls Tryz.prog 66 #[.string (bs l)] w fun e w' => e = .returned (namedV (namedP l)) ∧ Below w.heap.size w w' := by
  have H1 := Lib.hid (fun w' => user_any l (by omega) w')
  have H2 := Lib.hid (fun w' (ht' : Tabs B w') (hB' : B ≤ w'.heap.size) => cutItem_any l hl w' ht' hB')
  have HT := Lib.hid ht
  obtain ⟨R, hR⟩ : ∃ R, R = namedV (namedP l) := ⟨_, rfl⟩
  rw [← hR]
  have HR := Lib.hid hR
  obtain ⟨u, hu⟩ : ∃ u, u = userP l := ⟨_, rfl⟩
  rw [← hu] at H1
  have HU := Lib.hid hu
  clear hR ht hu
  have F0 : ∀ w1, Below ((w.alloc (.cells (placeL noOpt 0).toArray 75)).alloc (.cells #[.bool false] 4)).heap.size ((w.alloc (.cells (placeL noOpt 0).toArray 75)).alloc (.cells #[.bool false] 4)) w1 →
      BL w1 w.heap.size 75 (placeL noOpt 0) ∧ BL w1 (w.heap.size + 1) 4 [.bool false] ∧ Below w.heap.size w w1 ∧ w.heap.size + 2 ≤ w1.heap.size := fun w1 hb => by
    have h0 := (BL.new w 75 (placeL noOpt 0)).alloc (.cells #[.bool false] 4)
    have h1 := BL.new (w.alloc (.cells (placeL noOpt 0).toArray 75)) 4 [.bool false]
    rw [size_alloc] at h1
    have hs := hb.size
    rw [size_alloc, size_alloc] at hs
    exact ⟨h0.keep (hb.block _ h0.lt), h1.keep (hb.block _ h1.lt), (((Below.refl _ w).alloc (Nat.le_refl _) _).alloc (by simp) _).trans (hb.mono (by simp; omega)), by omega⟩
  have HF := Lib.hid F0
  clear F0
  refine (callsIn_wide (n := 6)).1 ?_
  refine callsIn_of_wp_marks Tryz.func66 rfl trivial ?_ rfl
  simp only [Tryz.ntmps66, List.size_toArray, List.length_cons, List.length_nil, Nat.reduceAdd, Nat.reduceSub, Array.replicate_succ, Array.replicate_zero, List.push_toArray, List.append_toArray, List.nil_append, List.cons_append]
  gi_wp2
  refine ⟨trivial, (callsIn_wide.2 (H1.out _)).mono ?_⟩
  clear H1
  rintro e w1 ⟨rfl, hb1⟩
  obtain ⟨c0, c1, hbw, hsz⟩ := HF.out w1 hb1
  have C0 := Lib.hid c0
  have C1 := Lib.hid c1
  have HB := Lib.hid hbw
  have HT1 := Lib.hid (HT.out.below (hbw.mono hB))
  clear HF hb1 c0 c1 hbw
  cases u with
  | true =>
    gi_wp2_with (refine wpListIn_store_all rfl 75 _ _ rfl w.heap.size (placeL ⟨l, 4, strK, [], 0, 0, []⟩ (-1)) rfl rfl 75 _ C0.out rfl (by kernel_rfl) (placeL_one _ _) ?_; intro w2 h0 ho hk hs2; have D1 := C1.out.only ho (by simp); have d1 := D1.cell 0; have f1 := D1.frozen 0; have D0 := Lib.hid h0; have HO := Lib.hid ho; clear h0 ho hk)
    have HV := Lib.hid (show R = .tuple #[placeV ⟨l, 4, strK, [], 0, 0, []⟩ (-1), .bool true] by rw [HR.out, namedP, if_pos HU.out.symm]; rfl)
    have D2 := Lib.hid (D1.set_ 0 (.bool true))
    have D3 := Lib.hid (D0.out.keep (w' := w2.setCell ⟨w.heap.size + 1, 0, none⟩ (.bool true)) (Below.heap_setCell _ _ _ _ (by simp)))
    refine ⟨_, results_two (p := 2) (q := 3) (by kernel_rfl) _ _ w.heap.size (w.heap.size + 1) _ _ _ _ _ rfl rfl D3.out D2.out Tryz.underlying75 rfl (by kernel_rfl) _ Tryz.underlying4 rfl, ?_⟩
    refine ⟨by rw [HV.out]; rfl, ?_⟩
    exact HB.out.trans ((HO.out.below (by omega) (by simp)).setCell (p := ⟨w.heap.size + 1, 0, none⟩) (by simp) _)
  | false =>
    gi_wp2
    refine ⟨trivial, (callsIn_wide.2 (H2.out _ HT1.out (by omega))).mono ?_⟩
    clear H2
    rintro e w2 ⟨rfl, hb2⟩
    obtain ⟨a, ha⟩ : ∃ a, a = (cutItemP l).1 := ⟨_, rfl⟩
    obtain ⟨i, hi⟩ : ∃ i, i = (cutItemP l).2 := ⟨_, rfl⟩
    have HV := Lib.hid (show R = namedV ((tabL.find? (isIt a i)).map fun o => (o, i)) by rw [HR.out, namedP, if_neg (by rw [← HU.out]; simp), ha, hi])
    rw [← ha, ← hi]
    clear ha hi
    have D0 := Lib.hid (C0.out.keep (hb2.block _ C0.out.lt))
    have D1 := Lib.hid (C1.out.keep (hb2.block _ C1.out.lt))
    have HB2 := Lib.hid (HB.out.trans (hb2.mono HB.out.size))
    have hsz2 : w.heap.size + 2 ≤ w2.heap.size := Nat.le_trans hsz hb2.size
    clear hb2 C0 C1 HB HT1
    gi_wp2
    obtain ⟨W3, hW3⟩ : ∃ W3, (w2.alloc (Obj.cells #[Value.string (bs a)] 9)).alloc (Obj.cells #[Value.int IntKind.i64 i] 3) = W3 := ⟨_, rfl⟩
    have hs3 : W3.heap.size = w2.heap.size + 2 := by rw [← hW3]; simp
    have hA3 : BL W3 w2.heap.size 9 [.string (bs a)] := by rw [← hW3]; exact (BL.new w2 9 [.string (bs a)]).alloc _
    have hI3 : BL W3 (w2.heap.size + 1) 3 [.int .i64 i] := by
      rw [← hW3]
      have := BL.new (w2.alloc (Obj.cells #[Value.string (bs a)] 9)) 3 [.int .i64 i]
      rwa [size_alloc] at this
    have h03 : BL W3 w.heap.size 75 (placeL noOpt 0) := by rw [← hW3]; exact (D0.out.alloc _).alloc _
    have h13 : BL W3 (w.heap.size + 1) 4 [.bool false] := by rw [← hW3]; exact (D1.out.alloc _).alloc _
    have hB3 : Below w.heap.size w W3 := by rw [← hW3]; exact (HB2.out.alloc (by omega) _).alloc (by simp; omega) _
    rw [hW3]
    clear hW3 D0 D1 HB2
    refine wpIn_rangeFunc_ownH rfl (by omega) (gf := 102) (lb := #[]) rfl trivial (enters_of Tryz.func102 (by kernel_rfl) rfl)
      (table_stops 5 W3) (fun h k => h.trans k) (fun W l o o' _ h hc _ => KT.putObj W l o o' h hc) (Below.refl _ _) (fun _ => rfl)
      (fun pre W => (BL W w.heap.size 75 (placeL noOpt 0) ∧ BL W (w.heap.size + 1) 4 [.bool false] ∧ BL W w2.heap.size 9 [.string (bs a)] ∧ BL W (w2.heap.size + 1) 3 [.int .i64 i]) ∧ (∀ o ∈ pre, isIt a i o = false) ∧ Below w.heap.size w W ∧ W3.heap.size ≤ W.heap.size)
      (fun c pre W => c = .ret ∧ (∃ o p, pre = p ++ [o] ∧ (∀ x ∈ p, isIt a i x = false) ∧ isIt a i o = true ∧ BL W w.heap.size 75 (placeL o i) ∧ BL W (w.heap.size + 1) 4 [.bool true]) ∧ Below w.heap.size w W)
      ?hI ?hIx ⟨⟨h03, h13, hA3, hI3⟩, by simp, hB3, Nat.le_refl _⟩
      (fun x a' W => ∃ Bx, W3.heap.size ≤ Bx ∧ BL W Bx 73 (optL x) ∧ a' = { tmps := #[.string (bs l), undef, .pointer (some ⟨w.heap.size, 0, none⟩), .pointer (some ⟨w.heap.size + 1, 0, none⟩), .pointer (some ⟨w2.heap.size, 0, none⟩), .pointer (some ⟨w2.heap.size + 1, 0, none⟩), .pointer (some ⟨Bx, 0, none⟩), .string (bs l), .bool false, undef, undef, undef, .tuple #[.string (bs a), .int .i64 i], .string (bs l), .tuple #[.string (bs a), .int .i64 i], .string (bs a), .int .i64 i, optV x, undef, undef, undef, undef, undef, undef, undef, undef, undef, undef, undef, undef, undef, undef, undef, undef, undef], defers := [] })
      ?hAx ?assign ?body ?done ?stop
    case hI =>
      rintro s A B row ⟨⟨h1, h2, h3, h4⟩, h5, h6, h7⟩ hg hr
      exact ⟨⟨h1.kept hg hr, h2.kept hg hr, h3.kept hg hr, h4.kept hg hr⟩, h5, ownFrom_below (β := Unit) (Nat.le_refl _) (by omega) () A B row h6 hg hr, Nat.le_trans h7 hg.size⟩
    case hIx =>
      rintro c s A B row ⟨h1, ⟨o, p, h2, h3, h4, h5, h6⟩, h7⟩ hg hr
      exact ⟨h1, ⟨o, p, h2, h3, h4, h5.kept hg hr, h6.kept hg hr⟩, ownFrom_below (β := Unit) (Nat.le_refl _) (by omega) () A B row h7 hg hr⟩
    case hAx =>
      rintro x a' s A B row ⟨Bx, h1, h2, h3⟩ hg hr
      exact ⟨Bx, h1, h2.kept hg hr, h3⟩
    case assign =>
      rintro l' pre ⟨nm, sc, kd, fi, le, mo, ch⟩ W K ⟨⟨h1, h2, h3, h4⟩, h5, h6, h7⟩ hK
      have HK := Lib.hid (hK _ (W.alloc (.cells (optL ⟨nm, sc, kd, fi, le, mo, ch⟩).toArray 73)) ((KeepsOthers.alloc _ _).from _) (KT.only ((Only.refl [] W).alloc _)) ⟨⟨h1.alloc _, h2.alloc _, h3.alloc _, h4.alloc _⟩, h5, h6.alloc (by omega) _, by simp; omega⟩ ⟨W.heap.size, h7, BL.new W 73 _, rfl⟩)
      clear hK h1 h2 h3 h4 h5 h6 h7
      dsimp only [optV, optL]
      gi_wp2
      exact HK.out
    case body =>
      rintro l' pre ⟨nm, sc, kd, fi, le, mo, ch⟩ a' W hl' ⟨r, hr⟩ ⟨⟨h1, h2, h3, h4⟩, h5, h6, h7⟩ ⟨Bx, hBx, hx, rfl⟩ hlen
      have hra : W.rangeAt Bx 0 [.string (bs nm), .int .i64 sc, .string (bs kd), .string (bs fi), .int .i64 le, .int .i64 mo, .string (bs ch)] := hx.range (fun j v hj => by rw [Nat.zero_add]; exact hj)
      have x0 : W.cell? ⟨Bx, 0, none⟩ = some (.string (bs nm)) := hx.cell 0
      have x2 : W.cell? ⟨Bx, 2, none⟩ = some (.string (bs kd)) := hx.cell 2
      have a0 : W.cell? ⟨w2.heap.size, 0, none⟩ = some (.string (bs a)) := h3.cell 0
      have i0 : W.cell? ⟨w2.heap.size + 1, 0, none⟩ = some (.int .i64 i) := h4.cell 0
      have hW : w.heap.size + 2 ≤ W.heap.size := by omega
      have HX := Lib.hid hra
      have HH1 := Lib.hid h1
      have HH2 := Lib.hid h2
      have HH3 := Lib.hid h3
      have HH4 := Lib.hid h4
      have H5 := Lib.hid h5
      have H6 := Lib.hid h6
      have H7 := Lib.hid h7
      clear hra h1 h2 h3 h4 h5 h6 hx hl' hr hlen
      dsimp only [optV, optL]
      by_cases hn : nm = a
      · have hne : ((bs nm).toList == (bs a).toList) = true := by rw [bs_tl, bs_tl, hn]; simp
        have hq0 : (nm == a) = true := by rw [hn]; simp
        clear hn
        by_cases hi : i = -1
        · have hj : (i == -1) = true := by rw [hi]; rfl
          have hj2 : decide (i = -1) = true := decide_eq_true hi
          clear hi
          have hit : isIt a i ⟨nm, sc, kd, fi, le, mo, ch⟩ = true := by simp only [isIt, hq0, hj]; rfl
          have HIT := Lib.hid hit
          clear hit
          gi_wp2_with (first
            | (refine wpListIn_load_mid rfl 73 _ rfl Bx 0 rfl [.string (bs nm), .int .i64 sc, .string (bs kd), .string (bs fi), .int .i64 le, .int .i64 mo, .string (bs ch)] _ HX.out Tryz.underlying73 rfl (by kernel_rfl) ?_)
            | (refine wpListIn_store_all rfl 75 _ _ rfl w.heap.size (placeL ⟨nm, sc, kd, fi, le, mo, ch⟩ i) rfl rfl 75 _ HH1.out rfl (by kernel_rfl) (placeL_one _ _) ?_; intro w4 h0 ho hk hs4; have D1 := HH2.out.only ho (by simp); have d1 := D1.cell 0; have f1 := D1.frozen 0; have D0 := Lib.hid h0; have HO := Lib.hid ho; have HKK := Lib.hid hk; have DD := Lib.hid D1; clear h0 ho hk D1))
          refine ⟨(HKK.out.trans (KeepsOthers.setCell _ _ _)).from _, rfl, ⟨_, _, rfl, H5.out, HIT.out, D0.out.keep (Below.heap_setCell _ _ _ _ (by simp)), DD.out.set_ 0 _⟩, H6.out.trans ((HO.out.below (by omega) (by simp)).setCell (p := ⟨w.heap.size + 1, 0, none⟩) (by simp) _)⟩
        · have hj : (i == -1) = false := beq_eq_false_iff_ne.2 hi
          have hj2 : decide (i = -1) = false := decide_eq_false hi
          clear hi
          by_cases hkd : kd = arrK
          · have ek : ((bs kd).toList == [97, 114, 114, 97, 121]) = true := by rw [bs_tl, hkd]; rfl
            have hq : (kd == arrK) = true := by rw [hkd]; rfl
            clear hkd
            have hit : isIt a i ⟨nm, sc, kd, fi, le, mo, ch⟩ = true := by simp only [isIt, hq0, hj, hq]; rfl
            have HIT := Lib.hid hit
            clear hit
            gi_wp2_with (first
              | (refine wpListIn_load_mid rfl 73 _ rfl Bx 0 rfl [.string (bs nm), .int .i64 sc, .string (bs kd), .string (bs fi), .int .i64 le, .int .i64 mo, .string (bs ch)] _ HX.out Tryz.underlying73 rfl (by kernel_rfl) ?_)
              | (refine wpListIn_store_all rfl 75 _ _ rfl w.heap.size (placeL ⟨nm, sc, kd, fi, le, mo, ch⟩ i) rfl rfl 75 _ HH1.out rfl (by kernel_rfl) (placeL_one _ _) ?_; intro w4 h0 ho hk hs4; have D1 := HH2.out.only ho (by simp); have d1 := D1.cell 0; have f1 := D1.frozen 0; have D0 := Lib.hid h0; have HO := Lib.hid ho; have HKK := Lib.hid hk; have DD := Lib.hid D1; clear h0 ho hk D1))
            refine ⟨(HKK.out.trans (KeepsOthers.setCell _ _ _)).from _, rfl, ⟨_, _, rfl, H5.out, HIT.out, D0.out.keep (Below.heap_setCell _ _ _ _ (by simp)), DD.out.set_ 0 _⟩, H6.out.trans ((HO.out.below (by omega) (by simp)).setCell (p := ⟨w.heap.size + 1, 0, none⟩) (by simp) _)⟩
          · have ek : ((bs kd).toList == [97, 114, 114, 97, 121]) = false := by rw [bs_tl]; exact beq_eq_false_iff_ne.2 hkd
            have hq : (kd == arrK) = false := beq_eq_false_iff_ne.2 hkd
            clear hkd
            have hit : isIt a i ⟨nm, sc, kd, fi, le, mo, ch⟩ = false := by simp only [isIt, hq0, hj, hq]; rfl
            have HIT := Lib.hid hit
            clear hit
            gi_wp2
            refine ⟨KeepsFrom.refl _ _, KT.refl _, ⟨HH1.out, HH2.out, HH3.out, HH4.out⟩, fun o ho => ?_, H6.out, H7.out⟩
            rcases List.mem_append.1 ho with h | h
            · exact H5.out o h
            · simp only [List.mem_singleton] at h; rw [h]; exact HIT.out
      · have hne : ((bs nm).toList == (bs a).toList) = false := by rw [bs_tl, bs_tl]; exact beq_eq_false_iff_ne.2 hn
        have hq : (nm == a) = false := beq_eq_false_iff_ne.2 hn
        clear hn
        have hit : isIt a i ⟨nm, sc, kd, fi, le, mo, ch⟩ = false := by simp only [isIt, hq]; rfl
        have HIT := Lib.hid hit
        clear hit
        gi_wp2
        refine ⟨KeepsFrom.refl _ _, KT.refl _, ⟨HH1.out, HH2.out, HH3.out, HH4.out⟩, fun o ho => ?_, H6.out, H7.out⟩
        rcases List.mem_append.1 ho with h | h
        · exact H5.out o h
        · simp only [List.mem_singleton] at h; rw [h]; exact HIT.out
    case done =>
      rintro D xs W hD rfl ⟨⟨h1, h2, h3, h4⟩, h5, h6, h7⟩ hK
      have HV2 := Lib.hid (show R = .tuple #[placeV noOpt 0, .bool false] by
        rw [HV.out, List.find?_eq_none.2 (fun o ho => by rw [h5 o ho]; simp)]; rfl)
      have HH1 := Lib.hid h1
      have HH2 := Lib.hid h2
      have H6 := Lib.hid h6
      have HK := Lib.hid hK
      have hD2 : w.heap.size ≤ D := by omega
      have hW : w.heap.size + 2 ≤ W.heap.size := by omega
      clear h1 h2 h3 h4 h5 h6 hK
      gi_wp2_with (refine wpListIn_store_all rfl 75 _ _ rfl w.heap.size (placeL noOpt 0) rfl rfl 75 _ HH1.out rfl (by kernel_rfl) (placeL_one _ _) ?_; intro w4 h0 ho hk hs4; have D1 := HH2.out.only ho (by simp); have d1 := D1.cell 0; have f1 := D1.frozen 0; have D0 := Lib.hid h0; have HO := Lib.hid ho; have HKK := Lib.hid hk; have DD := Lib.hid D1; clear h0 ho hk D1)
      have hK4 := ((HKK.out.trans (KeepsOthers.setCell w4 ⟨w.heap.size + 1, 0, none⟩ (.bool false))).same D _ HK.out rfl)
      have E0 := (D0.out.keep (w' := w4.setCell ⟨w.heap.size + 1, 0, none⟩ (.bool false)) (Below.heap_setCell _ _ _ _ (by simp))).putD hK4 rfl (.deferred none)
      have E1 := (DD.out.set_ 0 (.bool false)).putD hK4 rfl (.deferred none)
      have hb := (H6.out.trans ((HO.out.below (by omega) (by simp)).setCell (p := ⟨w.heap.size + 1, 0, none⟩) (by simp) (.bool false))).trans (belowK_b (w := w) (Nat.le_refl _) _ D _ (.deferred none) hD2 hK4 rfl rfl)
      refine ⟨by simp, .inl ⟨_, _, rfl, run_takeDeferred hK4, ?_⟩⟩
      exact ⟨_, results_two (p := 2) (q := 3) (by kernel_rfl) _ _ w.heap.size (w.heap.size + 1) _ _ _ _ _ rfl rfl E0 E1 Tryz.underlying75 rfl (by kernel_rfl) _ Tryz.underlying4 rfl, by rw [HV2.out]; rfl, hb⟩
    case stop =>
      rintro D c pre W hD hSp ⟨rfl, ⟨o, p, hp, h3, h4, h5, h6⟩, h7⟩ hK
      have HV2 := Lib.hid (show R = .tuple #[placeV o i, .bool true] by
        rw [HV.out, find_hit (hp ▸ hSp) h3 h4]; rfl)
      have hD2 : w.heap.size ≤ D := by omega
      have E0 := h5.putD hK rfl (.deferred none)
      have E1 := h6.putD hK rfl (.deferred none)
      have hb := h7.trans (belowK_b (w := w) (Nat.le_refl _) _ D _ (.deferred none) hD2 hK rfl rfl)
      clear h5 h6 h7 hSp h3 h4 hp
      gi_wp2
      refine ⟨by simp, .inl ⟨_, _, rfl, run_takeDeferred hK, ?_⟩⟩
      exact ⟨_, results_two (p := 2) (q := 3) (by kernel_rfl) _ _ w.heap.size (w.heap.size + 1) _ _ _ _ _ rfl rfl E0 E1 Tryz.underlying75 rfl (by kernel_rfl) _ Tryz.underlying4 rfl, by rw [HV2.out]; rfl, hb⟩
end Go.Proofs.YthmadnadaakjaaaGreatDoor.Opt
