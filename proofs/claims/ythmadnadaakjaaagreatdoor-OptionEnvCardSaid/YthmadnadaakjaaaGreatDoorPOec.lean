/- The program's Names walked. -/
import Derived.Test.YthmadnadaakjaaaGreatDoorPOeg
import Derived.Maps.RangeWalk
import Derived.Sort.KeysCollected
import Derived.Test.YthmadnadaakjaaaGreatDoorPOet
import Derived.Test.YthmadnadaakjaaaGreatDoorCards
import Derived.Test.YthmadnadaakjaaaGreatDoorTie
import Derived.Test.YthmadnadaakjaaaGreatDoorPFlat
import Derived.Test.YthmadnadaakjaaaGreatDoorPPost
import Derived.ProofKit
import Derived.OpenShut
import Derived.Lay
import Derived.LaidLaws
import Derived.Lib.SmallJoins
import Derived.ChangeMaps5
import Derived.Deep.DeepHandedRow
namespace Go.Proofs.YthmadnadaakjaaaGreatDoor.Opt.Ev
open Go.RowKit Go.Maps Go.Sort Go.Proofs.YthmadnadaakjaaaGreatDoor.Opt

/-- A variable's value, as one. -/
structure VB where
  s : ByteArray
  h : Bool
/-- What a map says of a name. -/
def lookS (S : DataW Value) (nm : Tx) : Option Value := if hasP S nm = true then some (valP S nm) else none
/-- What a map says, else the levels. -/
def orP (S : DataW Value) (r : List (DataW Value)) (nm : Tx) : Option Value := match lookS S nm with | some v => some v | none => lookP r nm
theorem orP_nil (r : List (DataW Value)) (nm : Tx) : orP (.map []) r nm = lookP r nm := rfl
theorem orP_none (S : DataW Value) (r : List (DataW Value)) (nm : Tx) : orP S (.map [] :: r) nm = orP S r nm := rfl
/-- What has been taken over of a level. -/
def overS (S D : DataW Value) (ss : List Tx) (nm : Tx) : Option Value := match lookS S nm with | some v => some v | none => if nm ∈ ss then some (valP D nm) else none
theorem over_nil (S D : DataW Value) (nm : Tx) : overS S D [] nm = lookS S nm := by
  unfold overS
  cases lookS S nm <;> simp
theorem over_all {S S' D : DataW Value} {ss : List Tx} (h : ∀ nm, lookS S' nm = overS S D ss nm) (hs : ∀ nm, nm ∈ ss ↔ hasP D nm = true) (r : List (DataW Value)) (nm : Tx) : orP S' r nm = orP S (D :: r) nm := by
  unfold orP
  rw [h nm, overS]
  cases lookS S nm with
  | some v => rfl
  | none =>
    dsimp only
    rw [lookP]
    by_cases hd : hasP D nm = true
    · rw [if_pos ((hs nm).2 hd), if_pos hd]
    · rw [if_neg (fun e => hd ((hs nm).1 e)), if_neg hd]
theorem own_keepM {w w' : World} {m n : Nat} {D : DataW Value} (h : w.ownsMap Tryz.prog 9 varR m n D) (e : w'.heap[m]? = w.heap[m]?) : w'.ownsMap Tryz.prog 9 varR m n D := by
  obtain ⟨es, cl, h1, h2⟩ := h
  exact ⟨es, cl, e.trans h1, h2⟩
theorem over_skip {S S' D : DataW Value} {ss : List Tx} {x : Tx} (h : ∀ nm, lookS S' nm = overS S D ss nm) (hx : hasP S' x = true) (nm : Tx) : lookS S' nm = overS S D (ss ++ [x]) nm := by
  rw [h nm]
  unfold overS
  cases hl : lookS S nm with
  | some v => rfl
  | none =>
    dsimp only
    by_cases hn : nm ∈ ss
    · rw [if_pos hn, if_pos (by simp [hn])]
    · by_cases hnx : nm = x
      · exfalso
        subst hnx
        have h1 := h nm
        unfold overS lookS at h1
        unfold lookS at hl
        rw [hl, if_pos hx] at h1
        dsimp only at h1
        rw [if_neg hn] at h1
        cases h1
      · rw [if_neg hn, if_neg (by simp [hn, hnx])]
theorem over_put {S S' D : DataW Value} {ss : List Tx} {x : Tx} (h : ∀ nm, lookS S' nm = overS S D ss nm) (hm : IsMap S') (hx : hasP S' x = false) (nm : Tx) : lookS (putD S' x (valP D x)) nm = overS S D (ss ++ [x]) nm := by
  have hk : WideAt.IsKeyLit (Lit.string x) := trivial
  by_cases hnx : nm = x
  · subst hnx
    have h1 : hasP (putD S' nm (valP D nm)) nm = true := has_put_same hm hk _
    have h2 : (putD S' nm (valP D nm)).atKey (.string nm) (.held zeroH) = .held (valP D nm) := atKey_put_same hm hk _ _
    have h3 := h nm
    have h4 : lookS S' nm = none := by unfold lookS; rw [hx]; rfl
    rw [h4] at h3
    unfold overS at h3 ⊢
    cases hl : lookS S nm with
    | some v => rw [hl] at h3; cases h3
    | none =>
      dsimp only
      rw [if_pos (by simp)]
      unfold lookS
      rw [if_pos h1]
      have h5 : valP (putD S' nm (valP D nm)) nm = unheld ((putD S' nm (valP D nm)).atKey (.string nm) (.held zeroH)) := rfl
      rw [h5, h2]; rfl
  · have h1 : hasP (putD S' x (valP D x)) nm = hasP S' nm := has_put_other (lit_ne hnx) _
    have h2 : (putD S' x (valP D x)).atKey (.string nm) (.held zeroH) = S'.atKey (.string nm) (.held zeroH) := atKey_put_other (lit_ne hnx) _ _
    have h3 : lookS (putD S' x (valP D x)) nm = lookS S' nm := by
      unfold lookS
      have h5 : valP (putD S' x (valP D x)) nm = valP S' nm := by
        show unheld ((putD S' x (valP D x)).atKey (.string nm) (.held zeroH)) = _
        rw [h2]; rfl
      rw [h1, h5]
    rw [h3, h nm]
    unfold overS
    cases lookS S nm with
    | some v => rfl
    | none =>
      dsimp only
      by_cases hn : nm ∈ ss
      · rw [if_pos hn, if_pos (by simp [hn])]
      · rw [if_neg hn, if_neg (by simp [hn, hnx])]
theorem orP_end (S : DataW Value) (nm : Tx) : orP S [] nm = lookS S nm := by
  unfold orP
  cases lookS S nm <;> rfl
set_option maxRecDepth 100000 in
set_option maxHeartbeats 4000000 in
theorem names_any (b : Nat) (ls : List (DataW Value)) (w : World) (h : LvAt w (some ⟨b, 0, none⟩) ls) (hsz : ∀ D ∈ ls, Maps.size D ≤ 1000) (hln : ls.length ≤ 10) :
    Calls Tryz.prog 29 #[.pointer (some ⟨b, 0, none⟩)] w fun e w' => ∃ (v : Value) (ss : List Tx), e = .returned v ∧ ss.Nodup ∧ (∀ x, x ∈ ss ↔ seenP ls x = true) ∧ w'.ownsRow w.heap.size 9 1 v ss.length (strL (ss.mergeSort fun x y => decide (x ≤ y))) ∧ Below w.heap.size w w' := by
  have HH := Lib.hid h
  have HSZ := Lib.hid hsz
  clear h hsz
  have hmade := World.ownsMap_made w Tryz.prog 9 varR
  have HM := Lib.hid hmade
  have HB0 := Lib.hid ((Below.refl w.heap.size w).alloc (Nat.le_refl _) (.map #[] 0))
  clear hmade
  have hmm := @run_makeMap Tryz.prog
  go_enter Tryz.func29, Tryz.ntmps29
  go_wp2_with fail
  go_loopg [4] ls.length (fun k x wr => ∃ q rest S n, x = .pointer q ∧ rest.length = k ∧ LvAt w q rest ∧ (∀ D ∈ rest, Maps.size D ≤ 1000) ∧ (∀ nm, orP S rest nm = lookP ls nm) ∧ wr.ownsMap Tryz.prog 9 varR w.heap.size n S ∧ n + 1000 * rest.length ≤ 10000 ∧ Below w.heap.size w wr ∧ w.heap.size + 1 ≤ wr.heap.size)
  case atStart => exact ⟨some ⟨b, 0, none⟩, ls, .map [], 0, rfl, rfl, HH.out, HSZ.out, fun nm => orP_nil ls nm, HM.out, by omega, HB0.out, by simp⟩
  case round =>
    obtain ⟨q, rest, S, n, rfl, hk, hlv, hsz, hor, how, hnn, hb, hs1⟩ := hrel
    cases rest with
    | nil =>
      obtain rfl : q = none := hlv
      obtain ⟨I, hI⟩ : ∃ I, I = wr.heap.size := ⟨_, rfl⟩
      have hSsz := how.size_le
      have HO := Lib.hid how
      have HB := Lib.hid hb
      have HLS := Lib.hid (show ∀ nm, lookS S nm = lookP ls nm from fun nm => (orP_end S nm).symm.trans (hor nm))
      have hSn : Maps.size S ≤ 10000 := by simp at hnn; omega
      have hIw : w.heap.size + 1 ≤ I := by omega
      clear how hb hor hsz hk hnn hSsz HH HSZ HM HB0
      go_wp2_with (at_range; refine wpList_range_own _ rfl _ 112 rfl 9 123 lawK Tryz.underlying112 varR w.heap.size n S rfl HO.out ?_; intro w0 hrg0 hg0 hs0)
      go_frame
      rw [← hI] at hrg0 hs0 ⊢
      have hb0 : Below w.heap.size w w0 := HB.out.grown hg0 HB.out.size (fun j hj => by cases hj)
      have HI := Lib.hid hI
      have HNil := World.ownsRow_nil w0 (I + 1) 9 1
      clear HO hI
      go_loopw [9] (fun vo wz => ∃ (left : Lit → Bool) (cnt : Nat) (ss out : List Tx), wz.ranges Tryz.prog 9 varR w.heap.size I n S left cnt ∧ Collected S left ss ∧ ss.length + cnt ≤ Maps.size S ∧ out = ss.filter (fun x => !hidV (valP S x)) ∧ wz.ownsRow (I + 1) 9 1 vo out.length (strL out) ∧ Below w.heap.size w wz ∧ I + 1 ≤ wz.heap.size)
        (fun _ wz => wz.rangeLeft w.heap.size I)
      case atStart => exact ⟨_, _, [], [], hrg0, Collected.start S, by simp, rfl, HNil, hb0, by omega⟩
      case round =>
        obtain ⟨left, cnt, ss, out, hrg, hC, hcs, hout, how, hbz, hsz'⟩ := hrel
        have HRG := Lib.hid hrg
        have HOz := Lib.hid how
        have HBz := Lib.hid hbz
        have HOut := Lib.hid hout
        have hol : out.length ≤ ss.length := by rw [hout]; exact List.length_filter_le _ _
        clear hrg how hbz hout HNil
        go_wp2_with (at_next; refine wpList_next_ranges _ rfl _ rfl 9 lawK varR (fun x : Tx => .string (bs x)) (fun y : VB => .agg #[.string y.s, .bool y.h]) (fun key kl h => by obtain ⟨x, h1, _⟩ := key_str h; exact ⟨x, h1⟩) (fun v y h => by obtain ⟨s, hd, h1, _⟩ := varR_inv h; exact ⟨⟨s, hd⟩, h1⟩) w.heap.size I n S left cnt rfl HRG.out ?_ ?_)
        · intro _ hl0
          have hnd : out.Nodup := by rw [HOut.out]; exact hC.1.filter _
          have hmem : ∀ x, x ∈ out ↔ seenP ls x = true := fun x => by
            rw [HOut.out, List.mem_filter, hC.2 x, hl0]
            unfold seenP
            rw [← HLS.out x]
            unfold lookS
            by_cases hh : hasP S x = true
            · rw [if_pos hh]
              have : Maps.has S (.string x) = true := hh
              rw [this]; simp
            · rw [if_neg hh]
              have : Maps.has S (.string x) = false := Bool.eq_false_iff.2 hh
              rw [this]; simp
          have HND := Lib.hid hnd
          have HMEM := Lib.hid hmem
          have HS := Lib.hid (sort_any _ out (I + 1) wr HOz.out hsz' (by omega))
          clear hnd hmem hC hl0
          go_wp2_with fail
          refine HS.out.mono ?_
          rintro e w6 ⟨rfl, ho6, hb6⟩
          have HO6 := Lib.hid (owns_base ho6 (show w.heap.size ≤ I + 1 by omega))
          have HB6 := Lib.hid (HBz.out.trans (hb6.mono (by omega)))
          clear ho6 hb6 HS
          go_wp2_with fail
          go_ret
          exact ⟨_, out, rfl, HND.out, HMEM.out, HO6.out, HB6.out⟩
        · rintro x ⟨sv, hd⟩ kl yd yp w1 cnt1 hkey hlk hv hat hrg1 hlt1 hg1 hs1 hen
          obtain ⟨x', ex, rfl, hxl⟩ := Maps.keyOf_str Tryz.underlying9 hkey
          obtain rfl : x = x' := bs_inj (Value.string.inj ex)
          have hy : yd = .held (.agg #[.string sv, .bool hd]) := by
            have := (varR_mk sv hd).symm.trans hv
            exact (congrArg Prod.fst (Option.some.inj this)).symm
          have hval : valP S x = .agg #[.string sv, .bool hd] := by unfold valP; rw [hat, hy]; rfl
          have hC1 := hC.step hlk hat
          have hl1 : (ss ++ [x]).length + cnt1 ≤ Maps.size S := by rw [List.length_append]; simp; omega
          have hbw1 : Below w.heap.size w w1 := HBz.out.grown hg1 HBz.out.size (fun j hj => by cases hj; omega)
          have how1 := HOz.out.kept hg1 (.inr (fun e => by have := (HOz.out.lt I e).1; omega))
          have HLE := Lib.hid HRG.out.left_eq
          have HL1 := Lib.hid hl1
          have HC1 := Lib.hid hC1
          have HRG1 := Lib.hid hrg1
          have HBW1 := Lib.hid hbw1
          have HOW1 := Lib.hid how1
          have hI2 : I + 1 ≤ w1.heap.size := by omega
          have hossl : out.length ≤ 100000 := by omega
          clear hl1 hC1 hrg1 hbw1 how1 hs1 hg1 hC hat hlk hkey hv hy ex hcs
          cases hd with
          | true =>
            have HF := Lib.hid (show out = (ss ++ [x]).filter (fun x => !hidV (valP S x)) by
              rw [List.filter_append, ← HOut.out]; simp [hval, hidV])
            clear hval
            go_wp2_with fail
            go_roundw
            case rel => exact ⟨_, cnt1, ss ++ [x], out, HRG1.out.alloc _, HC1.out, HL1.out, HF.out, HOW1.out.alloc _, HBW1.out.alloc HBW1.out.size _, by simp; omega⟩
            case measure => rw [(HRG1.out.alloc _).left_eq, HLE.out]; exact hlt1
          | false =>
            have HF := Lib.hid (show out ++ [x] = (ss ++ [x]).filter (fun x => !hidV (valP S x)) by
              rw [List.filter_append, ← HOut.out]; simp [hval, hidV])
            clear hval
            have hn4 := BL.new (w1.alloc (.cells #[.string sv, .bool false] 123)) 9 [.string (bs x)]
            rw [size_alloc] at hn4
            have HN4 := Lib.hid hn4
            have HO4 := Lib.hid ((HOW1.out.alloc (.cells #[.string sv, .bool false] 123)).alloc (.cells #[.string (bs x)] 9))
            have HR4 := Lib.hid ((HRG1.out.alloc (.cells #[.string sv, .bool false] 123)).alloc (.cells #[.string (bs x)] 9))
            have HB4 := Lib.hid ((HBW1.out.alloc HBW1.out.size (.cells #[.string sv, .bool false] 123)).alloc (by have := HBW1.out.size; simp; omega) (.cells #[.string (bs x)] 9))
            have hbase : I + 1 ≤ ((w1.alloc (.cells #[.string sv, .bool false] 123)).alloc (.cells #[.string (bs x)] 9)).heap.size := by simp; omega
            have HBASE := Lib.hid hbase
            clear hn4 hbase
            go_wp2_with (at_builtin; refine wpList_app_str rfl _ _ rfl (I + 1) _ out x rfl HO4.out (w1.heap.size + 1) 1 rfl HN4.out HBASE.out hossl ?_; intro v5 w5 ho5 hg5; have HO5 := Lib.hid ho5; have HR5 := Lib.hid (HR4.out.kept hg5 (fun e => by have := (HO4.out.lt _ e.symm).1; omega) (fun e => by have := (HO4.out.lt _ e.symm).1; omega)); have HB5 := Lib.hid (HB4.out.grown hg5 HB4.out.size (fun k hk => by have := (HO4.out.lt k hk).1; omega)); have HZ5 := Lib.hid (Nat.le_trans HBASE.out hg5.size); clear ho5 hg5)
            go_roundw
            case rel => exact ⟨_, cnt1, ss ++ [x], out ++ [x], HR5.out, HC1.out, HL1.out, HF.out, HO5.out, HB5.out, HZ5.out⟩
            case measure => rw [HR5.out.left_eq, HLE.out]; exact hlt1
    | cons D rest =>
      obtain ⟨b2, own, q2, n2, rfl, c1, c2, how2, hr⟩ := hlv
      have d1 : wr.cell? ⟨b2, 0, none⟩ = some own := (hb.cell (p := ⟨b2, 0, none⟩) (cell_lt c1)).trans c1
      have d2 : wr.cell? ⟨b2, 1, none⟩ = some (.pointer q2) := (hb.cell (p := ⟨b2, 1, none⟩) (cell_lt c2)).trans c2
      have hol := how2.lt
      have how3 := how2.below hb how2.lt
      have HLR := Lib.hid hr
      have HK := Lib.hid hk
      have HSZ2 := Lib.hid (show ∀ E ∈ rest, Maps.size E ≤ 1000 from fun E hE => hsz E (List.mem_cons_of_mem _ hE))
      have hDs := hsz D (List.mem_cons_self ..)
      have HOR := Lib.hid hor
      have HW := Lib.hid how
      have HB := Lib.hid hb
      have hlen : n + 1000 * (rest.length + 1) ≤ 10000 := by simpa using hnn
      have HC0 := Lib.hid c2
      have HCL := Lib.hid (cell_lt c2)
      clear hr hk hsz hor how hb hnn c1 c2 how2
      have hbw : b2 < wr.heap.size := cell_lt d1
      rcases how3 with ⟨rfl, rfl⟩ | ⟨m, rfl, hown⟩
      · have hrg := run_range_nilMap (P := Tryz.prog) wr 112 9 123 Tryz.underlying112
        have hnx : ∀ ty, (Instr.next (.pointer (some ⟨wr.heap.size, 0, none⟩)) false ty).run Tryz.prog (wr.alloc (.mapIter none 0 #[] 0)) = _ := fun ty => run_next_nilMap _ ty 0 0 #[]
        have d2' : (wr.alloc (.mapIter none 0 #[] 0)).cell? ⟨b2, 1, none⟩ = some (.pointer q2) := (((Below.refl _ wr).alloc (Nat.le_refl _) _).cell (p := ⟨b2, 1, none⟩) hbw).trans d2
        go_wp2_with fail
        refine wp_loop_rounds 1 ?_
        rw [rounds_succ]
        go_wp2_with fail
        go_roundg rest.length
        case measure => have := HK.out; simp only [List.length_cons] at this; omega
        case rel => exact ⟨q2, rest, S, n, rfl, rfl, HLR.out, HSZ2.out, fun nm => (orP_none S rest nm).symm.trans (HOR.out nm), HW.out.alloc _, by omega, HB.out.alloc HB.out.size _, by simp; omega⟩
      · obtain ⟨I, hI⟩ : ∃ I, I = wr.heap.size := ⟨_, rfl⟩
        have hmw : m < w.heap.size := hol m rfl
        have HO := Lib.hid hown
        have HC2 := Lib.hid (show ∀ wz, Below w.heap.size w wz → wz.cell? ⟨b2, 1, none⟩ = some (.pointer q2) from fun wz hz => (hz.cell (p := ⟨b2, 1, none⟩) HCL.out).trans HC0.out)
        clear hown
        go_wp2_with (at_range; refine wpList_range_own _ rfl _ 112 rfl 9 123 lawK Tryz.underlying112 varR m n2 D rfl HO.out ?_; intro w0 hrg0 hg0 hs0)
        go_frame
        rw [← hI] at hrg0 hs0 ⊢
        have hb0 : Below w.heap.size w w0 := HB.out.grown hg0 HB.out.size (fun j hj => by cases hj)
        have how0 := own_keepM HW.out (hg0.block w.heap.size (by omega) (by simp))
        have hI1 : w.heap.size + 1 ≤ I := by omega
        have HI := Lib.hid hI
        clear HO hI
        go_loopw [] (fun wz => ∃ (left : Lit → Bool) (cnt : Nat) (ss : List Tx) (S' : DataW Value) (n' : Nat), wz.ranges Tryz.prog 9 varR m I n2 D left cnt ∧ Collected D left ss ∧ ss.length + cnt ≤ Maps.size D ∧ (∀ nm, lookS S' nm = overS S D ss nm) ∧ wz.ownsMap Tryz.prog 9 varR w.heap.size n' S' ∧ n' ≤ n + ss.length ∧ Below w.heap.size w wz ∧ I + 1 ≤ wz.heap.size)
          (fun wz => wz.rangeLeft m I)
        case atStart => exact ⟨_, _, [], S, n, hrg0, Collected.start D, by simp, fun nm => (over_nil S D nm).symm, how0, by simp, hb0, by omega⟩
        case round =>
          obtain ⟨left, cnt, ss, S', n', hrg, hC, hcs, hov, how', hn', hbz, hsz'⟩ := hrel
          have HRG := Lib.hid hrg
          have HOV := Lib.hid hov
          have HOWz := Lib.hid how'
          have HBz := Lib.hid hbz
          have d2z := HC2.out _ hbz
          clear hrg hov how' hbz
          go_wp2_with (at_next; refine wpList_next_ranges _ rfl _ rfl 9 lawK varR (fun x : Tx => .string (bs x)) (fun y : VB => .agg #[.string y.s, .bool y.h]) (fun key kl h => by obtain ⟨x, h1, _⟩ := key_str h; exact ⟨x, h1⟩) (fun v y h => by obtain ⟨s, hd, h1, _⟩ := varR_inv h; exact ⟨⟨s, hd⟩, h1⟩) m I n2 D left cnt rfl HRG.out ?_ ?_)
          · intro _ hl0
            have hmem : ∀ nm, nm ∈ ss ↔ hasP D nm = true := fun nm => by rw [hC.2 nm, hl0]; simp; rfl
            have HMEM := Lib.hid hmem
            clear hmem hC hl0
            go_wp2_with fail
            go_roundg rest.length
            case measure => have := HK.out; simp only [List.length_cons] at this; omega
            case rel => exact ⟨q2, rest, S', n', rfl, rfl, HLR.out, HSZ2.out, fun nm => (over_all HOV.out HMEM.out rest nm).trans (HOR.out nm), HOWz.out, by omega, HBz.out, by omega⟩
          · rintro x ⟨sv, hd⟩ kl yd yp w1 cnt1 hkey hlk hv hat hrg1 hlt1 hg1 hs1 hen
            obtain ⟨x', ex, rfl, hxl⟩ := Maps.keyOf_str Tryz.underlying9 hkey
            obtain rfl : x = x' := bs_inj (Value.string.inj ex)
            have hy : yd = .held (.agg #[.string sv, .bool hd]) := by
              have := (varR_mk sv hd).symm.trans hv
              exact (congrArg Prod.fst (Option.some.inj this)).symm
            have hval : valP D x = .agg #[.string sv, .bool hd] := by unfold valP; rw [hat, hy]; rfl
            have hC1 := hC.step hlk hat
            have hl1 : (ss ++ [x]).length + cnt1 ≤ Maps.size D := by rw [List.length_append]; simp; omega
            have hbw1 : Below w.heap.size w w1 := HBz.out.grown hg1 HBz.out.size (fun j hj => by cases hj; omega)
            have how1 := own_keepM HOWz.out (hg1.block w.heap.size (by omega) (by intro e; have := Option.some.inj e; omega))
            have hle := HRG.out.left_eq
            have HLE := Lib.hid hle
            have HL1 := Lib.hid hl1
            have HC1 := Lib.hid hC1
            have HRG1 := Lib.hid hrg1
            have HBW1 := Lib.hid hbw1
            have HOW1 := Lib.hid how1
            have HG1 := Lib.hid (show w1.heap.size = wr.heap.size from hs1)
            have hI2 : I + 1 ≤ w1.heap.size := by omega
            have hmI : m ≠ I := by omega
            have hmSd : m ≠ w.heap.size := by omega
            have hISd : I ≠ w.heap.size := by omega
            have HOW2 := Lib.hid (how1.alloc (.cells #[.string sv, .bool hd] 123))
            have hS'map := how1.isMap
            have hssl : ss.length ≤ 1000 := by omega
            clear hle hl1 hC1 hrg1 hbw1 how1 hs1 hg1 hC hat hlk hkey hv hy ex hcs
            cases hh : hasP S' x with
            | true =>
              have HOV2 := Lib.hid (over_skip HOV.out hh)
              go_wp2_with (at_lookup; refine wpList_look rfl _ _ rfl (.map (some w.heap.size)) S' n' rfl (.inr ⟨_, rfl, HOW2.out⟩) x hxl rfl ?_; intro s2 h2 hv2; rw [hh]; clear hv2)
              go_roundw
              case rel => exact ⟨_, cnt1, ss ++ [x], S', n', (HRG1.out.alloc _).alloc _, HC1.out, HL1.out, HOV2.out, HOW2.out.alloc _, by rw [List.length_append]; simp; omega, (HBW1.out.alloc HBW1.out.size _).alloc (by have := HBW1.out.size; simp; omega) _, by simp; omega⟩
              case measure => rw [((HRG1.out.alloc _).alloc _).left_eq, HLE.out]; exact hlt1
            | false =>
              have hop := over_put HOV.out hS'map hh
              rw [hval] at hop
              have HOV2 := Lib.hid hop
              have hn100 : n' < maxLen := by unfold maxLen; omega
              clear hop hval hS'map
              go_wp2_with (at_lookup; refine wpList_look rfl _ _ rfl (.map (some w.heap.size)) S' n' rfl (.inr ⟨_, rfl, HOW2.out⟩) x hxl rfl ?_; intro s2 h2 hv2; rw [hh]; clear hv2; obtain ⟨w5, hrun, how5, hg5⟩ := (HOW2.out.alloc (.cells #[.string s2, .bool h2] 123)).update lawK Tryz.underlying112 hn100 (keyS x hxl) (varR_mk sv hd); have HOW5 := Lib.hid how5; have HG5 := Lib.hid hg5; clear how5 hg5; have k0 := ((BL.new w1 123 [.string sv, .bool hd]).alloc (.cells #[.string s2, .bool h2] 123)).cell 0; have k1 := ((BL.new w1 123 [.string sv, .bool hd]).alloc (.cells #[.string s2, .bool h2] 123)).cell 1)
              go_roundw
              case rel => exact ⟨_, cnt1, ss ++ [x], _, _, ((HRG1.out.alloc _).alloc _).kept HG5.out (by intro e; exact hmSd (Option.some.inj e)) (by intro e; exact hISd (Option.some.inj e)), HC1.out, HL1.out, HOV2.out, HOW5.out, by rw [List.length_append]; simp; omega, ((HBW1.out.alloc HBW1.out.size _).alloc (by have := HBW1.out.size; simp; omega) _).grown HG5.out (by have := HBW1.out.size; simp; omega) (fun j hj => by cases hj; exact Nat.le_refl _), by have := HG5.out.size; simp at this; omega⟩
              case measure => rw [(((HRG1.out.alloc _).alloc _).kept HG5.out (by intro e; exact hmSd (Option.some.inj e)) (by intro e; exact hISd (Option.some.inj e))).left_eq, HLE.out]; exact hlt1
end Go.Proofs.YthmadnadaakjaaaGreatDoor.Opt.Ev
/- Two environments of the program's, two of the chapter's: how they lie, and what a call leaves of them. -/
namespace Go.Proofs.YthmadnadaakjaaaGreatDoor.Opt.Ev
open Go.RowKit Go.Maps Go.Proofs.YthmadnadaakjaaaGreatDoor.Opt

theorem fold_len (top : List (List En)) : ∀ (ns out : List Tx), (ns.foldl (addN top) out).length ≤ out.length + ns.length
  | [], out => by simp
  | n :: ns, out => by
    have h1 := fold_len top ns (addN top out n)
    have h2 := addN_len top out n
    rw [List.foldl_cons, List.length_cons]
    omega
theorem gather_len (top : List (List En)) : ∀ (r : List (List En)) (out : List Tx), (gather top r out).length ≤ out.length + sumL r
  | [], out => by simp [gather, sumL]
  | es :: r, out => by
    have h1 := gather_len top r ((es.map (·.1)).foldl (addN top) out)
    have h2 := fold_len top (es.map (·.1)) out
    have h3 : sumL (es :: r) = es.length + sumL r := by simp [sumL]
    rw [gather, h3]
    rw [List.length_map] at h2
    omega
/-- Whose a block is. -/
def Tg (tag : Nat → Nat) (N i : Nat) (F : List Nat) : Prop := ∀ x ∈ F, N ≤ x ∧ tag x = i
theorem Tg.no {tag : Nat → Nat} {N i j : Nat} {F G : List Nat} (h : Tg tag N i F) (k : Tg tag N j G) (hij : i ≠ j) : ∀ x ∈ F, x ∉ G := fun x hx hg => hij ((h x hx).2.symm.trans (k x hg).2)
def tagAt (tag : Nat → Nat) (n i : Nat) : Nat → Nat := fun x => if x < n then tag x else i
theorem Tg.keep {tag : Nat → Nat} {N i n j : Nat} {F : List Nat} (h : Tg tag N i F) (hF : ∀ x ∈ F, x < n) : Tg (tagAt tag n j) N i F := fun x hx => ⟨(h x hx).1, by unfold tagAt; rw [if_pos (hF x hx)]; exact (h x hx).2⟩
theorem Tg.grow {tag : Nat → Nat} {N i n : Nat} {F F' : List Nat} (h : Tg tag N i F) (hn : ∀ x ∈ F, x < n) (hN : N ≤ n) (hF : ∀ x ∈ F', x ∈ F ∨ n ≤ x) : Tg (tagAt tag n i) N i F' := fun x hx => by
  rcases hF x hx with h1 | h1
  · exact h.keep hn x h1
  · exact ⟨by omega, by unfold tagAt; rw [if_neg (by omega)]⟩
/-- How the four lie. -/
structure Lie (w : World) (ba bb bc bd : Nat) (E : List Nat) (K : Nat → Option Obj) (k : Nat) (oa : Value) (Da : DataW Value) (na : Nat) (ob : Value) (Db : DataW Value) (nb : Nat) (vc : Value) (ec : List En) (vd : Value) (ed : List En) (tag : Nat → Nat) (wr : World) : Prop where
  a : EnvA wr ba oa none Da na
  b : EnvA wr bb ob (some ⟨ba, 0, none⟩) Db nb
  c : REnv wr bc none vc ec
  d : REnv wr bd (some ⟨bc, 0, none⟩) vd ed
  ta : Tg tag w.heap.size 1 (foot ba oa)
  tb : Tg tag w.heap.size 2 (foot bb ob)
  tc : Tg tag w.heap.size 3 (rfoot bc vc)
  td : Tg tag w.heap.size 4 (rfoot bd vd)
  te : Tg tag w.heap.size 5 E
  kept : ∀ x ∈ E, x < wr.heap.size ∧ wr.heap[x]? = K x
  na : na ≤ k
  nb : nb ≤ k
  nc : ec.length ≤ k
  nd : ed.length ≤ k
  fr : Below w.heap.size w wr
def SV (w : World) (ba bb bc bd : Nat) (E : List Nat) (K : Nat → Option Obj) (k : Nat) (Da Db : DataW Value) (ec ed : List En) (wr : World) : Prop :=
  ∃ oa na ob nb vc vd tag, Lie w ba bb bc bd E K k oa Da na ob Db nb vc ec vd ed tag wr
section
variable {w wr w' : World} {ba bb bc bd k : Nat} {E : List Nat} {K : Nat → Option Obj} {Da Db : DataW Value} {ec ed : List En}
theorem SV.below (h : SV w ba bb bc bd E K k Da Db ec ed wr) (hb : Below wr.heap.size wr w') : SV w ba bb bc bd E K k Da Db ec ed w' := by
  obtain ⟨oa, na, ob, nb, vc, vd, tag, h⟩ := h
  exact ⟨oa, na, ob, nb, vc, vd, tag, h.a.below hb, h.b.below hb, h.c.below hb, h.d.below hb, h.ta, h.tb, h.tc, h.td, h.te, fun x hx => ⟨Nat.lt_of_lt_of_le (h.kept x hx).1 hb.size, (hb.block x (h.kept x hx).1).trans (h.kept x hx).2⟩, h.na, h.nb, h.nc, h.nd, h.fr.trans (hb.mono h.fr.size)⟩
theorem SV.fr (h : SV w ba bb bc bd E K k Da Db ec ed wr) : Below w.heap.size w wr := by
  obtain ⟨oa, na, ob, nb, vc, vd, tag, h⟩ := h
  exact h.fr
theorem SV.more (h : SV w ba bb bc bd E K k Da Db ec ed wr) {k' : Nat} (hk : k ≤ k') : SV w ba bb bc bd E K k' Da Db ec ed wr := by
  obtain ⟨oa, na, ob, nb, vc, vd, tag, h⟩ := h
  exact ⟨oa, na, ob, nb, vc, vd, tag, h.a, h.b, h.c, h.d, h.ta, h.tb, h.tc, h.td, h.te, h.kept, Nat.le_trans h.na hk, Nat.le_trans h.nb hk, Nat.le_trans h.nc hk, Nat.le_trans h.nd hk, h.fr⟩
theorem left_a {oa : Value} {na : Nat} {ob : Value} {nb : Nat} {vc vd : Value} {tag : Nat → Nat} {D' : DataW Value} (h : Lie w ba bb bc bd E K k oa Da na ob Db nb vc ec vd ed tag wr) (hl : Left wr w' ba oa none D' na) : SV w ba bb bc bd E K (k + 1) D' Db ec ed w' := by
  obtain ⟨oa', na', hn, hA, hO, hF⟩ := hl
  refine ⟨oa', na', ob, nb, vc, vd, tagAt tag wr.heap.size 1, hA, h.b.only hO (h.tb.no h.ta (by decide)), h.c.only hO (h.tc.no h.ta (by decide)), h.d.only hO (h.td.no h.ta (by decide)), h.ta.grow h.a.lt h.fr.size hF, h.tb.keep h.b.lt, h.tc.keep h.c.lt, h.td.keep h.d.lt, h.te.keep (fun x hx => (h.kept x hx).1), fun x hx => ⟨Nat.lt_of_lt_of_le (h.kept x hx).1 hO.size, (hO.block x (h.kept x hx).1 (h.te.no h.ta (by decide) x hx)).trans (h.kept x hx).2⟩, ?_, ?_, ?_, ?_, h.fr.trans (hO.below h.fr.size fun x hx => (h.ta x hx).1)⟩
  all_goals have := h.na; have := h.nb; have := h.nc; have := h.nd; omega
theorem left_b {oa : Value} {na : Nat} {ob : Value} {nb : Nat} {vc vd : Value} {tag : Nat → Nat} {D' : DataW Value} (h : Lie w ba bb bc bd E K k oa Da na ob Db nb vc ec vd ed tag wr) (hl : Left wr w' bb ob (some ⟨ba, 0, none⟩) D' nb) : SV w ba bb bc bd E K (k + 1) Da D' ec ed w' := by
  obtain ⟨ob', nb', hn, hA, hO, hF⟩ := hl
  refine ⟨oa, na, ob', nb', vc, vd, tagAt tag wr.heap.size 2, h.a.only hO (h.ta.no h.tb (by decide)), hA, h.c.only hO (h.tc.no h.tb (by decide)), h.d.only hO (h.td.no h.tb (by decide)), h.ta.keep h.a.lt, h.tb.grow h.b.lt h.fr.size hF, h.tc.keep h.c.lt, h.td.keep h.d.lt, h.te.keep (fun x hx => (h.kept x hx).1), fun x hx => ⟨Nat.lt_of_lt_of_le (h.kept x hx).1 hO.size, (hO.block x (h.kept x hx).1 (h.te.no h.tb (by decide) x hx)).trans (h.kept x hx).2⟩, ?_, ?_, ?_, ?_, h.fr.trans (hO.below h.fr.size fun x hx => (h.tb x hx).1)⟩
  all_goals have := h.na; have := h.nb; have := h.nc; have := h.nd; omega
theorem left_c {oa : Value} {na : Nat} {ob : Value} {nb : Nat} {vc vd : Value} {tag : Nat → Nat} {es' : List En} (h : Lie w ba bb bc bd E K k oa Da na ob Db nb vc ec vd ed tag wr) (hl : RLeft wr w' bc none vc es') (hes : es'.length ≤ ec.length + 1) : SV w ba bb bc bd E K (k + 1) Da Db es' ed w' := by
  obtain ⟨vc', hA, hO, hF⟩ := hl
  refine ⟨oa, na, ob, nb, vc', vd, tagAt tag wr.heap.size 3, h.a.only hO (h.ta.no h.tc (by decide)), h.b.only hO (h.tb.no h.tc (by decide)), hA, h.d.only hO (h.td.no h.tc (by decide)), h.ta.keep h.a.lt, h.tb.keep h.b.lt, h.tc.grow h.c.lt h.fr.size hF, h.td.keep h.d.lt, h.te.keep (fun x hx => (h.kept x hx).1), fun x hx => ⟨Nat.lt_of_lt_of_le (h.kept x hx).1 hO.size, (hO.block x (h.kept x hx).1 (h.te.no h.tc (by decide) x hx)).trans (h.kept x hx).2⟩, ?_, ?_, ?_, ?_, h.fr.trans (hO.below h.fr.size fun x hx => (h.tc x hx).1)⟩
  all_goals have := h.na; have := h.nb; have := h.nc; have := h.nd; omega
theorem left_d {oa : Value} {na : Nat} {ob : Value} {nb : Nat} {vc vd : Value} {tag : Nat → Nat} {es' : List En} (h : Lie w ba bb bc bd E K k oa Da na ob Db nb vc ec vd ed tag wr) (hl : RLeft wr w' bd (some ⟨bc, 0, none⟩) vd es') (hes : es'.length ≤ ed.length + 1) : SV w ba bb bc bd E K (k + 1) Da Db ec es' w' := by
  obtain ⟨vd', hA, hO, hF⟩ := hl
  refine ⟨oa, na, ob, nb, vc, vd', tagAt tag wr.heap.size 4, h.a.only hO (h.ta.no h.td (by decide)), h.b.only hO (h.tb.no h.td (by decide)), h.c.only hO (h.tc.no h.td (by decide)), hA, h.ta.keep h.a.lt, h.tb.keep h.b.lt, h.tc.keep h.c.lt, h.td.grow h.d.lt h.fr.size hF, h.te.keep (fun x hx => (h.kept x hx).1), fun x hx => ⟨Nat.lt_of_lt_of_le (h.kept x hx).1 hO.size, (hO.block x (h.kept x hx).1 (h.te.no h.td (by decide) x hx)).trans (h.kept x hx).2⟩, ?_, ?_, ?_, ?_, h.fr.trans (hO.below h.fr.size fun x hx => (h.td x hx).1)⟩
  all_goals have := h.na; have := h.nb; have := h.nc; have := h.nd; omega
theorem putA_len (es : List En) (x : En) : (putA es x).1.length ≤ es.length + 1 := by
  unfold putA
  split
  · simp
  · split <;> simp
theorem rsetA_len (es : List En) (nm v : Tx) : (rsetA es nm v).1.length ≤ es.length + 1 := by
  unfold rsetA
  split
  · simp
  · split
    · simp
    · exact putA_len _ _
theorem runsetA_len (es : List En) (nm : Tx) : (runsetA es nm).length ≤ es.length + 1 := by
  unfold runsetA
  split
  · exact putA_len _ _
  · simp
variable {nm v : Tx}
theorem a_set (h : SV w ba bb bc bd E K k Da Db ec ed wr) (hk : k < 1000) (hl : nm.length ≤ 140737488355328) (hv : v.length ≤ 140737488355328) :
    Calls Tryz.prog 25 #[.pointer (some ⟨ba, 0, none⟩), .string (bs nm), .string (bs v)] wr fun e w' => e = .returned (.int .i64 (setE Da nm v).2) ∧ SV w ba bb bc bd E K (k + 1) (setE Da nm v).1 Db ec ed w' := by
  obtain ⟨oa, na, ob, nb, vc, vd, tag, h⟩ := h
  exact (set_any ba oa none Da na nm v hl hv wr h.a (by have := h.na; omega)).mono fun e w' ⟨h1, h2⟩ => ⟨h1, left_a h h2⟩
theorem b_set (h : SV w ba bb bc bd E K k Da Db ec ed wr) (hk : k < 1000) (hl : nm.length ≤ 140737488355328) (hv : v.length ≤ 140737488355328) :
    Calls Tryz.prog 25 #[.pointer (some ⟨bb, 0, none⟩), .string (bs nm), .string (bs v)] wr fun e w' => e = .returned (.int .i64 (setE Db nm v).2) ∧ SV w ba bb bc bd E K (k + 1) Da (setE Db nm v).1 ec ed w' := by
  obtain ⟨oa, na, ob, nb, vc, vd, tag, h⟩ := h
  exact (set_any bb ob _ Db nb nm v hl hv wr h.b (by have := h.nb; omega)).mono fun e w' ⟨h1, h2⟩ => ⟨h1, left_b h h2⟩
theorem a_unset (h : SV w ba bb bc bd E K k Da Db ec ed wr) (hk : k < 1000) (hl : nm.length ≤ 140737488355328) :
    Calls Tryz.prog 23 #[.pointer (some ⟨ba, 0, none⟩), .string (bs nm)] wr fun e w' => e = .returned (.tuple #[]) ∧ SV w ba bb bc bd E K (k + 1) (unsetE Da nm) Db ec ed w' := by
  obtain ⟨oa, na, ob, nb, vc, vd, tag, h⟩ := h
  exact (unset_any ba oa none Da na nm hl wr h.a (by have := h.na; omega)).mono fun e w' ⟨h1, h2⟩ => ⟨h1, left_a h h2⟩
theorem b_unset (h : SV w ba bb bc bd E K k Da Db ec ed wr) (hk : k < 1000) (hl : nm.length ≤ 140737488355328) :
    Calls Tryz.prog 23 #[.pointer (some ⟨bb, 0, none⟩), .string (bs nm)] wr fun e w' => e = .returned (.tuple #[]) ∧ SV w ba bb bc bd E K (k + 1) Da (unsetE Db nm) ec ed w' := by
  obtain ⟨oa, na, ob, nb, vc, vd, tag, h⟩ := h
  exact (unset_any bb ob _ Db nb nm hl wr h.b (by have := h.nb; omega)).mono fun e w' ⟨h1, h2⟩ => ⟨h1, left_b h h2⟩
theorem c_set (h : SV w ba bb bc bd E K k Da Db ec ed wr) (hk : k < 1000) (hl : nm.length ≤ 140737488355328) (hv : v.length ≤ 140737488355328) :
    Calls Tryz.prog 26 #[.pointer (some ⟨bc, 0, none⟩), .string (bs nm), .string (bs v)] wr fun e w' => e = .returned (.int .i64 (rsetA ec nm v).2) ∧ SV w ba bb bc bd E K (k + 1) Da Db (rsetA ec nm v).1 ed w' := by
  obtain ⟨oa, na, ob, nb, vc, vd, tag, h⟩ := h
  exact (rset_any bc none vc ec nm v hl hv wr h.c (by have := h.nc; omega)).mono fun e w' ⟨h1, h2⟩ => ⟨h1, left_c h h2 (rsetA_len ..)⟩
theorem d_set (h : SV w ba bb bc bd E K k Da Db ec ed wr) (hk : k < 1000) (hl : nm.length ≤ 140737488355328) (hv : v.length ≤ 140737488355328) :
    Calls Tryz.prog 26 #[.pointer (some ⟨bd, 0, none⟩), .string (bs nm), .string (bs v)] wr fun e w' => e = .returned (.int .i64 (rsetA ed nm v).2) ∧ SV w ba bb bc bd E K (k + 1) Da Db ec (rsetA ed nm v).1 w' := by
  obtain ⟨oa, na, ob, nb, vc, vd, tag, h⟩ := h
  exact (rset_any bd _ vd ed nm v hl hv wr h.d (by have := h.nd; omega)).mono fun e w' ⟨h1, h2⟩ => ⟨h1, left_d h h2 (rsetA_len ..)⟩
theorem c_unset (h : SV w ba bb bc bd E K k Da Db ec ed wr) (hk : k < 1000) (hl : nm.length ≤ 140737488355328) :
    Calls Tryz.prog 24 #[.pointer (some ⟨bc, 0, none⟩), .string (bs nm)] wr fun e w' => e = .returned (.tuple #[]) ∧ SV w ba bb bc bd E K (k + 1) Da Db (runsetA ec nm) ed w' := by
  obtain ⟨oa, na, ob, nb, vc, vd, tag, h⟩ := h
  exact (runset_any bc none vc ec nm hl wr h.c (by have := h.nc; omega)).mono fun e w' ⟨h1, h2⟩ => ⟨h1, left_c h h2 (runsetA_len ..)⟩
theorem d_unset (h : SV w ba bb bc bd E K k Da Db ec ed wr) (hk : k < 1000) (hl : nm.length ≤ 140737488355328) :
    Calls Tryz.prog 24 #[.pointer (some ⟨bd, 0, none⟩), .string (bs nm)] wr fun e w' => e = .returned (.tuple #[]) ∧ SV w ba bb bc bd E K (k + 1) Da Db ec (runsetA ed nm) w' := by
  obtain ⟨oa, na, ob, nb, vc, vd, tag, h⟩ := h
  exact (runset_any bd _ vd ed nm hl wr h.d (by have := h.nd; omega)).mono fun e w' ⟨h1, h2⟩ => ⟨h1, left_d h h2 (runsetA_len ..)⟩
theorem EnvA.lv {b : Nat} {own : Value} {q : Option Addr} {D : DataW Value} {n : Nat} {ls : List (DataW Value)} (h : EnvA wr b own q D n) (hl : LvAt wr q ls) : LvAt wr (some ⟨b, 0, none⟩) (D :: ls) :=
  ⟨b, own, q, n, rfl, BL.cell h.1 0, BL.cell h.1 1, h.2, hl⟩
theorem SV.lva (h : SV w ba bb bc bd E K k Da Db ec ed wr) : LvAt wr (some ⟨ba, 0, none⟩) [Da] := by
  obtain ⟨oa, na, ob, nb, vc, vd, tag, h⟩ := h
  exact h.a.lv rfl
theorem SV.lvb (h : SV w ba bb bc bd E K k Da Db ec ed wr) : LvAt wr (some ⟨bb, 0, none⟩) [Db, Da] := by
  obtain ⟨oa, na, ob, nb, vc, vd, tag, h⟩ := h
  exact h.b.lv (h.a.lv rfl)
theorem SV.rlc (h : SV w ba bb bc bd E K k Da Db ec ed wr) (hk : k ≤ 1000) : RLv wr (some ⟨bc, 0, none⟩) [ec] := by
  obtain ⟨oa, na, ob, nb, vc, vd, tag, h⟩ := h
  exact ⟨bc, vc, _, rfl, h.c, by have := h.nc; omega, rfl⟩
theorem SV.rld (h : SV w ba bb bc bd E K k Da Db ec ed wr) (hk : k ≤ 1000) : RLv wr (some ⟨bd, 0, none⟩) [ed, ec] := by
  obtain ⟨oa, na, ob, nb, vc, vd, tag, h⟩ := h
  exact ⟨bd, vd, _, rfl, h.d, by have := h.nd; omega, bc, vc, _, rfl, h.c, by have := h.nc; omega, rfl⟩
theorem SV.lens (h : SV w ba bb bc bd E K k Da Db ec ed wr) : ec.length ≤ k ∧ ed.length ≤ k := by
  obtain ⟨oa, na, ob, nb, vc, vd, tag, h⟩ := h
  exact ⟨h.nc, h.nd⟩
end
/-- Both sides' names of one environment: the same list. -/
def NameL (r : List (List En)) : List Tx := sortN ((gather r r []).length - 1) (gather r r [])
theorem same_names {ls : List (DataW Value)} {r : List (List En)} (h : RelL ls r) {ss : List Tx} (h1 : ss.Nodup) (h2 : ∀ x, x ∈ ss ↔ seenP ls x = true) : ss.mergeSort (fun x y => decide (x ≤ y)) = NameL r ∧ ss.length = (NameL r).length ∧ (gather r r []).length = (NameL r).length := by
  have e := names_same h h1 h2
  have p := (names_perm h1 fun x => (h2 x).trans (by rw [seen_eq h])).length_eq
  have l := congrArg List.length e
  rw [List.length_mergeSort] at l
  unfold NameL
  exact ⟨e.symm, l.symm, p.trans l.symm⟩
theorem nameL_len (r : List (List En)) (ls : List (DataW Value)) (h : RelL ls r) {ss : List Tx} (h1 : ss.Nodup) (h2 : ∀ x, x ∈ ss ↔ seenP ls x = true) : (NameL r).length ≤ sumL r := by
  have h3 := (same_names h h1 h2).2.2
  have h4 := gather_len r r []
  simp at h4
  omega
end Go.Proofs.YthmadnadaakjaaaGreatDoor.Opt.Ev
/- The two sides of a law on environments, by which of two. -/
namespace Go.Proofs.YthmadnadaakjaaaGreatDoor.Opt.Ev
open Go.RowKit Go.Maps Go.Proofs.YthmadnadaakjaaaGreatDoor.Opt

/-- Which of so many things a raw number speaks of. -/
def pickS (n m : Int) : Int := if n < 0 then (-(n + 1)) % m else n % m
set_option maxRecDepth 100000 in
theorem pick8 (n m : Int) (h0 : -9223372036854775808 ≤ n) (h1 : n ≤ 9223372036854775807) (hm0 : 0 < m) (hm1 : m ≤ 16777216) (w : World) :
    Calls Tryz.prog 10 #[.int .i64 n, .int .i64 m] w fun e w' => e = .returned (.int .i64 (pickS n m)) ∧ w = w' := by
  by_cases hn : n < 0
  · have HE : Hid (pickS n m = -((n + 1).tmod m)) := by show _ = _; unfold pickS; rw [if_pos hn, ← Int.neg_tmod, Int.tmod_eq_emod_of_nonneg (by omega)]
    have hmz : m ≠ 0 := by omega
    go_enter Tryz.func10, Tryz.ntmps10
    go_wp2_with fail
    go_ret
    exact ⟨by rw [HE.out]; rfl, rfl⟩
  · have HE : Hid (pickS n m = n % m) := by show _ = _; unfold pickS; rw [if_neg hn]
    have hmz : m ≠ 0 := by omega
    go_enter Tryz.func10, Tryz.ntmps10
    go_wp2_with fail
    go_ret
    exact ⟨by rw [HE.out]; rfl, rfl⟩
theorem pickS_in (n m : Int) (hm : 0 < m) : ∃ k : Nat, pickS n m = (k : Int) ∧ (k : Int) < m := by
  have h : 0 ≤ pickS n m ∧ pickS n m < m := by
    unfold pickS
    split
    · exact ⟨Int.emod_nonneg _ (by omega), Int.emod_lt_of_pos _ hm⟩
    · exact ⟨Int.emod_nonneg _ (by omega), Int.emod_lt_of_pos _ hm⟩
  exact ⟨(pickS n m).toNat, by omega, by omega⟩
/-- The one of two that is turned. -/
def upd {α : Type} (D : Bool → α) (on : Bool) (X : α) : Bool → α := fun i => if i = on then X else D i
abbrev SVu (w : World) (ba bb bc bd : Nat) (E : List Nat) (K : Nat → Option Obj) (k : Nat) (D : Bool → DataW Value) (es : Bool → List En) (wr : World) : Prop := SV w ba bb bc bd E K k (D false) (D true) (es false) (es true) wr
def two (a b : Nat) : Bool → Nat
  | false => a
  | true => b
section
variable {w wr w' : World} {ba bb bc bd k : Nat} {E : List Nat} {K : Nat → Option Obj} {D : Bool → DataW Value} {es : Bool → List En} {nm v : Tx}
theorem p_set (on : Bool) (h : SVu w ba bb bc bd E K k D es wr) (hk : k < 1000) (hl : nm.length ≤ 140737488355328) (hv : v.length ≤ 140737488355328) :
    Calls Tryz.prog 25 #[.pointer (some ⟨two ba bb on, 0, none⟩), .string (bs nm), .string (bs v)] wr fun e w' => e = .returned (.int .i64 (setE (D on) nm v).2) ∧ SVu w ba bb bc bd E K (k + 1) (upd D on (setE (D on) nm v).1) es w' := by
  cases on
  · exact a_set h hk hl hv
  · exact b_set h hk hl hv
theorem p_unset (on : Bool) (h : SVu w ba bb bc bd E K k D es wr) (hk : k < 1000) (hl : nm.length ≤ 140737488355328) :
    Calls Tryz.prog 23 #[.pointer (some ⟨two ba bb on, 0, none⟩), .string (bs nm)] wr fun e w' => e = .returned (.tuple #[]) ∧ SVu w ba bb bc bd E K (k + 1) (upd D on (unsetE (D on) nm)) es w' := by
  cases on
  · exact a_unset h hk hl
  · exact b_unset h hk hl
theorem r_set (on : Bool) (h : SVu w ba bb bc bd E K k D es wr) (hk : k < 1000) (hl : nm.length ≤ 140737488355328) (hv : v.length ≤ 140737488355328) :
    Calls Tryz.prog 26 #[.pointer (some ⟨two bc bd on, 0, none⟩), .string (bs nm), .string (bs v)] wr fun e w' => e = .returned (.int .i64 (rsetA (es on) nm v).2) ∧ SVu w ba bb bc bd E K (k + 1) D (upd es on (rsetA (es on) nm v).1) w' := by
  cases on
  · exact c_set h hk hl hv
  · exact d_set h hk hl hv
theorem r_unset (on : Bool) (h : SVu w ba bb bc bd E K k D es wr) (hk : k < 1000) (hl : nm.length ≤ 140737488355328) :
    Calls Tryz.prog 24 #[.pointer (some ⟨two bc bd on, 0, none⟩), .string (bs nm)] wr fun e w' => e = .returned (.tuple #[]) ∧ SVu w ba bb bc bd E K (k + 1) D (upd es on (runsetA (es on) nm)) w' := by
  cases on
  · exact c_unset h hk hl
  · exact d_unset h hk hl
def lvs (D : Bool → DataW Value) (on : Bool) : List (DataW Value) := if on = true then [D true, D false] else [D false]
def rls (es : Bool → List En) (on : Bool) : List (List En) := if on = true then [es true, es false] else [es false]
/-- Both sides say the same. -/
def Rels (D : Bool → DataW Value) (es : Bool → List En) : Prop := ∀ on, Rel (D on) (es on)
theorem Rels.upd {D : Bool → DataW Value} {es : Bool → List En} (h : Rels D es) {on : Bool} {X : DataW Value} {x : List En} (hx : Rel X x) : Rels (upd D on X) (upd es on x) := fun i => by
  unfold Ev.upd
  by_cases hi : i = on
  · rw [if_pos hi, if_pos hi]; exact hx
  · rw [if_neg hi, if_neg hi]; exact h i
theorem Rels.lvs {D : Bool → DataW Value} {es : Bool → List En} (h : Rels D es) (on : Bool) : RelL (lvs D on) (rls es on) := by
  cases on
  · exact ⟨h false, trivial⟩
  · exact ⟨h true, h false, trivial⟩
theorem sv_lv (on : Bool) (h : SVu w ba bb bc bd E K k D es wr) : LvAt wr (some ⟨two ba bb on, 0, none⟩) (lvs D on) := by
  cases on
  · exact h.lva
  · exact h.lvb
theorem sv_rl (on : Bool) (h : SVu w ba bb bc bd E K k D es wr) (hk : k ≤ 1000) : RLv wr (some ⟨two bc bd on, 0, none⟩) (rls es on) := by
  cases on
  · exact h.rlc hk
  · exact h.rld hk
theorem sv_sum (on : Bool) (h : SVu w ba bb bc bd E K k D es wr) (hk : k ≤ 1000) : sumL (rls es on) ≤ 2000 := by
  have h1 := h.lens
  cases on
  · show sumL [es false] ≤ 2000
    simp [sumL]; omega
  · show sumL [es true, es false] ≤ 2000
    simp [sumL]; omega
theorem sv_sizes (on : Bool) (h : SVu w ba bb bc bd E K k D es wr) (hk : k ≤ 1000) (hr : Rels D es) : ∀ X ∈ lvs D on, Maps.size X ≤ 1000 := by
  have h1 := h.lens
  have h2 := (hr false).size
  have h3 := (hr true).size
  cases on
  · intro X hX
    obtain rfl := List.mem_singleton.1 hX
    omega
  · intro X hX
    rcases List.mem_cons.1 hX with rfl | hX
    · omega
    · obtain rfl := List.mem_singleton.1 hX
      omega
theorem lvs_len (D : Bool → DataW Value) (on : Bool) : (lvs D on).length ≤ 10 := by cases on <;> simp [lvs]
/-- What both Gets hand back. -/
theorem p_get (on : Bool) (h : SVu w ba bb bc bd E K k D es wr) (hr : Rels D es) (hl : nm.length ≤ maxLen) :
    Calls Tryz.prog 27 #[.pointer (some ⟨two ba bb on, 0, none⟩), .string (bs nm)] wr fun e w' => e = .returned (getV (rlook (rls es on) nm)) ∧ SVu w ba bb bc bd E K k D es w' ∧ Below wr.heap.size wr w' := by
  have h1 := relL_look nm (hr.lvs on)
  cases hx : rlook (rls es on) nm with
  | none =>
    rw [hx] at h1
    exact (get_none _ _ nm hl wr (sv_lv on h) h1).mono fun _ _ ⟨h2, h3⟩ => ⟨h2, SV.below h h3, h3⟩
  | some x =>
    rw [hx] at h1
    exact (get_some _ _ nm hl (bs x.1) x.2 wr (sv_lv on h) h1).mono fun _ _ ⟨h2, h3⟩ => ⟨h2, SV.below h h3, h3⟩
theorem r_get (on : Bool) (h : SVu w ba bb bc bd E K k D es wr) (hk : k ≤ 1000) :
    Calls Tryz.prog 28 #[.pointer (some ⟨two bc bd on, 0, none⟩), .string (bs nm)] wr fun e w' => e = .returned (getV (rlook (rls es on) nm)) ∧ SVu w ba bb bc bd E K k D es w' ∧ Below wr.heap.size wr w' :=
  (rget_any _ _ nm wr (sv_rl on h hk)).mono fun _ _ ⟨h2, h3⟩ => ⟨h2, SV.below h h3, h3⟩
theorem getV_pair (r : Option (Tx × Bool)) : ∃ s b, getV r = .tuple #[.string s, .bool b] := by
  cases r with
  | none => exact ⟨_, _, rfl⟩
  | some x => exact ⟨_, _, rfl⟩
/-- A row of names that the call itself has made. -/
def NRow (w wr : World) (v : Value) (l : List Tx) : Prop := wr.ownsRow w.heap.size 9 1 v l.length (strL l)
theorem NRow.below {v : Value} {l : List Tx} (h : NRow w wr v l) (hb : Below wr.heap.size wr w') : NRow w w' v l := own_only h (Only.of_below (F := []) hb) (fun _ _ => by simp)
theorem p_names (on : Bool) (h : SVu w ba bb bc bd E K k D es wr) (hk : k ≤ 1000) (hr : Rels D es) :
    Calls Tryz.prog 29 #[.pointer (some ⟨two ba bb on, 0, none⟩)] wr fun e w' => ∃ v, e = .returned v ∧ NRow w w' v (NameL (rls es on)) ∧ SVu w ba bb bc bd E K k D es w' ∧ Below wr.heap.size wr w' := by
  refine (names_any _ _ wr (sv_lv on h) (sv_sizes on h hk hr) (lvs_len D on)).mono ?_
  rintro e w' ⟨v, ss, h1, h2, h3, h4, h5⟩
  obtain ⟨e1, e2, -⟩ := same_names (hr.lvs on) h2 h3
  refine ⟨v, h1, ?_, SV.below h h5, h5⟩
  rw [e1, e2] at h4
  exact owns_base h4 (SV.fr h).size
theorem gather_same (on : Bool) (hr : Rels D es) : (gather (rls es on) (rls es on) []).length = (NameL (rls es on)).length := by
  have h1 := names_mem (rls es on)
  have h2 := gather_nodup (rls es on) (rls es on) [] List.nodup_nil
  exact (same_names (hr.lvs on) h2 (fun x => (h1 x).trans (by rw [seen_eq (hr.lvs on)]))).2.2
theorem r_names (on : Bool) (h : SVu w ba bb bc bd E K k D es wr) (hk : k ≤ 1000) (hr : Rels D es) :
    Calls Tryz.prog 30 #[.pointer (some ⟨two bc bd on, 0, none⟩)] wr fun e w' => ∃ v, e = .returned v ∧ NRow w w' v (NameL (rls es on)) ∧ SVu w ba bb bc bd E K k D es w' ∧ Below wr.heap.size wr w' := by
  refine (rnames_any _ _ wr (sv_rl on h hk) (Nat.le_trans (sv_sum on h hk) (by decide))).mono ?_
  rintro e w' ⟨v, h1, h4, h5⟩
  refine ⟨v, h1, ?_, SV.below h h5, h5⟩
  have e1 : sortN ((gather (rls es on) (rls es on) []).length - 1) (gather (rls es on) (rls es on) []) = NameL (rls es on) := rfl
  rw [e1, gather_same on hr] at h4
  exact owns_base h4 (SV.fr h).size
theorem nameL_le (on : Bool) (h : SVu w ba bb bc bd E K k D es wr) (hk : k ≤ 1000) (hr : Rels D es) : (NameL (rls es on)).length ≤ 100000 := by
  have h1 := gather_same on hr
  have h2 := gather_len (rls es on) (rls es on) []
  have h3 := sv_sum on h hk
  simp at h2
  omega
theorem texts_same (h : SVu w ba bb bc bd E K k D es wr) {va vb : Value} {l : List Tx} (ha : NRow w wr va l) (hb : NRow w wr vb l) (hn : l.length ≤ 100000) :
    Calls Tryz.prog 16 #[va, vb] wr fun e w' => e = .returned (.bool true) ∧ SVu w ba bb bc bd E K k D es w' := by
  refine (texts_any l l va vb w.heap.size wr ha hb hn hn).mono ?_
  rintro e w' ⟨h1, h2⟩
  exact ⟨by rw [h1, decide_eq_true rfl], SV.below h h2⟩
/-- A block that stays. -/
theorem SV.hold (h : SV w ba bb bc bd [] K k (D false) (D true) (es false) (es true) wr) {o : Obj} {b : Nat} (hb : b = wr.heap.size) (hw : w' = wr.alloc o) : SV w ba bb bc bd [b] (fun _ => some o) k (D false) (D true) (es false) (es true) w' := by
  subst hb hw
  obtain ⟨oa, na, ob, nb, vc, vd, tag, h⟩ := h
  have hbl : Below wr.heap.size wr (wr.alloc o) := (Below.refl _ _).alloc (Nat.le_refl _) _
  refine ⟨oa, na, ob, nb, vc, vd, tagAt tag wr.heap.size 5, h.a.below hbl, h.b.below hbl, h.c.below hbl, h.d.below hbl, h.ta.keep h.a.lt, h.tb.keep h.b.lt, h.tc.keep h.c.lt, h.td.keep h.d.lt, ?_, ?_, h.na, h.nb, h.nc, h.nd, h.fr.trans (hbl.mono h.fr.size)⟩
  · intro x hx
    obtain rfl := List.mem_singleton.1 hx
    exact ⟨h.fr.size, by unfold tagAt; rw [if_neg (by omega)]⟩
  · intro x hx
    obtain rfl := List.mem_singleton.1 hx
    exact ⟨by simp, heap_alloc_new wr _⟩
theorem SV.drop (h : SVu w ba bb bc bd E K k D es wr) {K' : Nat → Option Obj} : SVu w ba bb bc bd [] K' k D es wr := by
  obtain ⟨oa, na, ob, nb, vc, vd, tag, h⟩ := h
  exact ⟨oa, na, ob, nb, vc, vd, tag, h.a, h.b, h.c, h.d, h.ta, h.tb, h.tc, h.td, (fun _ hx => by cases hx), (fun _ hx => by cases hx), h.na, h.nb, h.nc, h.nd, h.fr⟩
theorem SV.bl {vb : Nat} {t : TypeId} {xs : List Value} (h : SVu w ba bb bc bd [vb] (fun _ => some (.cells xs.toArray t (0, 0))) k D es wr) : BL wr vb t xs := by
  obtain ⟨oa, na, ob, nb, vc, vd, tag, h⟩ := h
  exact (h.kept vb (by simp)).2
theorem set_two (on : Bool) (hR : Rels D es) (hl : nm.length ≤ 140737488355328) (hv : v.length ≤ 140737488355328) : ∃ (Z : Int) (Dn : Bool → DataW Value) (en : Bool → List En), Rels Dn en ∧
    (∀ V k' es', SVu w ba bb bc bd E K k' D es' V → k' < 1000 → Calls Tryz.prog 25 #[.pointer (some ⟨two ba bb on, 0, none⟩), .string (bs nm), .string (bs v)] V fun e w' => e = .returned (.int .i64 Z) ∧ SVu w ba bb bc bd E K (k' + 1) Dn es' w') ∧
    (∀ V k' D', SVu w ba bb bc bd E K k' D' es V → k' < 1000 → Calls Tryz.prog 26 #[.pointer (some ⟨two bc bd on, 0, none⟩), .string (bs nm), .string (bs v)] V fun e w' => e = .returned (.int .i64 Z) ∧ SVu w ba bb bc bd E K (k' + 1) D' en w') := by
  obtain ⟨h1, h2⟩ := set_rel (hR on) nm v
  refine ⟨(setE (D on) nm v).2, upd D on (setE (D on) nm v).1, upd es on (rsetA (es on) nm v).1, hR.upd h2, fun _ _ _ h hk => p_set on h hk hl hv, fun V k' D' h hk => ?_⟩
  rw [h1]
  exact r_set on h hk hl hv
theorem unset_two (on : Bool) (hR : Rels D es) (hl : nm.length ≤ 140737488355328) : ∃ (Dn : Bool → DataW Value) (en : Bool → List En), Rels Dn en ∧
    (∀ V k' es', SVu w ba bb bc bd E K k' D es' V → k' < 1000 → Calls Tryz.prog 23 #[.pointer (some ⟨two ba bb on, 0, none⟩), .string (bs nm)] V fun e w' => e = .returned (.tuple #[]) ∧ SVu w ba bb bc bd E K (k' + 1) Dn es' w') ∧
    (∀ V k' D', SVu w ba bb bc bd E K k' D' es V → k' < 1000 → Calls Tryz.prog 24 #[.pointer (some ⟨two bc bd on, 0, none⟩), .string (bs nm)] V fun e w' => e = .returned (.tuple #[]) ∧ SVu w ba bb bc bd E K (k' + 1) D' en w') :=
  ⟨upd D on (unsetE (D on) nm), upd es on (runsetA (es on) nm), hR.upd (unset_rel (hR on) nm), fun _ _ _ h hk => p_unset on h hk hl, fun _ _ _ h hk => r_unset on h hk hl⟩
theorem SV.start {w1 w2 w3 w4 w5 : World} {bd : Nat} (hb1 : Below w.heap.size w w1) (hA : EnvA w2 w1.heap.size (.map none) none (.map []) 0) (hb2 : Below w1.heap.size w1 w2) (hB : EnvA w3 w2.heap.size (.map none) (some ⟨w1.heap.size, 0, none⟩) (.map []) 0) (hb3 : Below w2.heap.size w2 w3)
    (hC : REnv w4 w3.heap.size none (.slice none 0 0) []) (hb4 : Below w3.heap.size w3 w4) (hbd : bd = w4.heap.size) (hD : REnv w5 bd (some ⟨w3.heap.size, 0, none⟩) (.slice none 0 0) []) (hb5 : Below w4.heap.size w4 w5) :
    SVu w w1.heap.size w2.heap.size w3.heap.size bd [] (fun _ => none) 0 (fun _ => .map []) (fun _ => []) w5 := by
  subst hbd
  have s1 := hb1.size
  have l1 := BL.lt hA.1
  have l2 := BL.lt hB.1
  have l3 := BL.lt hC.1
  have f1 : foot w1.heap.size (.map none) = [w1.heap.size] := rfl
  have f2 : foot w2.heap.size (.map none) = [w2.heap.size] := rfl
  have f3 : rfoot w3.heap.size (.slice none 0 0) = [w3.heap.size] := rfl
  have f4 : rfoot w4.heap.size (.slice none 0 0) = [w4.heap.size] := rfl
  refine ⟨.map none, 0, .map none, 0, .slice none 0 0, .slice none 0 0, fun x => if x < w2.heap.size then 1 else if x < w3.heap.size then 2 else if x < w4.heap.size then 3 else 4, ((hA.below hb3).below hb4).below hb5, (hB.below hb4).below hb5, hC.below hb5, hD, ?_, ?_, ?_, ?_, ?_, ?_, Nat.le_refl _, Nat.le_refl _, Nat.le_refl _, Nat.le_refl _, ?_⟩
  · rw [f1]; intro x hx
    obtain rfl := List.mem_singleton.1 hx
    exact ⟨s1, if_pos l1⟩
  · rw [f2]; intro x hx
    obtain rfl := List.mem_singleton.1 hx
    exact ⟨by omega, by dsimp only; rw [if_neg (by omega), if_pos l2]⟩
  · rw [f3]; intro x hx
    obtain rfl := List.mem_singleton.1 hx
    exact ⟨by omega, by dsimp only; rw [if_neg (by omega), if_neg (by omega), if_pos l3]⟩
  · rw [f4]; intro x hx
    obtain rfl := List.mem_singleton.1 hx
    exact ⟨by omega, by dsimp only; rw [if_neg (by omega), if_neg (by omega), if_neg (by omega)]⟩
  · intro x hx; cases hx
  · intro x hx; cases hx
  · exact (((hb1.trans (hb2.mono s1)).trans (hb3.mono (by omega))).trans (hb4.mono (by omega))).trans (hb5.mono (by omega))
theorem Rels.start : Rels (fun _ => .map []) (fun _ => []) := fun _ => Rel.nil
end
end Go.Proofs.YthmadnadaakjaaaGreatDoor.Opt.Ev
/- The rows' condition gives the walks what they need of the library's tables and errors; a world that meets it. -/
namespace Go.Proofs.YthmadnadaakjaaaGreatDoor.Opt
open Go.RowKit Go.ChangeShapes Go.WideShapes Go.ChangeAt Go.Joins

theorem gNamed : Tryz.prog.globalNamed "mullion/style.named" = some 2 := by kernel_rfl
theorem gDb : Tryz.prog.globalNamed "math/bits.deBruijn64tab" = some 8 := by kernel_rfl
theorem gSyn : Tryz.prog.globalNamed "strconv.ErrSyntax" = some 0 := by kernel_rfl
theorem gRng : Tryz.prog.globalNamed "strconv.ErrRange" = some 1 := by kernel_rfl
theorem tNamed : (Tryz.prog.globals[2]?).map (·.type) = some 242 := by kernel_rfl
theorem tDb : (Tryz.prog.globals[8]?).map (·.type) = some 283 := by kernel_rfl
theorem tSyn : (Tryz.prog.globals[0]?).map (·.type) = some 103 := by kernel_rfl
theorem tRng : (Tryz.prog.globals[1]?).map (·.type) = some 103 := by kernel_rfl
theorem tU10 : (Tryz.prog.globals[6]?).map (·.type) = some 274 := by kernel_rfl
theorem tightNamed : Flat.tight Tryz.prog 4 242 = true := by kernel_rfl
theorem tightDb : Flat.tight Tryz.prog 4 283 = true := by kernel_rfl
theorem tightU10 : Flat.tight Tryz.prog 4 274 = true := by kernel_rfl
set_option maxRecDepth 100000 in
theorem flatNamed : (Flat.flat (Rows.laid_mullion_style_named (H := Unit))).toArray = namedCells := by kernel_rfl
set_option maxRecDepth 100000 in
theorem flatDb : (Flat.flat (Rows.laid_math_bits_deBruijn64tab (H := Unit))).toArray = dbCells := by kernel_rfl
set_option maxRecDepth 100000 in
theorem flatU10 : (Flat.flat (Rows.laid_internal_strconv_uint64pow10 (H := Unit))).toArray = u10Cells := by kernel_rfl
theorem block_of {w : World} {g : Nat} {o : Obj} (h : w.heap[g]? = some o) : g < w.heap.size := (Array.getElem?_eq_some_iff.1 h).1
theorem var_heap {P : Program} {w : World} {name : String} {g : Nat} {cs : Array Value} (hg : P.globalNamed name = some g) (hv : w.var? P name = some cs) : ∃ t fr, w.heap[g]? = some (.cells cs t fr) := by
  unfold World.var? at hv
  rw [hg] at hv
  simp only [Option.bind_some] at hv
  cases hh : w.heap[g]? with
  | none => rw [hh] at hv; simp at hv
  | some o =>
    rw [hh] at hv
    cases o with
    | cells cs' t' fr =>
      simp only [Option.some.injEq] at hv
      subst hv
      exact ⟨t', fr, rfl⟩
    | _ => simp at hv
theorem iface_cell {P : Program} {w : World} {base : Nat} {sp : Nat → Bool} {enc : TypeId × Value → Unit} {name : String} {g : Nat} {t : TypeId} {ms : Array (String × TypeId)} {f : Nat} {cs : Array Value} {nm : String} {d : DataW Unit} {p : List MemPlace}
    (hi : P.underlying t = some (.interface ms)) (hg : P.globalNamed name = some g) (hv : w.var? P name = some cs) (h : DataW.trod enc P w base sp false f t cs.toList = some (.iface nm d, p)) :
    g < w.heap.size ∧ ∃ te pe, w.cell? ⟨g, 0, none⟩ = some (.iface te pe) := by
  obtain ⟨t', fr, hh⟩ := var_heap hg hv
  obtain ⟨f1, u, v, e, hn, h1⟩ := iface_of_trod hi h
  obtain ⟨l⟩ := cs
  simp only at e
  subst e
  exact ⟨block_of hh, u, v, cell_of_row w g 0 _ t' fr hh⟩

theorem tabs_of {W : World} (h : laidMetH Tryz.prog Rows.optionEnvRow.laid W) : Tabs W.heap.size W := by
  rw [MakeChecks.laidMetH_plain _ _ _ (by kernel_rfl)] at h
  obtain ⟨ps, ⟨ga, ta, csa, fa, pa, qa, hga, hta, hva, hda, ⟨gb, tb, csb, fb, pb, qb, hgb, htb, hvb, hdb, ⟨gc, tc, csc, fc, pc, qc, hgc, htc, hvc, hdc, ⟨gx, tx, csx, fx, px, qx, hgx, htx, hvx, hdx, ⟨gd, td, csd, fd, pd, qd, hgd, htd, hvd, hdd, ⟨ge, te, cse, fe, pe, qe, hge, hte, hve, hde, ⟨gf, tf, csf, ff, pf, qf, hgf, htf, hvf, hdf, _⟩, _⟩, _⟩, _⟩, _⟩, _⟩, _⟩, _⟩ := h
  clear hga hta hva hda hgx htx hvx hdx
  obtain rfl := Option.some.inj (gDb.symm.trans hgb)
  obtain rfl := Option.some.inj (gU10.symm.trans hgc)
  obtain rfl := Option.some.inj (gRng.symm.trans hgd)
  obtain rfl := Option.some.inj (gSyn.symm.trans hge)
  obtain rfl := Option.some.inj (gNamed.symm.trans hgf)
  obtain rfl := Option.some.inj (tDb.symm.trans htb)
  obtain rfl := Option.some.inj (tU10.symm.trans htc)
  obtain rfl := Option.some.inj (tRng.symm.trans htd)
  obtain rfl := Option.some.inj (tSyn.symm.trans hte)
  obtain rfl := Option.some.inj (tNamed.symm.trans htf)
  have h1 := Flat.cells_of_read gDb hvb 4 tightDb hdb
  have h2 := Flat.cells_of_read gU10 hvc 4 tightU10 hdc
  have h3 := Flat.cells_of_read gNamed hvf 4 tightNamed hdf
  rw [flatDb] at h1
  rw [flatU10] at h2
  rw [flatNamed] at h3
  obtain ⟨l4, h4⟩ := iface_cell Tryz.underlying103 gRng hvd hdd
  obtain ⟨l5, h5⟩ := iface_cell Tryz.underlying103 gSyn hve hde
  have l1 := h1
  have l2 := h2
  have l3 := h3
  obtain ⟨_, _, l1⟩ := l1
  obtain ⟨_, _, l2⟩ := l2
  obtain ⟨_, _, l3⟩ := l3
  exact ⟨⟨block_of l3, block_of l2, block_of l1, l5, l4⟩, h3, h2, h1, h5, h4⟩

/-- A world for the witness: the settled one, every listed variable as the row lists it. -/
noncomputable def laidWorld (os : Os) : World := World.laidAll Tryz.prog os Rows.optionEnvRow.laid
theorem own : ownKnob Tryz.prog.godebug = none := by kernel_rfl
theorem laid_met (os : Os) (args : Array Value) : laidMet Tryz.prog Rows.optionEnvRow.laid ((laidWorld os).forCall (fun _ _ => 0) ⟨#[], args, []⟩).memory := laidMet_laidAll _ (by kernel_rfl) (by kernel_rfl)
theorem shaped (os : Os) (args : Array Value) : ((laidWorld os).forCall (fun _ _ => 0) ⟨#[], args, []⟩).Shaped Tryz.prog := World.shaped_of_ZipB (by kernel_rfl) (by kernel_rfl)
theorem witness_row_shaped {H : Type} {enc : TypeId × Value → H} {C : Checked} {os : Os} {f : FuncId} {fn : Func} {s : OpenSpec} {conds : List PathCond} {apart : Bool} {laid : List (String × DataW Unit)} (w0 : World) (args : Array Value) (hos : w0.os = os)
    (hsh : (w0.forCall (fun _ _ => 0) ⟨#[], args, []⟩).Shaped C.prog)
    (hok : Input.okWideB C.prog (w0.forCall (fun _ _ => 0) ⟨#[], args, []⟩) f ⟨#[], args, []⟩ = true)
    (hrow : s.preRow enc C.prog fn conds apart laid (w0.forCall (fun _ _ => 0) ⟨#[], args, []⟩).memory args) :
    ∃ (w : World) (tape : Tape) (i : Input), w.os = os ∧ (w.forCall tape i).Shaped C.prog ∧ i.vars = [] ∧ Input.okWide C.prog (w.forCall tape i) .any w.heap.size f i ∧
      s.preRow enc C.prog fn conds apart laid (w.forCall tape i).memory i.args ∧ ({} : Assume).holds C.prog (lone (Frame.enter C.prog f i.args .normal) [] (w.forCall tape i)) :=
  ⟨w0, fun _ _ => 0, ⟨#[], args, []⟩, hos, hsh, (Input.okWide_of_okWideB (base := 0) hok).1, (Input.okWide_of_okWideB hok).2, hrow, by simp [Assume.holds]⟩
end Go.Proofs.YthmadnadaakjaaaGreatDoor.Opt
