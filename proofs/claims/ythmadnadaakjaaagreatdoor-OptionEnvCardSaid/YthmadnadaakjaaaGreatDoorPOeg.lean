/- The chapter's Get; both sides' Get agree. -/
import Derived.Test.YthmadnadaakjaaaGreatDoorPOex
import Derived.Sort.KeysCollected
import Derived.Sort.Walk0
import Derived.Test.YthmadnadaakjaaaGreatDoorPOet
import Derived.Sort.OwnSorted
namespace Go.Proofs.YthmadnadaakjaaaGreatDoor.Opt.Ev
open Go.RowKit Go.Maps Go.Proofs.YthmadnadaakjaaaGreatDoor.Opt

/-- The chapter's levels over one another. -/
def RLv (w : World) : Option Addr → List (List En) → Prop
  | p, [] => p = none
  | p, es :: r => ∃ b v q, p = some ⟨b, 0, none⟩ ∧ REnv w b q v es ∧ es.length ≤ 1000 ∧ RLv w q r
def rlook : List (List En) → Tx → Option (Tx × Bool)
  | [], _ => none
  | es :: r, nm => match look1 es nm with
    | some x => some x
    | none => rlook r nm
/-- What Get hands back. -/
def getV (r : Option (Tx × Bool)) : Value := match r with
  | some x => .tuple #[.string (bs x.1), .bool (!x.2)]
  | none => .tuple #[.string ⟨#[]⟩, .bool false]
theorem look1_at {es : List En} {nm : Tx} {k : Nat} (hk : k < es.length) (h1 : ∀ j (h : j < es.length), j < k → (es[j].1 == nm) = false) (h2 : (es[k].1 == nm) = true) : look1 es nm = some es[k].2 := by
  unfold look1
  rw [find_take (o := es[k]) (k := k) (List.getElem?_eq_getElem hk) (fun x hx => ?_) h2]
  · rfl
  · obtain ⟨j, hj, rfl⟩ := List.mem_iff_getElem.1 hx
    rw [List.length_take] at hj
    rw [List.getElem_take]
    exact h1 j (by omega) (by omega)
theorem look1_none {es : List En} {nm : Tx} (h1 : ∀ j (h : j < es.length), (es[j].1 == nm) = false) : look1 es nm = none := by
  unfold look1
  rw [List.find?_eq_none.2 (fun x hx => by
    obtain ⟨j, hj, rfl⟩ := List.mem_iff_getElem.1 hx
    rw [h1 j hj]; simp)]
  rfl
theorem RLv.below {w w' : World} (hb : Below w.heap.size w w') : ∀ {p : Option Addr} {ls : List (List En)}, RLv w p ls → RLv w' p ls
  | _, [], h => h
  | _, _ :: _, ⟨b, v, q, e, h1, h2, h3⟩ => ⟨b, v, q, e, h1.below hb, h2, RLv.below hb h3⟩
theorem rel_look {D : DataW Value} {es : List En} (h : Rel D es) (nm : Tx) (ls : List (DataW Value)) (r : List (List En)) (ih : lookP ls nm = (rlook r nm).map varV) : lookP (D :: ls) nm = (rlook (es :: r) nm).map varV := by
  rw [lookP, rlook, h.has]
  cases hl : look1 es nm with
  | none => rw [if_neg (by simp)]; exact ih
  | some x => rw [if_pos (show (some x).isSome = true from rfl), h.val nm x hl]; rfl
set_option maxRecDepth 100000 in
set_option maxHeartbeats 4000000 in
theorem rget_any (p : Option Addr) (ls : List (List En)) (nm : Tx) (w : World) (h : RLv w p ls) :
    Calls Tryz.prog 28 #[.pointer p, .string (bs nm)] w fun e w' => e = .returned (getV (rlook ls nm)) ∧ Below w.heap.size w w' := by
  have HH := Lib.hid h
  clear h
  obtain ⟨R, hR⟩ : ∃ R, R = getV (rlook ls nm) := ⟨_, rfl⟩
  rw [← hR]
  have HR := Lib.hid hR
  clear hR
  go_enter Tryz.func28, Tryz.ntmps28
  go_wp2_with fail
  go_loopg [6] ls.length (fun k p wr => ∃ q rest, p = .pointer q ∧ rest.length = k ∧ RLv wr q rest ∧ R = getV (rlook rest nm) ∧ Below w.heap.size w wr)
  case atStart => exact ⟨p, ls, rfl, rfl, HH.out, HR.out, Below.refl _ w⟩
  case round =>
    obtain ⟨q, rest, rfl, hk, hlv, hRr, hb⟩ := hrel
    cases rest with
    | nil =>
      obtain rfl : q = none := hlv
      have HV := Lib.hid (show R = .tuple #[.string ⟨#[]⟩, .bool false] from hRr)
      have HB := Lib.hid hb
      clear hRr hb HR HH hk
      go_wp2_with fail
      go_ret2
      exact ⟨by rw [HV.out]; rfl, HB.out⟩
    | cons es rest =>
      obtain ⟨b, v, q2, rfl, hE, hn, hr⟩ := hlv
      obtain ⟨A, c, rfl⟩ := own_slice hE.2
      have c0 : wr.cell? ⟨b, 0, none⟩ = some (.pointer q2) := hE.1.cell 0
      have c1 : wr.cell? ⟨b, 1, none⟩ = some (.slice A es.length c) := hE.1.cell 1
      have HB := Lib.hid hb
      have HLR := Lib.hid hr
      have HRr := Lib.hid hRr
      have HE := Lib.hid hE
      have HK := Lib.hid hk
      clear hb hr hRr HR HH hE hk
      go_wp2_with fail
      go_loop [7] (fun i => ∃ k : Nat, k ≤ es.length ∧ i = .int .i64 (k : Int) ∧ Hid (∀ j (h : j < es.length), j < k → (es[j].1 == nm) = false)) (fun i => es.length - (intOf i).toNat)
      case atStart => exact ⟨0, by omega, rfl, fun j h h2 => by omega⟩
      case round =>
        obtain ⟨k, hk, rfl, hno⟩ := hrel
        by_cases hlt : k < es.length
        · obtain ⟨g, c', tail, hv, hbl, htl, hnc, hcm⟩ := own_some HE.out.2 (by omega)
          simp only [Value.slice.injEq] at hv
          obtain ⟨rfl, -, rfl⟩ := hv
          obtain ⟨⟨n2, v2, b2⟩, ho⟩ : ∃ o, es[k]? = some o := ⟨_, List.getElem?_eq_getElem hlt⟩
          have hn2 : es[k] = (n2, v2, b2) := by
            have := List.getElem?_eq_getElem hlt
            rw [ho] at this
            exact (Option.some.inj this).symm
          have cells : ∀ j u, (varL (n2, v2, b2))[j]? = some u → wr.cell? ⟨g, k * 3 + j, none⟩ = some u := by
            intro j u hj
            have h1 := varC_at ho j u hj
            have h3 := hbl.cell (k * 3 + j)
            rw [List.getElem?_append_left (List.getElem?_eq_some_iff.1 h1).1, h1] at h3
            exact h3
          have e0 : wr.cell? ⟨g, k * 3, none⟩ = some (.string (bs n2)) := cells 0 _ rfl
          have g1 : wr.cell? ⟨g, k * 3 + 1, none⟩ = some (.string (bs v2)) := cells 1 _ rfl
          have g2 : wr.cell? ⟨g, k * 3 + 2, none⟩ = some (.bool b2) := cells 2 _ rfl
          have e1 : ((bs n2).toList == (bs nm).toList) = (n2 == nm) := by rw [bs_tl, bs_tl]
          have hki : (k : Int) < (es.length : Int) := by omega
          cases hq : (n2 == nm) with
          | false =>
            have HN2 := Lib.hid (show ∀ j (h : j < es.length), j < k + 1 → (es[j].1 == nm) = false from fun j h h2 => by
              by_cases hj : j < k
              · exact hno.out j h hj
              · obtain rfl : j = k := by omega
                rw [hn2]; exact hq)
            rw [hq] at e1
            clear hq hno ho hn2 hbl cells htl g1 g2
            go_wp2_with fail
            go_round
            case rel => exact ⟨k + 1, by omega, by go_num, HN2.out⟩
            case measure => simp [intOf]; omega
          | true =>
            have hL := look1_at (nm := nm) hlt hno.out (by rw [hn2]; exact hq)
            rw [hn2] at hL
            have HV := Lib.hid (show R = .tuple #[.string (bs v2), .bool (!b2)] by rw [HRr.out, rlook, hL]; rfl)
            rw [hq] at e1
            clear hq hno ho hn2 hbl cells htl hL
            go_wp2_with fail
            go_region
            go_wp2_with fail
            go_ret2
            exact ⟨by rw [HV.out]; rfl, HB.out.drew⟩
        · have hL := look1_none (nm := nm) (fun j h => hno.out j h (by omega))
          have HV := Lib.hid (show R = getV (rlook rest nm) by rw [HRr.out, rlook, hL])
          have hki : ¬ (k : Int) < (es.length : Int) := by omega
          clear hno hL
          go_wp2_with fail
          go_roundg rest.length
          case measure => have := HK.out; simp only [List.length_cons] at this; omega
          case rel => exact ⟨q2, rest, rfl, rfl, HLR.out, HV.out, HB.out⟩
end Go.Proofs.YthmadnadaakjaaaGreatDoor.Opt.Ev
/- The law's own comparison of two rows of names. -/
namespace Go.Proofs.YthmadnadaakjaaaGreatDoor.Opt.Ev
open Go.RowKit Go.Maps Go.Sort Go.Proofs.YthmadnadaakjaaaGreatDoor.Opt

def strL (l : List Tx) : List Value := l.map fun x => .string (bs x)
theorem strL_len (l : List Tx) : (strL l).length = l.length := by simp [strL]
theorem strL_at {l : List Tx} {k : Nat} {x : Tx} (h : l[k]? = some x) : (strL l)[k]? = some (.string (bs x)) := by simp [strL, h]
theorem str_cell {w : World} {B k n : Nat} {A : Option Addr} {c : Nat} {l : List Tx} (h : w.ownsRow B 9 1 (.slice A n c) n (strL l)) (hn : n = l.length) (hk : k < l.length) : ∃ g x, A = some ⟨g, 0, none⟩ ∧ l[k]? = some x ∧ w.cell? ⟨g, k, none⟩ = some (.string (bs x)) := by
  obtain ⟨g, c', tail, hv, hbl, -, -, -⟩ := own_some h (by omega)
  simp only [Value.slice.injEq] at hv
  obtain ⟨x, hx⟩ : ∃ x, l[k]? = some x := ⟨_, List.getElem?_eq_getElem hk⟩
  refine ⟨g, x, hv.1, hx, ?_⟩
  have h3 := hbl.cell k
  rw [List.getElem?_append_left (by rw [strL_len]; exact hk), strL_at hx] at h3
  exact h3
theorem eq_at {a b : List Tx} (hl : a.length = b.length) (h : ∀ j (h1 : j < a.length) (h2 : j < b.length), a[j] = b[j]) : a = b := List.ext_getElem hl h
set_option maxRecDepth 100000 in
set_option maxHeartbeats 4000000 in
theorem texts_any (a b : List Tx) (va vb : Value) (B : Nat) (w : World) (ha : w.ownsRow B 9 1 va a.length (strL a)) (hb : w.ownsRow B 9 1 vb b.length (strL b)) (hn : a.length ≤ 100000) (hm : b.length ≤ 100000) :
    Calls Tryz.prog 16 #[va, vb] w fun e w' => e = .returned (.bool (decide (a = b))) ∧ Below w.heap.size w w' := by
  obtain ⟨A1, c1, rfl⟩ := own_slice ha
  obtain ⟨A2, c2, rfl⟩ := own_slice hb
  obtain ⟨R, hR⟩ : ∃ R, R = decide (a = b) := ⟨_, rfl⟩
  rw [← hR]
  have HR := Lib.hid hR
  clear hR
  by_cases hl : a.length = b.length
  · have HA := Lib.hid (fun k hk => str_cell (k := k) ha rfl hk)
    have HB := Lib.hid (fun k hk => str_cell (k := k) hb rfl hk)
    have HEq := Lib.hid (show (∀ j (h1 : j < a.length) (h2 : j < b.length), j < a.length → a[j] = b[j]) → R = true from fun h => by rw [HR.out]; exact decide_eq_true (eq_at hl (fun j h1 h2 => h j h1 h2 h1)))
    have HNe := Lib.hid (show ∀ j (h1 : j < a.length) (h2 : j < b.length), a[j] ≠ b[j] → R = false from fun j h1 h2 h => by rw [HR.out]; exact decide_eq_false (fun e => h (by subst e; rfl)))
    have hnb : a.length = b.length := hl
    have hli : ((a.length : Int) != (b.length : Int)) = false := by rw [bne, Bool.not_eq_false', beq_iff_eq]; omega
    have HNB := Lib.hid hnb
    clear ha hb HR hl hnb
    go_enter Tryz.func16, Tryz.ntmps16
    go_wp2_with fail
    go_loopw [5] (fun i wr => ∃ k : Nat, k ≤ a.length ∧ i = .int .i64 (k : Int) ∧ Hid (∀ j (h1 : j < a.length) (h2 : j < b.length), j < k → a[j] = b[j]) ∧ Below w.heap.size w wr) (fun i _ => a.length - (intOf i).toNat)
    case atStart => exact ⟨0, by omega, rfl, (fun j h h2 h3 => by omega), Below.refl _ _⟩
    case round =>
      obtain ⟨k, hk, rfl, hf, hb⟩ := hrel
      have HBw := Lib.hid hb
      by_cases hlt : k < a.length
      · have hlt2 : k < b.length := by have := HNB.out; omega
        obtain ⟨g, x, rfl, hx, hcx⟩ := HA.out k hlt
        obtain ⟨g', y, rfl, hy, hcy⟩ := HB.out k hlt2
        have cx : wr.cell? ⟨g, k, none⟩ = some (.string (bs x)) := (hb.cell (p := ⟨g, k, none⟩) (cell_lt hcx)).trans hcx
        have cy : wr.cell? ⟨g', k, none⟩ = some (.string (bs y)) := (hb.cell (p := ⟨g', k, none⟩) (cell_lt hcy)).trans hcy
        have hax : a[k] = x := Option.some.inj ((List.getElem?_eq_getElem hlt).symm.trans hx)
        have hby : b[k] = y := Option.some.inj ((List.getElem?_eq_getElem hlt2).symm.trans hy)
        have hki : (k : Int) < (a.length : Int) := by omega
        have hki2 : (k : Int) < (b.length : Int) := by omega
        have e1 : ((bs x).toList == (bs y).toList) = (x == y) := by rw [bs_tl, bs_tl]
        clear hcx hcy hx hy hb
        by_cases hxy : x = y
        · have HN := Lib.hid (show ∀ j (h1 : j < a.length) (h2 : j < b.length), j < k + 1 → a[j] = b[j] from fun j h1 h2 h3 => by
            by_cases hj : j < k
            · exact hf.out j h1 h2 hj
            · obtain rfl : j = k := by omega
              rw [hax, hby]; exact hxy)
          have hq : (x == y) = true := by rw [hxy]; simp
          rw [hq] at e1
          clear hq hxy hax hby hf
          go_wp2_with fail
          go_region
          go_wp2_with fail
          go_roundw
          case rel => exact ⟨k + 1, by omega, by go_num, HN.out, HBw.out.drew⟩
          case measure => simp [intOf]; omega
        · have hv := HNe.out k hlt hlt2 (by rw [hax, hby]; exact hxy)
          have hq : (x == y) = false := by rw [beq_eq_false_iff_ne]; exact hxy
          rw [hq] at e1
          clear hq hxy hax hby hf
          subst hv
          go_wp2_with fail
          go_region
          go_wp2_with fail
          go_ret
          exact ⟨rfl, HBw.out.drew⟩
      · have hv := HEq.out (fun j h1 h2 _ => hf.out j h1 h2 (by omega))
        have hki : ¬ (k : Int) < (a.length : Int) := by omega
        subst hv
        go_wp2_with fail
        go_ret
        exact ⟨rfl, HBw.out⟩
  · have HV := Lib.hid (show R = false by rw [HR.out]; exact decide_eq_false (fun e => hl (by rw [e])))
    have hli : ((a.length : Int) != (b.length : Int)) = true := by rw [bne, Bool.not_eq_true', beq_eq_false_iff_ne]; omega
    generalize a.length = n at *
    generalize b.length = m at *
    clear hl HR ha hb
    go_enter Tryz.func16, Tryz.ntmps16
    go_wp2_with fail
    go_ret
    exact ⟨by rw [HV.out]; rfl, Below.refl _ _⟩
end Go.Proofs.YthmadnadaakjaaaGreatDoor.Opt.Ev
/- The chapter's sort. -/
namespace Go.Proofs.YthmadnadaakjaaaGreatDoor.Opt.Ev
open Go.RowKit Go.Maps Go.Proofs.YthmadnadaakjaaaGreatDoor.Opt

/-- The k-th sinks to its place among those ahead of it. -/
def bub : Nat → List Tx → List Tx
  | 0, l => l
  | k + 1, l => if Op.bytesLess (l[k + 1]?.getD []) (l[k]?.getD []) = true then bub k ((l.set (k + 1) (l[k]?.getD [])).set k (l[k + 1]?.getD [])) else l
def sortN : Nat → List Tx → List Tx
  | 0, l => l
  | i + 1, l => bub (i + 1) (sortN i l)
theorem bub_len : ∀ (k : Nat) (l : List Tx), (bub k l).length = l.length
  | 0, _ => rfl
  | k + 1, l => by
    rw [bub]
    split
    · rw [bub_len k]; simp
    · rfl
theorem sortN_len : ∀ (i : Nat) (l : List Tx), (sortN i l).length = l.length
  | 0, _ => rfl
  | i + 1, l => by rw [sortN, bub_len, sortN_len i]
theorem strL_set {l : List Tx} {k : Nat} (x : Tx) (tail : List Value) (h : k < l.length) : (strL l ++ tail).set k (.string (bs x)) = strL (l.set k x) ++ tail := by
  rw [List.set_append_left _ _ (by rw [strL_len]; exact h)]
  unfold strL
  rw [List.map_set]
set_option maxRecDepth 100000 in
set_option maxHeartbeats 4000000 in
theorem sorted_any (l : List Tx) (v : Value) (B : Nat) (w : World) (h : w.ownsRow B 9 1 v l.length (strL l)) (hn : l.length ≤ 100000) (hB : B ≤ w.heap.size) :
    Calls Tryz.prog 50 #[v] w fun e w' => e = .returned v ∧ w'.ownsRow B 9 1 v l.length (strL (sortN (l.length - 1) l)) ∧ Below B w w' := by
  by_cases h1 : l.length ≤ 1
  · have hs : sortN (l.length - 1) l = l := by
      have : l.length - 1 = 0 := by omega
      rw [this]; rfl
    rw [hs]
    obtain ⟨A, c, rfl⟩ := own_slice h
    have HH := Lib.hid h
    have h1i : (l.length : Int) ≤ 1 := by omega
    clear h hs
    generalize l.length = n at *
    go_enter Tryz.func50, Tryz.ntmps50
    go_wp2_with fail
    refine wp_loop_rounds 1 ?_
    rw [rounds_succ]
    go_wp2_with fail
    go_ret
    exact ⟨rfl, HH.out, Below.refl _ _⟩
  · obtain ⟨g, c, tail, rfl, hbl, htl, hnc, hcm⟩ := own_some h (by omega)
    have hBg : B ≤ g := by
      rcases h.2 with ⟨h2, _⟩ | ⟨g2, cap, cur, h2, h3, _⟩
      · cases h2
      · simp only [Value.slice.injEq, Option.some.injEq, Addr.mk.injEq] at h2
        obtain ⟨⟨rfl, -, -⟩, -⟩ := h2
        exact h3
    have H0 := Lib.hid hbl
    have HT := Lib.hid htl
    clear h hbl htl
    go_enter Tryz.func50, Tryz.ntmps50
    go_wp2_with fail
    go_loopw [3] (fun i wr => ∃ k : Nat, 1 ≤ k ∧ k ≤ l.length ∧ i = .int .i64 (k : Int) ∧ BL wr g 9 (strL (sortN (k - 1) l) ++ tail) ∧ Only [g] w wr) (fun i _ => l.length - (intOf i).toNat)
    case atStart => exact ⟨1, by omega, by omega, rfl, H0.out, Only.refl _ _⟩
    case round =>
      obtain ⟨k, hk1, hk, rfl, hb, ho⟩ := hrel
      by_cases hlt : k < l.length
      · have hki : (k : Int) < (l.length : Int) := by omega
        obtain ⟨L, hL⟩ : ∃ L, L = sortN (k - 1) l := ⟨_, rfl⟩
        have hLl : L.length = l.length := by rw [hL, sortN_len]
        have HS := Lib.hid (show sortN k l = bub k L by
          obtain ⟨j, rfl⟩ : ∃ j, k = j + 1 := ⟨k - 1, by omega⟩
          rw [hL]; rfl)
        rw [← hL] at hb
        have HB := Lib.hid hb
        have HO := Lib.hid ho
        clear hL hb ho H0
        go_wp2_with fail
        go_loopw [4] (fun s wr2 => ∃ (j : Nat) (M : List Tx), j ≤ k ∧ s = .int .i64 (j : Int) ∧ M.length = l.length ∧ bub k L = bub j M ∧ BL wr2 g 9 (strL M ++ tail) ∧ Only [g] w wr2) (fun s _ => (intOf s).toNat)
        case atStart => exact ⟨k, L, Nat.le_refl _, rfl, hLl, rfl, HB.out, HO.out⟩
        case round =>
          obtain ⟨j, M, hj, rfl, hM, hbub, hb, ho⟩ := hrel
          have HBj := Lib.hid hb
          have HOj := Lib.hid ho
          have HBU := Lib.hid hbub
          cases j with
          | zero =>
            have hM0 : sortN k l = M := by rw [HS.out, hbub]; rfl
            rw [← hM0] at hb
            have HBn := Lib.hid hb
            clear hb ho hbub hM0
            go_wp2_with fail
            go_region
            go_wp2_with fail
            go_roundw
            case rel => exact ⟨k + 1, by omega, by omega, by go_num, HBn.out, HOj.out.drew⟩
            case measure => simp [intOf]; omega
          | succ j =>
            have c1 : wr.cell? ⟨g, j + 1, none⟩ = some (.string (bs (M[j + 1]?.getD []))) := by
              have h3 := hb.cell (j + 1)
              have hx : M[j + 1]? = some M[j + 1] := List.getElem?_eq_getElem (by omega)
              rw [List.getElem?_append_left (by rw [strL_len]; omega), strL_at hx] at h3
              rw [h3, hx]; rfl
            have c0 : wr.cell? ⟨g, j, none⟩ = some (.string (bs (M[j]?.getD []))) := by
              have h3 := hb.cell j
              have hx : M[j]? = some M[j] := List.getElem?_eq_getElem (by omega)
              rw [List.getElem?_append_left (by rw [strL_len]; omega), strL_at hx] at h3
              rw [h3, hx]; rfl
            have f1 := hb.frozen (j + 1)
            have f0 := hb.frozen j
            have hji : ((j : Int) + 1) < (l.length : Int) := by omega
            have hji2 : (j : Int) < (l.length : Int) := by omega
            have hjp : 0 < (j : Int) + 1 := by omega
            have e1 : Op.bytesLess (bs (M[j + 1]?.getD [])).toList (bs (M[j]?.getD [])).toList = Op.bytesLess (M[j + 1]?.getD []) (M[j]?.getD []) := by rw [bs_tl, bs_tl]
            have hb1 := (hb.set_ (j + 1) (.string (bs (M[j]?.getD []))))
            rw [strL_set _ tail (by omega)] at hb1
            have hb2 := hb1.set_ j (.string (bs (M[j + 1]?.getD [])))
            rw [strL_set _ tail (by rw [List.length_set]; omega)] at hb2
            have ho2 := (ho.setCell (p := ⟨g, j + 1, none⟩) (.inl (by simp)) (.string (bs (M[j]?.getD [])))).setCell (p := ⟨g, j, none⟩) (.inl (by simp)) (.string (bs (M[j + 1]?.getD [])))
            have HB2 := Lib.hid hb2
            have HO2 := Lib.hid ho2
            cases hq : Op.bytesLess (M[j + 1]?.getD []) (M[j]?.getD []) with
            | true =>
              have HBU2 := Lib.hid (show bub k L = bub j ((M.set (j + 1) (M[j]?.getD [])).set j (M[j + 1]?.getD [])) by rw [hbub, bub, if_pos hq])
              rw [hq] at e1
              have HLEN := Lib.hid (show ((M.set (j + 1) (M[j]?.getD [])).set j (M[j + 1]?.getD [])).length = l.length by rw [List.length_set, List.length_set, hM])
              generalize (M.set (j + 1) (M[j]?.getD [])).set j (M[j + 1]?.getD []) = M2 at HB2 HBU2 HLEN
              generalize M[j + 1]?.getD [] = X at *
              generalize M[j]?.getD [] = Y at *
              clear hb ho hbub hq hb1 hb2 ho2
              go_wp2_with fail
              go_region
              go_wp2_with fail
              go_roundw
              case rel => exact ⟨j, M2, by omega, by go_num, HLEN.out, HBU2.out, HB2.out, HO2.out.drew⟩
              case measure => simp [intOf]
            | false =>
              have hM0 : sortN k l = M := by rw [HS.out, hbub, bub, if_neg (by rw [hq]; simp)]
              have hbn := hb
              rw [← hM0] at hbn
              have HBn := Lib.hid hbn
              rw [hq] at e1
              clear hb ho hbub hq hb1 hb2 ho2 hbn hM0 HB2 HO2
              generalize M[j + 1]?.getD [] = X at *
              generalize M[j]?.getD [] = Y at *
              go_wp2_with fail
              go_region
              go_wp2_with fail
              go_roundw
              case rel => exact ⟨k + 1, by omega, by omega, by go_num, HBn.out, HOj.out.drew⟩
              case measure => simp [intOf]; omega
      · have hk2 : k - 1 = l.length - 1 := by omega
        have hki : ¬ (k : Int) < (l.length : Int) := by omega
        rw [hk2] at hb
        have HOW := Lib.hid (show wr.ownsRow B 9 1 (.slice (some ⟨g, 0, none⟩) l.length c) l.length (strL (sortN (l.length - 1) l)) from
          ⟨by rw [strL_len, sortN_len]; omega, .inr ⟨g, c, _, rfl, hBg, hb, hnc, hcm, by rw [List.size_toArray, ← HT.out, List.length_append, List.length_append, strL_len, strL_len, sortN_len], by
            have : l.length * 1 = (strL (sortN (l.length - 1) l)).length := by rw [strL_len, sortN_len]; omega
            show List.take (l.length * 1) _ = _
            rw [this]; exact List.take_left⟩⟩)
        have HBe := Lib.hid (ho.below hB (by intro x hx; simp at hx; omega))
        clear hb ho H0
        go_wp2_with fail
        go_ret
        exact ⟨rfl, HOW.out, HBe.out⟩
end Go.Proofs.YthmadnadaakjaaaGreatDoor.Opt.Ev
/- The chapter's sort puts names in order: as the library's does. -/
namespace Go.Proofs.YthmadnadaakjaaaGreatDoor.Opt.Ev
open Go.RowKit Go.Maps Go.Sort Go.Proofs.YthmadnadaakjaaaGreatDoor.Opt

def leT (x y : Tx) : Prop := x ≤ y
theorem less_no {x y : Tx} (h : Op.bytesLess x y ≠ true) : leT y x := by
  rw [bytesLess_eq] at h
  exact List.not_lt.1 (fun e => h (decide_eq_true e))
theorem less_yes {x y : Tx} (h : Op.bytesLess x y = true) : leT x y := by
  rw [bytesLess_eq] at h
  exact List.not_lt.1 (fun e => absurd (List.lt_trans (of_decide_eq_true h) e) (List.lt_irrefl _))
theorem leT_trans {x y z : Tx} (h : leT x y) (k : leT y z) : leT x z := List.le_trans h k
theorem bub_at : ∀ (n : Nat) (p : List Tx) (x : Tx) (q r : List Tx), p.length = n → (p ++ q).Pairwise leT → (∀ y ∈ q, leT x y) → ∃ s, bub p.length (p ++ x :: (q ++ r)) = s ++ r ∧ s.Pairwise leT ∧ s.Perm (p ++ x :: q)
  | 0, p, x, q, r, hn, hs, hq => by
    obtain rfl := List.eq_nil_of_length_eq_zero hn
    exact ⟨x :: q, rfl, List.pairwise_cons.2 ⟨hq, hs⟩, List.Perm.refl _⟩
  | n + 1, p, x, q, r, hn, hs, hq => by
    obtain ⟨p0, y, rfl⟩ : ∃ p0 y, p = p0 ++ [y] := by
      have hne : p ≠ [] := by intro e; rw [e] at hn; cases hn
      exact ⟨p.dropLast, p.getLast hne, (List.dropLast_concat_getLast hne).symm⟩
    have hl : p0.length = n := by simpa using hn
    have e0 : (p0 ++ [y]).length = p0.length + 1 := by simp
    have e1 : p0 ++ [y] ++ x :: (q ++ r) = p0 ++ y :: x :: (q ++ r) := by simp
    have g0 : (p0 ++ y :: x :: (q ++ r))[p0.length]? = some y := by simp
    have g1 : (p0 ++ y :: x :: (q ++ r))[p0.length + 1]? = some x := by
      rw [List.getElem?_append_right (by omega)]
      have : p0.length + 1 - p0.length = 1 := by omega
      rw [this]; rfl
    rw [e0, e1, bub, g0, g1]
    simp only [Option.getD_some]
    by_cases hb : Op.bytesLess x y = true
    · rw [if_pos hb]
      have e2 : ((p0 ++ y :: x :: (q ++ r)).set (p0.length + 1) y).set p0.length x = p0 ++ x :: ((y :: q) ++ r) := by
        rw [List.set_append_right _ _ (by omega)]
        have : p0.length + 1 - p0.length = 1 := by omega
        rw [this, List.set_append_right _ _ (Nat.le_refl _), Nat.sub_self]
        rfl
      rw [e2]
      obtain ⟨s, h1, h2, h3⟩ := bub_at n p0 x (y :: q) r hl (by simpa using hs) (fun z hz => by
        rcases List.mem_cons.1 hz with rfl | hz
        · exact less_yes hb
        · exact hq z hz)
      refine ⟨s, h1, h2, h3.trans ?_⟩
      rw [List.append_assoc]
      exact List.Perm.append_left p0 (List.Perm.swap y x q)
    · rw [if_neg hb]
      refine ⟨p0 ++ y :: x :: q, by simp, ?_, by simp⟩
      have hyx := less_no hb
      have hs2 : (p0 ++ (y :: q)).Pairwise leT := by simpa using hs
      rw [List.pairwise_append] at hs2 ⊢
      obtain ⟨a1, a2, a3⟩ := hs2
      rw [List.pairwise_cons] at a2
      refine ⟨a1, List.pairwise_cons.2 ⟨fun z hz => ?_, List.pairwise_cons.2 ⟨hq, a2.2⟩⟩, fun z hz u hu => ?_⟩
      · rcases List.mem_cons.1 hz with rfl | hz
        · exact hyx
        · exact leT_trans hyx (hq z hz)
      · have hzy := a3 z hz y (List.mem_cons_self ..)
        rcases List.mem_cons.1 hu with rfl | hu
        · exact hzy
        · rcases List.mem_cons.1 hu with rfl | hu
          · exact leT_trans hzy hyx
          · exact a3 z hz u (List.mem_cons_of_mem _ hu)
theorem sortN_at (l : List Tx) : ∀ i, i < l.length → ∃ s, sortN i l = s ++ l.drop (i + 1) ∧ s.Pairwise leT ∧ s.Perm (l.take (i + 1))
  | 0, h => by
    cases l with
    | nil => cases h
    | cons a r => exact ⟨[a], rfl, List.pairwise_singleton _ _, List.Perm.refl _⟩
  | i + 1, h => by
    obtain ⟨s, h1, h2, h3⟩ := sortN_at l i (by omega)
    have hl : s.length = i + 1 := by rw [h3.length_eq, List.length_take]; omega
    rw [sortN, h1, List.drop_eq_getElem_cons h]
    obtain ⟨t, g1, g2, g3⟩ := bub_at s.length s l[i + 1] [] (l.drop (i + 2)) rfl (by simpa using h2) (by simp)
    rw [hl] at g1
    refine ⟨t, g1, g2, g3.trans ?_⟩
    rw [List.take_succ_eq_append_getElem h]
    exact List.Perm.append_right _ h3
theorem sortN_sorted (l : List Tx) : (sortN (l.length - 1) l).Pairwise leT ∧ (sortN (l.length - 1) l).Perm l := by
  by_cases h : l.length = 0
  · obtain rfl := List.eq_nil_of_length_eq_zero h
    exact ⟨List.Pairwise.nil, List.Perm.refl _⟩
  · obtain ⟨s, h1, h2, h3⟩ := sortN_at l (l.length - 1) (by omega)
    have e : l.length - 1 + 1 = l.length := by omega
    rw [e, List.drop_length, List.append_nil] at h1
    rw [e, List.take_length] at h3
    rw [h1]
    exact ⟨h2, h3⟩
theorem sortN_merge {l m : List Tx} (h : l.Perm m) : sortN (l.length - 1) l = m.mergeSort (fun x y => decide (x ≤ y)) := by
  obtain ⟨h1, h2⟩ := sortN_sorted l
  have tr : ∀ a b c : Tx, decide (a ≤ b) = true → decide (b ≤ c) = true → decide (a ≤ c) = true := fun a b c x y => by
    rw [decide_eq_true_eq] at x y ⊢
    exact List.le_trans x y
  have tot : ∀ a b : Tx, (decide (a ≤ b) || decide (b ≤ a)) = true := fun a b => by
    rw [Bool.or_eq_true, decide_eq_true_eq, decide_eq_true_eq]
    exact List.le_total a b
  refine List.Perm.eq_of_pairwise (le := fun a b => decide (a ≤ b) = true) (fun a b _ _ x y => ?_) (h1.imp fun {a b} (h : a ≤ b) => decide_eq_true h) (List.pairwise_mergeSort tr tot m) (h2.trans (h.trans (List.mergeSort_perm m _).symm))
  rw [decide_eq_true_eq] at x y
  exact List.le_antisymm x y
end Go.Proofs.YthmadnadaakjaaaGreatDoor.Opt.Ev
/- The chapter's Names walked. -/
namespace Go.Proofs.YthmadnadaakjaaaGreatDoor.Opt.Ev
open Go.RowKit Go.Maps Go.Proofs.YthmadnadaakjaaaGreatDoor.Opt

def seenN (top : List (List En)) (nm : Tx) : Bool := match rlook top nm with | some x => !x.2 | none => false
def addN (top : List (List En)) (out : List Tx) (nm : Tx) : List Tx := if (seenN top nm && !out.contains nm) = true then out ++ [nm] else out
def gather (top : List (List En)) : List (List En) → List Tx → List Tx
  | [], out => out
  | es :: r, out => gather top r ((es.map (·.1)).foldl (addN top) out)
def sumL (r : List (List En)) : Nat := (r.map List.length).sum
theorem addN_len (top : List (List En)) (out : List Tx) (nm : Tx) : (addN top out nm).length ≤ out.length + 1 := by
  unfold addN; split <;> simp
theorem getV_two (r : Option (Tx × Bool)) : ∃ s, getV r = .tuple #[.string s, .bool (match r with | some x => !x.2 | none => false)] := by
  cases r with
  | none => exact ⟨_, rfl⟩
  | some x => exact ⟨_, rfl⟩
theorem info_str : (Tryz.prog.info? 9).map (fun i => (i.zero, i.size, i.bytes)) = some (some (.string ⟨#[]⟩), 1, 16) := by kernel_rfl
theorem strL_app (l : List Tx) (x : Tx) : strL (l ++ [x]) = strL l ++ [.string (bs x)] := by simp [strL]
/-- One name appended to a row of the call's own. -/
theorem wpList_app_str {ops : Array Oper} {rest : List Oper} {o : Oper} {a : Act} {w : World} {Q : Exit → Act → World → Prop} (hgd : o.guard = none) (s x : Operand) (ho : o.op = .call { callee := .builtin .append, args := #[s, x], argTypes := #[34, 34] })
    (B : Nat) (v : Value) (l : List Tx) (y : Tx) (hs : a.eval s = v) (hown : w.ownsRow B 9 1 v l.length (strL l)) (g c : Nat) (hx : a.eval x = .slice (some ⟨g, 0, none⟩) 1 c) (hg : BL w g 9 [.string (bs y)]) (hB : B ≤ w.heap.size) (hn : l.length ≤ 100000)
    (h : ∀ v' w', w'.ownsRow B 9 1 v' (l ++ [y]).length (strL (l ++ [y])) → w.grownBy w' v.ownBlock → wpList Tryz.prog ops Q rest (a.put o.dst v') w') :
    wpList Tryz.prog ops Q (o :: rest) a w := by
  obtain ⟨i0, hi0, hz0, hz1, hz2⟩ := info_parts info_str
  refine wpList_append_own_at w hgd s x 34 ho B 9 i0 _ 1 16 Tryz.underlying34 hi0 hz0 hz1 hz2 rfl (by decide) v l.length (strL l) hs hown ⟨g, 0, none⟩ 1 c [.string (bs y)] hx rfl
    (fun j u hj => by rw [Addr.add_mid, Nat.zero_add, hg.cell j]; exact hj) (by simp [Value.oneCell']) (by unfold maxLen; omega) (by omega) hB ?_
  intro v' w' h2 h3 _ _
  refine h v' w' ?_ h3
  rw [strL_app, List.length_append]
  exact h2
theorem and_no {s d e : Bool} (h : false = (s && !d)) : (s && !(d || e)) = false := by
  revert h
  cases s <;> cases d <;> cases e <;> decide
theorem and_yes {s d e : Bool} (h : true = (s && !d)) : (s && !(d || e)) = !e := by
  revert h
  cases s <;> cases d <;> cases e <;> decide
theorem contains_snoc (l : List Tx) (x n : Tx) : (l ++ [x]).contains n = (l.contains n || (x == n)) := by
  rw [Bool.eq_iff_iff, Bool.or_eq_true, List.contains_iff_mem, List.contains_iff_mem, List.mem_append, List.mem_singleton, beq_iff_eq]
  exact ⟨fun h => h.imp id Eq.symm, fun h => h.imp id Eq.symm⟩
set_option maxRecDepth 100000 in
set_option maxHeartbeats 4000000 in
theorem rnames_any (p : Option Addr) (top : List (List En)) (w : World) (h : RLv w p top) (hT : sumL top ≤ 100000) :
    Calls Tryz.prog 30 #[.pointer p] w fun e w' => ∃ v, e = .returned v ∧ w'.ownsRow w.heap.size 9 1 v (gather top top []).length (strL (sortN ((gather top top []).length - 1) (gather top top []))) ∧ Below w.heap.size w w' := by
  have HH := Lib.hid h
  obtain ⟨G, hG⟩ : ∃ G, G = gather top top [] := ⟨_, rfl⟩
  rw [← hG]
  have HG := Lib.hid hG
  have HGet := Lib.hid (fun nm w' (hb : Below w.heap.size w w') => rget_any p top nm w' (h.below hb))
  obtain ⟨T, hTt⟩ : ∃ T, T = sumL top := ⟨_, rfl⟩
  rw [← hTt] at hT
  have HTT := Lib.hid hTt
  clear h hG hTt
  have HNil := Lib.hid (World.ownsRow_nil w w.heap.size 9 1)
  go_enter Tryz.func30, Tryz.ntmps30
  go_wp2_with fail
  go_loopg [3, 4] top.length (fun k v x wr => ∃ q rest out, x = .pointer q ∧ rest.length = k ∧ RLv w q rest ∧ G = gather top rest out ∧ out.length + sumL rest ≤ T ∧ wr.ownsRow w.heap.size 9 1 v out.length (strL out) ∧ Below w.heap.size w wr)
  case atStart => exact ⟨p, top, [], rfl, rfl, HH.out, HG.out, by have := HTT.out; simp; omega, HNil.out, Below.refl _ w⟩
  case round =>
    obtain ⟨q, rest, out, rfl, hk, hlv, hGr, hTr, how, hb⟩ := hrel
    cases rest with
    | nil =>
      obtain rfl : q = none := hlv
      have hGo : G = out := hGr
      rw [← hGo] at how
      have HB := Lib.hid hb
      have HS := Lib.hid (sorted_any G _ w.heap.size wr how (by rw [hGo]; have := hTr; unfold sumL at this; simp at this; omega) hb.size)
      clear hGr how hb hk HH HG HGet hGo
      go_wp2_with fail
      refine HS.out.mono ?_
      rintro e w2 ⟨rfl, ho2, hb2⟩
      have HO2 := Lib.hid ho2
      have HB2 := Lib.hid (HB.out.trans hb2)
      clear ho2 hb2 HS
      go_wp2_with fail
      go_ret
      exact ⟨_, rfl, HO2.out, HB2.out⟩
    | cons es rest =>
      obtain ⟨b, v0, q2, rfl, hE, hn, hr⟩ := hlv
      obtain ⟨A, c, rfl⟩ := own_slice hE.2
      have HE := Lib.hid hE
      have HLR := Lib.hid hr
      have HK := Lib.hid hk
      have HB := Lib.hid hb
      have HOW := Lib.hid how
      have HGr := Lib.hid (show G = gather top rest (((es.map (·.1)).drop 0).foldl (addN top) out) from hGr)
      have HTr := Lib.hid (show out.length + (es.length - 0) + sumL rest ≤ T by have := hTr; unfold sumL at this ⊢; simp at this; omega)
      clear hE hr hk hb how hGr hTr HH HG HNil
      go_wp2_with fail
      go_loopw [3, 5] (fun vo i wr => ∃ (k : Nat) (out : List Tx), k ≤ es.length ∧ i = .int .i64 (k : Int) ∧ G = gather top rest (((es.map (·.1)).drop k).foldl (addN top) out) ∧ out.length + (es.length - k) + sumL rest ≤ T ∧ wr.ownsRow w.heap.size 9 1 vo out.length (strL out) ∧ Below w.heap.size w wr) (fun _ i _ => es.length - (intOf i).toNat)
      case atStart => exact ⟨0, out, Nat.zero_le _, rfl, HGr.out, HTr.out, HOW.out, HB.out⟩
      case round =>
        obtain ⟨k, out, hk, rfl, hGk, hTk, how, hb⟩ := hrel
        have c0 : wr.cell? ⟨b, 0, none⟩ = some (.pointer q2) := (hb.cell (p := ⟨b, 0, none⟩) (BL.lt HE.out.1)).trans (HE.out.1.cell 0)
        have c1 : wr.cell? ⟨b, 1, none⟩ = some (.slice A es.length c) := (hb.cell (p := ⟨b, 1, none⟩) (BL.lt HE.out.1)).trans (HE.out.1.cell 1)
        have HBk := Lib.hid hb
        have HOk := Lib.hid how
        have HGk := Lib.hid hGk
        have HTk := Lib.hid hTk
        by_cases hlt : k < es.length
        · obtain ⟨g, c', tail, hv, hbl, htl, hnc, hcm⟩ := own_some HE.out.2 (by omega)
          simp only [Value.slice.injEq] at hv
          obtain ⟨rfl, -, rfl⟩ := hv
          obtain ⟨⟨n2, v2, b2⟩, ho⟩ : ∃ o, es[k]? = some o := ⟨_, List.getElem?_eq_getElem hlt⟩
          have hdr : (es.map (·.1)).drop k = n2 :: (es.map (·.1)).drop (k + 1) := by
            have h1 : (es.map (·.1))[k]? = some n2 := by simp [ho]
            obtain ⟨h2, h3⟩ := List.getElem?_eq_some_iff.1 h1
            rw [List.drop_eq_getElem_cons h2, h3]
          rw [hdr, List.foldl_cons] at hGk
          have HGn := Lib.hid hGk
          have e0 : wr.cell? ⟨g, k * 3, none⟩ = some (.string (bs n2)) := by
            have h1 := varC_at ho 0 _ rfl
            have h3 := hbl.cell (k * 3 + 0)
            rw [List.getElem?_append_left (List.getElem?_eq_some_iff.1 h1).1, h1] at h3
            exact (hb.cell (p := ⟨g, k * 3, none⟩) (BL.lt hbl)).trans h3
          have hki : (k : Int) < (es.length : Int) := by omega
          have HC := Lib.hid (HGet.out n2 wr hb)
          obtain ⟨s, hs⟩ := getV_two (rlook top n2)
          rw [hs] at HC
          obtain ⟨sn, hsn⟩ : ∃ sn, sn = seenN top n2 := ⟨_, rfl⟩
          have hsn2 : (match rlook top n2 with | some x => !x.2 | none => false) = sn := hsn.symm
          rw [hsn2] at HC
          have HSN := Lib.hid hsn
          clear hs hsn2 hsn hGk hTk how hb ho hdr hbl htl
          obtain ⟨A2, c2, rfl⟩ := own_slice HOk.out
          go_wp2_with fail
          refine HC.out.mono ?_
          rintro e w3 ⟨rfl, hb3⟩
          have HB3 := Lib.hid (HBk.out.trans (hb3.mono HBk.out.size))
          have HO3 := Lib.hid (own_only HOk.out (Only.of_below (F := []) hb3) (fun _ _ => by simp))
          clear hb3 HC
          go_wp2_with fail
          go_loop [8, 9] (fun s8 j => ∃ m : Nat, m ≤ out.length ∧ j = .int .i64 (m : Int) ∧ s8 = .bool (sn && !(out.take m).contains n2)) (fun _ j => out.length - (intOf j).toNat)
          case atStart => exact ⟨0, Nat.zero_le _, rfl, by simp⟩
          case round =>
            obtain ⟨m, hm, rfl, rfl⟩ := hrel
            have ho100 : out.length ≤ 100000 := by have := HTk.out; omega
            by_cases hml : m < out.length
            · obtain ⟨g2, x, rfl, hx, hcx⟩ := str_cell (k := m) HO3.out rfl hml
              have hmi : (m : Int) < (out.length : Int) := by omega
              have e1 : ((bs x).toList == (bs n2).toList) = (x == n2) := by rw [bs_tl, bs_tl]
              have hcon : (out.take (m + 1)).contains n2 = ((out.take m).contains n2 || (x == n2)) := by
                obtain ⟨h2, h3⟩ := List.getElem?_eq_some_iff.1 hx
                rw [List.take_succ_eq_append_getElem h2, h3, contains_snoc]
              have HCN := Lib.hid hcon
              clear hcon hx
              obtain ⟨z, hz⟩ : ∃ z, z = (sn && !(out.take m).contains n2) := ⟨_, rfl⟩
              have HZ := Lib.hid hz
              rw [← hz]
              clear hz
              cases z with
              | false =>
                have HF := Lib.hid (show (sn && !(out.take (m + 1)).contains n2) = false by rw [HCN.out]; exact and_no HZ.out)
                go_wp2_with fail
                go_round
                case rel => exact ⟨m + 1, by omega, by go_num, by rw [HF.out]⟩
                case measure => simp [intOf]; omega
              | true =>
                have HF := Lib.hid (show (sn && !(out.take (m + 1)).contains n2) = !(x == n2) by rw [HCN.out]; exact and_yes HZ.out)
                cases hq : (x == n2) with
                | true =>
                  rw [hq] at e1
                  have HF2 := Lib.hid (show (sn && !(out.take (m + 1)).contains n2) = false by rw [HF.out, hq]; rfl)
                  clear hq
                  go_wp2_with fail
                  go_round
                  case rel => exact ⟨m + 1, by omega, by go_num, by rw [HF2.out]⟩
                  case measure => simp [intOf]; omega
                | false =>
                  rw [hq] at e1
                  have HF2 := Lib.hid (show (sn && !(out.take (m + 1)).contains n2) = true by rw [HF.out, hq]; rfl)
                  clear hq
                  go_wp2_with fail
                  go_round
                  case rel => exact ⟨m + 1, by omega, by go_num, by rw [HF2.out]⟩
                  case measure => simp [intOf]; omega
            · have hme : out.take m = out := List.take_of_length_le (by omega)
              rw [hme]
              have hmi : ¬ (m : Int) < (out.length : Int) := by omega
              have HL1 := addN_len top out n2
              obtain ⟨z, hz⟩ : ∃ z, z = (sn && !out.contains n2) := ⟨_, rfl⟩
              rw [← hz]
              rw [HSN.out] at hz
              have HZ := Lib.hid hz
              clear hz hme
              have HTn := HTk.out
              cases z with
              | false =>
                have hA : addN top out n2 = out := by rw [addN, if_neg (by rw [← HZ.out]; simp)]
                have HGo := Lib.hid (show G = gather top rest (((es.map (·.1)).drop (k + 1)).foldl (addN top) out) by rw [HGn.out, hA])
                clear hA HL1
                go_wp2_with fail
                go_roundw
                case rel => exact ⟨k + 1, out, by omega, by go_num, HGo.out, by omega, HO3.out, HB3.out⟩
                case measure => simp [intOf]; omega
              | true =>
                have hA : addN top out n2 = out ++ [n2] := by rw [addN, if_pos (by rw [← HZ.out])]
                have HGo := Lib.hid (show G = gather top rest (((es.map (·.1)).drop (k + 1)).foldl (addN top) (out ++ [n2])) by rw [HGn.out, hA])
                have HN4 := Lib.hid (BL.new w3 9 [.string (bs n2)])
                have HO4 := Lib.hid (HO3.out.alloc (.cells #[.string (bs n2)] 9))
                have HB4 := Lib.hid (HB3.out.alloc HB3.out.size (.cells #[.string (bs n2)] 9))
                clear hA HL1
                go_wp2_with (at_builtin; refine wpList_app_str rfl _ _ rfl w.heap.size (.slice A2 out.length c2) out n2 rfl HO4.out w3.heap.size 1 rfl HN4.out HB4.out.size ho100 ?_; intro v5 w5 ho5 hg5; have HO5 := Lib.hid ho5; have HB5 := Lib.hid (HB4.out.grown hg5 HB4.out.size (fun k hk => (HO4.out.lt k hk).1)); clear ho5 hg5)
                go_roundw
                case rel => exact ⟨k + 1, out ++ [n2], by omega, by go_num, HGo.out, by rw [List.length_append]; simp; omega, HO5.out, HB5.out⟩
                case measure => simp [intOf]; omega
        · have hke : k = es.length := by omega
          have hki : ¬ (k : Int) < (es.length : Int) := by omega
          have HGe := Lib.hid (show G = gather top rest out by
            rw [HGk.out, hke, List.drop_of_length_le (by simp)]; rfl)
          have HTe := Lib.hid (show out.length + sumL rest ≤ T by have := HTk.out; omega)
          clear hGk hTk how hb
          obtain ⟨A2, c2, rfl⟩ := own_slice HOk.out
          go_wp2_with fail
          go_roundg rest.length
          case measure => have := HK.out; simp only [List.length_cons] at this; omega
          case rel => exact ⟨q2, rest, out, rfl, rfl, HLR.out, HGe.out, HTe.out, HOk.out, HBk.out⟩
end Go.Proofs.YthmadnadaakjaaaGreatDoor.Opt.Ev
/- Which names the chapter tells. -/
namespace Go.Proofs.YthmadnadaakjaaaGreatDoor.Opt.Ev
open Go.RowKit Go.Maps Go.Proofs.YthmadnadaakjaaaGreatDoor.Opt

theorem addN_mem (top : List (List En)) (out : List Tx) (nm x : Tx) : x ∈ addN top out nm ↔ x ∈ out ∨ (x = nm ∧ seenN top nm = true) := by
  unfold addN
  cases hs : seenN top nm with
  | false => simp
  | true =>
    cases hc : out.contains nm with
    | true =>
      have hm : nm ∈ out := List.contains_iff_mem.1 hc
      simp only [Bool.not_true, Bool.and_false, Bool.false_eq_true, if_false, and_true]
      exact ⟨.inl, fun h => h.elim id (fun e => e ▸ hm)⟩
    | false => simp
theorem addN_nodup (top : List (List En)) (out : List Tx) (nm : Tx) (h : out.Nodup) : (addN top out nm).Nodup := by
  unfold addN
  split
  · rename_i hc
    simp only [Bool.and_eq_true, Bool.not_eq_true'] at hc
    rw [List.nodup_append]
    refine ⟨h, by simp, fun a ha b hb e => ?_⟩
    rw [List.mem_singleton] at hb
    have : nm ∈ out := by rw [← hb, ← e]; exact ha
    rw [List.contains_iff_mem.2 this] at hc
    cases hc.2
  · exact h
theorem fold_mem (top : List (List En)) (x : Tx) : ∀ (ns : List Tx) (out : List Tx), x ∈ ns.foldl (addN top) out ↔ x ∈ out ∨ (x ∈ ns ∧ seenN top x = true)
  | [], out => by simp
  | n :: ns, out => by
    rw [List.foldl_cons, fold_mem top x ns, addN_mem, List.mem_cons]
    constructor
    · rintro ((h | ⟨rfl, h⟩) | ⟨h1, h2⟩)
      · exact .inl h
      · exact .inr ⟨.inl rfl, h⟩
      · exact .inr ⟨.inr h1, h2⟩
    · rintro (h | ⟨rfl | h1, h2⟩)
      · exact .inl (.inl h)
      · exact .inl (.inr ⟨rfl, h2⟩)
      · exact .inr ⟨h1, h2⟩
theorem fold_nodup (top : List (List En)) : ∀ (ns : List Tx) (out : List Tx), out.Nodup → (ns.foldl (addN top) out).Nodup
  | [], _, h => h
  | n :: ns, out, h => fold_nodup top ns _ (addN_nodup top out n h)
theorem gather_mem (top : List (List En)) (x : Tx) : ∀ (rest : List (List En)) (out : List Tx), x ∈ gather top rest out ↔ x ∈ out ∨ ((∃ es ∈ rest, x ∈ es.map (·.1)) ∧ seenN top x = true)
  | [], out => by simp [gather]
  | es :: r, out => by
    rw [gather, gather_mem top x r, fold_mem]
    constructor
    · rintro ((h | ⟨h1, h2⟩) | ⟨⟨e, h1, h2⟩, h3⟩)
      · exact .inl h
      · exact .inr ⟨⟨es, List.mem_cons_self .., h1⟩, h2⟩
      · exact .inr ⟨⟨e, List.mem_cons_of_mem _ h1, h2⟩, h3⟩
    · rintro (h | ⟨⟨e, h1, h2⟩, h3⟩)
      · exact .inl (.inl h)
      · rcases List.mem_cons.1 h1 with rfl | h1
        · exact .inl (.inr ⟨h2, h3⟩)
        · exact .inr ⟨⟨e, h1, h2⟩, h3⟩
theorem gather_nodup (top : List (List En)) : ∀ (rest : List (List En)) (out : List Tx), out.Nodup → (gather top rest out).Nodup
  | [], _, h => h
  | _ :: r, _, h => gather_nodup top r _ (fold_nodup top _ _ h)
theorem rlook_in {nm : Tx} {x : Tx × Bool} : ∀ {top : List (List En)}, rlook top nm = some x → ∃ es ∈ top, nm ∈ es.map (·.1)
  | [], h => by cases h
  | es :: r, h => by
    rw [rlook] at h
    cases hl : look1 es nm with
    | some y =>
      refine ⟨es, List.mem_cons_self .., ?_⟩
      unfold look1 at hl
      rw [Option.map_eq_some_iff] at hl
      obtain ⟨z, hz, -⟩ := hl
      have h1 := List.find?_some hz
      exact List.mem_map.2 ⟨z, List.mem_of_find?_eq_some hz, beq_iff_eq.1 h1⟩
    | none =>
      rw [hl] at h
      obtain ⟨e, h1, h2⟩ := rlook_in h
      exact ⟨e, List.mem_cons_of_mem _ h1, h2⟩
/-- What is told: each name that is seen, once. -/
theorem names_mem (top : List (List En)) (x : Tx) : x ∈ gather top top [] ↔ seenN top x = true := by
  rw [gather_mem]
  constructor
  · rintro (h | ⟨-, h⟩)
    · cases h
    · exact h
  · intro h
    refine .inr ⟨?_, h⟩
    unfold seenN at h
    cases hr : rlook top x with
    | none => rw [hr] at h; cases h
    | some y => exact rlook_in hr
theorem names_perm {top : List (List En)} {ss : List Tx} (h1 : ss.Nodup) (h2 : ∀ x, x ∈ ss ↔ seenN top x = true) : (gather top top []).Perm ss :=
  (List.perm_ext_iff_of_nodup (gather_nodup top top [] List.nodup_nil) h1).2 fun x => (names_mem top x).trans (h2 x).symm
end Go.Proofs.YthmadnadaakjaaaGreatDoor.Opt.Ev
/- The library's sort of a row of names of the call's own. -/
namespace Go.Proofs.YthmadnadaakjaaaGreatDoor.Opt.Ev
open Go.RowKit Go.Maps Go.Sort Go.Proofs.YthmadnadaakjaaaGreatDoor.Opt

theorem strL_enc (l : List Tx) : l.map encStr = strL l := rfl
theorem sort_any (v : Value) (ss : List Tx) (B : Nat) (w : World) (h : w.ownsRow B 9 1 v ss.length (strL ss)) (hB : B ≤ w.heap.size) (hn : ss.length ≤ 1000000) :
    Calls Tryz.prog 65 #[v] w fun e w' => e = .returned (.tuple #[]) ∧ w'.ownsRow B 9 1 v ss.length (strL (ss.mergeSort fun x y => decide (x ≤ y))) ∧ Below B w w' := by
  rcases h.2 with ⟨rfl, h0⟩ | ⟨g, cap, cur, rfl, hbase, hb, h1, h2, h3, h4⟩
  · have hnil := List.eq_nil_of_length_eq_zero h0
    subst hnil
    refine (AnyM.slices_Sort_string_none Tryz.sort65 none 0 w).mono ?_
    rintro e w' ⟨rfl, rfl⟩
    exact ⟨rfl, ⟨by rw [List.mergeSort_nil]; rfl, .inl ⟨rfl, rfl⟩⟩, Below.refl _ _⟩
  · have hH : Holds encStr w g 0 ss.toArray := holds_of_block hb (by rw [strL_enc]; simpa using h4)
    refine (AnyM.slices_Sort_string Tryz.sort65 g 0 cap ss w hH (Array.getElem?_eq_some_iff.1 hb).1 (by omega)).mono ?_
    rintro e w' ⟨rfl, n, os, rfl⟩
    refine ⟨rfl, ?_, ?_⟩
    · have := ownsRow_sorted (n := n) (os := os) (ts := ss.mergeSort fun x y => decide (x ≤ y)) (by simp) hbase hb h1 h2 h3
      rw [strL_enc] at this
      exact this
    · exact (Below.refl B w).grown (grownBy_sorted _) hB (fun j hj => by cases hj; exact hbase)
end Go.Proofs.YthmadnadaakjaaaGreatDoor.Opt.Ev
/- Levels of maps and of lists side by side; an environment's blocks stay apart from another's. -/
namespace Go.Proofs.YthmadnadaakjaaaGreatDoor.Opt.Ev
open Go.RowKit Go.Maps Go.Proofs.YthmadnadaakjaaaGreatDoor.Opt

def RelL : List (DataW Value) → List (List En) → Prop
  | [], [] => True
  | D :: ls, es :: r => Rel D es ∧ RelL ls r
  | _, _ => False
theorem relL_look (nm : Tx) : ∀ {ls : List (DataW Value)} {r : List (List En)}, RelL ls r → lookP ls nm = (rlook r nm).map varV
  | [], [], _ => rfl
  | _ :: ls, _ :: r, ⟨h1, h2⟩ => rel_look h1 nm ls r (relL_look nm h2)
  | [], _ :: _, h => h.elim
  | _ :: _, [], h => h.elim
/-- Is a variable hidden? -/
def hidV (v : Value) : Bool := match v with
  | .agg cs => (match cs.toList with | [_, .bool h] => h | _ => false)
  | _ => false
def seenP (ls : List (DataW Value)) (nm : Tx) : Bool := match lookP ls nm with | some v => !hidV v | none => false
theorem seen_eq {ls : List (DataW Value)} {r : List (List En)} (h : RelL ls r) (nm : Tx) : seenP ls nm = seenN r nm := by
  unfold seenP seenN
  rw [relL_look nm h]
  cases rlook r nm with
  | none => rfl
  | some x => rfl
/-- What the program's names must be, to be the chapter's: seen, without doubles. -/
theorem names_same {ls : List (DataW Value)} {r : List (List En)} (h : RelL ls r) {ss : List Tx} (h1 : ss.Nodup) (h2 : ∀ x, x ∈ ss ↔ seenP ls x = true) : sortN ((gather r r []).length - 1) (gather r r []) = ss.mergeSort (fun x y => decide (x ≤ y)) :=
  sortN_merge (names_perm h1 fun x => (h2 x).trans (by rw [seen_eq h]))
theorem Apart {F G F' : List Nat} {n : Nat} (h : ∀ x ∈ F, x ∉ G) (hG : ∀ x ∈ G, x < n) (hF : ∀ x ∈ F', x ∈ F ∨ n ≤ x) : ∀ x ∈ F', x ∉ G := fun x hx hg => by
  rcases hF x hx with h1 | h1
  · exact h x h1 hg
  · exact absurd (hG x hg) (by omega)
theorem REnv.lt {w : World} {b : Nat} {q : Option Addr} {v : Value} {es : List En} (h : REnv w b q v es) : ∀ x ∈ rfoot b v, x < w.heap.size := fun x hx => by
  rcases mem_rfoot.1 hx with rfl | hx
  · exact BL.lt h.1
  · exact (h.2.lt x hx).2
end Go.Proofs.YthmadnadaakjaaaGreatDoor.Opt.Ev
