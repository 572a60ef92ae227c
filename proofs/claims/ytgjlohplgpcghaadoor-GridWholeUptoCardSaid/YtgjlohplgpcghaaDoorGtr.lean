/- A flow's blank rows at the end taken off. -/
import Derived.Test.YtgjlohplgpcghaaDoorGpl
import Derived.Deep.LoopGhost
import Derived.Lib.AppendZeros
namespace Go.Proofs.YtgjlohplgpcghaaDoor.Grd
open Go.RowKit

theorem FlowAt.cut1 {w : World} {f p off c : Nat} {cols next : Nat} {px py : Int} {R : List MR} {m : MR} (h : FlowAt w f (slV p (2 * off) (R.length + 1) c) [p] ⟨cols, R ++ [m], next, px, py⟩) :
    FlowAt (w.setCell ⟨f, 1, none⟩ (slV p (2 * off) R.length c)) f (slV p (2 * off) R.length c) [p] ⟨cols, R, next, px, py⟩ := by
  obtain ⟨p2, off2, c2, pre, tail, e1, e2, h2, h3, h4, h5, h6⟩ := tab_open h.tab
  obtain rfl : p = p2 := by simpa using e2
  have e3 : off = off2 ∧ c = c2 := by simp only [slV, Value.slice.injEq, Option.some.injEq, Addr.mk.injEq] at e1; omega
  obtain ⟨rfl, rfl⟩ := e3
  have ho : Only [f] w (w.setCell ⟨f, 1, none⟩ (slV p (2 * off) R.length c)) := (Only.refl _ _).setCell (.inl (by simp)) _
  have hpf : p ≠ f := fun e => h.apart (by simp [e])
  refine ⟨h.blk.set_ 1 _, .inr ⟨p, off, c, pre, mrL m ++ tail, rfl, by show R.length ≤ c; omega, h3, h4, by rw [List.length_append, mrL_len]; show 2 * (c - R.length) ≤ _; omega, h6.only ho (by simpa using hpf), rfl⟩, ?_, h.apart, fun x hx => h.far x (by simp [show x ∈ R from hx]), fun x hx => h.cells x (by simp [show x ∈ R from hx]), h.c1, h.c2, h.n2, ?_⟩
  · exact ⟨fun x hx => (h.held.at_ x (by simp [show x ∈ R from hx])).only ho (by simpa using (h.far x (by simp [show x ∈ R from hx])).1), by have := h.held.apart; rw [List.map_append] at this; exact (List.nodup_append.1 this).1⟩
  · have := h.r2; simp only [List.length_append] at this; show R.length ≤ _; omega
theorem FlowAt.row_cells {w : World} {f p off c : Nat} {cols next : Nat} {px py : Int} {R : List MR} {m : MR} (h : FlowAt w f (slV p (2 * off) (R.length + 1) c) [p] ⟨cols, R ++ [m], next, px, py⟩) :
    w.cell? ⟨p, 2 * (off + R.length), none⟩ = some (slV m.b 0 m.l.length m.cap) ∧ w.cell? ⟨p, 2 * (off + R.length) + 1, none⟩ = some (.bool m.wr) ∧ R.length + 1 ≤ c := by
  obtain ⟨p2, off2, c2, pre, tail, e1, e2, h2, h3, h4, h5, h6⟩ := tab_open h.tab
  obtain rfl : p = p2 := by simpa using e2
  have e3 : off = off2 ∧ c = c2 := by simp only [slV, Value.slice.injEq, Option.some.injEq, Addr.mk.injEq] at e1; omega
  obtain ⟨rfl, rfl⟩ := e3
  obtain ⟨l0, l1, _⟩ := tab_last h4 h6
  exact ⟨l0, l1, h2⟩

set_option maxRecDepth 100000 in
set_option maxHeartbeats 1000000 in
theorem trim_any {w : World} {f p off c : Nat} {cols next : Nat} {px py : Int} {rows : List MR} (h : FlowAt w f (slV p (2 * off) rows.length c) [p] ⟨cols, rows, next, px, py⟩) (hpy : 0 ≤ py) (hlt : py < (rows.length : Int)) :
    Calls Tryd.prog 64 #[.pointer (some ⟨f, 0, none⟩)] w fun e w' => e = .returned (.tuple #[]) ∧ ∃ k, k ≤ rows.length ∧ k = trimN cols (rows.map MR.pl) py rows.length ∧ FlowAt w' f (slV p (2 * off) k c) [p] ⟨cols, rows.take k, next, px, py⟩ ∧ Only [f] w w' := by
  have f0 : w.drew.cell? ⟨f, 0, none⟩ = some (.int .i64 (cols : Int)) := h.blk.cell 0
  have hfl := h.blk.lt
  have hc1 : 1 ≤ cols := h.c1
  have hc2 : cols ≤ 250 := h.c2
  have hr2 : rows.length ≤ 900000 := h.r2
  have hpl : p < w.heap.size := h.tab.lt p (by simp)
  have HG := Lib.hid h
  have kb := blankRow_any
  have hcm : cols ≤ 1000000 := by omega
  obtain ⟨T, hT⟩ : ∃ T, trimN cols (rows.map MR.pl) py rows.length = T := ⟨_, rfl⟩
  have HT := Lib.hid hT
  have HTL : Hid (T ≤ rows.length) := by show _ ≤ _; rw [← hT]; exact trimN_le _ _ _ _
  rw [hT]
  clear h hT
  go_enter Tryd.func64, Tryd.ntmps64
  go_wp2_with fail
  go_cut [2] (fun s2 wx => ∃ e be, s2 = .pointer (some ⟨e, 0, none⟩) ∧ w.heap.size ≤ e ∧ w.heap.size ≤ be ∧ BL wx e 73 [slV be 0 cols cols, .bool false] ∧ CellsAt wx be (List.replicate cols plainCe) cols ∧ Below w.heap.size w wx)
  case first =>
    have SS : ∀ V, Below w.heap.size w V → (V.cell? ⟨f, 0, none⟩ = some (.int .i64 (cols : Int)) ∧ Below w.heap.size w V) := fun V hkk => ⟨(hkk.cell (p := ⟨f, 0, none⟩) hfl).trans f0, hkk⟩
    have BA : ∀ V o, Below w.heap.size w V → Below w.heap.size w (V.alloc o) := fun V o h => h.alloc h.size o
    have BS : ∀ V k x y, w.heap.size ≤ k → Below w.heap.size w V → Below w.heap.size w ((V.setCell ⟨k, 0, none⟩ x).setCell ⟨k, 1, none⟩ y) := fun V k x y hk h => (h.setCell (p := ⟨k, 0, none⟩) (by simpa using hk) _).setCell (p := ⟨k, 1, none⟩) (by simpa using hk) _
    have hdr : Below w.heap.size w w.drew := (Below.refl _ _).drew
    have hdr2 : Below w.heap.size w (w.alloc (.cells #[.slice none 0 0, .bool false] 73)).drew := ((Below.refl _ _).alloc (Nat.le_refl _) _).drew
    have hzd : BL (w.alloc (.cells #[.slice none 0 0, .bool false] 73)).drew w.heap.size 73 [.slice none 0 0, .bool false] := BL.new w 73 [.slice none 0 0, .bool false]
    have hkz0 := Nat.le_refl w.heap.size
    go_region_held3 (fun V => V.cell? ⟨f, 0, none⟩ = some (.int .i64 (cols : Int)) ∧ Below w.heap.size w V)
      (first
        | (refine SS _ ?_; assumption)
        | (refine SS _ (BA _ _ ?_); assumption)
        | (refine SS _ (BA _ _ (And.right ?_)); assumption)
        | (refine SS _ (BS _ _ _ _ ?_ ?_) <;> assumption)
        | fail)
      (first
        | (go_at_call 67; obtain ⟨_, k1⟩ := (by assumption : _ ∧ Below w.heap.size w _); refine (plain_any _).mono ?_; rintro _ w1 ⟨rfl, hb1⟩; have hbx := k1.trans (hb1.mono k1.size); try (first | (have hz3 := (BL.new _ 73 [.slice none 0 0, .bool false]).only (F := []) (Only.of_below hb1) (by simp); have hkz := hdr.size) | (have hz3 := hzd.only (F := []) (Only.of_below hb1) (by simp))))
        | (go_at_call 61; obtain ⟨_, k3⟩ := (by assumption : _ ∧ Below w.heap.size w _); refine (kb cols _ _ _ _ hcm).mono ?_; rintro _ w2 ⟨b, rfl, hb, hC2, hb2⟩; have hby := k3.trans (hb2.mono k3.size); have hbw := Nat.le_trans k3.size hb; try (first | (have hz4 := (BL.new _ 73 [.slice none 0 0, .bool false]).only (F := []) (Only.of_below hb2) (by simp); have hkz := Below.size hbx; have hkb := Nat.lt_of_lt_of_le (BL.new _ 73 [.slice none 0 0, .bool false]).lt hb) | (have hz4 := hz3.only (F := []) (Only.of_below hb2) (by simp); have hkb := Nat.lt_of_lt_of_le hz3.lt hb)); try (have z0 := hz4.cell 0; have z1 := hz4.cell 1; have q0 := hz4.frozen 0; have q1 := hz4.frozen 1)))
    all_goals go_wp2_with fail
    all_goals go_meet
    all_goals first
      | exact ⟨_, b, rfl, by have := Below.size hby; omega, hbw, BL.new _ _ _, hC2.alloc _, BA _ _ hby⟩
      | exact ⟨_, b, rfl, by first | exact hkz | exact hkz0, hbw, (hz4.set_ 0 _).set_ 1 _, hC2.only (((Only.refl [_] w2).setCell (p := ⟨_, 0, none⟩) (.inl (List.mem_singleton.2 rfl)) _).setCell (p := ⟨_, 1, none⟩) (.inl (List.mem_singleton.2 rfl)) _) (fun e => by rw [List.mem_singleton] at e; rw [e] at hkb; exact Nat.lt_irrefl _ hkb), BS _ _ _ _ (by first | exact hkz | exact hkz0) hby⟩
  case rest =>
    obtain ⟨e, be, rfl, hew, hbw, hE, hC, hb0⟩ := hcut
    have HE := Lib.hid hE
    have HC := Lib.hid hC
    have hel := hE.lt
    have hbl := hC.lt
    obtain ⟨n, hn⟩ : ∃ n, rows.length = n := ⟨_, rfl⟩
    have HN := Lib.hid hn
    have hG1 := HG.out.only (F := []) (Only.of_below hb0) (by simp) (by simp) (by simp)
    rw [hn] at hG1 hlt hr2
    clear hE hC hn f0 kb HG
    have hWs := hb0.size
    have HB0 := Lib.hid hb0
    clear hb0
    generalize wc = W at *
    go_wp2_with fail
    go_loopg [] n (fun k wr => k ≤ n ∧ py < (k : Int) ∧ Hid (trimN cols (rows.map MR.pl) py k = T) ∧ FlowAt wr f (slV p (2 * off) k c) [p] ⟨cols, rows.take k, next, px, py⟩ ∧ Only [f] W wr)
    case atStart => exact ⟨Nat.le_refl _, hlt, by show _ = _; rw [← HN.out]; exact HT.out, by rw [← HN.out, List.take_length]; rw [← HN.out] at hG1; exact hG1, Only.refl _ _⟩
    case round =>
      obtain ⟨hk, hpk, hTk, hF, ho⟩ := hrel
      clear hG1
      obtain ⟨k, rfl⟩ : ∃ k, gk = k + 1 := ⟨gk - 1, by omega⟩
      have hkr : k < rows.length := by have := HN.out; omega
      have hlk : (rows.take k).length = k := by rw [List.length_take]; omega
      have hF2 : FlowAt wr f (slV p (2 * off) ((rows.take k).length + 1) c) [p] ⟨cols, rows.take k ++ [rows[k]], next, px, py⟩ := by
        rw [hlk, ← List.take_succ_eq_append_getElem hkr]; exact hF
      obtain ⟨l0, l1, hkc⟩ := hF2.row_cells
      obtain ⟨a1, a2, a3, a4, a5⟩ := hF2.snoc_far
      rw [hlk] at l0 l1 hkc
      have HF2 := Lib.hid hF2
      have HLK := Lib.hid hlk
      have HTR : Hid (trimN cols (rows.map MR.pl) py (k + 1) = if py < (k : Int) ∧ ((rows[k].l, rows[k].wr) : Ro) = (List.replicate cols plainCe, false) then trimN cols (rows.map MR.pl) py k else k + 1) := by
        show (if _ then _ else _) = _
        rw [show (rows.map MR.pl).getD k default = ((rows[k].l, rows[k].wr) : Ro) by simp [hkr, MR.pl]]
      have f1 : wr.cell? ⟨f, 1, none⟩ = some (slV p (2 * off) (k + 1) c) := hF.blk.cell 1
      have f4 : wr.cell? ⟨f, 4, none⟩ = some (.int .i64 py) := hF.blk.cell 4
      have hblk := hF.blk
      have ff1 := hblk.frozen 1
      have hfw := hblk.lt
      have hpw : p < wr.heap.size := hF.tab.lt p (by simp)
      have HF := Lib.hid hF
      obtain ⟨m, hm⟩ : ∃ m, rows[k] = m := ⟨_, rfl⟩
      rw [hm] at l0 l1 a1 a2 a3 a4 a5 HTR
      rw [a4] at l0
      have hE1 := HE.out.only ho (by simp; omega)
      have hC1 := HC.out.only ho (by simp; omega)
      have hel1 := hE1.lt
      have hlen1 : (List.replicate cols plainCe).length = cols := List.length_replicate
      have i1 : IntKind.i64.wrap ((k : Int) + 1 - 1) = (k : Int) := by rw [show (k : Int) + 1 - 1 = (k : Int) by omega]; exact IntWalk.i64_in _ ⟨by omega, by omega⟩
      have i1b : IntKind.i64.wrap (k : Int) = (k : Int) := IntWalk.i64_in _ ⟨by omega, by omega⟩
      have i2 : (0 : Int) ≤ (k : Int) := Int.natCast_nonneg _
      have i3 : (k : Int) ≤ (c : Int) := by omega
      by_cases hp2 : py < (k : Int)
      · obtain ⟨q, hq⟩ : ∃ q, decide (((m.l, m.wr) : Ro) = (List.replicate cols plainCe, false)) = q := ⟨_, rfl⟩
        have hsr : ∀ V, Below wr.heap.size wr V → Calls Tryd.prog 52 #[.agg #[slV m.b 0 cols m.cap, .bool m.wr], .agg #[slV be 0 cols cols, .bool false]] V fun e w' => e = .returned (.bool q) ∧ Below V.heap.size V w' := fun V hV => by
          have := sameRow_any (w := V) (a5.only (F := []) (Only.of_below hV) (by simp)) (hC1.only (F := []) (Only.of_below hV) (by simp)) m.cap cols (by omega) (by omega) a5.1 (by omega) m.wr false q hq
          rw [a4, hlen1] at this
          exact this
        have hla : ∀ V, Below wr.heap.size wr V → Calls Tryd.prog 80 #[.pointer (some ⟨f, 0, none⟩)] V fun e w' => e = .returned (.pointer (some ⟨p, 2 * (off + k), none⟩)) ∧ Below V.heap.size V w' := fun V hV =>
          last_any (L := ⟨cols, rows, next, px, py⟩) (hblk.only (F := []) (Only.of_below hV) (by simp)) (by omega)
        have HQ := Lib.hid hq
        have SS : ∀ V, Below wr.heap.size wr V → (V.cell? ⟨f, 1, none⟩ = some (slV p (2 * off) (k + 1) c) ∧ V.cell? ⟨f, 4, none⟩ = some (.int .i64 py) ∧ V.cell? ⟨p, 2 * (off + k), none⟩ = some (slV m.b 0 cols m.cap) ∧ V.cell? ⟨p, 2 * (off + k) + 1, none⟩ = some (.bool m.wr) ∧ V.cell? ⟨e, 0, none⟩ = some (slV be 0 cols cols) ∧ V.cell? ⟨e, 1, none⟩ = some (.bool false) ∧ Below wr.heap.size wr V) := fun V hV =>
          ⟨(hV.cell (p := ⟨f, 1, none⟩) hfw).trans f1, (hV.cell (p := ⟨f, 4, none⟩) hfw).trans f4, (hV.cell (p := ⟨p, 2 * (off + k), none⟩) hpw).trans l0, (hV.cell (p := ⟨p, 2 * (off + k) + 1, none⟩) hpw).trans l1, (hV.cell (p := ⟨e, 0, none⟩) hel1).trans (hE1.cell 0), (hV.cell (p := ⟨e, 1, none⟩) hel1).trans (hE1.cell 1), hV⟩
        clear hq hF hF2 hE1 hC1 a1 a2 a3 a5 l0 l1 f1 f4 hm
        go_wp2_with fail
        go_cut [28] (fun s28 wx => s28 = .bool q ∧ Below wr.heap.size wr wx)
        case first =>
          have hdr : Below wr.heap.size wr wr.drew := (Below.refl _ _).drew
          go_region_held3 (fun V => V.cell? ⟨f, 1, none⟩ = some (slV p (2 * off) (k + 1) c) ∧ V.cell? ⟨f, 4, none⟩ = some (.int .i64 py) ∧ V.cell? ⟨p, 2 * (off + k), none⟩ = some (slV m.b 0 cols m.cap) ∧ V.cell? ⟨p, 2 * (off + k) + 1, none⟩ = some (.bool m.wr) ∧ V.cell? ⟨e, 0, none⟩ = some (slV be 0 cols cols) ∧ V.cell? ⟨e, 1, none⟩ = some (.bool false) ∧ Below wr.heap.size wr V)
            (first
              | (refine SS _ ?_; assumption)
              | fail)
            (first
              | (go_at_call 80; obtain ⟨_, _, _, _, _, _, k1⟩ := (by assumption : _ ∧ _ ∧ _ ∧ _ ∧ _ ∧ _ ∧ Below wr.heap.size wr _); refine (hla _ k1).mono ?_; rintro _ w1 ⟨rfl, hb1⟩; have k2 := k1.trans (hb1.mono k1.size))
              | (go_at_call 52; obtain ⟨_, _, _, _, _, _, k3⟩ := (by assumption : _ ∧ _ ∧ _ ∧ _ ∧ _ ∧ _ ∧ Below wr.heap.size wr _); refine (hsr _ k3).mono ?_; rintro _ w2 ⟨rfl, hb2⟩; have k4 := k3.trans (hb2.mono k3.size)))
          all_goals go_wp2_with fail
          all_goals go_meet
          all_goals exact ⟨by simp, k4⟩
        case rest =>
          obtain ⟨rfl, hb4⟩ := hcut
          have hW4 : Only [f] W wc := ho.trans (Only.of_below hb4)
          have hF4 := HF.out.only (F := []) (Only.of_below hb4) (by simp) (by simp) (by simp)
          have hX := (HF2.out.only (F := []) (Only.of_below hb4) (by simp) (by simp) (by simp)).cut1
          rw [HLK.out] at hX
          have hwW : Only [f] w wc := (Only.of_below HB0.out).trans hW4
          cases q with
          | true =>
            have x1 : wc.drew.cell? ⟨f, 1, none⟩ = some (slV p (2 * off) (k + 1) c) := hF4.blk.cell 1
            have x2 : wc.drew.frozen? ⟨f, 1, none⟩ = false := hF4.blk.frozen 1
            have HX := Lib.hid hX
            have HT2 : Hid (trimN cols (rows.map MR.pl) py k = T) := by
              show _ = _
              have h1 := HTR.out
              rw [if_pos ⟨hp2, by simpa using HQ.out⟩] at h1
              rw [← h1]
              exact hTk.out
            have hWX := (hW4.drew).setCell (p := ⟨f, 1, none⟩) (.inl (by simp)) (slV p (2 * off) k c)
            clear hX
            go_wp2_with fail
            go_region
            all_goals go_wp2_with fail
            go_roundg k
            case measure => omega
            case rel => exact ⟨by omega, hp2, HT2, HX.out.only (F := []) ((Only.refl _ _).drew) (by simp) (by simp) (by simp), hWX⟩
          | false =>
            have HT2 : Hid (k + 1 = T) := by
              show _ = _
              have h1 := HTR.out
              rw [if_neg (fun e => by have := HQ.out; rw [decide_eq_false_iff_not] at this; exact this e.2)] at h1
              rw [← h1]
              exact hTk.out
            go_wp2_with fail
            exact body_end rfl rfl ⟨rfl, k + 1, by have := HN.out; omega, HT2.out, hF4, hwW⟩
      · have d1 : decide (py < (k : Int)) = false := by simpa using hp2
        have HT2 : Hid (k + 1 = T) := by
          show _ = _
          have h1 := HTR.out
          rw [if_neg (fun e => hp2 e.1)] at h1
          rw [← h1]
          exact hTk.out
        have hwW : Only [f] w wr := (Only.of_below HB0.out).trans ho
        have x1 : wr.drew.cell? ⟨f, 1, none⟩ = some (slV p (2 * off) (k + 1) c) := f1
        have x4 : wr.drew.cell? ⟨f, 4, none⟩ = some (.int .i64 py) := f4
        clear hF2 hF hp2 f1 f4
        go_wp2_with fail
        go_region
        all_goals go_wp2_with fail
        all_goals exact body_end rfl rfl ⟨rfl, k + 1, by have := HN.out; omega, HT2.out, HF.out.only (F := []) ((Only.refl _ _).drew) (by simp) (by simp) (by simp), hwW.drew⟩
/-- The same, in plain words. -/
theorem trim_in {w : World} {f : Nat} {F : List Nat} {P : PF} (h : FlowIn w f F P) (hpy : 0 ≤ P.py) (hlt : P.py < (P.rows.length : Int)) :
    Calls Tryd.prog 64 #[.pointer (some ⟨f, 0, none⟩)] w fun e w' => e = .returned (.tuple #[]) ∧ ∃ F', FlowIn w' f F' (trimF P) ∧ Went F F' w w' := by
  obtain ⟨tv, ft, ⟨cols, rows, next, px, py⟩, h1, rfl, rfl⟩ := h
  have hpl : (FL.pl ⟨cols, rows, next, px, py⟩).rows.length = rows.length := by simp [FL.pl]
  rw [hpl] at hlt
  have hlt2 : py < (rows.length : Int) := hlt
  have hpy2 : 0 ≤ py := hpy
  rcases h1.tab with ⟨_, e, _⟩ | ⟨p, off, c, pre, tail, e1, h2, h3, h4, h5, h6, e2⟩
  · have e' : rows = [] := e
    rw [e'] at hlt2
    simp at hlt2
    omega
  · have e1' : tv = slV p (2 * off) rows.length c := e1
    subst e1' e2
    refine (trim_any h1 hpy2 hlt2).mono ?_
    rintro e w' ⟨he, k, hk, hkT, hF, ho⟩
    have hF2 : FlowAt w' f (slV p (2 * off) (rows.take k).length c) [p] ⟨cols, rows.take k, next, px, py⟩ := by rw [List.length_take, Nat.min_eq_left hk]; exact hF
    refine ⟨he, _, ⟨_, _, _, hF2, ?_, rfl⟩, ⟨fun x hx => .inl ?_, ho.mono (fun x hx => by rw [List.mem_singleton] at hx; rw [hx]; simp [footF])⟩⟩
    · unfold trimF FL.pl
      simp only [List.length_map]
      rw [← hkT, List.map_take]
    · unfold footF at hx ⊢
      simp only [List.mem_cons, List.mem_append, List.mem_map, List.not_mem_nil, or_false] at hx ⊢
      rcases hx with rfl | rfl | ⟨m, hm, rfl⟩
      · exact .inl rfl
      · exact .inr (.inl rfl)
      · exact .inr (.inr ⟨m, List.mem_of_mem_take hm, rfl⟩)
end Go.Proofs.YtgjlohplgpcghaaDoor.Grd
/- Two tables put behind one another in a new one. -/
namespace Go.Proofs.YtgjlohplgpcghaaDoor.Grd
open Go.RowKit

theorem TabAt.src {w : World} {v : Value} {ms : List MR} {F : List Nat} (h : TabAt w v ms F) : Src Tryd.prog 2 68 v ms.length (rowsL ms) w := by
  rcases h with ⟨rfl, rfl, _⟩ | ⟨p, off, c, pre, tail, rfl, h2, h3, h4, h5, h6, _⟩
  · exact Src.ofNil w Tryd.underlying68 0
  · refine Src.ofSlice w Tryd.underlying68 _ _ _ _ (by rw [rowsL_len]; omega) (fun j u hj => ?_) (one_rows ms)
    have hj2 := (List.getElem?_eq_some_iff.1 hj).1
    rw [Addr.add_mid, h6.cell, List.append_assoc, List.getElem?_append_right (by omega), h4, show 2 * off + j - 2 * off = j by omega, List.getElem?_append_left hj2]
    exact hj
/-- A table appended where there is room. -/
theorem append_tab {w : World} {p c : Nat} {A ms : List MR} {tail : List Value} {v : Value} {F : List Nat} (hB : BL w p 73 (rowsL A ++ tail)) (hroom : A.length + ms.length ≤ c) (htl : 2 * (c - A.length) ≤ tail.length) (h : TabAt w v ms F) (ty : TypeId) :
    ∃ w', (Builtin.append_ #[68, 68] ty #[slV p 0 A.length c, v]).run Tryd.prog w = .ok (slV p 0 (A.length + ms.length) c) w' ∧ BL w' p 73 (rowsL (A ++ ms) ++ tail.drop (2 * ms.length)) ∧ Only [p] w w' ∧ w'.heap.size = w.heap.size := by
  have hi := info_row
  cases hq : Tryd.prog.info? 73 with
  | none => rw [hq] at hi; cases hi
  | some i =>
    rw [hq] at hi
    simp only [Option.map_some, Option.some.injEq, Prod.mk.injEq] at hi
    obtain ⟨hz, hsz, hby⟩ := hi
    have hA := rowsL_len A
    have hM := rowsL_len ms
    have hfit : A.length * 2 + (rowsL ms).length ≤ (rowsL A ++ tail).length := by simp only [List.length_append]; omega
    have hthere := hB.there (o := A.length * 2) (n := (rowsL ms).length) hfit
    have hs := h.src
    rw [← hsz] at hs
    have hr := run_append_room_src (P := Tryd.prog) w 68 68 ty 73 i Tryd.underlying68 hq p 0 A.length c v ms.length (rowsL ms) hs hroom (fun j hj => by rw [hsz, Nat.zero_add]; exact (hthere j hj).1) (fun j hj => by rw [hsz, Nat.zero_add]; exact (hthere j hj).2)
    rw [hsz, Nat.zero_add] at hr
    have hB2 := hB.setCells (rowsL ms) (A.length * 2) hfit
    have hsp : splice (rowsL A ++ tail) (A.length * 2) (rowsL ms) = rowsL (A ++ ms) ++ tail.drop (2 * ms.length) := by
      unfold splice
      rw [List.take_left' (by omega), List.drop_append, List.drop_of_length_le (l := rowsL A) (by omega), List.nil_append, hA, hM, show A.length * 2 + 2 * ms.length - 2 * A.length = 2 * ms.length by omega, rowsL_app]
    rw [hsp] at hB2
    exact ⟨_, hr, hB2, (Only.refl _ _).setCells p _ _ (.inl (by simp)), (setCells_far _ _ _ _).1⟩
section
variable {ops : Array Oper} {rest : List Oper} {op : Oper} {a : Act} {w : World} {Q : Exit → Act → World → Prop}
theorem wpList_append_tab (hgd : op.guard = none) (s x : Operand) (ho : op.op = .call { callee := .builtin .append, args := #[s, x], argTypes := #[68, 68] })
    (p c : Nat) (A ms : List MR) (tail : List Value) (v : Value) (F : List Nat) (hs : a.eval s = slV p 0 A.length c) (hx : a.eval x = v) (hB : BL w p 73 (rowsL A ++ tail)) (hroom : A.length + ms.length ≤ c) (htl : 2 * (c - A.length) ≤ tail.length) (ht : TabAt w v ms F)
    (h : ∀ w', BL w' p 73 (rowsL (A ++ ms) ++ tail.drop (2 * ms.length)) → Only [p] w w' → w'.heap.size = w.heap.size → wpList Tryd.prog ops Q rest (a.put op.dst (slV p 0 (A.length + ms.length) c)) w') : wpList Tryd.prog ops Q (op :: rest) a w := by
  refine wpList_plain hgd fun K hK => ?_
  obtain ⟨w', hrun, h1, h2, h3⟩ := append_tab hB hroom htl ht op.type
  have hk := hK _ _ (h w' h1 h2 h3)
  unfold slV at hrun hs
  unfold Oper.wp
  simp [execOp, ho, resolve, invoke, builtin, hs, hx, hrun, Result.andThen]
  exact hk
end

/-- What Grow leaves: a new table without rows, with room for n. -/
def Grown (n : Nat) (w : World) (e : Ending) (w' : World) : Prop := ∃ c tail, e = .returned (slV w.heap.size 0 0 c) ∧ n ≤ c ∧ c ≤ maxLen ∧ tail.length = 2 * c ∧ BL w' w.heap.size 73 tail ∧ Below w.heap.size w w' ∧ w.heap.size < w'.heap.size
theorem Grown.intro {n : Nat} {w w' : World} {e : Ending} (c : Nat) (tail : List Value) (h0 : e = .returned (slV w.heap.size 0 0 c)) (h1 : n ≤ c) (h2 : c ≤ maxLen) (h3 : tail.length = 2 * c) (h4 : BL w' w.heap.size 73 tail) (h5 : Below w.heap.size w w') (h6 : w.heap.size < w'.heap.size) : Grown n w e w' := ⟨c, tail, h0, h1, h2, h3, h4, h5, h6⟩
set_option maxRecDepth 100000 in
set_option maxHeartbeats 1000000 in
theorem grow_nil (n : Nat) (h1 : 1 ≤ n) (hn : n ≤ 1000000) (w : World) :
    Calls Tryd.prog 86 #[.slice none 0 0, .int .i64 (n : Int)] w fun e w' => Grown n w e w' := by
  have hi := info_row
  cases hq : Tryd.prog.info? 73 with
  | none => rw [hq] at hi; cases hi
  | some i =>
    rw [hq] at hi
    simp only [Option.map_some, Option.some.injEq, Prod.mk.injEq] at hi
    obtain ⟨hz, hsz, hby⟩ := hi
    have hr := fun ty => Lib.run_append_nil_zeros (P := Tryd.prog) w 68 3 ty 73 i _ .i64 .i64 Tryd.underlying68 Tryd.underlying3 hq hz n (by omega) (by omega) (by omega) (by rw [hby]; omega)
    have hge := grownCap_ge w n 0 73
    have hmx : maxLen = 9223372036854775807 := rfl
    have hle := grownCap_le_maxLen w n 0 73 (by omega)
    obtain ⟨Z, hZ⟩ : ∃ Z, (Builtin.zeroCells (Value.cells (.agg #[.slice none 0 0, .bool false])) n ++ Builtin.zeroCells (Value.cells (.agg #[.slice none 0 0, .bool false])) (grownCap w n 0 73 - n)) = Z := ⟨_, rfl⟩
    have hzl : ∀ n, (Builtin.zeroCells (Value.cells (.agg #[.slice none 0 0, .bool false])) n).size = n * 2 := fun n => size_zeroCells (Value.cells (.agg #[.slice none 0 0, .bool false])) n
    have hZl : Z.toList.length = 2 * grownCap w n 0 73 := by
      refine (Array.length_toList (xs := Z)).trans ?_
      rw [← hZ, Array.size_append, hzl, hzl]
      omega
    simp only [hZ] at hr
    generalize grownCap w n 0 73 = c at *
    clear hzl hZ hz hsz hby hq
    have hB := BL.new w.drew 73 Z.toList
    have hbel : Below w.heap.size w (w.drew.alloc (.cells Z.toList.toArray 73)) := ((Below.refl _ _).drew).alloc (Nat.le_refl _) _
    have hss : w.heap.size < (w.drew.alloc (.cells Z.toList.toArray 73)).heap.size := by rw [size_alloc]; exact Nat.lt_succ_self _
    have hZ2 : Z.toList.toArray = Z := by simp
    rw [hZ2] at hB hbel hss
    generalize w.drew.alloc (.cells Z 73) = W at *
    have d1 : decide ((n : Int) < 0) = false := by simp
    have d2 : (0 : Int) < (n : Int) := by omega
    have j1 : IntKind.i64.wrap (n : Int) = (n : Int) := IntWalk.i64_in _ ⟨by omega, by omega⟩
    have HB := Lib.hid hB
    have HG := Lib.hid hge
    clear hB hge
    go_enter Tryd.func86, Tryd.ntmps86
    go_wp2_with (at_builtin; refine Lib.wpList_append_run _ rfl (.tmp 20) (.tmp 21) 68 3 rfl _ _ rfl rfl _ _ (hr _) ?_)
    go_ret
    exact Grown.intro c Z.toList rfl HG.out hle hZl HB.out hbel hss

theorem TabAt.shape {w : World} {v : Value} {ms : List MR} {F : List Nat} (h : TabAt w v ms F) : ∃ bs c, v = .slice bs ms.length c := by
  rcases h with ⟨rfl, rfl, _⟩ | ⟨p, off, c, pre, tail, rfl, h2, h3, h4, h5, h6, _⟩
  · exact ⟨none, 0, rfl⟩
  · exact ⟨_, c, rfl⟩
theorem TabAt.fresh {w w' : World} {v : Value} {ms : List MR} {F : List Nat} (h : TabAt w v ms F) (ho : Only [] w w') : TabAt w' v ms F := h.only ho (by simp)

set_option maxRecDepth 100000 in
set_option maxHeartbeats 1000000 in
theorem concat_any {w : World} {q s : Nat} {pv : Value} {past scr : List MR} {fp : List Nat} (hq : BL w q 68 [pv, slV s 0 scr.length scr.length]) (ht : TabAt w pv past fp) (hs : BL w s 73 (rowsL scr)) (h1 : 1 ≤ scr.length) (hn : past.length + scr.length ≤ 100000) :
    Calls Tryd.prog 76 #[.slice (some ⟨q, 0, none⟩) 2 2] w fun e w' => ∃ p c tail, e = .returned (.slice (some ⟨p, 0, none⟩) (past.length + scr.length) c) ∧ BL w' p 73 (rowsL (past ++ scr) ++ tail) ∧ w.heap.size ≤ p ∧ Below w.heap.size w w' := by
  obtain ⟨bs, cp, rfl⟩ := ht.shape
  have hgr := grow_nil (past.length + scr.length) (by omega) (by omega) w
  rw [show ((past.length + scr.length : Nat) : Int) = (past.length : Int) + (scr.length : Int) by omega] at hgr
  have q0 : w.cell? ⟨q, 0, none⟩ = some (.slice bs past.length cp) := hq.cell 0
  have q1 : w.cell? ⟨q, 1, none⟩ = some (.slice (some ⟨s, 0, none⟩) scr.length scr.length) := hq.cell 1
  have hts : TabAt w (.slice (some ⟨s, 0, none⟩) scr.length scr.length) scr [s] := .inr ⟨s, 0, scr.length, [], [], rfl, Nat.le_refl _, by have : maxLen = 9223372036854775807 := rfl; omega, rfl, by simp, by simpa using hs, rfl⟩
  have HQ := Lib.hid hq
  have HT := Lib.hid ht
  have HS := Lib.hid hts
  clear hq ht hs hts
  have HN : Hid (1 ≤ scr.length) := h1
  obtain ⟨n, hn1⟩ : ∃ n, past.length = n := ⟨_, rfl⟩
  obtain ⟨m, hm1⟩ : ∃ m, scr.length = m := ⟨_, rfl⟩
  have HL1 := Lib.hid hn1
  have HL2 := Lib.hid hm1
  rw [hn1] at hgr q0 hn
  rw [hm1] at hgr q1 hn h1
  rw [hn1, hm1]
  clear hn1 hm1
  have j1 : IntKind.i64.wrap (n : Int) = (n : Int) := IntWalk.i64_in _ ⟨by omega, by omega⟩
  have j2 : IntKind.i64.wrap ((n : Int) + (m : Int)) = (n : Int) + (m : Int) := IntWalk.i64_in _ ⟨by omega, by omega⟩
  have d1 : ¬ (n : Int) < 0 := by omega
  have d2 : ¬ (n : Int) + (m : Int) < 0 := by omega
  go_enter Tryd.func76, Tryd.ntmps76
  go_wp2_with fail
  refine wp_loop_rounds 3 ?_
  rw [rounds_succ]
  go_wp2_with fail
  rw [rounds_succ]
  go_wp2_with fail
  rw [rounds_succ]
  go_wp2_with (go_at_call 86; refine hgr.mono ?_; rintro _ w1 ⟨c, tail, rfl, hge, hle, htl, hB1, hb1, hs1⟩; have r0 : w1.cell? ⟨q, 0, none⟩ = some (.slice bs n cp) := (hb1.cell (p := ⟨q, 0, none⟩) HQ.out.lt).trans q0)
  have ht1 := HT.out.fresh (Only.of_below hb1)
  refine wp_loop_rounds 3 ?_
  rw [rounds_succ]
  have hn0 : ([] : List MR).length + past.length = n := by rw [HL1.out]; simp
  have hn2 : past.length + scr.length = n + m := by rw [HL1.out, HL2.out]
  have ht2 : TabAt w1 (.slice bs n cp) past fp := by rw [← HL1.out]; exact ht1
  have ht3 : TabAt w1 (.slice (some ⟨s, 0, none⟩) m m) scr [s] := by rw [← HL2.out]; exact HS.out.fresh (Only.of_below hb1)
  have h3 := hb1.size
  have hts3 : s < w.heap.size := HS.out.lt s (by simp)
  have hqs := HQ.out.lt
  have hfp : ∀ x ∈ fp, x < w.heap.size := fun x hx => HT.out.lt x hx
  have r1 : w1.cell? ⟨q, 1, none⟩ = some (.slice (some ⟨s, 0, none⟩) m m) := (hb1.cell (p := ⟨q, 1, none⟩) hqs).trans q1
  have HT2 := Lib.hid ht2
  have HT3 := Lib.hid ht3
  clear ht1 ht2 ht3 q0 q1
  have HN0 := Lib.hid hn0
  have HN2 := Lib.hid hn2
  clear hn0 hn2
  go_wp2_with (at_builtin; refine wpList_append_tab rfl (.tmp 31) (.tmp 32) rfl w.heap.size c [] past tail _ fp rfl rfl hB1 (by rw [HN0.out]; omega) (by rw [htl]; simp) HT2.out ?_; intro w2 hB2 ho2 hs2; rw [HN0.out])
  have r2 : w2.cell? ⟨q, 1, none⟩ = some (.slice (some ⟨s, 0, none⟩) m m) := (World.cell?_of_block (ho2.block q (by omega) (by simp; omega))).trans r1
  have HT4 := HT3.out.only ho2 (fun x hx => by simp at hx ⊢; omega)
  have HT4' := Lib.hid HT4
  have hb2 := hb1.trans (ho2.below (B := w.heap.size) (by omega) (by simp))
  clear HT4 r1 r0 ho2 hb1
  rw [rounds_succ]
  go_wp2_with (at_builtin; refine wpList_append_tab rfl (.tmp 31) (.tmp 32) rfl w.heap.size c past scr (tail.drop (2 * past.length)) _ [s] (by rw [HL1.out]; rfl) rfl hB2 (by rw [HN2.out]; omega) (by rw [List.length_drop, htl]; omega) HT4'.out ?_; intro w3 hB3 ho3 hs3; rw [HN2.out])
  have hb3 := hb2.trans (ho3.below (B := w.heap.size) (by omega) (by simp))
  rw [rounds_succ]
  go_wp2_with fail
  go_ret
  exact ⟨w.heap.size, c, _, rfl, hB3, Nat.le_refl _, hb3⟩
end Go.Proofs.YtgjlohplgpcghaaDoor.Grd
