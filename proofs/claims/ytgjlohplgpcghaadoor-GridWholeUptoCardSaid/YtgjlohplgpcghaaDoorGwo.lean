/- The law's whole. -/
import Derived.Test.YtgjlohplgpcghaaDoorGrn
namespace Go.Proofs.YtgjlohplgpcghaaDoor.Grd
open Go.RowKit Cel Sty

theorem Whole.sees {l : List Ce} (h : Whole l) : ∀ (x : Nat) (c : Ce), l[x]? = some c → c.2.1 = 1 ∨ (c.2.1 = 0 ∧ c.1 = 0 ∧ 1 ≤ x ∧ ∃ r, l[x - 1]? = some (r, 2, c.2.2)) ∨ (c.2.1 = 2 ∧ ∃ d : Ce, l[x + 1]? = some d ∧ d.2.1 = 0) := by
  induction h with
  | nil => intro x c h; simp at h
  | one r s l _ ih =>
    intro x c h
    match x with
    | 0 => simp at h; subst h; exact .inl rfl
    | x + 1 =>
      rcases ih x c (by simpa using h) with h1 | ⟨h1, h2, h3, r', h4⟩ | ⟨h1, d, h2, h3⟩
      · exact .inl h1
      · obtain ⟨y, rfl⟩ : ∃ y, x = y + 1 := ⟨x - 1, by omega⟩
        exact .inr (.inl ⟨h1, h2, by omega, r', by simpa using h4⟩)
      · exact .inr (.inr ⟨h1, d, by simpa using h2, h3⟩)
  | two r s l _ ih =>
    intro x c h
    match x with
    | 0 => simp at h; subst h; exact .inr (.inr ⟨rfl, (0, 0, s), by simp, rfl⟩)
    | 1 => simp at h; subst h; exact .inr (.inl ⟨rfl, rfl, by omega, r, by simp⟩)
    | x + 2 =>
      rcases ih x c (by simpa using h) with h1 | ⟨h1, h2, h3, r', h4⟩ | ⟨h1, d, h2, h3⟩
      · exact .inl h1
      · obtain ⟨y, rfl⟩ : ∃ y, x = y + 1 := ⟨x - 1, by omega⟩
        exact .inr (.inl ⟨h1, h2, by omega, r', by simpa using h4⟩)
      · exact .inr (.inr ⟨h1, d, by simpa using h2, h3⟩)
set_option maxRecDepth 100000 in
set_option maxHeartbeats 4000000 in
theorem whole_law {w : World} {g bb : Nat} {F : List Nat} {c lim : Nat} {past rows : List Ro} (h : GA w g F c lim past rows) (hW : AllW c (past ++ rows)) (hbb : BL w bb 30 [.pointer (some ⟨g, 0, none⟩), .pointer none]) :
    Calls Tryd.prog 19 #[.pointer (some ⟨bb, 0, none⟩)] w fun e w' => e = .returned (.bool true) ∧ Below w.heap.size w w' := by
  have hbd := h.bd
  obtain ⟨R, hR⟩ : ∃ R, past ++ rows = R := ⟨_, rfl⟩
  have hrow := fun V (hV : Below w.heap.size w V) k hk => (h.below hV).row_at k hk
  have hrws := fun V (hV : Below w.heap.size w V) => rows_ga (h.below hV)
  have hcls := fun V (hV : Below w.heap.size w V) => cols_ga (h.below hV)
  have hhis := history_ga h
  have hNr : R.length = past.length + rows.length := by rw [← hR, List.length_append]
  rw [hR] at hrow hW
  have hp2 := hbd.p2
  have hl2 := hbd.l2
  have hr2 := hbd.r2
  have c1 := hbd.c1
  have c2 := hbd.c2
  have b0 : w.cell? ⟨bb, 0, none⟩ = some (.pointer (some ⟨g, 0, none⟩)) := hbb.cell 0
  obtain ⟨pl, hpl⟩ : ∃ pl, past.length = pl := ⟨_, rfl⟩
  obtain ⟨rl, hrl⟩ : ∃ rl, rows.length = rl := ⟨_, rfl⟩
  rw [hpl] at hrow hhis hNr hp2
  rw [hrl] at hrws hNr hr2
  have HROW := Lib.hid hrow
  have HRWS := Lib.hid hrws
  have HCLS := Lib.hid hcls
  have HWH := Lib.hid hW
  have HNR := Lib.hid hNr
  have j0 : IntKind.i64.wrap (-(pl : Int)) = -(pl : Int) := IntWalk.i64_in _ ⟨by omega, by omega⟩
  clear h hbd hrow hrws hcls hR hpl hrl hNr hW hbb
  go_enter Tryd.func19, Tryd.ntmps19
  go_wp2_with fail
  refine hhis.mono ?_
  rintro _ w1 ⟨rfl, rfl⟩
  clear hhis
  go_wp2_with fail
  go_loopw [4] (fun y wr => ∃ k : Nat, k ≤ pl + rl ∧ y = .int .i64 ((k : Int) - (pl : Int)) ∧ Below w.heap.size w wr) (fun y _ => ((rl : Int) - intOf y).toNat)
  case atStart => exact ⟨0, Nat.zero_le _, by simp, Below.refl _ _⟩
  case round =>
    obtain ⟨k, hk, rfl, hb⟩ := hrel
    have hs := hb.size
    by_cases hlt : k < pl + rl
    · have i1 : (k : Int) - (pl : Int) < (rl : Int) := by omega
      have hkR : k < R.length := by rw [HNR.out]; exact hlt
      have hro := HROW.out wr hb k hkR
      obtain ⟨hwr, hcr⟩ := HWH.out R[k] (List.getElem_mem hkR)
      obtain ⟨⟨row, wrp⟩, hrw⟩ : ∃ q, R[k] = q := ⟨_, rfl⟩
      rw [hrw] at hro hcr hwr
      simp only at hcr hwr
      have HCR := Lib.hid hcr
      have HWR := Lib.hid hwr
      have hln := line_ga hro
      simp only at hln
      have HLN := Lib.hid hln
      clear hro hcr hwr hrw hln
      go_wp2_with fail
      refine (HRWS.out _ hb).mono ?_
      rintro _ w2 ⟨rfl, rfl⟩
      go_wp2_with fail
      refine HLN.out.mono ?_
      rintro _ w2 ⟨b, cap, rfl, hC, hbb, hb2⟩
      have hb2' := hb.trans (hb2.mono hs)
      have HC := Lib.hid hC
      rw [HCR.out]
      clear hC HLN hb2
      go_wp2_with fail
      refine (HCLS.out _ hb2').mono ?_
      rintro _ w3 ⟨rfl, rfl⟩
      go_wp2_with fail
      go_loopw [6] (fun x wz => ∃ j : Nat, j ≤ c ∧ x = .int .i64 (j : Int) ∧ Below w.heap.size w wz ∧ CellsAt wz b row cap) (fun x _ => c - (intOf x).toNat)
      case atStart => exact ⟨0, Nat.zero_le _, rfl, hb2', HC.out⟩
      case round =>
        obtain ⟨j, hj, rfl, hbz, hCz⟩ := hrel
        have hsz := hbz.size
        have jj : (0 : Int) ≤ (j : Int) := Int.natCast_nonneg _
        by_cases hjn : j < c
        · have hjr : j < row.length := by rw [HCR.out]; exact hjn
          have j1 : (j : Int) < (c : Int) := by omega
          obtain ⟨e0, e1, e2, e3, e4⟩ := hCz.five hjr
          have hat := HWR.out.sees j row[j] (List.getElem?_eq_getElem hjr)
          obtain ⟨⟨rv, wv, s1, s2, s3⟩, hq⟩ : ∃ q, row[j] = q := ⟨_, rfl⟩
          rw [hq] at e0 e1 e2 e3 e4 hat
          simp only at e0 e1 e2 e3 e4 hat
          have HCZ := Lib.hid hCz
          have HBZ := Lib.hid hbz
          have hbl := hCz.lt
          have hal : Below wr.heap.size wr (wr.alloc (.cells #[.int .i32 rv, .int .i64 wv, .int .i64 s1, .int .i64 s2, .int .i64 s3] 35)) := (Below.refl _ _).alloc (Nat.le_refl _) _
          have HNB := Lib.hid (BL.new wr 35 [.int .i32 rv, .int .i64 wv, .int .i64 s1, .int .i64 s2, .int .i64 s3])
          have HAL := Lib.hid (hbz.trans (hal.mono hsz))
          have HCA := Lib.hid (hCz.only (F := []) (Only.of_below hal) (by simp))
          clear hq hCz hj hal
          rcases hat with h1 | ⟨h1, h2, h3, r', h4⟩ | ⟨h1, d, h2, h3⟩
          · subst h1
            go_wp2_with fail
            go_roundw
            case rel => exact ⟨j + 1, by omega, by go_num, HAL.out, HCA.out⟩
            case measure => simp [intOf]; omega
          · subst h1 h2
            obtain ⟨i, rfl⟩ : ∃ i, j = i + 1 := ⟨j - 1, by omega⟩
            rw [Nat.add_sub_cancel] at h4
            obtain ⟨hir, hiq⟩ := List.getElem?_eq_some_iff.1 h4
            obtain ⟨g0, g1, g2, g3, g4⟩ := HCA.out.five hir
            rw [hiq] at g1 g2 g3 g4
            simp only at g1 g2 g3 g4
            clear h4 hiq g0 hir
            go_wp2_with fail
            generalize wr.alloc (.cells #[.int .i32 0, .int .i64 0, .int .i64 s1, .int .i64 s2, .int .i64 s3] 35) = W at *
            have q1 : W.drew.cell? ⟨b, i * 5 + 1, none⟩ = some (.int .i64 2) := g1
            have q2 : W.drew.cell? ⟨b, i * 5 + 2, none⟩ = some (.int .i64 s1) := g2
            have q3 : W.drew.cell? ⟨b, i * 5 + 3, none⟩ = some (.int .i64 s2) := g3
            have q4 : W.drew.cell? ⟨b, i * 5 + 4, none⟩ = some (.int .i64 s3) := g4
            have r0 : W.drew.cell? ⟨wr.heap.size, 0, none⟩ = some (.int .i32 0) := HNB.out.cell 0
            have r2 : W.drew.cell? ⟨wr.heap.size, 2, none⟩ = some (.int .i64 s1) := HNB.out.cell 2
            have r3 : W.drew.cell? ⟨wr.heap.size, 3, none⟩ = some (.int .i64 s2) := HNB.out.cell 3
            have r4 : W.drew.cell? ⟨wr.heap.size, 4, none⟩ = some (.int .i64 s3) := HNB.out.cell 4
            have k0 : (0 : Int) ≤ (i : Int) := Int.natCast_nonneg _
            have k1 : (i : Int) < (c : Int) := by omega
            have k2 : IntKind.i64.wrap (i : Int) = (i : Int) := IntWalk.i64_in _ ⟨by omega, by omega⟩
            have d0 : (((i : Int) + 1) == 0) = false := by simp; omega
            have HDR : Hid (Below w.heap.size w W.drew) := HAL.out.drew
            have HCD : Hid (CellsAt W.drew b row cap) := HCA.out
            clear g1 g2 g3 g4 e0 e1 e2 e3 e4
            go_region
            all_goals go_wp2_with fail
            all_goals go_roundw
            case rel => exact ⟨i + 1 + 1, by omega, by go_num, HDR.out, HCD.out⟩
            case measure => simp [intOf]; omega
          · subst h1
            obtain ⟨hir, hiq⟩ := List.getElem?_eq_some_iff.1 h2
            obtain ⟨g0, g1, g2, g3, g4⟩ := HCA.out.five hir
            rw [hiq, h3] at g1
            rw [HCR.out] at hir
            clear h2 h3 hiq g0 g2 g3 g4
            have k0 : (0 : Int) ≤ (j : Int) + 1 := by omega
            have k1 : (j : Int) + 1 < (c : Int) := by omega
            have k2 : IntKind.i64.wrap ((j : Int) + 1) = (j : Int) + 1 := IntWalk.i64_in _ ⟨by omega, by omega⟩
            have k3 : IntKind.i64.wrap ((c : Int) - 1) = (c : Int) - 1 := IntWalk.i64_in _ ⟨by omega, by omega⟩
            have d0 : ((j : Int) == (c : Int) - 1) = false := by simp; omega
            go_wp2_with fail
            all_goals go_roundw
            case rel => exact ⟨j + 1, by omega, by go_num, HAL.out, HCA.out⟩
            case measure => simp [intOf]; omega
        · obtain rfl : j = c := by omega
          have i2 : ((k : Int) - (pl : Int)) + 1 = ((k + 1 : Nat) : Int) - (pl : Int) := by omega
          go_wp2_with fail
          go_roundw
          case rel => exact ⟨k + 1, by omega, by first | go_num | (congr 1; omega), hbz⟩
          case measure => simp [intOf]; omega
    · obtain rfl : k = pl + rl := by omega
      have i1 : (rl : Int) ≤ ((pl + rl : Nat) : Int) - (pl : Int) := by omega
      go_wp2_with fail
      refine (HRWS.out _ hb).mono ?_
      rintro _ w2 ⟨rfl, rfl⟩
      go_wp2_with fail
      go_ret
      exact ⟨rfl, hb⟩
end Go.Proofs.YtgjlohplgpcghaaDoor.Grd
