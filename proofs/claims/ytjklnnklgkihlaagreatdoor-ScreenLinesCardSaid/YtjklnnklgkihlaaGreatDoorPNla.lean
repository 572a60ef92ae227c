/- The walk of the law on lines. -/
import Derived.Test.YtjklnnklgkihlaaGreatDoorPNlw
import Derived.Deep.QuietTactic
import Derived.BigQuiet
namespace Go.Proofs.YtjklnnklgkihlaaGreatDoor.Scr
open Go.RowKit Cel Sty Grd

/-- A block known whole lies as bytes. -/
theorem inb_bl {w : World} {b : Nat} {l : List UInt8} (h : BL w b 5 (bytV l)) : Vt.InB w (some ⟨b, 0, none⟩) l := fun i hi => by
  refine ⟨b, 0, (bytV l).toArray, (0, 0), rfl, h, ?_⟩
  rw [Nat.zero_add]
  simp [bytV, hi]
theorem field_view (A : Option Addr) (n m : Nat) (x y q : Int) (b d : Bool) (t : ByteArray) (V : World) : Sem.run Tryz.prog (Instr.field 43 (.agg #[.slice A n m, .int .i64 x, .int .i64 y, .bool b, .bool d, .int .i64 q, .string t]) 1) V = .ok (.agg #[.int .i64 x, .int .i64 y, .bool b, .bool d]) V := by kernel_rfl
set_option maxRecDepth 100000 in
set_option maxHeartbeats 40000000 in
theorem lines_walk (x y z : Int) (hx0 : -9223372036854775808 ≤ x) (hx1 : x ≤ 9223372036854775807) (hy0 : -9223372036854775808 ≤ y) (hy1 : y ≤ 9223372036854775807) (hz0 : -9223372036854775808 ≤ z) (hz1 : z ≤ 9223372036854775807) (w : World) (ht : Tabled w.heap.size w) :
    Calls Tryz.prog 4 #[.int .i64 x, .int .i64 y, .int .i64 z] w fun e w' => e = .returned (.bool true) ∧ Below w.heap.size w w' := by
  have k1 := Lib.hid (shown6 w ht)
  have k2 := Lib.hid fun (w1 : World) => made6 x y 39 hx0 hx1 hy0 hy1 (by decide) (by decide) w1
  obtain ⟨n, hn, hn4⟩ := pickS_in z 400 (by decide)
  have kz : ∀ V, Calls Tryz.prog 13 #[.int .i64 z, .int .i64 400] V fun e w' => e = .returned (.int .i64 (n : Int)) ∧ V = w' := fun V => by
    have := pick6 z 400 hz0 hz1 (by decide) (by decide) V
    rw [hn] at this
    exact this
  have hn5 : n ≤ 400 := by omega
  have HT := Lib.hid ht
  clear ht hx0 hx1 hy0 hy1 hz0 hz1 hn
  go_enter Tryz.func4, Tryz.ntmps4
  go_wp2_with fail
  refine k1.out.mono ?_
  rintro _ w1 ⟨rfl, hb1⟩
  go_wp2_with fail
  refine (k2.out w1).mono ?_
  rintro _ w2 ⟨c, r, h39, sb, g, F, pb, db, tb, hc1, hc2, hr1, hr2, hh, rfl, hn2⟩
  have e39 : h39 = 39 := by
    have : pickS 39 40 = 39 := by decide
    omega
  subst e39
  have h2 := new_scr hn2 hb1.size
  have hb2 : Below w.heap.size w w2 := hb1.trans (hn2.bel.mono hb1.size)
  have ht2 := HT.out.below hb2 (Nat.le_refl _)
  have kg := grid_at h2.scr
  have HG := Lib.hid kg
  have H2 := Lib.hid h2
  have HB2 := Lib.hid hb2
  have HT2 := Lib.hid ht2
  clear kg h2 hb2 ht2 hn2 hh hb1 k1 k2
  unfold ptrV at HG ⊢
  go_wp2_with fail
  refine HG.out.mono ?_
  rintro _ w3 ⟨g2, F2, rfl, hg2, hF2, hb3⟩
  have HG2 := Lib.hid hg2
  have HF2 := Lib.hid hF2
  have HB3 := Lib.hid hb3
  clear hg2 hF2 hb3 HG
  go_wp2_with fail
  refine (kz w3).mono ?_
  rintro _ w4 ⟨rfl, rfl⟩
  have hn6 : n ≤ 1000000 := by omega
  go_wp2_with (refine wpList_make_u8 rfl (.tmp 32) (.tmp 32) rfl n rfl rfl hn6 ?_; intro w4 hm hb4)
  rw [← abcK_0] at hm
  go_loopw [11] (fun i wr => ∃ k : Nat, k ≤ n ∧ i = .int .i64 (k : Int) ∧ BL wr w3.heap.size 5 (bytV (abcK n k)) ∧ Below w3.heap.size w3 wr) (fun i _ => n - (intOf i).toNat)
  case atStart => exact ⟨0, Nat.zero_le _, rfl, hm, hb4⟩
  case round =>
    obtain ⟨k, hk, rfl, hB, hb⟩ := hrel
    clear hm hb4
    have k0 : (0 : Int) ≤ (k : Int) := Int.natCast_nonneg _
    by_cases hlt : k < n
    · have k1 : (k : Int) < (n : Int) := by omega
      have hl := abcK_len n k hk
      obtain ⟨u, hu⟩ : ∃ u, (bytV (abcK n k))[k]? = some u := ⟨_, List.getElem?_eq_getElem (by rw [bytV_len, hl]; exact hlt)⟩
      have c0 : wr.cell? ⟨w3.heap.size, k, none⟩ = some u := (hB.cell k).trans hu
      have c1 := hB.frozen k
      have hBn := hB.set_ k (.int .u8 (97 + (k : Int) % 26))
      rw [abcK_set hlt] at hBn
      have hon := hb.trans ((one_set wr w3.heap.size k (.int .u8 (97 + (k : Int) % 26))).below (B := w3.heap.size) hb.size (by simp))
      have j1 : IntKind.i64.wrap (97 + (k : Int) % 26) = 97 + (k : Int) % 26 := IntWalk.i64_in _ ⟨by omega, by omega⟩
      have j2 : IntKind.u8.wrap (97 + (k : Int) % 26) = 97 + (k : Int) % 26 := by
        have h1 : 0 ≤ 97 + (k : Int) % 26 := by omega
        have h2 : 97 + (k : Int) % 26 < 256 := by omega
        generalize 97 + (k : Int) % 26 = q at *
        simp [IntKind.wrap, IntKind.signed, IntKind.bits]
        omega
      have HBN := Lib.hid hBn
      have HON := Lib.hid hon
      clear hBn hon hu hB hl
      go_wp2_with fail
      go_roundw
      case rel => exact ⟨k + 1, by omega, by go_num, HBN.out, HON.out⟩
      case measure => simp [intOf]; omega
    · obtain rfl : k = n := by omega
      rw [abcK_n] at hB
      have hbx : Below w2.heap.size w2 wr := HB3.out.trans (hb.mono HB3.out.size)
      have hl2 := H2.out.lt
      have h5 := H2.out.below hbx
      have ht5 := HT2.out.below hbx HB2.out.size
      have kf := feed_plain (b := r - 1) (w := wr) (w1 := wr) h5 ht5 (new_inky c r hc1 hr1) (abcL k) (abcL_wide k) (some ⟨w3.heap.size, 0, none⟩) k (Below.refl _ _) (inb_bl hB) (fun g o e => by simp [Value.ownBlock]) (by rw [abcL_len]; omega)
      have hrl : (runesI (abcL k)).length = k := by unfold runesI; rw [List.length_map, abcL_len]
      have hM : inkAll c 39 (r - 1) ⟨[], List.replicate r (plainR c), newP r⟩ (runesI (abcL k)) = stateK c r 39 (runesI (abcL k)) k := by
        have := state_end (c := c) (r := r) (lim := 39) (runesI (abcL k)) hc1 hr1 (fun q hq => by
          obtain ⟨u, hu, rfl⟩ := List.mem_map.1 hq
          exact (abcL_wide k u hu).2.2)
        rw [hrl] at this
        exact this
      rw [hM, abcL_len] at kf
      have HF := Lib.hid kf
      have HB := Lib.hid hB
      have Hb := Lib.hid hb
      have H5 := Lib.hid h5
      have HL := Lib.hid hl2
      clear kf hB hb h5 hl2 ht5 hM hrl kz
      unfold ptrV at HF
      go_wp2_with fail
      refine HF.out.mono ?_
      rintro _ w6 ⟨ov, rfl, hf6⟩
      have hs3 : w2.heap.size ≤ w3.heap.size := HB3.out.size
      have hs5 : w3.heap.size ≤ wr.heap.size := Hb.out.size
      have hs2 : w.heap.size ≤ w2.heap.size := HB2.out.size
      obtain ⟨F6, pv6, tp6, h6, hA6, hO6, hb6⟩ := fed_scr H5.out (by omega) hf6
      have hfar : ∀ q, w2.heap.size ≤ q → q ∉ sb :: F ++ mineL pb db Vt.nilV Vt.nilV := fun q hq hm => by
        have := HL.out q hm
        omega
      have hG6 := (HG2.out.below Hb.out).only hO6 fun q hq => hfar q (HF2.out q hq)
      have hB6 := HB.out.only hO6 (hfar _ hs3)
      have kcol := cols_ga hG6
      have kg6 := grid_at h6.scr
      have HG6 := Lib.hid hG6
      have HB6 := Lib.hid hB6
      have HKG := Lib.hid kg6
      have HV6 := Lib.hid h6
      have Hb6 : Hid (Below w.heap.size w w6) := Lib.hid ((HB2.out.trans (hbx.mono hs2)).trans hb6)
      obtain ⟨Ao, co, rfl⟩ := Vt.own_slice hA6
      have hc0 : (c : Int) ≠ 0 := by omega
      have q1 : IntKind.i64.wrap ((k : Int) + (c : Int)) = (k : Int) + (c : Int) := IntWalk.i64_in _ ⟨by omega, by omega⟩
      have q2 : IntKind.i64.wrap ((k : Int) + (c : Int) - 1) = (k : Int) + (c : Int) - 1 := IntWalk.i64_in _ ⟨by omega, by omega⟩
      clear h6 hA6 hO6 hb6 hfar hG6 hB6 kg6 hf6 HF H5 hbx HB Hb
      unfold ptrV at HKG
      go_wp2_with (go_at_call 14; refine kcol.mono ?_; rintro _ w7 ⟨rfl, rfl⟩)
      have hq : max 1 (((k : Int) + (c : Int) - 1) / (c : Int)) = (begun c k : Int) := by
        have h1 := begun_div (n := k) hc1
        have e1 : (k : Int) + (c : Int) - 1 = ((k + c - 1 : Nat) : Int) := by omega
        rw [e1, ← Int.natCast_ediv, ← h1]
        omega
      have hbl : ∀ j, j < begun c k → j * c ≤ k := fun j hj => begun_le hc1 hj
      have hbp := begun_pos c k
      have hbk : begun c k ≤ 401 := by
        have : (k - 1) / c ≤ k - 1 := Nat.div_le_self _ _
        unfold begun
        omega
      rw [hq]
      refine HKG.out.mono ?_
      rintro _ w7 ⟨g3, F3, rfl, hg3, hF3, hb7⟩
      have hg3' : GA w7 g3 F3 c 39 (pastK c r 39 (runesI (abcL k)) k (begun c k)) (rowsK c r (runesI (abcL k)) k (begun c k)) := hg3
      have hrow := fun (V : World) (hV : Below w7.heap.size w7 V) (j : Nat) => line_row (hg3'.below hV) j
      have krw := rows_ga hg3'
      have khi := history_ga hg3'
      have kli := limit_ga hg3'
      rw [rowsK_len] at krw
      rw [pastK_len] at khi
      have HB7 : Hid (BL w7 w3.heap.size 5 (bytV (abcL k))) := Lib.hid (HB6.out.only (F := []) (Only.of_below hb7) (by simp))
      have Hb7 : Hid (Below w.heap.size w w7) := Lib.hid (Hb6.out.trans (hb7.mono Hb6.out.size))
      have HV7 := Lib.hid (HV6.out.below hb7)
      generalize hag : begun c k = a at *
      have hoff : max 0 ((a : Int) - (r : Int)) = ((a - r : Nat) : Int) := by omega
      have hj1 : IntKind.i64.wrap ((a : Int) - (r : Int)) = (a : Int) - (r : Int) := IntWalk.i64_in _ ⟨by omega, by omega⟩
      obtain ⟨off, hof⟩ : ∃ off, a - r = off := ⟨_, rfl⟩
      rw [hof] at hoff khi hrow
      obtain ⟨hs, hhs⟩ : ∃ hs, min off 39 = hs := ⟨_, rfl⟩
      rw [hhs] at khi hrow
      have hmin : min (off : Int) 39 = (hs : Int) := by omega
      have hj2 : IntKind.i64.wrap ((off : Int) - (hs : Int)) = (off : Int) - (hs : Int) := IntWalk.i64_in _ ⟨by omega, by omega⟩
      have hk0 : max 0 ((off : Int) - (hs : Int)) = ((off - hs : Nat) : Int) := by omega
      obtain ⟨k0, hk0'⟩ : ∃ k0, off - hs = k0 := ⟨_, rfl⟩
      rw [hk0'] at hk0 hrow
      have HROW := Lib.hid hrow
      have HA := Lib.hid hag
      have HBL := Lib.hid hbl
      clear hrow hag hbl hg3 hg3' hF3 hb7 HG6 HB6 HKG HV6 hq q1 q2 HG2 HF2
      go_wp2_with (first
        | (go_at_call 15; refine krw.mono ?_; rintro _ w8 ⟨rfl, rfl⟩)
        | (go_at_call 16; refine khi.mono ?_; rintro _ w8 ⟨rfl, rfl⟩)
        | (go_at_call 17; refine kli.mono ?_; rintro _ w8 ⟨rfl, rfl⟩))
      go_loopw [15] (fun i wl => ∃ j : Nat, k0 ≤ j ∧ (j ≤ a ∨ a ≤ k0) ∧ i = .int .i64 (j : Int) ∧ Below w7.heap.size w7 wl) (fun i _ => a - (intOf i).toNat)
      case atStart => exact ⟨k0, Nat.le_refl _, by omega, rfl, Below.refl _ _⟩
      case round =>
        obtain ⟨j, hj0, hja, rfl, hbl7⟩ := hrel
        have hjn : (0 : Int) ≤ (j : Int) := Int.natCast_nonneg _
        by_cases hlt : j < a
        · have i1 : (j : Int) < (a : Int) := by omega
          have hjc := HBL.out j hlt
          have hrow := fun (V : World) (hV : Below w7.heap.size w7 V) => HROW.out V hV j hj0 hlt
          have hln := abcL_len k
          have htx : Lib.trimRightB (lettersL (lineK c (runesI (abcL k)) k a j).1) 32 = ((abcL k).drop (j * c)).take (min k (j * c + c) - j * c) := by
            have h1 := line_text (c := c) (abcL_ne k) a j
            rw [hln] at h1
            rw [h1]
            exact line_to (abcL k) hln hjc
          have hsv : ∀ q ∈ (lineK c (runesI (abcL k)) k a j).1, q.2.1 ≠ 0 → 0 ≤ q.1 ∧ q.1 < 128 := by
            have h1 := line_seven (c := c) (B := abcL k) (fun u hu => by have := (abcL_wide k u hu).2.1; omega) a j
            rw [hln] at h1
            exact h1
          have m1 : (j : Int) * (c : Int) = ((j * c : Nat) : Int) := (Int.natCast_mul _ _).symm
          have m2 : ((j : Int) + 1) * (c : Int) = ((j * c + c : Nat) : Int) := by rw [Int.add_mul, m1]; omega
          have ktx := fun (V : World) (hV : Below w7.heap.size w7 V) => (by have h1 := text_ga (hrow V hV) hsv; rw [htx] at h1; exact h1 : Calls Tryz.prog 18 #[.pointer (some ⟨g3, 0, none⟩), .int .i64 ((j : Int) - (off : Int))] V fun e w' => e = .returned (.string ⟨(((abcL k).drop (j * c)).take (min k (j * c + c) - j * c)).toArray⟩) ∧ Below V.heap.size V w')
          have kwr := fun (V : World) (hV : Below w7.heap.size w7 V) => wrapped_ga (hrow V hV)
          have hlm : (lineK c (runesI (abcL k)) k a j).2 = decide (j + 1 < a) := rfl
          rw [hlm] at kwr
          obtain ⟨lo, hlo⟩ : ∃ lo, j * c = lo := ⟨_, rfl⟩
          rw [hlo] at m1 m2 ktx hjc
          obtain ⟨te, hto⟩ : ∃ te, min k (lo + c) = te := ⟨_, rfl⟩
          rw [hto] at ktx
          have hmn : min (k : Int) ((lo + c : Nat) : Int) = (te : Int) := by omega
          have n1 : IntKind.i64.wrap ((j : Int) + 1) = (j : Int) + 1 := IntWalk.i64_in _ ⟨by omega, by omega⟩
          have n2 : IntKind.i64.wrap (((j : Int) + 1) * (c : Int)) = ((lo + c : Nat) : Int) := by rw [m2]; exact IntWalk.i64_in _ ⟨by omega, by omega⟩
          have n3 : IntKind.i64.wrap ((j : Int) * (c : Int)) = (lo : Int) := by rw [m1]; exact IntWalk.i64_in _ ⟨by omega, by omega⟩
          have n4 : IntKind.i64.wrap ((j : Int) - (off : Int)) = (j : Int) - (off : Int) := IntWalk.i64_in _ ⟨by omega, by omega⟩
          have n5 : IntKind.i64.wrap ((a : Int) - 1) = (a : Int) - 1 := IntWalk.i64_in _ ⟨by omega, by omega⟩
          obtain ⟨hi, hhi⟩ : ∃ hi, lo + c = hi := ⟨_, rfl⟩
          rw [hhi] at n2 hmn hto
          have l1 : (0 : Int) ≤ (lo : Int) := by omega
          have l2 : (lo : Int) ≤ (te : Int) := by omega
          have l3 : (te : Int) ≤ (k : Int) := by omega
          obtain ⟨T, hT⟩ : ∃ T, ((abcL k).drop lo).take (te - lo) = T := ⟨_, rfl⟩
          have hTl : T.length = te - lo := by rw [← hT, List.length_take, List.length_drop, hln]; omega
          rw [hT] at ktx
          have KTX := Lib.hid ktx
          have KWR := Lib.hid kwr
          have hcv : ∀ V, Below w7.heap.size w7 V → Sem.run Tryz.prog (convert 28 9 (.slice (if k = lo then some ⟨w3.heap.size, 0, none⟩ else some ⟨w3.heap.size, lo, none⟩) (te - lo) (k - lo))) V = .ok (.string ⟨T.toArray⟩) V := fun V hV => by
            have hBV := HB7.out.only (F := []) (Only.of_below hV) (by simp)
            by_cases hkl : k = lo
            · have e1 : te - lo = 0 := by omega
              have e2 : T = [] := List.eq_nil_of_length_eq_zero (by omega)
              rw [if_pos hkl, e1, e2]
              exact run_convert_bytes_back (P := Tryz.prog) V 28 9 5 ⟨w3.heap.size, 0, none⟩ (k - lo) [] Tryz.underlying28 Tryz.underlying5 Tryz.underlying9 fun q hq => by simp at hq
            · rw [if_neg hkl, ← hTl]
              refine run_convert_bytes_back (P := Tryz.prog) V 28 9 5 ⟨w3.heap.size, lo, none⟩ (k - lo) T Tryz.underlying28 Tryz.underlying5 Tryz.underlying9 fun q hq => ?_
              have hlq : lo + q < (abcL k).length := by rw [hln]; omega
              have e3 : (⟨w3.heap.size, lo, none⟩ : Addr).add q = ⟨w3.heap.size, lo + q, none⟩ := by unfold Addr.add; split <;> simp_all
              have e4 : T[q] = (abcL k)[lo + q] := by simp only [← hT, List.getElem_take, List.getElem_drop]
              rw [e3, e4]
              refine (hBV.cell (lo + q)).trans ?_
              unfold bytV
              rw [List.getElem?_map, List.getElem?_eq_getElem hlq]
              rfl
          have HCV := Lib.hid hcv
          clear hrow htx hsv hlm m1 m2 ktx kwr hT hcv
          have hbd := hbl7.drew
          by_cases hkl : k = lo
          · by_cases hw : j + 1 < a
            · have hcv1 : ∀ V, Below w7.heap.size w7 V → Sem.run Tryz.prog (convert 28 9 (.slice (some ⟨w3.heap.size, 0, none⟩) (te - lo) (k - lo))) V = .ok (.string ⟨T.toArray⟩) V := fun V hV => by
                have := HCV.out V hV
                rw [if_pos hkl] at this
                exact this
              have ekl : (k = lo) = True := eq_true hkl
              have hkw : ∀ V, Below w7.heap.size w7 V → Calls Tryz.prog 19 #[.pointer (some ⟨g3, 0, none⟩), .int .i64 ((j : Int) - (off : Int))] V fun e w' => e = .returned (.bool true) ∧ Below V.heap.size V w' := fun V hV => by
                have := KWR.out V hV
                rw [decide_eq_true hw] at this
                exact this
              have hd : decide ((j : Int) < (a : Int) - 1) = true := decide_eq_true (by omega)
              have hd2 : (j : Int) < (a : Int) - 1 := by omega
              clear hkl hw
              have SS : ∀ V, Below w7.heap.size w7 V → (Sem.run Tryz.prog (convert 28 9 (.slice (some ⟨w3.heap.size, 0, none⟩) (te - lo) (k - lo))) V = .ok (.string ⟨T.toArray⟩) V ∧ Below w7.heap.size w7 V) := fun V hV => ⟨hcv1 V hV, hV⟩
              have HKW := Lib.hid hkw
              have HSS := Lib.hid SS
              clear hcv1 hkw SS
              go_wp2_with fail
              go_region_held3 (fun V => Sem.run Tryz.prog (convert 28 9 (.slice (some ⟨w3.heap.size, 0, none⟩) (te - lo) (k - lo))) V = .ok (.string ⟨T.toArray⟩) V ∧ Below w7.heap.size w7 V)
                (first
                  | exact HSS.out _ hbd
                  | (refine HSS.out _ ?_; assumption)
                  | fail)
                (first
                  | (go_at_call 18; obtain ⟨_, kk⟩ := (by assumption : _ ∧ Below w7.heap.size w7 _); refine (KTX.out _ kk).mono ?_; rintro _ w8 ⟨rfl, hb8⟩; have hbd8 := kk.trans (hb8.mono kk.size))
                  | (go_at_call 19; obtain ⟨_, kk9⟩ := (by assumption : _ ∧ Below w7.heap.size w7 _); refine (HKW.out _ kk9).mono ?_; rintro _ w9 ⟨rfl, hb9⟩; have hbd9 := kk9.trans (hb9.mono kk9.size))
                  | fail)
              all_goals go_wp2_with fail
              all_goals go_roundw
              all_goals first | exact ⟨j + 1, by omega, by omega, by go_num, by first | exact hbd9 | exact hbd9.drew | assumption⟩ | (simp [intOf]; omega)
            · have hcv1 : ∀ V, Below w7.heap.size w7 V → Sem.run Tryz.prog (convert 28 9 (.slice (some ⟨w3.heap.size, 0, none⟩) (te - lo) (k - lo))) V = .ok (.string ⟨T.toArray⟩) V := fun V hV => by
                have := HCV.out V hV
                rw [if_pos hkl] at this
                exact this
              have ekl : (k = lo) = True := eq_true hkl
              have hkw : ∀ V, Below w7.heap.size w7 V → Calls Tryz.prog 19 #[.pointer (some ⟨g3, 0, none⟩), .int .i64 ((j : Int) - (off : Int))] V fun e w' => e = .returned (.bool false) ∧ Below V.heap.size V w' := fun V hV => by
                have := KWR.out V hV
                rw [decide_eq_false hw] at this
                exact this
              have hd : decide ((j : Int) < (a : Int) - 1) = false := decide_eq_false (by omega)
              have hd2 : ¬ (j : Int) < (a : Int) - 1 := by omega
              clear hkl hw
              have SS : ∀ V, Below w7.heap.size w7 V → (Sem.run Tryz.prog (convert 28 9 (.slice (some ⟨w3.heap.size, 0, none⟩) (te - lo) (k - lo))) V = .ok (.string ⟨T.toArray⟩) V ∧ Below w7.heap.size w7 V) := fun V hV => ⟨hcv1 V hV, hV⟩
              have HKW := Lib.hid hkw
              have HSS := Lib.hid SS
              clear hcv1 hkw SS
              go_wp2_with fail
              go_region_held3 (fun V => Sem.run Tryz.prog (convert 28 9 (.slice (some ⟨w3.heap.size, 0, none⟩) (te - lo) (k - lo))) V = .ok (.string ⟨T.toArray⟩) V ∧ Below w7.heap.size w7 V)
                (first
                  | exact HSS.out _ hbd
                  | (refine HSS.out _ ?_; assumption)
                  | fail)
                (first
                  | (go_at_call 18; obtain ⟨_, kk⟩ := (by assumption : _ ∧ Below w7.heap.size w7 _); refine (KTX.out _ kk).mono ?_; rintro _ w8 ⟨rfl, hb8⟩; have hbd8 := kk.trans (hb8.mono kk.size))
                  | (go_at_call 19; obtain ⟨_, kk9⟩ := (by assumption : _ ∧ Below w7.heap.size w7 _); refine (HKW.out _ kk9).mono ?_; rintro _ w9 ⟨rfl, hb9⟩; have hbd9 := kk9.trans (hb9.mono kk9.size))
                  | fail)
              all_goals go_wp2_with fail
              all_goals go_roundw
              all_goals first | exact ⟨j + 1, by omega, by omega, by go_num, by first | exact hbd9 | exact hbd9.drew | assumption⟩ | (simp [intOf]; omega)
          · by_cases hw : j + 1 < a
            · have hcv1 : ∀ V, Below w7.heap.size w7 V → Sem.run Tryz.prog (convert 28 9 (.slice (some ⟨w3.heap.size, lo, none⟩) (te - lo) (k - lo))) V = .ok (.string ⟨T.toArray⟩) V := fun V hV => by
                have := HCV.out V hV
                rw [if_neg hkl] at this
                exact this
              have ekl : (k = lo) = False := eq_false hkl
              have hkw : ∀ V, Below w7.heap.size w7 V → Calls Tryz.prog 19 #[.pointer (some ⟨g3, 0, none⟩), .int .i64 ((j : Int) - (off : Int))] V fun e w' => e = .returned (.bool true) ∧ Below V.heap.size V w' := fun V hV => by
                have := KWR.out V hV
                rw [decide_eq_true hw] at this
                exact this
              have hd : decide ((j : Int) < (a : Int) - 1) = true := decide_eq_true (by omega)
              have hd2 : (j : Int) < (a : Int) - 1 := by omega
              clear hkl hw
              have SS : ∀ V, Below w7.heap.size w7 V → (Sem.run Tryz.prog (convert 28 9 (.slice (some ⟨w3.heap.size, lo, none⟩) (te - lo) (k - lo))) V = .ok (.string ⟨T.toArray⟩) V ∧ Below w7.heap.size w7 V) := fun V hV => ⟨hcv1 V hV, hV⟩
              have HKW := Lib.hid hkw
              have HSS := Lib.hid SS
              clear hcv1 hkw SS
              go_wp2_with fail
              go_region_held3 (fun V => Sem.run Tryz.prog (convert 28 9 (.slice (some ⟨w3.heap.size, lo, none⟩) (te - lo) (k - lo))) V = .ok (.string ⟨T.toArray⟩) V ∧ Below w7.heap.size w7 V)
                (first
                  | exact HSS.out _ hbd
                  | (refine HSS.out _ ?_; assumption)
                  | fail)
                (first
                  | (go_at_call 18; obtain ⟨_, kk⟩ := (by assumption : _ ∧ Below w7.heap.size w7 _); refine (KTX.out _ kk).mono ?_; rintro _ w8 ⟨rfl, hb8⟩; have hbd8 := kk.trans (hb8.mono kk.size))
                  | (go_at_call 19; obtain ⟨_, kk9⟩ := (by assumption : _ ∧ Below w7.heap.size w7 _); refine (HKW.out _ kk9).mono ?_; rintro _ w9 ⟨rfl, hb9⟩; have hbd9 := kk9.trans (hb9.mono kk9.size))
                  | fail)
              all_goals go_wp2_with fail
              all_goals go_roundw
              all_goals first | exact ⟨j + 1, by omega, by omega, by go_num, by first | exact hbd9 | exact hbd9.drew | assumption⟩ | (simp [intOf]; omega)
            · have hcv1 : ∀ V, Below w7.heap.size w7 V → Sem.run Tryz.prog (convert 28 9 (.slice (some ⟨w3.heap.size, lo, none⟩) (te - lo) (k - lo))) V = .ok (.string ⟨T.toArray⟩) V := fun V hV => by
                have := HCV.out V hV
                rw [if_neg hkl] at this
                exact this
              have ekl : (k = lo) = False := eq_false hkl
              have hkw : ∀ V, Below w7.heap.size w7 V → Calls Tryz.prog 19 #[.pointer (some ⟨g3, 0, none⟩), .int .i64 ((j : Int) - (off : Int))] V fun e w' => e = .returned (.bool false) ∧ Below V.heap.size V w' := fun V hV => by
                have := KWR.out V hV
                rw [decide_eq_false hw] at this
                exact this
              have hd : decide ((j : Int) < (a : Int) - 1) = false := decide_eq_false (by omega)
              have hd2 : ¬ (j : Int) < (a : Int) - 1 := by omega
              clear hkl hw
              have SS : ∀ V, Below w7.heap.size w7 V → (Sem.run Tryz.prog (convert 28 9 (.slice (some ⟨w3.heap.size, lo, none⟩) (te - lo) (k - lo))) V = .ok (.string ⟨T.toArray⟩) V ∧ Below w7.heap.size w7 V) := fun V hV => ⟨hcv1 V hV, hV⟩
              have HKW := Lib.hid hkw
              have HSS := Lib.hid SS
              clear hcv1 hkw SS
              go_wp2_with fail
              go_region_held3 (fun V => Sem.run Tryz.prog (convert 28 9 (.slice (some ⟨w3.heap.size, lo, none⟩) (te - lo) (k - lo))) V = .ok (.string ⟨T.toArray⟩) V ∧ Below w7.heap.size w7 V)
                (first
                  | exact HSS.out _ hbd
                  | (refine HSS.out _ ?_; assumption)
                  | fail)
                (first
                  | (go_at_call 18; obtain ⟨_, kk⟩ := (by assumption : _ ∧ Below w7.heap.size w7 _); refine (KTX.out _ kk).mono ?_; rintro _ w8 ⟨rfl, hb8⟩; have hbd8 := kk.trans (hb8.mono kk.size))
                  | (go_at_call 19; obtain ⟨_, kk9⟩ := (by assumption : _ ∧ Below w7.heap.size w7 _); refine (HKW.out _ kk9).mono ?_; rintro _ w9 ⟨rfl, hb9⟩; have hbd9 := kk9.trans (hb9.mono kk9.size))
                  | fail)
              all_goals go_wp2_with fail
              all_goals go_roundw
              all_goals first | exact ⟨j + 1, by omega, by omega, by go_num, by first | exact hbd9 | exact hbd9.drew | assumption⟩ | (simp [intOf]; omega)
        · have hV := HV7.out.below hbl7
          have kv := view_at hV.scr
          have hy : (stateK c r 39 (runesI (abcL k)) k).S.now.y = ((a - 1 - off : Nat) : Int) := by
            show ((begun c k - 1 - (begun c k - r) : Nat) : Int) = _
            rw [HA.out, hof]
          have hwt : (stateK c r 39 (runesI (abcL k)) k).S.now.wait = waitK c k := rfl
          have hbw : Below w.heap.size w wr := Hb7.out.trans (hbl7.mono Hb7.out.size)
          have i2 : ¬ (j : Int) < (a : Int) := by omega
          unfold viewL at kv
          rw [hy, hwt] at kv
          generalize (stateK c r 39 (runesI (abcL k)) k).S.now.x = vx at *
          generalize onM (stateK c r 39 (runesI (abcL k)) k).S.modes 8 = vc at *
          generalize modesP none (stateK c r 39 (runesI (abcL k)) k).S = vm at *
          generalize (stateK c r 39 (runesI (abcL k)) k).S.title = vt at *
          have HKV := Lib.hid kv
          have HBW := Lib.hid hbw
          clear kv hV hy hwt hbw hbl7
          have p1 : IntKind.i64.wrap ((a : Int) - 1) = (a : Int) - 1 := IntWalk.i64_in _ ⟨by omega, by omega⟩
          have p2 : IntKind.i64.wrap ((a : Int) - 1 - (off : Int)) = ((a - 1 - off : Nat) : Int) := by
            have : (a : Int) - 1 - (off : Int) = ((a - 1 - off : Nat) : Int) := by omega
            rw [this]
            exact IntWalk.i64_in _ ⟨by omega, by omega⟩
          obtain ⟨yy, hyy⟩ : ∃ yy, a - 1 - off = yy := ⟨_, rfl⟩
          rw [hyy] at p2 HKV
          unfold ptrV at HKV
          go_wp2_with fail
          refine HKV.out.mono ?_
          rintro _ w8 ⟨Av, nv, cv, rfl, hb8⟩
          have HB8 := Lib.hid (HBW.out.trans (hb8.mono HBW.out.size))
          clear hb8
          have hfd := field_view Av nv cv vx (yy : Int) vm vc (waitK c k) vt w8
          go_wp2_with fail
          have hC := BL.new w8 41 [.int .i64 vx, .int .i64 (yy : Int), .bool vc, .bool (waitK c k)]
          have hbC : Below w.heap.size w (w8.alloc (.cells #[.int .i64 vx, .int .i64 (yy : Int), .bool vc, .bool (waitK c k)] 41)) := HB8.out.alloc HB8.out.size _
          generalize w8.alloc (.cells #[.int .i64 vx, .int .i64 (yy : Int), .bool vc, .bool (waitK c k)] 41) = W at *
          have HCC := Lib.hid hC
          have HBC := Lib.hid hbC
          clear hC hbC hfd
          have e1 : W.cell? ⟨w8.heap.size, 1, none⟩ = some (.int .i64 (yy : Int)) := HCC.out.cell 1
          have e3 : W.cell? ⟨w8.heap.size, 3, none⟩ = some (.bool (waitK c k)) := HCC.out.cell 3
          by_cases hz : k = 0
          · have ew : waitK c k = false := by rw [hz]; rfl
            rw [ew] at e3
            have hd : decide ((0 : Int) < (k : Int)) = false := decide_eq_false (by omega)
            have hd4 : decide (0 < k) = false := decide_eq_false (by omega)
            clear hz ew
            go_quiet (fail)
            go_wp2_with fail
            go_ret
            exact ⟨rfl, Vt.below_drewN HBC.out _⟩
          · by_cases hm : k % c = 0
            · have ew : waitK c k = true := decide_eq_true ⟨by omega, hm⟩
              rw [ew] at e3
              have hd : decide ((0 : Int) < (k : Int)) = true := decide_eq_true (by omega)
              have hd2 : (0 : Int) < (k : Int) := by omega
              have hd3 : 0 < k := by omega
              have hd4 : decide (0 < k) = true := decide_eq_true hd3
              have hr0 : (k : Int) % (c : Int) = 0 := by rw [← Int.natCast_emod, hm]; rfl
              have hr2 : (k : Int).tmod (c : Int) = 0 := by rw [Int.tmod_eq_emod_of_nonneg (by omega)]; exact hr0
              have hr3 : IntKind.i64.wrap 0 = 0 := IntWalk.i64_in _ ⟨by omega, by omega⟩
              clear hz hm ew
              go_quiet (fail)
              go_wp2_with fail
              go_ret
              exact ⟨rfl, Vt.below_drewN HBC.out _⟩
            · have ew : waitK c k = false := decide_eq_false fun h => hm h.2
              rw [ew] at e3
              have hd : decide ((0 : Int) < (k : Int)) = true := decide_eq_true (by omega)
              have hd2 : (0 : Int) < (k : Int) := by omega
              have hd3 : 0 < k := by omega
              have hd4 : decide (0 < k) = true := decide_eq_true hd3
              obtain ⟨rho, hrho⟩ : ∃ rho, k % c = rho := ⟨_, rfl⟩
              have hrl : rho < c := by rw [← hrho]; exact Nat.mod_lt _ hc1
              have hr0 : (k : Int) % (c : Int) = (rho : Int) := by rw [← Int.natCast_emod, hrho]
              have hr2 : (k : Int).tmod (c : Int) = (rho : Int) := by rw [Int.tmod_eq_emod_of_nonneg (by omega)]; exact hr0
              have hr3 : IntKind.i64.wrap (rho : Int) = (rho : Int) := IntWalk.i64_in _ ⟨by omega, by omega⟩
              have hr4 : ((rho : Int) == 0) = false := by simp; omega
              have hr6 : ¬ rho = 0 := by omega
              clear hz hm ew hrho
              go_quiet (fail)
              go_wp2_with fail
              go_ret
              exact ⟨rfl, Vt.below_drewN HBC.out _⟩
end Go.Proofs.YtjklnnklgkihlaaGreatDoor.Scr
