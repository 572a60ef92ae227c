/- The chapter's Parse walked. -/
import Derived.Test.YtajnlbfhcbkopaaDoorRim
namespace Go.Proofs.YtajnlbfhcbkopaaDoor.Sty
open Go.RowKit

/-- The items that are still to come at place i, the present one beginning at place a. -/
def restI (L : Tx) (a i : Nat) : List Tx := if i ≤ L.length then itemsFrom ((L.take i).drop a) (L.drop i) else []
theorem sepB_lw (b : UInt8) : sepB (lw b) = sepB b := by
  unfold lw
  by_cases h : 65 ≤ b.toNat ∧ b.toNat ≤ 90
  · rw [if_pos h]
    have e : (b + 32).toNat = (b.toNat + 32) % 256 := UInt8.toNat_add b 32
    unfold sepB
    rw [e]
    rw [Bool.eq_iff_iff]
    simp only [Bool.or_eq_true, beq_iff_eq]
    omega
  · rw [if_neg h]
theorem low_at (l : Tx) (k : Nat) (h : k < l.length) (h2 : k < (low l).length) : (low l)[k] = lw l[k] := List.getElem_map lw
theorem low_take (l : Tx) (n : Nat) : low (l.take n) = (low l).take n := by unfold low; rw [List.map_take]
theorem rest_on {L : Tx} {a i : Nat} (h : i < L.length) (ha : a ≤ i) (hs : sepB L[i] = false) : restI L a (i + 1) = restI L a i := by
  unfold restI
  rw [if_pos (by omega), if_pos (by omega), List.drop_eq_getElem_cons h, itemsFrom, if_neg (by rw [hs]; decide)]
  rw [List.take_succ_eq_append_getElem h, List.drop_append_of_le_length (by rw [List.length_take]; omega)]
theorem rest_end (L : Tx) (a : Nat) : restI L a (L.length + 1) = [] := by
  unfold restI
  rw [if_neg (by omega)]
theorem rest_new (L : Tx) {i : Nat} (h : i < L.length) : restI L (i + 1) (i + 1) = itemsFrom [] (L.drop (i + 1)) := by
  unfold restI
  rw [if_pos (by omega), List.drop_of_length_le (List.length_take_le _ _)]
/-- At a comma, a blank, or the end: the present item, if there is one, and the others. -/
theorem rest_stop {L : Tx} {a i : Nat} (h : i ≤ L.length) (ha : a ≤ i) (hs : ∀ (h : i < L.length), sepB L[i] = true) :
    restI L a i = if a < i then ((L.take i).drop a) :: restI L (i + 1) (i + 1) else restI L (i + 1) (i + 1) := by
  have hl : ((L.take i).drop a).length = i - a := by rw [List.length_drop, List.length_take]; omega
  have hc : (L.take i).drop a = [] ↔ ¬ a < i := by
    rw [← List.length_eq_zero_iff, hl]; omega
  have he : restI L a i = itemsFrom ((L.take i).drop a) (L.drop i) := by unfold restI; rw [if_pos h]
  by_cases hlt : i < L.length
  · rw [he, rest_new L hlt, List.drop_eq_getElem_cons hlt, itemsFrom, if_pos (hs hlt)]
    by_cases hai : a < i
    · rw [if_neg (fun e => (hc.1 e) hai), if_pos hai]
    · rw [if_pos (hc.2 hai), if_neg hai]
  · obtain rfl : i = L.length := by omega
    rw [he, rest_end, List.drop_length, itemsFrom]
    by_cases hai : a < L.length
    · rw [if_neg (fun e => (hc.1 e) hai), if_pos hai]
    · rw [if_pos (hc.2 hai), if_neg hai]
theorem rest_start (L : Tx) : restI L 0 0 = items L := by
  unfold restI items
  rw [if_pos (by omega), List.take_zero, List.drop_nil, List.drop_zero]

set_option maxRecDepth 100000 in
set_option maxHeartbeats 6000000 in
theorem parseRef_any (l : Tx) (o1 o2 o3 : Int) (w : World) (hs : l.length ≤ 140737488351232) :
    Calls Tryd.prog 15 #[.string (bs l), .agg #[.int .i64 o1, .int .i64 o2, .int .i64 o3]] w fun e w' => e = .returned (parseV l (o1, o2, o3)) ∧ Below w.heap.size w w' := by
  have hsz := bs_size l
  have hO := (Blk.new w 31 #[.int .i64 o1, .int .i64 o2, .int .i64 o3]).alloc (.cells #[.int .i64 0, .int .i64 0, .int .i64 0] 31)
  have hZ := Blk.new (w.alloc (.cells #[.int .i64 o1, .int .i64 o2, .int .i64 o3] 31)) 31 #[.int .i64 0, .int .i64 0, .int .i64 0]
  have hb0 : Below w.heap.size w ((w.alloc (.cells #[.int .i64 o1, .int .i64 o2, .int .i64 o3] 31)).alloc (.cells #[.int .i64 0, .int .i64 0, .int .i64 0] 31)) := ((Below.refl _ _).alloc (Nat.le_refl _) _).alloc (by simp) _
  simp only [size_alloc] at hZ
  by_cases hl : 256 < l.length
  · have HE := Lib.hid (errLong_V l (o1, o2, o3) hl)
    have hl2 : 256 < (bs l).size := by omega
    clear hsz hl hO
    go_enter Tryd.func15, Tryd.ntmps15
    go_wp2_with (refine wpList_store_blk rfl 31 (.tmp 4) (.tmp 14) rfl (w.heap.size + 1) #[.int .i64 0, .int .i64 0, .int .i64 0] rfl rfl _ _ hZ (by kernel_rfl) rfl (by kernel_rfl) ?_; intro w9 hblk9 hb9)
    exact bodyPost_ret (v := .tuple #[.agg #[.int .i64 0, .int .i64 0, .int .i64 0], .int .i64 2]) (results_cell_tmp (p := 4) (q := 5) (by kernel_rfl) _ w9 _ _ _ _ _ rfl hblk9 Tryd.underlying31 rfl (by kernel_rfl)) rfl ⟨by rw [HE.out], hb0.trans (hb9 _ (by omega))⟩
  · have HN : Hid (parseS l (o1, o2, o3) = none → parseV l (o1, o2, o3) = .tuple #[.agg #[.int .i64 0, .int .i64 0, .int .i64 0], .int .i64 4]) := fun h => by
      unfold parseV; rw [if_neg hl, h]
    have HS : Hid (∀ t, parseS l (o1, o2, o3) = some t → parseV l (o1, o2, o3) = .tuple #[styV t, .int .i64 0]) := fun t h => by
      unfold parseV; rw [if_neg hl, h]
    obtain ⟨S, hSe⟩ : ∃ S, S = bs l := ⟨_, rfl⟩
    rw [← hSe] at hsz ⊢
    have hS : Hid (∀ a i, S.extract a i = bs ((l.take i).drop a)) := fun a i => by rw [hSe]; exact cut_ext l a i
    have HL : Hid (∀ k (h : k < l.length) (h2 : k < S.size), S[k]'h2 = l[k]) := by
      show ∀ k (h : k < l.length) (h2 : k < S.size), S[k]'h2 = l[k]
      intro k h h2
      subst hSe
      rfl
    clear hSe
    have HX : Hid (foldS (o1, o2, o3) (o1, o2, o3) (restI (low l) 0 0) = parseS l (o1, o2, o3)) := by show _ = _; rw [rest_start]; rfl
    have hll := low_length l
    have HLO : Hid (∀ k (h : k < l.length) (h2 : k < (low l).length), sepB (low l)[k] = sepB l[k]) := fun k h h2 => by
      rw [low_at l k h h2, sepB_lw]
    have HT : Hid (∀ a i, low ((l.take i).drop a) = ((low l).take i).drop a) := fun a i => by rw [low_drop, low_take]
    have hl2 : S.size ≤ 256 := by omega
    generalize parseS l (o1, o2, o3) = R at *
    generalize low l = L at *
    go_enter Tryd.func15, Tryd.ntmps15
    have hO2 := hO.alloc (.cells #[.int .i64 o1, .int .i64 o2, .int .i64 o3] 31)
    have hZ2 := hZ.alloc (.cells #[.int .i64 o1, .int .i64 o2, .int .i64 o3] 31)
    have hN2 := Blk.new ((w.alloc (.cells #[.int .i64 o1, .int .i64 o2, .int .i64 o3] 31)).alloc (.cells #[.int .i64 0, .int .i64 0, .int .i64 0] 31)) 31 #[.int .i64 o1, .int .i64 o2, .int .i64 o3]
    have hb2 := hb0.alloc hb0.size (.cells #[.int .i64 o1, .int .i64 o2, .int .i64 o3] 31)
    simp only [size_alloc] at hN2
    go_wp2_with (first
      | (refine wpList_load_row rfl 31 _ rfl w.heap.size rfl _ _ _ _ hO Tryd.underlying31 rfl (by kernel_rfl) ?_)
      | fail)
    clear hO hZ hb0 hl
    go_loopw [7, 8, 9, 10] (fun va vi _ _ wr => ∃ (a i : Nat) (n1 n2 n3 : Int), va = .int .i64 (a : Int) ∧ vi = .int .i64 (i : Int) ∧ a ≤ i ∧ i ≤ l.length + 1 ∧ Hid (foldS (o1, o2, o3) (n1, n2, n3) (restI L a i) = R) ∧ Blk wr w.heap.size 31 #[.int .i64 o1, .int .i64 o2, .int .i64 o3] ∧ Blk wr (w.heap.size + 1) 31 #[.int .i64 0, .int .i64 0, .int .i64 0] ∧ Blk wr (w.heap.size + 1 + 1) 31 #[.int .i64 n1, .int .i64 n2, .int .i64 n3] ∧ Below w.heap.size w wr) (fun _ vi _ _ _ => l.length + 1 - (intOf vi).toNat)
    case atStart => exact ⟨0, 0, o1, o2, o3, rfl, rfl, by omega, by omega, HX, hO2, hZ2, hN2, hb2⟩
    case round =>
      obtain ⟨a, i, n1, n2, n3, rfl, rfl, hai, hi, hfo, hO, hZ, hN, hbw⟩ := hrel
      clear HX hO2 hZ2 hN2 hb2
      have hNl := hN.lt
      by_cases hend : i = l.length + 1
      · subst hend
        have HR : Hid (R = some (n1, n2, n3)) := by
          show _ = _
          rw [← hfo.out, ← hll, rest_end]
          rfl
        go_wp2_with (first
          | (refine wpList_load_row rfl 31 _ rfl (w.heap.size + 1 + 1) rfl _ _ _ _ hN Tryd.underlying31 rfl (by kernel_rfl) ?_)
          | (refine wpList_store_blk rfl 31 (.tmp 4) (.tmp 57) rfl (w.heap.size + 1) #[.int .i64 n1, .int .i64 n2, .int .i64 n3] rfl rfl _ _ hZ (by kernel_rfl) rfl (by kernel_rfl) ?_; intro w9 hblk9 hb9))
        exact bodyPost_ret (v := .tuple #[.agg #[.int .i64 n1, .int .i64 n2, .int .i64 n3], .int .i64 0]) (results_cell_tmp (p := 4) (q := 5) (by kernel_rfl) _ w9 _ _ _ _ _ rfl hblk9 Tryd.underlying31 rfl (by kernel_rfl)) rfl ⟨by rw [HS.out _ HR.out], hbw.trans (hb9 _ (by omega))⟩
      · by_cases hgo : ∃ h : i < l.length, sepB l[i] = false
        · obtain ⟨hlt, hsep⟩ := hgo
          have hS2 : i < S.size := by omega
          have hch := HL.out i hlt hS2
          have HR : Hid (foldS (o1, o2, o3) (n1, n2, n3) (restI L a (i + 1)) = R) := by
            show _ = _
            rw [rest_on (by omega) hai (by rw [HLO.out i hlt (by omega)]; exact hsep)]
            exact hfo.out
          obtain ⟨p44, p32⟩ : ¬ l[i].toNat = 44 ∧ ¬ l[i].toNat = 32 := by
            unfold sepB at hsep; simpa using hsep
          have q44 : ¬ (l[i].toNat : Int) = 44 := by omega
          have q32 : ¬ (l[i].toNat : Int) = 32 := by omega
          have h44 : ((l[i].toNat : Int) != 44) = true := by simpa using q44
          have h32 : ((l[i].toNat : Int) != 32) = true := by simpa using q32
          clear hsep hfo
          go_wp2_with fail
          go_roundw
          case rel => exact ⟨a, i + 1, n1, n2, n3, rfl, by go_num, by omega, by omega, HR, hO, hZ, hN, hbw⟩
          case measure => simp [intOf]; omega
        · have hil : i ≤ l.length := by omega
          have hst := rest_stop (L := L) (a := a) (i := i) (by omega) hai (fun h => by
            rw [HLO.out i (by omega) h]
            cases hh : sepB (l[i]'(by omega))
            · exact absurd ⟨by omega, hh⟩ hgo
            · rfl)
          have hway : (l.length ≤ i) ∨ ∃ h : i < l.length, ((l[i].toNat : Int) != 44) = false ∨ (((l[i].toNat : Int) != 44) = true ∧ ((l[i].toNat : Int) != 32) = false) := by
            by_cases hlt : i < l.length
            · refine .inr ⟨hlt, ?_⟩
              cases hh : sepB l[i]
              · exact absurd ⟨hlt, hh⟩ hgo
              · unfold sepB at hh
                simp at hh ⊢
                omega
            · exact .inl (by omega)
          clear hgo
          go_upto_region 8 with fail
          go_cut [37] (fun s37 wx => s37 = .bool false ∧ wr = wx)
          case first =>
            clear hst hfo
            rcases hway with h | ⟨hlt, h | ⟨h, h2⟩⟩
            all_goals
              try (have hS2 : i < S.size := by omega
                   have hch := HL.out i hlt hS2)
              go_wp2_with fail
              go_meet
              exact ⟨rfl, rfl⟩
          case rest =>
          obtain ⟨rfl, hwx⟩ := hcut
          subst hwx
          by_cases hlt2 : a < i
          · rw [if_pos hlt2] at hst
            have hit := fun w => item_any ((l.take i).drop a) n1 n2 n3 o1 o2 o3 w (by rw [List.length_drop, List.length_take]; omega)
            rw [HT.out a i] at hit
            have hex := hS.out a i
            generalize (L.take i).drop a = q at *
            generalize bs ((l.take i).drop a) = SX at *
            have HF := Lib.hid (hfo.out)
            rw [hst, foldS_cons] at HF
            clear hst hfo
            obtain ⟨c, hc⟩ : ∃ c, itemS (o1, o2, o3) (n1, n2, n3) q = c := ⟨_, rfl⟩
            rw [hc] at hit HF
            clear hc
            cases c with
            | none =>
              have HE := Lib.hid (HN.out HF.out.symm)
              replace hit : ∀ w : World, Calls Tryd.prog 43 #[.string SX, .agg #[.int .i64 n1, .int .i64 n2, .int .i64 n3], .agg #[.int .i64 o1, .int .i64 o2, .int .i64 o3]] w fun e w' => (∃ a b c : Int, e = .returned (.tuple #[.agg #[.int .i64 a, .int .i64 b, .int .i64 c], .bool false])) ∧ Below w.heap.size w w' := hit
              have hfo2 : True := trivial
              go_upto_region 10 with fail
              go_cut [9, 10] (fun s9 s10 wx => s10 = .bool false ∧ Blk wx (w.heap.size + 1) 31 #[.int .i64 0, .int .i64 0, .int .i64 0] ∧ Below w.heap.size w wx)
              case first =>
                have HZ := Lib.hid hZ
                have hZl := hZ.lt
                clear hZ
                have hdr : Below wr.heap.size wr wr.drew := (Below.refl _ _).drew
                have HA := Lib.hid hO
                have HB := Lib.hid hN
                have hOl := hO.lt
                clear hO hN HL HLO HT HS HN hfo2
                have SS : ∀ V, Below wr.heap.size wr V → (V.cell? ⟨w.heap.size, 0, none⟩ = some (.int .i64 o1) ∧ V.cell? ⟨w.heap.size, 1, none⟩ = some (.int .i64 o2) ∧ V.cell? ⟨w.heap.size, 2, none⟩ = some (.int .i64 o3) ∧ V.cell? ⟨w.heap.size + 1 + 1, 0, none⟩ = some (.int .i64 n1) ∧ V.cell? ⟨w.heap.size + 1 + 1, 1, none⟩ = some (.int .i64 n2) ∧ V.cell? ⟨w.heap.size + 1 + 1, 2, none⟩ = some (.int .i64 n3) ∧ Below wr.heap.size wr V) := fun V hkk =>
                  ⟨(HA.out.below hkk hOl).cell 0, (HA.out.below hkk hOl).cell 1, (HA.out.below hkk hOl).cell 2, (HB.out.below hkk hNl).cell 0, (HB.out.below hkk hNl).cell 1, (HB.out.below hkk hNl).cell 2, hkk⟩
                have BA : ∀ V o, Below wr.heap.size wr V → Below wr.heap.size wr (V.alloc o) := fun V o h => h.alloc h.size o
                have hdr2 : Below wr.heap.size wr (wr.alloc (.cells #[.int .i64 0, .int .i64 0, .int .i64 0] 31)).drew := ((Below.refl _ _).alloc (Nat.le_refl _) _).drew
                have hzd : Blk (wr.alloc (.cells #[.int .i64 0, .int .i64 0, .int .i64 0] 31)).drew wr.heap.size 31 #[.int .i64 0, .int .i64 0, .int .i64 0] := Blk.new wr 31 #[.int .i64 0, .int .i64 0, .int .i64 0]
                have hkz0 := Nat.le_refl wr.heap.size
                have BS : ∀ V k x y z, wr.heap.size ≤ k → Below wr.heap.size wr V → Below wr.heap.size wr (((V.setCell ⟨k, 0, none⟩ x).setCell ⟨k, 1, none⟩ y).setCell ⟨k, 2, none⟩ z) := fun V k x y z hk h => ((h.setCell (p := ⟨k, 0, none⟩) (by simpa using hk) _).setCell (p := ⟨k, 1, none⟩) (by simpa using hk) _).setCell (p := ⟨k, 2, none⟩) (by simpa using hk) _
                have SA : ∀ V o, (V.cell? ⟨w.heap.size, 0, none⟩ = some (.int .i64 o1) ∧ V.cell? ⟨w.heap.size, 1, none⟩ = some (.int .i64 o2) ∧ V.cell? ⟨w.heap.size, 2, none⟩ = some (.int .i64 o3) ∧ V.cell? ⟨w.heap.size + 1 + 1, 0, none⟩ = some (.int .i64 n1) ∧ V.cell? ⟨w.heap.size + 1 + 1, 1, none⟩ = some (.int .i64 n2) ∧ V.cell? ⟨w.heap.size + 1 + 1, 2, none⟩ = some (.int .i64 n3) ∧ Below wr.heap.size wr V) → ((V.alloc o).cell? ⟨w.heap.size, 0, none⟩ = some (.int .i64 o1) ∧ (V.alloc o).cell? ⟨w.heap.size, 1, none⟩ = some (.int .i64 o2) ∧ (V.alloc o).cell? ⟨w.heap.size, 2, none⟩ = some (.int .i64 o3) ∧ (V.alloc o).cell? ⟨w.heap.size + 1 + 1, 0, none⟩ = some (.int .i64 n1) ∧ (V.alloc o).cell? ⟨w.heap.size + 1 + 1, 1, none⟩ = some (.int .i64 n2) ∧ (V.alloc o).cell? ⟨w.heap.size + 1 + 1, 2, none⟩ = some (.int .i64 n3) ∧ Below wr.heap.size wr (V.alloc o)) := fun V o h => SS _ (h.2.2.2.2.2.2.alloc h.2.2.2.2.2.2.size o)
                go_region_held3 (fun V => V.cell? ⟨w.heap.size, 0, none⟩ = some (.int .i64 o1) ∧ V.cell? ⟨w.heap.size, 1, none⟩ = some (.int .i64 o2) ∧ V.cell? ⟨w.heap.size, 2, none⟩ = some (.int .i64 o3) ∧ V.cell? ⟨w.heap.size + 1 + 1, 0, none⟩ = some (.int .i64 n1) ∧ V.cell? ⟨w.heap.size + 1 + 1, 1, none⟩ = some (.int .i64 n2) ∧ V.cell? ⟨w.heap.size + 1 + 1, 2, none⟩ = some (.int .i64 n3) ∧ Below wr.heap.size wr V)
                  (first
                    | (refine SS _ ?_; assumption)
                    | (refine SA _ _ ?_; assumption)
                    | (refine SS _ (BA _ _ ?_); assumption)
                    | (refine SS _ (BS _ _ _ _ _ ?_ ?_) <;> assumption)
                    | fail)
                  (first
                    | (go_at_call 43; obtain ⟨k0, k1, k2, k5, k6, k7, k3⟩ := (by assumption : _ ∧ _ ∧ _ ∧ _ ∧ _ ∧ _ ∧ Below wr.heap.size wr _); have k4 := k3.size; refine (hit _).mono ?_; rintro e w3 ⟨⟨xa, xb, xc, rfl⟩, hb3⟩; have hbx := k3.trans (hb3.mono k4); try (first | (have hz3 := (Blk.new _ 31 #[.int .i64 0, .int .i64 0, .int .i64 0]).below hb3 (by simp); have hkz := hdr.size) | (have hz3 := hzd.below hb3 hzd.lt)); try (have z0 := hz3.cell 0; have z1 := hz3.cell 1; have z2 := hz3.cell 2; have q0 := hz3.frozen 0; have q1 := hz3.frozen 1; have q2 := hz3.frozen 2)))
                all_goals go_wp2_with fail
                all_goals go_meet
                all_goals first
                  | exact ⟨rfl, HZ.out.below (BA _ _ hbx) hZl, hbw.trans ((BA _ _ hbx).mono hbw.size)⟩
                  | exact ⟨rfl, HZ.out.below (BS _ _ _ _ _ (by first | exact hkz | exact hkz0) hbx) hZl, hbw.trans ((BS _ _ _ _ _ (by first | exact hkz | exact hkz0) hbx).mono hbw.size)⟩
              case rest =>
                obtain ⟨rfl, hZ3, hb3⟩ := hcut
                go_wp2_with (refine wpList_store_blk rfl 31 (.tmp 4) (.tmp 53) rfl (w.heap.size + 1) #[.int .i64 0, .int .i64 0, .int .i64 0] rfl rfl _ _ hZ3 (by kernel_rfl) rfl (by kernel_rfl) ?_; intro w9 hblk9 hb9)
                exact bodyPost_ret (v := .tuple #[.agg #[.int .i64 0, .int .i64 0, .int .i64 0], .int .i64 4]) (results_cell_tmp (p := 4) (q := 5) (by kernel_rfl) _ w9 _ _ _ _ _ rfl hblk9 Tryd.underlying31 rfl (by kernel_rfl)) rfl ⟨by rw [HE.out], hb3.trans (hb9 _ (by omega))⟩
            | some t =>
              obtain ⟨t1, t2, t3⟩ := t
              have HE : Hid (foldS (o1, o2, o3) (t1, t2, t3) (restI L (i + 1) (i + 1)) = R) := HF.out
              replace hit : ∀ w : World, Calls Tryd.prog 43 #[.string SX, .agg #[.int .i64 n1, .int .i64 n2, .int .i64 n3], .agg #[.int .i64 o1, .int .i64 o2, .int .i64 o3]] w fun e w' => e = .returned (.tuple #[.agg #[.int .i64 t1, .int .i64 t2, .int .i64 t3], .bool true]) ∧ Below w.heap.size w w' := hit
              have hfo2 : True := trivial
              go_upto_region 10 with fail
              go_cut [9, 10] (fun s9 s10 wx => ∃ k, w.heap.size + 1 + 1 < k ∧ s9 = .pointer (some ⟨k, 0, none⟩) ∧ s10 = .bool true ∧ Blk wx k 31 #[.int .i64 t1, .int .i64 t2, .int .i64 t3] ∧ Blk wx w.heap.size 31 #[.int .i64 o1, .int .i64 o2, .int .i64 o3] ∧ Blk wx (w.heap.size + 1) 31 #[.int .i64 0, .int .i64 0, .int .i64 0] ∧ Blk wx (w.heap.size + 1 + 1) 31 #[.int .i64 n1, .int .i64 n2, .int .i64 n3] ∧ Below w.heap.size w wx)
              case first =>
                have HZ := Lib.hid hZ
                have hZl := hZ.lt
                clear hZ
                have hdr : Below wr.heap.size wr wr.drew := (Below.refl _ _).drew
                have HA := Lib.hid hO
                have HB := Lib.hid hN
                have hOl := hO.lt
                clear hO hN HL HLO HT HS HN hfo2
                have SS : ∀ V, Below wr.heap.size wr V → (V.cell? ⟨w.heap.size, 0, none⟩ = some (.int .i64 o1) ∧ V.cell? ⟨w.heap.size, 1, none⟩ = some (.int .i64 o2) ∧ V.cell? ⟨w.heap.size, 2, none⟩ = some (.int .i64 o3) ∧ V.cell? ⟨w.heap.size + 1 + 1, 0, none⟩ = some (.int .i64 n1) ∧ V.cell? ⟨w.heap.size + 1 + 1, 1, none⟩ = some (.int .i64 n2) ∧ V.cell? ⟨w.heap.size + 1 + 1, 2, none⟩ = some (.int .i64 n3) ∧ Below wr.heap.size wr V) := fun V hkk =>
                  ⟨(HA.out.below hkk hOl).cell 0, (HA.out.below hkk hOl).cell 1, (HA.out.below hkk hOl).cell 2, (HB.out.below hkk hNl).cell 0, (HB.out.below hkk hNl).cell 1, (HB.out.below hkk hNl).cell 2, hkk⟩
                have BA : ∀ V o, Below wr.heap.size wr V → Below wr.heap.size wr (V.alloc o) := fun V o h => h.alloc h.size o
                have hdr2 : Below wr.heap.size wr (wr.alloc (.cells #[.int .i64 0, .int .i64 0, .int .i64 0] 31)).drew := ((Below.refl _ _).alloc (Nat.le_refl _) _).drew
                have hzd : Blk (wr.alloc (.cells #[.int .i64 0, .int .i64 0, .int .i64 0] 31)).drew wr.heap.size 31 #[.int .i64 0, .int .i64 0, .int .i64 0] := Blk.new wr 31 #[.int .i64 0, .int .i64 0, .int .i64 0]
                have hkz0 := Nat.le_refl wr.heap.size
                have BS : ∀ V k x y z, wr.heap.size ≤ k → Below wr.heap.size wr V → Below wr.heap.size wr (((V.setCell ⟨k, 0, none⟩ x).setCell ⟨k, 1, none⟩ y).setCell ⟨k, 2, none⟩ z) := fun V k x y z hk h => ((h.setCell (p := ⟨k, 0, none⟩) (by simpa using hk) _).setCell (p := ⟨k, 1, none⟩) (by simpa using hk) _).setCell (p := ⟨k, 2, none⟩) (by simpa using hk) _
                have SA : ∀ V o, (V.cell? ⟨w.heap.size, 0, none⟩ = some (.int .i64 o1) ∧ V.cell? ⟨w.heap.size, 1, none⟩ = some (.int .i64 o2) ∧ V.cell? ⟨w.heap.size, 2, none⟩ = some (.int .i64 o3) ∧ V.cell? ⟨w.heap.size + 1 + 1, 0, none⟩ = some (.int .i64 n1) ∧ V.cell? ⟨w.heap.size + 1 + 1, 1, none⟩ = some (.int .i64 n2) ∧ V.cell? ⟨w.heap.size + 1 + 1, 2, none⟩ = some (.int .i64 n3) ∧ Below wr.heap.size wr V) → ((V.alloc o).cell? ⟨w.heap.size, 0, none⟩ = some (.int .i64 o1) ∧ (V.alloc o).cell? ⟨w.heap.size, 1, none⟩ = some (.int .i64 o2) ∧ (V.alloc o).cell? ⟨w.heap.size, 2, none⟩ = some (.int .i64 o3) ∧ (V.alloc o).cell? ⟨w.heap.size + 1 + 1, 0, none⟩ = some (.int .i64 n1) ∧ (V.alloc o).cell? ⟨w.heap.size + 1 + 1, 1, none⟩ = some (.int .i64 n2) ∧ (V.alloc o).cell? ⟨w.heap.size + 1 + 1, 2, none⟩ = some (.int .i64 n3) ∧ Below wr.heap.size wr (V.alloc o)) := fun V o h => SS _ (h.2.2.2.2.2.2.alloc h.2.2.2.2.2.2.size o)
                go_region_held3 (fun V => V.cell? ⟨w.heap.size, 0, none⟩ = some (.int .i64 o1) ∧ V.cell? ⟨w.heap.size, 1, none⟩ = some (.int .i64 o2) ∧ V.cell? ⟨w.heap.size, 2, none⟩ = some (.int .i64 o3) ∧ V.cell? ⟨w.heap.size + 1 + 1, 0, none⟩ = some (.int .i64 n1) ∧ V.cell? ⟨w.heap.size + 1 + 1, 1, none⟩ = some (.int .i64 n2) ∧ V.cell? ⟨w.heap.size + 1 + 1, 2, none⟩ = some (.int .i64 n3) ∧ Below wr.heap.size wr V)
                  (first
                    | (refine SS _ ?_; assumption)
                    | (refine SA _ _ ?_; assumption)
                    | (refine SS _ (BA _ _ ?_); assumption)
                    | (refine SS _ (BS _ _ _ _ _ ?_ ?_) <;> assumption)
                    | fail)
                  (first
                    | (go_at_call 43; obtain ⟨k0, k1, k2, k5, k6, k7, k3⟩ := (by assumption : _ ∧ _ ∧ _ ∧ _ ∧ _ ∧ _ ∧ Below wr.heap.size wr _); have k4 := k3.size; refine (hit _).mono ?_; rintro e w3 ⟨rfl, hb3⟩; have hbx := k3.trans (hb3.mono k4); try (first | (have hz3 := (Blk.new _ 31 #[.int .i64 0, .int .i64 0, .int .i64 0]).below hb3 (by simp); have hkz := hdr.size) | (have hz3 := hzd.below hb3 hzd.lt)); try (have z0 := hz3.cell 0; have z1 := hz3.cell 1; have z2 := hz3.cell 2; have q0 := hz3.frozen 0; have q1 := hz3.frozen 1; have q2 := hz3.frozen 2)))
                all_goals go_wp2_with fail
                all_goals go_meet
                all_goals first
                  | exact ⟨_, by have := Below.size hbx; omega, rfl, rfl, Blk.new _ _ _, HA.out.below (BA _ _ hbx) hOl, HZ.out.below (BA _ _ hbx) hZl, HB.out.below (BA _ _ hbx) hNl, hbw.trans ((BA _ _ hbx).mono hbw.size)⟩
                  | exact ⟨_, by omega, rfl, rfl, ((hz3.set_ 0 (.int .i64 t1)).set_ 1 (.int .i64 t2)).set_ 2 (.int .i64 t3), HA.out.below (BS _ _ _ _ _ (by first | exact hkz | exact hkz0) hbx) hOl, HZ.out.below (BS _ _ _ _ _ (by first | exact hkz | exact hkz0) hbx) hZl, HB.out.below (BS _ _ _ _ _ (by first | exact hkz | exact hkz0) hbx) hNl, hbw.trans ((BS _ _ _ _ _ (by first | exact hkz | exact hkz0) hbx).mono hbw.size)⟩
              case rest =>
                obtain ⟨k, hk, rfl, rfl, hK, hO3, hZ3, hN3, hb3⟩ := hcut
                clear hO hZ hN hbw
                go_wp2_with (first
                  | (refine wpList_load_row rfl 31 _ rfl k rfl _ _ _ _ hK Tryd.underlying31 rfl (by kernel_rfl) ?_)
                  | (refine wpList_store_blk rfl 31 (.tmp 6) (.tmp 54) rfl (w.heap.size + 1 + 1) #[.int .i64 t1, .int .i64 t2, .int .i64 t3] rfl rfl _ _ hN3 (by kernel_rfl) rfl (by kernel_rfl) ?_; intro w9 hblk9 hb9))
                go_roundw
                case rel => exact ⟨i + 1, i + 1, t1, t2, t3, by go_num, by go_num, by omega, by omega, HE, hO3.below (hb9 _ (Nat.le_refl _)) (by omega), hZ3.below (hb9 _ (Nat.le_refl _)) (by omega), hblk9, hb3.trans (hb9 _ (by omega))⟩
                case measure => simp [intOf]; omega
          · rw [if_neg hlt2] at hst
            have HR : Hid (foldS (o1, o2, o3) (n1, n2, n3) (restI L (i + 1) (i + 1)) = R) := by
              show _ = _
              rw [← hst]
              exact hfo.out
            clear hst hfo
            go_wp2_with fail
            go_roundw
            case rel => exact ⟨i + 1, i + 1, n1, n2, n3, by go_num, by go_num, by omega, by omega, HR, hO, hZ, hN, hbw⟩
            case measure => simp [intOf]; omega
end Go.Proofs.YtajnlbfhcbkopaaDoor.Sty
