/- Rows cropped. -/
import Derived.Test.YtgjlohplgpcghaaDoorGed
import Derived.Test.YtgjlohplgpcghaaDoorGrf
namespace Go.Proofs.YtgjlohplgpcghaaDoor.Grd
open Go.RowKit Cel Sty

theorem splice_shift (A X C vs : List Value) (o : Nat) (h : o + vs.length ≤ X.length) : splice (A ++ X ++ C) (A.length + o) vs = A ++ splice X o vs ++ C := by
  unfold splice
  rw [List.append_assoc A X C, List.take_append, List.drop_append, List.take_of_length_le (by omega), List.drop_of_length_le (i := A.length + o + vs.length) (by omega), show A.length + o - A.length = o by omega, show A.length + o + vs.length - A.length = o + vs.length by omega, List.take_append_of_le_length (by omega), List.drop_append_of_le_length (by omega)]
  simp only [List.append_assoc, List.nil_append]
theorem splice_row (pre tail : List Value) (zs : List MR) (off j : Nat) (m : MR) (hp : pre.length = 2 * off) (hj : j < zs.length) : splice (pre ++ rowsL zs ++ tail) (2 * off + j * 2) (mrL m) = pre ++ rowsL (zs.set j m) ++ tail := by
  rw [rowsL_set hj, ← splice_shift pre (rowsL zs) tail (mrL m) (2 * j) (by rw [rowsL_len, mrL_len]; omega), hp, Nat.mul_comm j 2]
/-- A row, cropped. -/
def cropR (cols : Nat) (m : MR) : Ro := (cropL m.l cols, false)
set_option maxRecDepth 100000 in
set_option maxHeartbeats 4000000 in
theorem cropRows_any {w : World} {p off c : Nat} {pre tail : List Value} {ms : List MR} (cols C : Nat) (hB : BL w p 73 (pre ++ rowsL ms ++ tail)) (hpre : pre.length = 2 * off) (hH : Held w ms) (hp : ∀ m ∈ ms, m.b ≠ p) (hC : ∀ m ∈ ms, m.l.length = C) (hC2 : C ≤ 250) (hc1 : 1 ≤ cols) (hc2 : cols ≤ 250) (hl : ms.length ≤ 100000) :
    Calls Tryd.prog 66 #[.slice (some ⟨p, 2 * off, none⟩) ms.length c, .int .i64 (cols : Int)] w fun e w' => e = .returned (.tuple #[]) ∧
      ∃ ns : List MR, ns.map MR.pl = ms.map (cropR cols) ∧ BL w' p 73 (pre ++ rowsL ns ++ tail) ∧ Held w' ns ∧ (∀ m ∈ ns, w.heap.size ≤ m.b) ∧ Only (p :: ms.map MR.b) w w' := by
  have hpl := hB.lt
  have hml : ∀ m ∈ ms, m.b < w.heap.size := fun m hm => hH.lt hm
  obtain ⟨n, hn⟩ : ∃ n, ms.length = n := ⟨_, rfl⟩
  have HN := Lib.hid hn
  have HH := Lib.hid hH
  have HP := Lib.hid hp
  have HC := Lib.hid hC
  have HML := Lib.hid hml
  rw [hn] at hl ⊢
  clear hn hH hp hC hml
  go_enter Tryd.func66, Tryd.ntmps66
  go_wp2_with fail
  go_loopw [4, 5, 8] (fun _ _ i wr => ∃ ns : List MR, ns.length ≤ n ∧ i = .int .i64 (ns.length : Int) ∧ BL wr p 73 (pre ++ rowsL (ns ++ ms.drop ns.length) ++ tail) ∧ ns.map MR.pl = (ms.take ns.length).map (cropR cols) ∧ Held wr ns ∧ (∀ m ∈ ns, w.heap.size ≤ m.b) ∧ (∀ j (hj : j < ms.length), ns.length ≤ j → CellsAt wr ms[j].b ms[j].l ms[j].cap) ∧ Only (p :: ms.map MR.b) w wr) (fun _ _ i _ => n - (intOf i).toNat)
  case atStart => exact ⟨[], Nat.zero_le _, rfl, by simpa using hB, by simp, Held.nil _, (fun _ h => by cases h), fun j hj _ => HH.out.at_ _ (List.getElem_mem hj), Only.refl _ _⟩
  case round =>
    obtain ⟨ns, hk, rfl, hN, hpl2, hHn, hnw, hol, ho⟩ := hrel
    have hws := ho.size
    by_cases hlt : ns.length < n
    · have hlt2 : ns.length < ms.length := by have := HN.out; omega
      have hzl : ns.length < (ns ++ ms.drop ns.length).length := by rw [List.length_append, List.length_drop]; omega
      have hzg : (ns ++ ms.drop ns.length)[ns.length] = ms[ns.length] := by simp [List.getElem_append_right]
      obtain ⟨q0, q1⟩ := tab_row hN hpre hzl
      have hcm := hol _ hlt2 (Nat.le_refl _)
      have hmn := List.getElem_mem hlt2
      have hmC := HC.out _ hmn
      have hmp := HP.out _ hmn
      have hmlt := HML.out _ hmn
      rw [hzg] at q0 q1
      have hset : ∀ m', (ns ++ ms.drop ns.length).set ns.length m' = (ns ++ [m']) ++ ms.drop (ns.length + 1) := fun m' => by
        rw [List.set_append_right _ _ (Nat.le_refl _), Nat.sub_self, List.drop_eq_getElem_cons hlt2, List.set_cons_zero, List.append_assoc]
        rfl
      have hapart : ∀ j (hj : j < ms.length), ns.length + 1 ≤ j → ms[j].b ≠ ms[ns.length].b := fun j hj hle => by
        have h1 := nodup_ne HH.out.apart (i := j) (j := ns.length) (by simpa using hj) (by simpa using hlt2) (by omega)
        simpa using h1
      have hmbm : ms[ns.length].b ∈ p :: ms.map MR.b := List.mem_cons_of_mem _ (List.mem_map_of_mem hmn)
      have htk : (ms.take (ns.length + 1)).map (cropR cols) = (ms.take ns.length).map (cropR cols) ++ [cropR cols ms[ns.length]] := by
        rw [List.take_succ_eq_append_getElem hlt2, List.map_append]; rfl
      obtain ⟨m, hmm⟩ : ∃ m, ms[ns.length] = m := ⟨_, rfl⟩
      have HM := Lib.hid hmm
      simp only [hmm] at q0 q1 hcm hmC hmp hmlt hapart hmbm htk
      clear hmm hzg hmn
      have HAP := Lib.hid hapart
      have HSET := Lib.hid hset
      have HTK := Lib.hid htk
      have HMB := Lib.hid hmbm
      have HHN := Lib.hid hHn
      have HNW := Lib.hid hnw
      have HOL := Lib.hid hol
      have HPL := Lib.hid hpl2
      have HZL := Lib.hid hzl
      have HNN := Lib.hid hN
      have hcapm := hcm.1
      clear hapart hset htk hmbm hHn hnw hol hpl2 hzl hN
      rw [hmC] at q0
      have HMC := Lib.hid hmC
      clear hmC
      have j1 : IntKind.i64.wrap ((ns.length : Int) + 1) = (ns.length : Int) + 1 := IntWalk.i64_in _ ⟨by omega, by omega⟩
      go_wp2_with fail
      have hR := BL.new wr 73 [.slice (some ⟨m.b, 0, none⟩) C m.cap, .bool m.wr]
      have hWs : (wr.alloc (.cells #[.slice (some ⟨m.b, 0, none⟩) C m.cap, .bool m.wr] 73)).heap.size = wr.heap.size + 1 := size_alloc _ _
      have hbW : Below wr.heap.size wr (wr.alloc (.cells #[.slice (some ⟨m.b, 0, none⟩) C m.cap, .bool m.wr] 73)) := (Below.refl _ _).alloc (Nat.le_refl _) _
      have hcW := hcm.only (F := []) (Only.of_below hbW) (by simp)
      have hcu := cut_any m.b m.cap m.cap cols m.l _ hcW (by have := HMC.out; omega) hcapm (by omega)
      unfold slV at hcu
      rw [HMC.out] at hcu
      generalize wr.alloc (.cells #[.slice (some ⟨m.b, 0, none⟩) C m.cap, .bool m.wr] 73) = W at *
      have hncl : ∀ x ∈ ns, x.b ≠ m.b := fun x hx => by have := HNW.out x hx; omega
      with_reducible refine hcu.mono ?_
      rintro _ w2 ⟨rfl, hc2, ho2⟩
      have hs2 := ho2.size
      have hR2 := hR.only ho2 (by simp; omega)
      have hN2 := (HNN.out.only (F := []) (Only.of_below hbW) (by simp)).only ho2 (by simpa using hmp.symm)
      have hH2 := (HHN.out.only (F := []) (Only.of_below hbW) (fun _ _ h => by cases h)).only ho2 (fun x hx => by simpa using hncl x hx)
      clear hcu hcW hcm hR
      go_wp2_with (first
        | (go_at_call 67; refine (plain_any _).mono ?_; rintro _ w3 ⟨rfl, hb3⟩)
        | (go_at_call 61; refine (blankRow_any cols _ _ _ _ (by omega)).mono ?_; rintro _ w4 ⟨b, rfl, hbb, hcb, hb4⟩; have hb34 := hb3.trans (hb4.mono hb3.size); have hN4 := hN2.only (F := []) (Only.of_below hb34) (by simp); have hs4 := hb34.size)
        | (refine wpList_store_bl rfl 73 (.tmp 22) (.tmp 21) rfl p (2 * off + ns.length * 2) [slV b 0 cols cols, .bool false] rfl rfl _ _ hN4 (by kernel_rfl) (by simp [rowsL_len]; have := HZL.out; omega) (by kernel_rfl) ?_; intro w5 hB5 hw5))
      obtain ⟨FF, hFF⟩ : ∃ FF, p :: ms.map MR.b = FF := ⟨_, rfl⟩
      have hMB := HMB.out
      rw [hFF] at ho hMB
      have hpF : p ∈ FF := by rw [← hFF]; exact List.mem_cons_self ..
      have hW := hbW.size
      have o2 : Only FF w w2 := (ho.trans (Only.of_below hbW)).trans (ho2.mono fun x hx => by rw [List.mem_singleton] at hx; rw [hx]; exact hMB)
      have o4 : Only FF w w4 := o2.trans (Only.of_below hb34)
      have o5 : Only FF w w5 := o4.trans (hw5.only.mono fun x hx => by rw [List.mem_singleton] at hx; rw [hx]; exact hpF)
      have hwb : w.heap.size ≤ b := by have := o2.size; have := hb3.size; omega
      have hcrl : (cropL m.l cols).length = cols := by
        unfold cropL
        have := HMC.out
        rw [List.length_append, List.length_take, cutL_len, List.length_replicate]
        omega
      have hml : mrL ⟨b, cols, cropL m.l cols, false⟩ = [slV b 0 cols cols, .bool false] := by unfold mrL; rw [hcrl]
      rw [← hml, splice_row pre tail (ns ++ ms.drop ns.length) off ns.length _ hpre HZL.out, HSET.out] at hB5
      have hpb : p ≠ b := by omega
      have hcb5 := hcb.only hw5.only (by simpa using hpb.symm)
      have hcm5 := (hc2.only (F := []) (Only.of_below hb34) (by simp)).only hw5.only (by simpa using hmp)
      have hcb5d : CellsAt w5.drew b (List.replicate cols plainCe) cols := hcb5
      have hcm5d : CellsAt w5.drew m.b (cutL m.l cols) m.cap := hcm5
      have hR4 := (hR2.only (F := []) (Only.of_below hb34) (by simp)).only hw5.only (by simp; omega)
      have hR5 : BL w5.drew wr.heap.size 73 [.slice (some ⟨m.b, 0, none⟩) C m.cap, .bool m.wr] := hR4
      have r0 : w5.drew.cell? ⟨wr.heap.size, 0, none⟩ = some (.slice (some ⟨m.b, 0, none⟩) C m.cap) := hR5.cell 0
      have hzl5 : ns.length < ((ns ++ [(⟨b, cols, cropL m.l cols, false⟩ : MR)]) ++ ms.drop (ns.length + 1)).length := by simp
      obtain ⟨p0, px0⟩ := tab_row (w := w5.drew) hB5 hpre hzl5
      have hg5 : ((ns ++ [(⟨b, cols, cropL m.l cols, false⟩ : MR)]) ++ ms.drop (ns.length + 1))[ns.length] = ⟨b, cols, cropL m.l cols, false⟩ := by simp
      clear px0
      rw [hg5] at p0
      simp only [hcrl] at p0
      have HB5 := Lib.hid hB5
      have HO5 := Lib.hid o5
      have hcr : (List.replicate cols plainCe).take 0 ++ ((cutL m.l cols).drop 0).take (Nat.min C cols) ++ (List.replicate cols plainCe).drop (0 + Nat.min C cols) = cropL m.l cols := by
        have h9 := HMC.out
        unfold cropL
        rw [List.take_zero, List.nil_append, List.drop_zero, List.drop_replicate, h9]
        have e1 : (cutL m.l cols).take (Nat.min C cols) = (cutL m.l cols).take cols := List.take_eq_take_iff.2 (by
          rw [cutL_len, h9]
          show min (min C cols) C = min cols C
          omega)
        have e2 : cols - (0 + Nat.min C cols) = cols - C := by
          show cols - (0 + min C cols) = cols - C
          omega
        rw [e1, e2]
      have HCR := Lib.hid hcr
      have HMLR := Lib.hid hcrl
      clear hcr hcrl hml hzl5 hg5 hB5 o5 o4 o2 hcb hcb5 hcm5 hR2 hR4 hR5 hN2 hN4 hc2
      go_region_law (refine step_copy_cells rfl (.tmp 27) (.tmp 29) rfl b cols 0 cols cols m.b m.cap 0 C m.cap 0 0 (List.replicate cols plainCe) (cutL m.l cols) (by go_simp) (by go_simp) (by omega) (by omega) hcb5d hcm5d (by simp) (by rw [cutL_len]; have := HMC.out; omega) ?_; intro w6 hc6 hw6)
      all_goals
        rw [HCR.out] at hc6
        have ho56 : Only [b] w5 w6 := hw6.2 _ _ ((Only.refl _ _).drew) (.inl (by simp))
        have hB6 := HB5.out.only ho56 (by simpa using hpb)
        have o6 : Only FF w w6 := HO5.out.trans2 ho56 (fun x hx => by rw [List.mem_singleton] at hx; exact .inr (hx ▸ hwb))
        have hH6 := ((hH2.only (F := []) (Only.of_below hb34) (fun _ _ h => by cases h)).only hw5.only (fun x hx => by have := HNW.out x hx; simp; omega)).only ho56 (fun x hx => by have := hH2.lt hx; have := hb3.size; simp; omega)
        have hH7 := hH6.snoc (m := ⟨b, cols, cropL m.l cols, false⟩) hc6 (fun x hx => by have := hH2.lt hx; have := hb3.size; show x.b ≠ b; omega)
        have hl7 : (ns ++ [(⟨b, cols, cropL m.l cols, false⟩ : MR)]).length = ns.length + 1 := by simp
        have hnw7 : ∀ x ∈ ns ++ [(⟨b, cols, cropL m.l cols, false⟩ : MR)], w.heap.size ≤ x.b := fun x hx => by
          rcases List.mem_append.1 hx with hx | hx
          · exact HNW.out x hx
          · rw [List.mem_singleton] at hx; rw [hx]; exact hwb
        have hpl7 : (ns ++ [(⟨b, cols, cropL m.l cols, false⟩ : MR)]).map MR.pl = (ms.take (ns.length + 1)).map (cropR cols) := by
          rw [HTK.out, ← HPL.out, List.map_append]
          rfl
        have hol7 : ∀ j (hj : j < ms.length), ns.length + 1 ≤ j → CellsAt w6 ms[j].b ms[j].l ms[j].cap := fun j hj hle => by
          have hlj := HML.out _ (List.getElem_mem hj)
          have hpj := HP.out _ (List.getElem_mem hj)
          have h1 := (HOL.out j hj (by omega)).only (F := []) (Only.of_below hbW) (by simp)
          have h2 := h1.only ho2 (by simpa using HAP.out j hj hle)
          have h3 := (h2.only (F := []) (Only.of_below hb34) (by simp)).only hw5.only (by simpa using hpj)
          exact h3.only ho56 (by simp; omega)
        have HREL : Hid (BL w6 p 73 (pre ++ rowsL ((ns ++ [⟨b, cols, cropL m.l cols, false⟩]) ++ ms.drop (ns ++ [(⟨b, cols, cropL m.l cols, false⟩ : MR)]).length) ++ tail)) := by
          show BL _ _ _ _
          rw [hl7]; exact hB6
        rw [← hl7] at hpl7 hol7
        clear hB6 hw6 hw5
        go_wp2_with fail
        go_roundw
        case rel => exact ⟨ns ++ [(⟨b, cols, cropL m.l cols, false⟩ : MR)], by rw [hl7]; omega, by rw [hl7]; go_num, HREL.out, hpl7, hH7, hnw7, hol7, by rw [hFF]; exact o6⟩
        case measure => simp [intOf]; omega
    · obtain hk : ns.length = n := by omega
      have hd : ms.drop ns.length = [] := List.drop_of_length_le (by have := HN.out; omega)
      have ht : ms.take ns.length = ms := List.take_of_length_le (by have := HN.out; omega)
      rw [hd, List.append_nil] at hN
      rw [ht] at hpl2
      subst hk
      clear hol hd ht
      go_wp2_with fail
      exact body_end rfl rfl ⟨rfl, ns, hpl2, hN, hHn, hnw, ho⟩
end Go.Proofs.YtgjlohplgpcghaaDoor.Grd
