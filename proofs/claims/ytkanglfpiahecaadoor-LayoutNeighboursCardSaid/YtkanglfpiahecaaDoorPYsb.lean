/- A pane split: it is, one above the other. -/
import Derived.Test.YtkanglfpiahecaaDoorPYsq
import Derived.Test.YtkanglfpiahecaaDoorPYat
namespace Go.Proofs.YtkanglfpiahecaaDoor.Lyt
open Go.RowKit

section
variable {T : F} {w : World} {tb b : Nat} {pane other size s0 s1 : Int} {l oth : List Value} {frs : List Fr}
set_option maxRecDepth 100000 in
set_option maxHeartbeats 16000000 in
theorem Split_yesbpn (ok : T.Ok) (hin : T.In w) (hv : T.ptrs[0]? = some (pV tb)) (hl : (T.ups pane)[0]? = some l) (hT : T = plug (.leaf b pane s0 s1 .nil) frs) (hlv : l = pV b :: frs.map (fun fr => pV fr.b)) (ho : (T.ups other)[0]? = some oth) (hgood : 1 ≤ other ∧ oth = []) (hs : 0 ≤ size) {ps : List Int} (hps : T.pns[0]? = some ps) (hn : ps.length < 32) (hb01 : s1 ≤ 10000) (h3 : 3 ≤ s1) (h4 : size ≤ s1 - 2) {sz : Int} (hz : size ≠ 0) (hsz : sz = size) (hnod : T.blks.Nodup) :
    Calls Tryd.prog 10 #[pV tb, .int .i64 pane, .int .i64 other, .bool false, .int .i64 size, .bool false] w fun e w' => e = .returned (.int .i64 0) ∧ Splat T w w' (.node 0 0 0 1 (.leaf 0 pane s0 (s1 - 1 - sz) (.leaf 0 other s0 sz .nil)) .nil) frs := by
  have hfew := plug_cnt frs (.leaf b pane s0 s1 .nil)
  rw [← hT] at hfew
  have hokf := ok.few
  have hperm := plug_blks frs (.leaf b pane s0 s1 .nil)
  rw [← hT] at hperm
  have hptl := plug_ptrs frs (.leaf b pane s0 s1 .nil)
  rw [← hT] at hptl
  have hbig := ok.big
  have hh1 : T.has1 := ok.one
  rw [hT] at hh1
  have hfh := (plug_has1 hh1).2
  have ku := up_at (p := pane) T ok.one ok.big w hin 0 _ _ hv hl
  have km := fun V (hV : Below w.heap.size w V) => mayCome_at (p := other) ok.one ok.big (hin.below hV) hv ho
  have kp := fun V (hV : Below w.heap.size w V) => panes_at ok.one (hin.below hV) hv hps (by omega)
  have hd : decide (1 ≤ other ∧ oth = []) = true := decide_eq_true hgood
  rw [hd] at km
  have h32 : ¬ (32 : Int) ≤ (ps.length : Int) := by omega
  have hin2 := hin
  rw [hT] at hin2
  obtain ⟨hlf, hfr⟩ := plug_in.1 hin2
  have hBN := hlf.1
  have hne : l ≠ [] := by rw [hlv]; simp
  have KU := Lib.hid ku
  have KM := Lib.hid km
  have KP := Lib.hid kp
  have HBN := Lib.hid hBN
  have HLV := Lib.hid hlv
  have j1 : IntKind.i64.wrap (s1 - 2) = s1 - 2 := IntWalk.i64_in _ ⟨by omega, by omega⟩
  have j2 : IntKind.i64.wrap (s1 - 1) = s1 - 1 := IntWalk.i64_in _ ⟨by omega, by omega⟩
  have j3 : IntKind.i64.wrap (s1 - 1 - sz) = s1 - 1 - sz := IntWalk.i64_in _ ⟨by omega, by omega⟩
  have j5 : IntKind.i64.wrap sz = sz := IntWalk.i64_in _ ⟨by omega, by omega⟩
  have h33 : ¬ s1 < 3 := by omega
  have h44 : ¬ size > s1 - 2 := by omega
  have hss : ¬ size < 0 := by omega

  have kw1 : ∀ V, Calls Tryd.prog 28 #[.agg #[.int .i64 s0, .int .i64 s1], .int .i64 1, .int .i64 (s1 - 1 - sz)] V fun e V' => e = .returned (.agg #[.int .i64 s0, .int .i64 (s1 - 1 - sz)]) ∧ Below V.heap.size V V' := fun V => by simpa using with_at (a := 1) (.inr rfl) s0 s1 (s1 - 1 - sz) V
  have kw2 : ∀ V, Calls Tryd.prog 28 #[.agg #[.int .i64 s0, .int .i64 s1], .int .i64 1, .int .i64 sz] V fun e V' => e = .returned (.agg #[.int .i64 s0, .int .i64 sz]) ∧ Below V.heap.size V V' := fun V => by simpa using with_at (a := 1) (.inr rfl) s0 s1 sz V
  have KW1 := Lib.hid kw1
  have KW2 := Lib.hid kw2
  have HFR := Lib.hid hfr
  have HTF := Lib.hid hfew
  have HPM := Lib.hid hperm
  have HPT := Lib.hid hptl
  have HFH := Lib.hid hfh
  have HNOD := Lib.hid hnod
  have HIN := Lib.hid hin
  have hszz : sz = size := hsz
  subst hszz
  clear kw1 kw2 ku hin hv hl ok km hd kp hps hin2 hlf hfr hBN hT hlv hfew hperm hptl hfh hh1 hnod
  unfold pV at KU KM KP ⊢
  go_enter Tryd.func10, Tryd.ntmps10
  go_wp2_with fail
  refine KU.out.mono ?_
  rintro _ w1 ⟨u, rfl, hp, hb⟩
  rcases hp.shape with ⟨h, _⟩ | ⟨_, g, c, rfl, hg⟩
  · exact absurd h hne
  have hq := eqnil_some ⟨g, 0, none⟩ l.length c w1
  have hpc : ∀ (j : Nat) u, l[j]? = some u → w1.cell? ((⟨g, 0, none⟩ : Addr).add j) = some u := hp.1.cells (g := g) rfl
  have hgl := (hp.1.lt g rfl).2
  have hcap : 1 ≤ l.length := by cases l with | nil => exact absurd rfl hne | cons _ _ => simp
  have hlc : l.length ≤ c := by
    rcases hp.1.2 with ⟨he, _⟩ | ⟨g', cap', cur', he, _, _, h1, _⟩
    · cases he
    · injection he with _ _ e2; omega
  have HPC := Lib.hid hpc
  clear hp hpc
  go_wp2_with fail
  refine (KM.out _ hb).mono ?_
  rintro _ w2 ⟨rfl, hb2⟩
  have hbb2 := hb.trans (hb2.mono hb.size)
  go_wp2_with fail
  refine (KP.out _ hbb2).mono ?_
  rintro _ w3 ⟨u3, rfl, hu3, hb3⟩
  obtain ⟨A3, c3, rfl⟩ := own_slice hu3
  have hb13 : Below w1.heap.size w1 w3 := hb2.trans (hb3.mono hb2.size)
  have hb03 : Below w.heap.size w w3 := hb.trans (hb13.mono hb.size)
  have g0 : w3.cell? ⟨g, 0, none⟩ = some (pV b) := by
    have h1 := HPC.out 0 (pV b) (by rw [HLV.out]; rfl)
    have e2 : (⟨g, 0, none⟩ : Addr).add 0 = ⟨g, 0, none⟩ := by simp [Addr.add]
    rw [e2] at h1
    exact (World.cell?_of_block (w := w1) (a := ⟨g, 0, none⟩) (hb13.block g hgl)).trans h1
  have hN3 := HBN.out.only (Only.of_below (F := []) hb03) (by simp)
  have n1 : w3.cell? ⟨b, 1, none⟩ = some (.int .i64 s0) := hN3.cell 1
  have n2 : w3.cell? ⟨b, 2, none⟩ = some (.int .i64 s1) := hN3.cell 2
  have hcl : (1 : Int) ≤ (l.length : Int) := by omega
  unfold pV at g0
  clear hu3
  have hall : ∀ V, Below w3.heap.size w3 V → V.cell? ⟨g, 0, none⟩ = some (.pointer (some ⟨b, 0, none⟩)) ∧ V.cell? ⟨b, 1, none⟩ = some (.int .i64 s0) ∧ V.cell? ⟨b, 2, none⟩ = some (.int .i64 s1) := fun V hV => by
    have h1 := hN3.only (Only.of_below (F := []) hV) (by simp)
    exact ⟨(hV.cell (p := ⟨g, 0, none⟩) (Nat.lt_of_lt_of_le hgl hb13.size)).trans g0, h1.cell 1, h1.cell 2⟩
  have HALL := Lib.hid hall
  clear hall hN3
  go_wp2_with (first | (go_at_call 26; refine (axisOf_at false w3).mono ?_; rintro _ w9 ⟨rfl, rfl⟩))
  refine (KW1.out _).mono ?_
  rintro _ w4 ⟨rfl, hb4⟩
  go_wp2_with fail
  refine (leaf_at pane s0 (s1 - 1 - sz) w4).mono ?_
  rintro _ w5 ⟨rfl, hob, hs5, hb5⟩
  have hb35 : Below w3.heap.size w3 w5 := hb4.trans (hb5.mono hb4.size)
  obtain ⟨q0, q1, q2⟩ := HALL.out w5 hb35
  obtain ⟨ob, hobe⟩ : ∃ ob, ob = w4.heap.size + 1 := ⟨_, rfl⟩
  rw [← hobe] at hob ⊢
  have hob1 : w3.heap.size ≤ ob ∧ ob < w5.heap.size := by have := hb4.size; omega
  have HOB := Lib.hid hob
  clear hob hobe hs5
  unfold pV
  go_wp2_with fail
  refine (KW2.out _).mono ?_
  rintro _ w6 ⟨rfl, hb6⟩
  go_wp2_with fail
  refine (leaf_at other s0 sz w6).mono ?_
  rintro _ w7 ⟨rfl, hnb, hs7, hb7⟩
  have hb57 : Below w5.heap.size w5 w7 := hb6.trans (hb7.mono hb6.size)
  have hb37 : Below w3.heap.size w3 w7 := hb35.trans (hb57.mono hb35.size)
  have hb07 : Below w.heap.size w w7 := hb03.trans (hb37.mono hb03.size)
  obtain ⟨q0, q1, q2⟩ := HALL.out w7 hb37
  obtain ⟨nb, hnbe⟩ : ∃ nb, nb = w6.heap.size + 1 := ⟨_, rfl⟩
  rw [← hnbe] at hnb ⊢
  have hnb1 : w5.heap.size ≤ nb ∧ nb < w7.heap.size := by have := hb6.size; omega
  have hbw : b < w.heap.size := HBN.out.lt
  have hob7 : BL w7 ob 53 (leafC pane s0 (s1 - 1 - sz)) := HOB.out.only (F := []) (Only.of_below hb57) (by simp)
  have hw03 := hb03.size
  have ks := fun V (hV : Below w7.heap.size w7 V) (hB : BL V w7.heap.size 63 [pV ob, pV nb]) => split2_at (al := 1) (b := b) (kb := w7.heap.size) (V := V) (c1 := ob) (c2 := nb) ⟨_, hob7.only (F := []) (Only.of_below hV) (by simp)⟩ ⟨_, hnb.only (F := []) (Only.of_below hV) (by simp)⟩ hB (by have := hV.size; omega) (by omega) (by omega)
  have hN7 := HBN.out.only (Only.of_below (F := []) hb07) (by simp)
  have HKS := Lib.hid ks
  have HN7 := Lib.hid hN7
  clear ks hnb hob7 hnbe hs7 HOB q1 q2 hN7
  have r0 : w7.drew.cell? ⟨g, 0, none⟩ = some (.pointer (some ⟨b, 0, none⟩)) := q0
  have hlp : 0 < l.length := hcap
  have hlc1 : (l.length : Int) ≤ (c : Int) := by omega
  have ta := (HALL.out (w7.alloc (.cells #[pV ob, pV nb] 63)) (hb37.alloc hb37.size _)).1
  unfold pV at HKS ta ⊢
  go_wp2_with fail
  go_region_law
    (first
      | (go_simp; go_at_call 29; refine (HKS.out _ ((Below.refl _ _).drew.alloc (Nat.le_refl _) _) (BL.new w7 _ _)).mono ?_; rintro e w8 ⟨q, x0, x1, x2, x3, A, n, c8, rfl, hN1, hb8, hfin⟩; have hb78 : Below w7.heap.size w7 w8 := ((Below.refl w7.heap.size w7).drew.alloc (Nat.le_refl _) _).trans (hb8.mono (by simp)); have t8 := (HALL.out w8 (hb37.trans (hb78.mono hb37.size))).1; have m0 := hN1.cell 0; have m1 := hN1.cell 1; have m2 := hN1.cell 2; have m3 := hN1.cell 3; have m4 := hN1.cell 4; have hB3 := HN7.out.only (Only.of_below (F := []) hb78) (by simp); have f0 := hB3.frozen 0; have f1 := hB3.frozen 1; have f2 := hB3.frozen 2; have f3 := hB3.frozen 3; have f4 := hB3.frozen 4; have p0 : w8.cell? ⟨b, 0, none⟩ = some (.int .i64 pane) := hB3.cell 0; have p1 : w8.cell? ⟨b, 1, none⟩ = some (.int .i64 s0) := hB3.cell 1; have p2 : w8.cell? ⟨b, 2, none⟩ = some (.int .i64 s1) := hB3.cell 2; have p3 : w8.cell? ⟨b, 3, none⟩ = some (.int .i64 0) := hB3.cell 3; have p4 : w8.cell? ⟨b, 4, none⟩ = some (.slice none 0 0) := hB3.cell 4; have HB3 := Lib.hid hB3; have HFIN := Lib.hid hfin; have HBB := Lib.hid hb78; clear hN1 hfin hB3 hb78))
  all_goals
    have hb5 := ((((HB3.out.set_ 0 (.int .i64 x0)).set_ 1 (.int .i64 x1)).set_ 2 (.int .i64 x2)).set_ 3 (.int .i64 x3)).set_ 4 (.slice A n c8)
    have ho5 := (((((Only.refl [b] w8).setCell (p := ⟨b, 0, none⟩) (.inl (by simp)) (.int .i64 x0)).setCell (p := ⟨b, 1, none⟩) (.inl (by simp)) (.int .i64 x1)).setCell (p := ⟨b, 2, none⟩) (.inl (by simp)) (.int .i64 x2)).setCell (p := ⟨b, 3, none⟩) (.inl (by simp)) (.int .i64 x3)).setCell (p := ⟨b, 4, none⟩) (.inl (by simp)) (.slice A n c8)
    obtain ⟨kb2, cap2, hk1, _, hin9⟩ := HFIN.out _ hb5 ho5
    have hk7 : w7.heap.size + 1 ≤ kb2 := by rw [size_alloc] at hk1; exact hk1
    have hb18 : Below w1.heap.size w1 w8 := hb13.trans ((hb37.trans (HBB.out.mono hb37.size)).mono hb13.size)
    have hgb : g ≠ b := by omega
    have hw1 := (ho5.block g (Nat.lt_of_lt_of_le hgl hb18.size) (by simpa using hgb)).trans (hb18.block g hgl)
    have ho9 := (Only.of_below (F := [b]) (hb07.trans (HBB.out.mono hb07.size))).trans ho5
    have hgX := Nat.lt_of_lt_of_le hgl (Nat.le_trans hb18.size ho5.size)
    generalize (((((w8.setCell ⟨b, 0, none⟩ (.int .i64 x0)).setCell ⟨b, 1, none⟩ (.int .i64 x1)).setCell ⟨b, 2, none⟩ (.int .i64 x2)).setCell ⟨b, 3, none⟩ (.int .i64 x3)).setCell ⟨b, 4, none⟩ (.slice A n c8)) = X at *
    have hln : l.length - 1 = frs.length := by rw [HLV.out]; simp
    by_cases hc1 : c = 1
    · have kr := splat_make (c := 0) (o := 0) HPM.out HNOD.out HPT.out HTF.out hokf hbig HFH.out HFR.out HIN.out ho9 hin9 (by omega) (by omega) (by omega) (by omega) (by omega) (by omega) hg hgX HLV.out HPC.out hw1 (.inr (List.eq_nil_of_length_eq_zero (by omega)))
      have h0 : frs.length = 0 := by omega
      rw [h0] at kr
      have KR := Lib.hid kr
      clear kr hb5 ho5 hin9 hw1 ho9 HFIN HB3 m0 m1 m2 m3 m4 f0 f1 f2 f3 f4 p0 p1 p2 p3 p4 t8 ta hln h0
      subst hc1
      clear HKS HALL KU KM KP KW1 KW2 HFR HTF HPM HPT HFH HNOD HIN HN7 HBN HPC HLV HBB
      go_wp2_with fail
      refine KR.out.mono ?_
      rintro _ w9 ⟨rfl, hsp⟩
      have HSP := Lib.hid hsp
      clear hsp KR
      go_wp2_with fail
      go_ret
      exact ⟨rfl, HSP.out⟩
    · have kr := splat_make (c := c - 1) (o := 1) HPM.out HNOD.out HPT.out HTF.out hokf hbig HFH.out HFR.out HIN.out ho9 hin9 (by omega) (by omega) (by omega) (by omega) (by omega) (by omega) hg hgX HLV.out HPC.out hw1 (.inl rfl)
      rw [← hln] at kr
      have KR := Lib.hid kr
      clear kr hb5 ho5 hin9 hw1 ho9 HFIN HB3 m0 m1 m2 m3 m4 f0 f1 f2 f3 f4 p0 p1 p2 p3 p4 t8 ta hln
      clear HKS HALL KU KM KP KW1 KW2 HFR HTF HPM HPT HFH HNOD HIN HN7 HBN HPC HLV HBB
      go_wp2_with fail
      refine KR.out.mono ?_
      rintro _ w9 ⟨rfl, hsp⟩
      have HSP := Lib.hid hsp
      clear hsp KR
      go_wp2_with fail
      go_ret
      exact ⟨rfl, HSP.out⟩
set_option maxRecDepth 100000 in
set_option maxHeartbeats 16000000 in
theorem Split_yesbpz (ok : T.Ok) (hin : T.In w) (hv : T.ptrs[0]? = some (pV tb)) (hl : (T.ups pane)[0]? = some l) (hT : T = plug (.leaf b pane s0 s1 .nil) frs) (hlv : l = pV b :: frs.map (fun fr => pV fr.b)) (ho : (T.ups other)[0]? = some oth) (hgood : 1 ≤ other ∧ oth = []) (hs : 0 ≤ size) {ps : List Int} (hps : T.pns[0]? = some ps) (hn : ps.length < 32) (hb01 : s1 ≤ 10000) (h3 : 3 ≤ s1) (h4 : size ≤ s1 - 2) {sz : Int} (hz : size = 0) (hsz : sz = (s1 - 1) / 2) (hnod : T.blks.Nodup) :
    Calls Tryd.prog 10 #[pV tb, .int .i64 pane, .int .i64 other, .bool false, .int .i64 size, .bool false] w fun e w' => e = .returned (.int .i64 0) ∧ Splat T w w' (.node 0 0 0 1 (.leaf 0 pane s0 (s1 - 1 - sz) (.leaf 0 other s0 sz .nil)) .nil) frs := by
  have hfew := plug_cnt frs (.leaf b pane s0 s1 .nil)
  rw [← hT] at hfew
  have hokf := ok.few
  have hperm := plug_blks frs (.leaf b pane s0 s1 .nil)
  rw [← hT] at hperm
  have hptl := plug_ptrs frs (.leaf b pane s0 s1 .nil)
  rw [← hT] at hptl
  have hbig := ok.big
  have hh1 : T.has1 := ok.one
  rw [hT] at hh1
  have hfh := (plug_has1 hh1).2
  have ku := up_at (p := pane) T ok.one ok.big w hin 0 _ _ hv hl
  have km := fun V (hV : Below w.heap.size w V) => mayCome_at (p := other) ok.one ok.big (hin.below hV) hv ho
  have kp := fun V (hV : Below w.heap.size w V) => panes_at ok.one (hin.below hV) hv hps (by omega)
  have hd : decide (1 ≤ other ∧ oth = []) = true := decide_eq_true hgood
  rw [hd] at km
  have h32 : ¬ (32 : Int) ≤ (ps.length : Int) := by omega
  have hin2 := hin
  rw [hT] at hin2
  obtain ⟨hlf, hfr⟩ := plug_in.1 hin2
  have hBN := hlf.1
  have hne : l ≠ [] := by rw [hlv]; simp
  have KU := Lib.hid ku
  have KM := Lib.hid km
  have KP := Lib.hid kp
  have HBN := Lib.hid hBN
  have HLV := Lib.hid hlv
  have j1 : IntKind.i64.wrap (s1 - 2) = s1 - 2 := IntWalk.i64_in _ ⟨by omega, by omega⟩
  have j2 : IntKind.i64.wrap (s1 - 1) = s1 - 1 := IntWalk.i64_in _ ⟨by omega, by omega⟩
  have j3 : IntKind.i64.wrap (s1 - 1 - sz) = s1 - 1 - sz := IntWalk.i64_in _ ⟨by omega, by omega⟩
  have j5 : IntKind.i64.wrap sz = sz := IntWalk.i64_in _ ⟨by omega, by omega⟩
  have h33 : ¬ s1 < 3 := by omega
  have h44 : ¬ size > s1 - 2 := by omega
  have hss : ¬ size < 0 := by omega
  have jd : (s1 - 1).tdiv 2 = sz := by rw [hsz]; exact Int.tdiv_eq_ediv_of_nonneg (by omega)
  have kw1 : ∀ V, Calls Tryd.prog 28 #[.agg #[.int .i64 s0, .int .i64 s1], .int .i64 1, .int .i64 (s1 - 1 - sz)] V fun e V' => e = .returned (.agg #[.int .i64 s0, .int .i64 (s1 - 1 - sz)]) ∧ Below V.heap.size V V' := fun V => by simpa using with_at (a := 1) (.inr rfl) s0 s1 (s1 - 1 - sz) V
  have kw2 : ∀ V, Calls Tryd.prog 28 #[.agg #[.int .i64 s0, .int .i64 s1], .int .i64 1, .int .i64 sz] V fun e V' => e = .returned (.agg #[.int .i64 s0, .int .i64 sz]) ∧ Below V.heap.size V V' := fun V => by simpa using with_at (a := 1) (.inr rfl) s0 s1 sz V
  have KW1 := Lib.hid kw1
  have KW2 := Lib.hid kw2
  have HFR := Lib.hid hfr
  have HTF := Lib.hid hfew
  have HPM := Lib.hid hperm
  have HPT := Lib.hid hptl
  have HFH := Lib.hid hfh
  have HNOD := Lib.hid hnod
  have HIN := Lib.hid hin

  subst hz
  clear kw1 kw2 ku hin hv hl ok km hd kp hps hin2 hlf hfr hBN hT hlv hfew hperm hptl hfh hh1 hnod hsz
  unfold pV at KU KM KP ⊢
  go_enter Tryd.func10, Tryd.ntmps10
  go_wp2_with fail
  refine KU.out.mono ?_
  rintro _ w1 ⟨u, rfl, hp, hb⟩
  rcases hp.shape with ⟨h, _⟩ | ⟨_, g, c, rfl, hg⟩
  · exact absurd h hne
  have hq := eqnil_some ⟨g, 0, none⟩ l.length c w1
  have hpc : ∀ (j : Nat) u, l[j]? = some u → w1.cell? ((⟨g, 0, none⟩ : Addr).add j) = some u := hp.1.cells (g := g) rfl
  have hgl := (hp.1.lt g rfl).2
  have hcap : 1 ≤ l.length := by cases l with | nil => exact absurd rfl hne | cons _ _ => simp
  have hlc : l.length ≤ c := by
    rcases hp.1.2 with ⟨he, _⟩ | ⟨g', cap', cur', he, _, _, h1, _⟩
    · cases he
    · injection he with _ _ e2; omega
  have HPC := Lib.hid hpc
  clear hp hpc
  go_wp2_with fail
  refine (KM.out _ hb).mono ?_
  rintro _ w2 ⟨rfl, hb2⟩
  have hbb2 := hb.trans (hb2.mono hb.size)
  go_wp2_with fail
  refine (KP.out _ hbb2).mono ?_
  rintro _ w3 ⟨u3, rfl, hu3, hb3⟩
  obtain ⟨A3, c3, rfl⟩ := own_slice hu3
  have hb13 : Below w1.heap.size w1 w3 := hb2.trans (hb3.mono hb2.size)
  have hb03 : Below w.heap.size w w3 := hb.trans (hb13.mono hb.size)
  have g0 : w3.cell? ⟨g, 0, none⟩ = some (pV b) := by
    have h1 := HPC.out 0 (pV b) (by rw [HLV.out]; rfl)
    have e2 : (⟨g, 0, none⟩ : Addr).add 0 = ⟨g, 0, none⟩ := by simp [Addr.add]
    rw [e2] at h1
    exact (World.cell?_of_block (w := w1) (a := ⟨g, 0, none⟩) (hb13.block g hgl)).trans h1
  have hN3 := HBN.out.only (Only.of_below (F := []) hb03) (by simp)
  have n1 : w3.cell? ⟨b, 1, none⟩ = some (.int .i64 s0) := hN3.cell 1
  have n2 : w3.cell? ⟨b, 2, none⟩ = some (.int .i64 s1) := hN3.cell 2
  have hcl : (1 : Int) ≤ (l.length : Int) := by omega
  unfold pV at g0
  clear hu3
  have hall : ∀ V, Below w3.heap.size w3 V → V.cell? ⟨g, 0, none⟩ = some (.pointer (some ⟨b, 0, none⟩)) ∧ V.cell? ⟨b, 1, none⟩ = some (.int .i64 s0) ∧ V.cell? ⟨b, 2, none⟩ = some (.int .i64 s1) := fun V hV => by
    have h1 := hN3.only (Only.of_below (F := []) hV) (by simp)
    exact ⟨(hV.cell (p := ⟨g, 0, none⟩) (Nat.lt_of_lt_of_le hgl hb13.size)).trans g0, h1.cell 1, h1.cell 2⟩
  have HALL := Lib.hid hall
  clear hall hN3
  go_wp2_with (first | (go_at_call 26; refine (axisOf_at false w3).mono ?_; rintro _ w9 ⟨rfl, rfl⟩))
  refine (KW1.out _).mono ?_
  rintro _ w4 ⟨rfl, hb4⟩
  go_wp2_with fail
  refine (leaf_at pane s0 (s1 - 1 - sz) w4).mono ?_
  rintro _ w5 ⟨rfl, hob, hs5, hb5⟩
  have hb35 : Below w3.heap.size w3 w5 := hb4.trans (hb5.mono hb4.size)
  obtain ⟨q0, q1, q2⟩ := HALL.out w5 hb35
  obtain ⟨ob, hobe⟩ : ∃ ob, ob = w4.heap.size + 1 := ⟨_, rfl⟩
  rw [← hobe] at hob ⊢
  have hob1 : w3.heap.size ≤ ob ∧ ob < w5.heap.size := by have := hb4.size; omega
  have HOB := Lib.hid hob
  clear hob hobe hs5
  unfold pV
  go_wp2_with fail
  refine (KW2.out _).mono ?_
  rintro _ w6 ⟨rfl, hb6⟩
  go_wp2_with fail
  refine (leaf_at other s0 sz w6).mono ?_
  rintro _ w7 ⟨rfl, hnb, hs7, hb7⟩
  have hb57 : Below w5.heap.size w5 w7 := hb6.trans (hb7.mono hb6.size)
  have hb37 : Below w3.heap.size w3 w7 := hb35.trans (hb57.mono hb35.size)
  have hb07 : Below w.heap.size w w7 := hb03.trans (hb37.mono hb03.size)
  obtain ⟨q0, q1, q2⟩ := HALL.out w7 hb37
  obtain ⟨nb, hnbe⟩ : ∃ nb, nb = w6.heap.size + 1 := ⟨_, rfl⟩
  rw [← hnbe] at hnb ⊢
  have hnb1 : w5.heap.size ≤ nb ∧ nb < w7.heap.size := by have := hb6.size; omega
  have hbw : b < w.heap.size := HBN.out.lt
  have hob7 : BL w7 ob 53 (leafC pane s0 (s1 - 1 - sz)) := HOB.out.only (F := []) (Only.of_below hb57) (by simp)
  have hw03 := hb03.size
  have ks := fun V (hV : Below w7.heap.size w7 V) (hB : BL V w7.heap.size 63 [pV ob, pV nb]) => split2_at (al := 1) (b := b) (kb := w7.heap.size) (V := V) (c1 := ob) (c2 := nb) ⟨_, hob7.only (F := []) (Only.of_below hV) (by simp)⟩ ⟨_, hnb.only (F := []) (Only.of_below hV) (by simp)⟩ hB (by have := hV.size; omega) (by omega) (by omega)
  have hN7 := HBN.out.only (Only.of_below (F := []) hb07) (by simp)
  have HKS := Lib.hid ks
  have HN7 := Lib.hid hN7
  clear ks hnb hob7 hnbe hs7 HOB q1 q2 hN7
  have r0 : w7.drew.cell? ⟨g, 0, none⟩ = some (.pointer (some ⟨b, 0, none⟩)) := q0
  have hlp : 0 < l.length := hcap
  have hlc1 : (l.length : Int) ≤ (c : Int) := by omega
  have ta := (HALL.out (w7.alloc (.cells #[pV ob, pV nb] 63)) (hb37.alloc hb37.size _)).1
  unfold pV at HKS ta ⊢
  go_wp2_with fail
  go_region_law
    (first
      | (go_simp; go_at_call 29; refine (HKS.out _ ((Below.refl _ _).drew.alloc (Nat.le_refl _) _) (BL.new w7 _ _)).mono ?_; rintro e w8 ⟨q, x0, x1, x2, x3, A, n, c8, rfl, hN1, hb8, hfin⟩; have hb78 : Below w7.heap.size w7 w8 := ((Below.refl w7.heap.size w7).drew.alloc (Nat.le_refl _) _).trans (hb8.mono (by simp)); have t8 := (HALL.out w8 (hb37.trans (hb78.mono hb37.size))).1; have m0 := hN1.cell 0; have m1 := hN1.cell 1; have m2 := hN1.cell 2; have m3 := hN1.cell 3; have m4 := hN1.cell 4; have hB3 := HN7.out.only (Only.of_below (F := []) hb78) (by simp); have f0 := hB3.frozen 0; have f1 := hB3.frozen 1; have f2 := hB3.frozen 2; have f3 := hB3.frozen 3; have f4 := hB3.frozen 4; have p0 : w8.cell? ⟨b, 0, none⟩ = some (.int .i64 pane) := hB3.cell 0; have p1 : w8.cell? ⟨b, 1, none⟩ = some (.int .i64 s0) := hB3.cell 1; have p2 : w8.cell? ⟨b, 2, none⟩ = some (.int .i64 s1) := hB3.cell 2; have p3 : w8.cell? ⟨b, 3, none⟩ = some (.int .i64 0) := hB3.cell 3; have p4 : w8.cell? ⟨b, 4, none⟩ = some (.slice none 0 0) := hB3.cell 4; have HB3 := Lib.hid hB3; have HFIN := Lib.hid hfin; have HBB := Lib.hid hb78; clear hN1 hfin hB3 hb78))
  all_goals
    have hb5 := ((((HB3.out.set_ 0 (.int .i64 x0)).set_ 1 (.int .i64 x1)).set_ 2 (.int .i64 x2)).set_ 3 (.int .i64 x3)).set_ 4 (.slice A n c8)
    have ho5 := (((((Only.refl [b] w8).setCell (p := ⟨b, 0, none⟩) (.inl (by simp)) (.int .i64 x0)).setCell (p := ⟨b, 1, none⟩) (.inl (by simp)) (.int .i64 x1)).setCell (p := ⟨b, 2, none⟩) (.inl (by simp)) (.int .i64 x2)).setCell (p := ⟨b, 3, none⟩) (.inl (by simp)) (.int .i64 x3)).setCell (p := ⟨b, 4, none⟩) (.inl (by simp)) (.slice A n c8)
    obtain ⟨kb2, cap2, hk1, _, hin9⟩ := HFIN.out _ hb5 ho5
    have hk7 : w7.heap.size + 1 ≤ kb2 := by rw [size_alloc] at hk1; exact hk1
    have hb18 : Below w1.heap.size w1 w8 := hb13.trans ((hb37.trans (HBB.out.mono hb37.size)).mono hb13.size)
    have hgb : g ≠ b := by omega
    have hw1 := (ho5.block g (Nat.lt_of_lt_of_le hgl hb18.size) (by simpa using hgb)).trans (hb18.block g hgl)
    have ho9 := (Only.of_below (F := [b]) (hb07.trans (HBB.out.mono hb07.size))).trans ho5
    have hgX := Nat.lt_of_lt_of_le hgl (Nat.le_trans hb18.size ho5.size)
    generalize (((((w8.setCell ⟨b, 0, none⟩ (.int .i64 x0)).setCell ⟨b, 1, none⟩ (.int .i64 x1)).setCell ⟨b, 2, none⟩ (.int .i64 x2)).setCell ⟨b, 3, none⟩ (.int .i64 x3)).setCell ⟨b, 4, none⟩ (.slice A n c8)) = X at *
    have hln : l.length - 1 = frs.length := by rw [HLV.out]; simp
    by_cases hc1 : c = 1
    · have kr := splat_make (c := 0) (o := 0) HPM.out HNOD.out HPT.out HTF.out hokf hbig HFH.out HFR.out HIN.out ho9 hin9 (by omega) (by omega) (by omega) (by omega) (by omega) (by omega) hg hgX HLV.out HPC.out hw1 (.inr (List.eq_nil_of_length_eq_zero (by omega)))
      have h0 : frs.length = 0 := by omega
      rw [h0] at kr
      have KR := Lib.hid kr
      clear kr hb5 ho5 hin9 hw1 ho9 HFIN HB3 m0 m1 m2 m3 m4 f0 f1 f2 f3 f4 p0 p1 p2 p3 p4 t8 ta hln h0
      subst hc1
      clear HKS HALL KU KM KP KW1 KW2 HFR HTF HPM HPT HFH HNOD HIN HN7 HBN HPC HLV HBB
      go_wp2_with fail
      refine KR.out.mono ?_
      rintro _ w9 ⟨rfl, hsp⟩
      have HSP := Lib.hid hsp
      clear hsp KR
      go_wp2_with fail
      go_ret
      exact ⟨rfl, HSP.out⟩
    · have kr := splat_make (c := c - 1) (o := 1) HPM.out HNOD.out HPT.out HTF.out hokf hbig HFH.out HFR.out HIN.out ho9 hin9 (by omega) (by omega) (by omega) (by omega) (by omega) (by omega) hg hgX HLV.out HPC.out hw1 (.inl rfl)
      rw [← hln] at kr
      have KR := Lib.hid kr
      clear kr hb5 ho5 hin9 hw1 ho9 HFIN HB3 m0 m1 m2 m3 m4 f0 f1 f2 f3 f4 p0 p1 p2 p3 p4 t8 ta hln
      clear HKS HALL KU KM KP KW1 KW2 HFR HTF HPM HPT HFH HNOD HIN HN7 HBN HPC HLV HBB
      go_wp2_with fail
      refine KR.out.mono ?_
      rintro _ w9 ⟨rfl, hsp⟩
      have HSP := Lib.hid hsp
      clear hsp KR
      go_wp2_with fail
      go_ret
      exact ⟨rfl, HSP.out⟩
set_option maxRecDepth 100000 in
set_option maxHeartbeats 16000000 in
theorem Split_yesbqn (ok : T.Ok) (hin : T.In w) (hv : T.ptrs[0]? = some (pV tb)) (hl : (T.ups pane)[0]? = some l) (hT : T = plug (.leaf b pane s0 s1 .nil) frs) (hlv : l = pV b :: frs.map (fun fr => pV fr.b)) (ho : (T.ups other)[0]? = some oth) (hgood : 1 ≤ other ∧ oth = []) (hs : 0 ≤ size) {ps : List Int} (hps : T.pns[0]? = some ps) (hn : ps.length < 32) (hb01 : s1 ≤ 10000) (h3 : 3 ≤ s1) (h4 : size ≤ s1 - 2) {sz : Int} (hz : size ≠ 0) (hsz : sz = size) (hnod : T.blks.Nodup) :
    Calls Tryd.prog 10 #[pV tb, .int .i64 pane, .int .i64 other, .bool false, .int .i64 size, .bool true] w fun e w' => e = .returned (.int .i64 0) ∧ Splat T w w' (.node 0 0 0 1 (.leaf 0 other s0 sz (.leaf 0 pane s0 (s1 - 1 - sz) .nil)) .nil) frs := by
  have hfew := plug_cnt frs (.leaf b pane s0 s1 .nil)
  rw [← hT] at hfew
  have hokf := ok.few
  have hperm := plug_blks frs (.leaf b pane s0 s1 .nil)
  rw [← hT] at hperm
  have hptl := plug_ptrs frs (.leaf b pane s0 s1 .nil)
  rw [← hT] at hptl
  have hbig := ok.big
  have hh1 : T.has1 := ok.one
  rw [hT] at hh1
  have hfh := (plug_has1 hh1).2
  have ku := up_at (p := pane) T ok.one ok.big w hin 0 _ _ hv hl
  have km := fun V (hV : Below w.heap.size w V) => mayCome_at (p := other) ok.one ok.big (hin.below hV) hv ho
  have kp := fun V (hV : Below w.heap.size w V) => panes_at ok.one (hin.below hV) hv hps (by omega)
  have hd : decide (1 ≤ other ∧ oth = []) = true := decide_eq_true hgood
  rw [hd] at km
  have h32 : ¬ (32 : Int) ≤ (ps.length : Int) := by omega
  have hin2 := hin
  rw [hT] at hin2
  obtain ⟨hlf, hfr⟩ := plug_in.1 hin2
  have hBN := hlf.1
  have hne : l ≠ [] := by rw [hlv]; simp
  have KU := Lib.hid ku
  have KM := Lib.hid km
  have KP := Lib.hid kp
  have HBN := Lib.hid hBN
  have HLV := Lib.hid hlv
  have j1 : IntKind.i64.wrap (s1 - 2) = s1 - 2 := IntWalk.i64_in _ ⟨by omega, by omega⟩
  have j2 : IntKind.i64.wrap (s1 - 1) = s1 - 1 := IntWalk.i64_in _ ⟨by omega, by omega⟩
  have j3 : IntKind.i64.wrap (s1 - 1 - sz) = s1 - 1 - sz := IntWalk.i64_in _ ⟨by omega, by omega⟩
  have j5 : IntKind.i64.wrap sz = sz := IntWalk.i64_in _ ⟨by omega, by omega⟩
  have h33 : ¬ s1 < 3 := by omega
  have h44 : ¬ size > s1 - 2 := by omega
  have hss : ¬ size < 0 := by omega

  have kw1 : ∀ V, Calls Tryd.prog 28 #[.agg #[.int .i64 s0, .int .i64 s1], .int .i64 1, .int .i64 (s1 - 1 - sz)] V fun e V' => e = .returned (.agg #[.int .i64 s0, .int .i64 (s1 - 1 - sz)]) ∧ Below V.heap.size V V' := fun V => by simpa using with_at (a := 1) (.inr rfl) s0 s1 (s1 - 1 - sz) V
  have kw2 : ∀ V, Calls Tryd.prog 28 #[.agg #[.int .i64 s0, .int .i64 s1], .int .i64 1, .int .i64 sz] V fun e V' => e = .returned (.agg #[.int .i64 s0, .int .i64 sz]) ∧ Below V.heap.size V V' := fun V => by simpa using with_at (a := 1) (.inr rfl) s0 s1 sz V
  have KW1 := Lib.hid kw1
  have KW2 := Lib.hid kw2
  have HFR := Lib.hid hfr
  have HTF := Lib.hid hfew
  have HPM := Lib.hid hperm
  have HPT := Lib.hid hptl
  have HFH := Lib.hid hfh
  have HNOD := Lib.hid hnod
  have HIN := Lib.hid hin
  have hszz : sz = size := hsz
  subst hszz
  clear kw1 kw2 ku hin hv hl ok km hd kp hps hin2 hlf hfr hBN hT hlv hfew hperm hptl hfh hh1 hnod
  unfold pV at KU KM KP ⊢
  go_enter Tryd.func10, Tryd.ntmps10
  go_wp2_with fail
  refine KU.out.mono ?_
  rintro _ w1 ⟨u, rfl, hp, hb⟩
  rcases hp.shape with ⟨h, _⟩ | ⟨_, g, c, rfl, hg⟩
  · exact absurd h hne
  have hq := eqnil_some ⟨g, 0, none⟩ l.length c w1
  have hpc : ∀ (j : Nat) u, l[j]? = some u → w1.cell? ((⟨g, 0, none⟩ : Addr).add j) = some u := hp.1.cells (g := g) rfl
  have hgl := (hp.1.lt g rfl).2
  have hcap : 1 ≤ l.length := by cases l with | nil => exact absurd rfl hne | cons _ _ => simp
  have hlc : l.length ≤ c := by
    rcases hp.1.2 with ⟨he, _⟩ | ⟨g', cap', cur', he, _, _, h1, _⟩
    · cases he
    · injection he with _ _ e2; omega
  have HPC := Lib.hid hpc
  clear hp hpc
  go_wp2_with fail
  refine (KM.out _ hb).mono ?_
  rintro _ w2 ⟨rfl, hb2⟩
  have hbb2 := hb.trans (hb2.mono hb.size)
  go_wp2_with fail
  refine (KP.out _ hbb2).mono ?_
  rintro _ w3 ⟨u3, rfl, hu3, hb3⟩
  obtain ⟨A3, c3, rfl⟩ := own_slice hu3
  have hb13 : Below w1.heap.size w1 w3 := hb2.trans (hb3.mono hb2.size)
  have hb03 : Below w.heap.size w w3 := hb.trans (hb13.mono hb.size)
  have g0 : w3.cell? ⟨g, 0, none⟩ = some (pV b) := by
    have h1 := HPC.out 0 (pV b) (by rw [HLV.out]; rfl)
    have e2 : (⟨g, 0, none⟩ : Addr).add 0 = ⟨g, 0, none⟩ := by simp [Addr.add]
    rw [e2] at h1
    exact (World.cell?_of_block (w := w1) (a := ⟨g, 0, none⟩) (hb13.block g hgl)).trans h1
  have hN3 := HBN.out.only (Only.of_below (F := []) hb03) (by simp)
  have n1 : w3.cell? ⟨b, 1, none⟩ = some (.int .i64 s0) := hN3.cell 1
  have n2 : w3.cell? ⟨b, 2, none⟩ = some (.int .i64 s1) := hN3.cell 2
  have hcl : (1 : Int) ≤ (l.length : Int) := by omega
  unfold pV at g0
  clear hu3
  have hall : ∀ V, Below w3.heap.size w3 V → V.cell? ⟨g, 0, none⟩ = some (.pointer (some ⟨b, 0, none⟩)) ∧ V.cell? ⟨b, 1, none⟩ = some (.int .i64 s0) ∧ V.cell? ⟨b, 2, none⟩ = some (.int .i64 s1) := fun V hV => by
    have h1 := hN3.only (Only.of_below (F := []) hV) (by simp)
    exact ⟨(hV.cell (p := ⟨g, 0, none⟩) (Nat.lt_of_lt_of_le hgl hb13.size)).trans g0, h1.cell 1, h1.cell 2⟩
  have HALL := Lib.hid hall
  clear hall hN3
  go_wp2_with (first | (go_at_call 26; refine (axisOf_at false w3).mono ?_; rintro _ w9 ⟨rfl, rfl⟩))
  refine (KW1.out _).mono ?_
  rintro _ w4 ⟨rfl, hb4⟩
  go_wp2_with fail
  refine (leaf_at pane s0 (s1 - 1 - sz) w4).mono ?_
  rintro _ w5 ⟨rfl, hob, hs5, hb5⟩
  have hb35 : Below w3.heap.size w3 w5 := hb4.trans (hb5.mono hb4.size)
  obtain ⟨q0, q1, q2⟩ := HALL.out w5 hb35
  obtain ⟨ob, hobe⟩ : ∃ ob, ob = w4.heap.size + 1 := ⟨_, rfl⟩
  rw [← hobe] at hob ⊢
  have hob1 : w3.heap.size ≤ ob ∧ ob < w5.heap.size := by have := hb4.size; omega
  have HOB := Lib.hid hob
  clear hob hobe hs5
  unfold pV
  go_wp2_with fail
  refine (KW2.out _).mono ?_
  rintro _ w6 ⟨rfl, hb6⟩
  go_wp2_with fail
  refine (leaf_at other s0 sz w6).mono ?_
  rintro _ w7 ⟨rfl, hnb, hs7, hb7⟩
  have hb57 : Below w5.heap.size w5 w7 := hb6.trans (hb7.mono hb6.size)
  have hb37 : Below w3.heap.size w3 w7 := hb35.trans (hb57.mono hb35.size)
  have hb07 : Below w.heap.size w w7 := hb03.trans (hb37.mono hb03.size)
  obtain ⟨q0, q1, q2⟩ := HALL.out w7 hb37
  obtain ⟨nb, hnbe⟩ : ∃ nb, nb = w6.heap.size + 1 := ⟨_, rfl⟩
  rw [← hnbe] at hnb ⊢
  have hnb1 : w5.heap.size ≤ nb ∧ nb < w7.heap.size := by have := hb6.size; omega
  have hbw : b < w.heap.size := HBN.out.lt
  have hob7 : BL w7 ob 53 (leafC pane s0 (s1 - 1 - sz)) := HOB.out.only (F := []) (Only.of_below hb57) (by simp)
  have hw03 := hb03.size
  have ks := fun V (hV : Below w7.heap.size w7 V) (hB : BL V w7.heap.size 63 [pV nb, pV ob]) => split2_at (al := 1) (b := b) (kb := w7.heap.size) (V := V) (c1 := nb) (c2 := ob) ⟨_, hnb.only (F := []) (Only.of_below hV) (by simp)⟩ ⟨_, hob7.only (F := []) (Only.of_below hV) (by simp)⟩ hB (by have := hV.size; omega) (by omega) (by omega)
  have hN7 := HBN.out.only (Only.of_below (F := []) hb07) (by simp)
  have HKS := Lib.hid ks
  have HN7 := Lib.hid hN7
  clear ks hnb hob7 hnbe hs7 HOB q1 q2 hN7
  have r0 : w7.drew.cell? ⟨g, 0, none⟩ = some (.pointer (some ⟨b, 0, none⟩)) := q0
  have hlp : 0 < l.length := hcap
  have hlc1 : (l.length : Int) ≤ (c : Int) := by omega
  have ta := (HALL.out (w7.alloc (.cells #[pV nb, pV ob] 63)) (hb37.alloc hb37.size _)).1
  unfold pV at HKS ta ⊢
  go_wp2_with fail
  go_region_law
    (first
      | (go_simp; go_at_call 29; refine (HKS.out _ ((Below.refl _ _).drew.alloc (Nat.le_refl _) _) (BL.new w7 _ _)).mono ?_; rintro e w8 ⟨q, x0, x1, x2, x3, A, n, c8, rfl, hN1, hb8, hfin⟩; have hb78 : Below w7.heap.size w7 w8 := ((Below.refl w7.heap.size w7).drew.alloc (Nat.le_refl _) _).trans (hb8.mono (by simp)); have t8 := (HALL.out w8 (hb37.trans (hb78.mono hb37.size))).1; have m0 := hN1.cell 0; have m1 := hN1.cell 1; have m2 := hN1.cell 2; have m3 := hN1.cell 3; have m4 := hN1.cell 4; have hB3 := HN7.out.only (Only.of_below (F := []) hb78) (by simp); have f0 := hB3.frozen 0; have f1 := hB3.frozen 1; have f2 := hB3.frozen 2; have f3 := hB3.frozen 3; have f4 := hB3.frozen 4; have p0 : w8.cell? ⟨b, 0, none⟩ = some (.int .i64 pane) := hB3.cell 0; have p1 : w8.cell? ⟨b, 1, none⟩ = some (.int .i64 s0) := hB3.cell 1; have p2 : w8.cell? ⟨b, 2, none⟩ = some (.int .i64 s1) := hB3.cell 2; have p3 : w8.cell? ⟨b, 3, none⟩ = some (.int .i64 0) := hB3.cell 3; have p4 : w8.cell? ⟨b, 4, none⟩ = some (.slice none 0 0) := hB3.cell 4; have HB3 := Lib.hid hB3; have HFIN := Lib.hid hfin; have HBB := Lib.hid hb78; clear hN1 hfin hB3 hb78))
  all_goals
    have hb5 := ((((HB3.out.set_ 0 (.int .i64 x0)).set_ 1 (.int .i64 x1)).set_ 2 (.int .i64 x2)).set_ 3 (.int .i64 x3)).set_ 4 (.slice A n c8)
    have ho5 := (((((Only.refl [b] w8).setCell (p := ⟨b, 0, none⟩) (.inl (by simp)) (.int .i64 x0)).setCell (p := ⟨b, 1, none⟩) (.inl (by simp)) (.int .i64 x1)).setCell (p := ⟨b, 2, none⟩) (.inl (by simp)) (.int .i64 x2)).setCell (p := ⟨b, 3, none⟩) (.inl (by simp)) (.int .i64 x3)).setCell (p := ⟨b, 4, none⟩) (.inl (by simp)) (.slice A n c8)
    obtain ⟨kb2, cap2, hk1, _, hin9⟩ := HFIN.out _ hb5 ho5
    have hk7 : w7.heap.size + 1 ≤ kb2 := by rw [size_alloc] at hk1; exact hk1
    have hb18 : Below w1.heap.size w1 w8 := hb13.trans ((hb37.trans (HBB.out.mono hb37.size)).mono hb13.size)
    have hgb : g ≠ b := by omega
    have hw1 := (ho5.block g (Nat.lt_of_lt_of_le hgl hb18.size) (by simpa using hgb)).trans (hb18.block g hgl)
    have ho9 := (Only.of_below (F := [b]) (hb07.trans (HBB.out.mono hb07.size))).trans ho5
    have hgX := Nat.lt_of_lt_of_le hgl (Nat.le_trans hb18.size ho5.size)
    generalize (((((w8.setCell ⟨b, 0, none⟩ (.int .i64 x0)).setCell ⟨b, 1, none⟩ (.int .i64 x1)).setCell ⟨b, 2, none⟩ (.int .i64 x2)).setCell ⟨b, 3, none⟩ (.int .i64 x3)).setCell ⟨b, 4, none⟩ (.slice A n c8)) = X at *
    have hln : l.length - 1 = frs.length := by rw [HLV.out]; simp
    by_cases hc1 : c = 1
    · have kr := splat_make (c := 0) (o := 0) HPM.out HNOD.out HPT.out HTF.out hokf hbig HFH.out HFR.out HIN.out ho9 hin9 (by omega) (by omega) (by omega) (by omega) (by omega) (by omega) hg hgX HLV.out HPC.out hw1 (.inr (List.eq_nil_of_length_eq_zero (by omega)))
      have h0 : frs.length = 0 := by omega
      rw [h0] at kr
      have KR := Lib.hid kr
      clear kr hb5 ho5 hin9 hw1 ho9 HFIN HB3 m0 m1 m2 m3 m4 f0 f1 f2 f3 f4 p0 p1 p2 p3 p4 t8 ta hln h0
      subst hc1
      clear HKS HALL KU KM KP KW1 KW2 HFR HTF HPM HPT HFH HNOD HIN HN7 HBN HPC HLV HBB
      go_wp2_with fail
      refine KR.out.mono ?_
      rintro _ w9 ⟨rfl, hsp⟩
      have HSP := Lib.hid hsp
      clear hsp KR
      go_wp2_with fail
      go_ret
      exact ⟨rfl, HSP.out⟩
    · have kr := splat_make (c := c - 1) (o := 1) HPM.out HNOD.out HPT.out HTF.out hokf hbig HFH.out HFR.out HIN.out ho9 hin9 (by omega) (by omega) (by omega) (by omega) (by omega) (by omega) hg hgX HLV.out HPC.out hw1 (.inl rfl)
      rw [← hln] at kr
      have KR := Lib.hid kr
      clear kr hb5 ho5 hin9 hw1 ho9 HFIN HB3 m0 m1 m2 m3 m4 f0 f1 f2 f3 f4 p0 p1 p2 p3 p4 t8 ta hln
      clear HKS HALL KU KM KP KW1 KW2 HFR HTF HPM HPT HFH HNOD HIN HN7 HBN HPC HLV HBB
      go_wp2_with fail
      refine KR.out.mono ?_
      rintro _ w9 ⟨rfl, hsp⟩
      have HSP := Lib.hid hsp
      clear hsp KR
      go_wp2_with fail
      go_ret
      exact ⟨rfl, HSP.out⟩
set_option maxRecDepth 100000 in
set_option maxHeartbeats 16000000 in
theorem Split_yesbqz (ok : T.Ok) (hin : T.In w) (hv : T.ptrs[0]? = some (pV tb)) (hl : (T.ups pane)[0]? = some l) (hT : T = plug (.leaf b pane s0 s1 .nil) frs) (hlv : l = pV b :: frs.map (fun fr => pV fr.b)) (ho : (T.ups other)[0]? = some oth) (hgood : 1 ≤ other ∧ oth = []) (hs : 0 ≤ size) {ps : List Int} (hps : T.pns[0]? = some ps) (hn : ps.length < 32) (hb01 : s1 ≤ 10000) (h3 : 3 ≤ s1) (h4 : size ≤ s1 - 2) {sz : Int} (hz : size = 0) (hsz : sz = (s1 - 1) / 2) (hnod : T.blks.Nodup) :
    Calls Tryd.prog 10 #[pV tb, .int .i64 pane, .int .i64 other, .bool false, .int .i64 size, .bool true] w fun e w' => e = .returned (.int .i64 0) ∧ Splat T w w' (.node 0 0 0 1 (.leaf 0 other s0 sz (.leaf 0 pane s0 (s1 - 1 - sz) .nil)) .nil) frs := by
  have hfew := plug_cnt frs (.leaf b pane s0 s1 .nil)
  rw [← hT] at hfew
  have hokf := ok.few
  have hperm := plug_blks frs (.leaf b pane s0 s1 .nil)
  rw [← hT] at hperm
  have hptl := plug_ptrs frs (.leaf b pane s0 s1 .nil)
  rw [← hT] at hptl
  have hbig := ok.big
  have hh1 : T.has1 := ok.one
  rw [hT] at hh1
  have hfh := (plug_has1 hh1).2
  have ku := up_at (p := pane) T ok.one ok.big w hin 0 _ _ hv hl
  have km := fun V (hV : Below w.heap.size w V) => mayCome_at (p := other) ok.one ok.big (hin.below hV) hv ho
  have kp := fun V (hV : Below w.heap.size w V) => panes_at ok.one (hin.below hV) hv hps (by omega)
  have hd : decide (1 ≤ other ∧ oth = []) = true := decide_eq_true hgood
  rw [hd] at km
  have h32 : ¬ (32 : Int) ≤ (ps.length : Int) := by omega
  have hin2 := hin
  rw [hT] at hin2
  obtain ⟨hlf, hfr⟩ := plug_in.1 hin2
  have hBN := hlf.1
  have hne : l ≠ [] := by rw [hlv]; simp
  have KU := Lib.hid ku
  have KM := Lib.hid km
  have KP := Lib.hid kp
  have HBN := Lib.hid hBN
  have HLV := Lib.hid hlv
  have j1 : IntKind.i64.wrap (s1 - 2) = s1 - 2 := IntWalk.i64_in _ ⟨by omega, by omega⟩
  have j2 : IntKind.i64.wrap (s1 - 1) = s1 - 1 := IntWalk.i64_in _ ⟨by omega, by omega⟩
  have j3 : IntKind.i64.wrap (s1 - 1 - sz) = s1 - 1 - sz := IntWalk.i64_in _ ⟨by omega, by omega⟩
  have j5 : IntKind.i64.wrap sz = sz := IntWalk.i64_in _ ⟨by omega, by omega⟩
  have h33 : ¬ s1 < 3 := by omega
  have h44 : ¬ size > s1 - 2 := by omega
  have hss : ¬ size < 0 := by omega
  have jd : (s1 - 1).tdiv 2 = sz := by rw [hsz]; exact Int.tdiv_eq_ediv_of_nonneg (by omega)
  have kw1 : ∀ V, Calls Tryd.prog 28 #[.agg #[.int .i64 s0, .int .i64 s1], .int .i64 1, .int .i64 (s1 - 1 - sz)] V fun e V' => e = .returned (.agg #[.int .i64 s0, .int .i64 (s1 - 1 - sz)]) ∧ Below V.heap.size V V' := fun V => by simpa using with_at (a := 1) (.inr rfl) s0 s1 (s1 - 1 - sz) V
  have kw2 : ∀ V, Calls Tryd.prog 28 #[.agg #[.int .i64 s0, .int .i64 s1], .int .i64 1, .int .i64 sz] V fun e V' => e = .returned (.agg #[.int .i64 s0, .int .i64 sz]) ∧ Below V.heap.size V V' := fun V => by simpa using with_at (a := 1) (.inr rfl) s0 s1 sz V
  have KW1 := Lib.hid kw1
  have KW2 := Lib.hid kw2
  have HFR := Lib.hid hfr
  have HTF := Lib.hid hfew
  have HPM := Lib.hid hperm
  have HPT := Lib.hid hptl
  have HFH := Lib.hid hfh
  have HNOD := Lib.hid hnod
  have HIN := Lib.hid hin

  subst hz
  clear kw1 kw2 ku hin hv hl ok km hd kp hps hin2 hlf hfr hBN hT hlv hfew hperm hptl hfh hh1 hnod hsz
  unfold pV at KU KM KP ⊢
  go_enter Tryd.func10, Tryd.ntmps10
  go_wp2_with fail
  refine KU.out.mono ?_
  rintro _ w1 ⟨u, rfl, hp, hb⟩
  rcases hp.shape with ⟨h, _⟩ | ⟨_, g, c, rfl, hg⟩
  · exact absurd h hne
  have hq := eqnil_some ⟨g, 0, none⟩ l.length c w1
  have hpc : ∀ (j : Nat) u, l[j]? = some u → w1.cell? ((⟨g, 0, none⟩ : Addr).add j) = some u := hp.1.cells (g := g) rfl
  have hgl := (hp.1.lt g rfl).2
  have hcap : 1 ≤ l.length := by cases l with | nil => exact absurd rfl hne | cons _ _ => simp
  have hlc : l.length ≤ c := by
    rcases hp.1.2 with ⟨he, _⟩ | ⟨g', cap', cur', he, _, _, h1, _⟩
    · cases he
    · injection he with _ _ e2; omega
  have HPC := Lib.hid hpc
  clear hp hpc
  go_wp2_with fail
  refine (KM.out _ hb).mono ?_
  rintro _ w2 ⟨rfl, hb2⟩
  have hbb2 := hb.trans (hb2.mono hb.size)
  go_wp2_with fail
  refine (KP.out _ hbb2).mono ?_
  rintro _ w3 ⟨u3, rfl, hu3, hb3⟩
  obtain ⟨A3, c3, rfl⟩ := own_slice hu3
  have hb13 : Below w1.heap.size w1 w3 := hb2.trans (hb3.mono hb2.size)
  have hb03 : Below w.heap.size w w3 := hb.trans (hb13.mono hb.size)
  have g0 : w3.cell? ⟨g, 0, none⟩ = some (pV b) := by
    have h1 := HPC.out 0 (pV b) (by rw [HLV.out]; rfl)
    have e2 : (⟨g, 0, none⟩ : Addr).add 0 = ⟨g, 0, none⟩ := by simp [Addr.add]
    rw [e2] at h1
    exact (World.cell?_of_block (w := w1) (a := ⟨g, 0, none⟩) (hb13.block g hgl)).trans h1
  have hN3 := HBN.out.only (Only.of_below (F := []) hb03) (by simp)
  have n1 : w3.cell? ⟨b, 1, none⟩ = some (.int .i64 s0) := hN3.cell 1
  have n2 : w3.cell? ⟨b, 2, none⟩ = some (.int .i64 s1) := hN3.cell 2
  have hcl : (1 : Int) ≤ (l.length : Int) := by omega
  unfold pV at g0
  clear hu3
  have hall : ∀ V, Below w3.heap.size w3 V → V.cell? ⟨g, 0, none⟩ = some (.pointer (some ⟨b, 0, none⟩)) ∧ V.cell? ⟨b, 1, none⟩ = some (.int .i64 s0) ∧ V.cell? ⟨b, 2, none⟩ = some (.int .i64 s1) := fun V hV => by
    have h1 := hN3.only (Only.of_below (F := []) hV) (by simp)
    exact ⟨(hV.cell (p := ⟨g, 0, none⟩) (Nat.lt_of_lt_of_le hgl hb13.size)).trans g0, h1.cell 1, h1.cell 2⟩
  have HALL := Lib.hid hall
  clear hall hN3
  go_wp2_with (first | (go_at_call 26; refine (axisOf_at false w3).mono ?_; rintro _ w9 ⟨rfl, rfl⟩))
  refine (KW1.out _).mono ?_
  rintro _ w4 ⟨rfl, hb4⟩
  go_wp2_with fail
  refine (leaf_at pane s0 (s1 - 1 - sz) w4).mono ?_
  rintro _ w5 ⟨rfl, hob, hs5, hb5⟩
  have hb35 : Below w3.heap.size w3 w5 := hb4.trans (hb5.mono hb4.size)
  obtain ⟨q0, q1, q2⟩ := HALL.out w5 hb35
  obtain ⟨ob, hobe⟩ : ∃ ob, ob = w4.heap.size + 1 := ⟨_, rfl⟩
  rw [← hobe] at hob ⊢
  have hob1 : w3.heap.size ≤ ob ∧ ob < w5.heap.size := by have := hb4.size; omega
  have HOB := Lib.hid hob
  clear hob hobe hs5
  unfold pV
  go_wp2_with fail
  refine (KW2.out _).mono ?_
  rintro _ w6 ⟨rfl, hb6⟩
  go_wp2_with fail
  refine (leaf_at other s0 sz w6).mono ?_
  rintro _ w7 ⟨rfl, hnb, hs7, hb7⟩
  have hb57 : Below w5.heap.size w5 w7 := hb6.trans (hb7.mono hb6.size)
  have hb37 : Below w3.heap.size w3 w7 := hb35.trans (hb57.mono hb35.size)
  have hb07 : Below w.heap.size w w7 := hb03.trans (hb37.mono hb03.size)
  obtain ⟨q0, q1, q2⟩ := HALL.out w7 hb37
  obtain ⟨nb, hnbe⟩ : ∃ nb, nb = w6.heap.size + 1 := ⟨_, rfl⟩
  rw [← hnbe] at hnb ⊢
  have hnb1 : w5.heap.size ≤ nb ∧ nb < w7.heap.size := by have := hb6.size; omega
  have hbw : b < w.heap.size := HBN.out.lt
  have hob7 : BL w7 ob 53 (leafC pane s0 (s1 - 1 - sz)) := HOB.out.only (F := []) (Only.of_below hb57) (by simp)
  have hw03 := hb03.size
  have ks := fun V (hV : Below w7.heap.size w7 V) (hB : BL V w7.heap.size 63 [pV nb, pV ob]) => split2_at (al := 1) (b := b) (kb := w7.heap.size) (V := V) (c1 := nb) (c2 := ob) ⟨_, hnb.only (F := []) (Only.of_below hV) (by simp)⟩ ⟨_, hob7.only (F := []) (Only.of_below hV) (by simp)⟩ hB (by have := hV.size; omega) (by omega) (by omega)
  have hN7 := HBN.out.only (Only.of_below (F := []) hb07) (by simp)
  have HKS := Lib.hid ks
  have HN7 := Lib.hid hN7
  clear ks hnb hob7 hnbe hs7 HOB q1 q2 hN7
  have r0 : w7.drew.cell? ⟨g, 0, none⟩ = some (.pointer (some ⟨b, 0, none⟩)) := q0
  have hlp : 0 < l.length := hcap
  have hlc1 : (l.length : Int) ≤ (c : Int) := by omega
  have ta := (HALL.out (w7.alloc (.cells #[pV nb, pV ob] 63)) (hb37.alloc hb37.size _)).1
  unfold pV at HKS ta ⊢
  go_wp2_with fail
  go_region_law
    (first
      | (go_simp; go_at_call 29; refine (HKS.out _ ((Below.refl _ _).drew.alloc (Nat.le_refl _) _) (BL.new w7 _ _)).mono ?_; rintro e w8 ⟨q, x0, x1, x2, x3, A, n, c8, rfl, hN1, hb8, hfin⟩; have hb78 : Below w7.heap.size w7 w8 := ((Below.refl w7.heap.size w7).drew.alloc (Nat.le_refl _) _).trans (hb8.mono (by simp)); have t8 := (HALL.out w8 (hb37.trans (hb78.mono hb37.size))).1; have m0 := hN1.cell 0; have m1 := hN1.cell 1; have m2 := hN1.cell 2; have m3 := hN1.cell 3; have m4 := hN1.cell 4; have hB3 := HN7.out.only (Only.of_below (F := []) hb78) (by simp); have f0 := hB3.frozen 0; have f1 := hB3.frozen 1; have f2 := hB3.frozen 2; have f3 := hB3.frozen 3; have f4 := hB3.frozen 4; have p0 : w8.cell? ⟨b, 0, none⟩ = some (.int .i64 pane) := hB3.cell 0; have p1 : w8.cell? ⟨b, 1, none⟩ = some (.int .i64 s0) := hB3.cell 1; have p2 : w8.cell? ⟨b, 2, none⟩ = some (.int .i64 s1) := hB3.cell 2; have p3 : w8.cell? ⟨b, 3, none⟩ = some (.int .i64 0) := hB3.cell 3; have p4 : w8.cell? ⟨b, 4, none⟩ = some (.slice none 0 0) := hB3.cell 4; have HB3 := Lib.hid hB3; have HFIN := Lib.hid hfin; have HBB := Lib.hid hb78; clear hN1 hfin hB3 hb78))
  all_goals
    have hb5 := ((((HB3.out.set_ 0 (.int .i64 x0)).set_ 1 (.int .i64 x1)).set_ 2 (.int .i64 x2)).set_ 3 (.int .i64 x3)).set_ 4 (.slice A n c8)
    have ho5 := (((((Only.refl [b] w8).setCell (p := ⟨b, 0, none⟩) (.inl (by simp)) (.int .i64 x0)).setCell (p := ⟨b, 1, none⟩) (.inl (by simp)) (.int .i64 x1)).setCell (p := ⟨b, 2, none⟩) (.inl (by simp)) (.int .i64 x2)).setCell (p := ⟨b, 3, none⟩) (.inl (by simp)) (.int .i64 x3)).setCell (p := ⟨b, 4, none⟩) (.inl (by simp)) (.slice A n c8)
    obtain ⟨kb2, cap2, hk1, _, hin9⟩ := HFIN.out _ hb5 ho5
    have hk7 : w7.heap.size + 1 ≤ kb2 := by rw [size_alloc] at hk1; exact hk1
    have hb18 : Below w1.heap.size w1 w8 := hb13.trans ((hb37.trans (HBB.out.mono hb37.size)).mono hb13.size)
    have hgb : g ≠ b := by omega
    have hw1 := (ho5.block g (Nat.lt_of_lt_of_le hgl hb18.size) (by simpa using hgb)).trans (hb18.block g hgl)
    have ho9 := (Only.of_below (F := [b]) (hb07.trans (HBB.out.mono hb07.size))).trans ho5
    have hgX := Nat.lt_of_lt_of_le hgl (Nat.le_trans hb18.size ho5.size)
    generalize (((((w8.setCell ⟨b, 0, none⟩ (.int .i64 x0)).setCell ⟨b, 1, none⟩ (.int .i64 x1)).setCell ⟨b, 2, none⟩ (.int .i64 x2)).setCell ⟨b, 3, none⟩ (.int .i64 x3)).setCell ⟨b, 4, none⟩ (.slice A n c8)) = X at *
    have hln : l.length - 1 = frs.length := by rw [HLV.out]; simp
    by_cases hc1 : c = 1
    · have kr := splat_make (c := 0) (o := 0) HPM.out HNOD.out HPT.out HTF.out hokf hbig HFH.out HFR.out HIN.out ho9 hin9 (by omega) (by omega) (by omega) (by omega) (by omega) (by omega) hg hgX HLV.out HPC.out hw1 (.inr (List.eq_nil_of_length_eq_zero (by omega)))
      have h0 : frs.length = 0 := by omega
      rw [h0] at kr
      have KR := Lib.hid kr
      clear kr hb5 ho5 hin9 hw1 ho9 HFIN HB3 m0 m1 m2 m3 m4 f0 f1 f2 f3 f4 p0 p1 p2 p3 p4 t8 ta hln h0
      subst hc1
      clear HKS HALL KU KM KP KW1 KW2 HFR HTF HPM HPT HFH HNOD HIN HN7 HBN HPC HLV HBB
      go_wp2_with fail
      refine KR.out.mono ?_
      rintro _ w9 ⟨rfl, hsp⟩
      have HSP := Lib.hid hsp
      clear hsp KR
      go_wp2_with fail
      go_ret
      exact ⟨rfl, HSP.out⟩
    · have kr := splat_make (c := c - 1) (o := 1) HPM.out HNOD.out HPT.out HTF.out hokf hbig HFH.out HFR.out HIN.out ho9 hin9 (by omega) (by omega) (by omega) (by omega) (by omega) (by omega) hg hgX HLV.out HPC.out hw1 (.inl rfl)
      rw [← hln] at kr
      have KR := Lib.hid kr
      clear kr hb5 ho5 hin9 hw1 ho9 HFIN HB3 m0 m1 m2 m3 m4 f0 f1 f2 f3 f4 p0 p1 p2 p3 p4 t8 ta hln
      clear HKS HALL KU KM KP KW1 KW2 HFR HTF HPM HPT HFH HNOD HIN HN7 HBN HPC HLV HBB
      go_wp2_with fail
      refine KR.out.mono ?_
      rintro _ w9 ⟨rfl, hsp⟩
      have HSP := Lib.hid hsp
      clear hsp KR
      go_wp2_with fail
      go_ret
      exact ⟨rfl, HSP.out⟩
end
end Go.Proofs.YtkanglfpiahecaaDoor.Lyt
/- A split of two leaves grown across. -/
namespace Go.Proofs.YtkanglfpiahecaaDoor.Lyt
open Go.RowKit

set_option maxRecDepth 100000 in
set_option maxHeartbeats 4000000 in
theorem grow1_at {n0 c : Nat} {by_ p s0 s1 : Int} {W : World} (h0 : BL W n0 50 [.int .i64 0]) (h1 : BL W (n0 + 1) 3 [.int .i64 by_]) (hN : BN W c (leafC p s0 s1)) (hb : 0 ≤ s0 ∧ s0 ≤ 100000 ∧ 0 ≤ s1 ∧ s1 ≤ 100000 ∧ 0 ≤ by_ ∧ by_ ≤ 100000) :
    Calls Tryd.prog 55 #[pV c, pV n0, pV (n0 + 1)] W fun e W' => e = .returned (.tuple #[]) ∧ BN W' c (leafC p (s0 + by_) s1) ∧ Only [c] W W' := by
  have hg := grow_leaf (a := 0) (.inl rfl) (by_ := by_) hN (by omega)
  have c0 := h0.cell 0
  have c1 := h1.cell 0
  have HG := Lib.hid hg
  clear hg h0 h1 hN
  unfold pV at HG ⊢
  go_enter Tryd.func55, Tryd.ntmps55
  go_wp2_with fail
  refine HG.out.mono ?_
  rintro _ w2 ⟨rfl, h2, o2⟩
  have H2 := Lib.hid (And.intro h2 o2)
  clear h2 o2 HG
  go_wp2_with fail
  exact body_end rfl rfl ⟨rfl, by simpa using H2.out.1, H2.out.2⟩
set_option maxRecDepth 100000 in
set_option maxHeartbeats 4000000 in
theorem grow_two {b kb cap c1 c2 : Nat} {by_ p1 s0 s1 p2 u0 u1 : Int} {w : World} (hP : BN w b (nodeC kb 2 cap 1)) (hR : RowAt w kb cap [pV c1, pV c2]) (h1 : BN w c1 (leafC p1 s0 s1)) (h2 : BN w c2 (leafC p2 u0 u1)) (h12 : c1 ≠ c2) (hk1 : kb ≠ c1) (hk2 : kb ≠ c2)
    (hs : 0 ≤ s0 ∧ s0 ≤ 100000 ∧ 0 ≤ s1 ∧ s1 ≤ 100000 ∧ 0 ≤ by_ ∧ by_ ≤ 100000) (hu : 0 ≤ u0 ∧ u0 ≤ 100000 ∧ 0 ≤ u1 ∧ u1 ≤ 100000) :
    Calls Tryd.prog 32 #[pV b, .int .i64 0, .int .i64 by_] w fun e w' => e = .returned (.tuple #[]) ∧ BN w' c1 (leafC p1 (s0 + by_) s1) ∧ BN w' c2 (leafC p2 (u0 + by_) u1) ∧ Only [c1, c2] w w' := by
  have hb0 : Below w.heap.size w ((w.alloc (.cells #[.int .i64 0] 50)).alloc (.cells #[.int .i64 by_] 3)) := ((Below.refl _ _).alloc (Nat.le_refl _) _).alloc (by simp) _
  have hA := (BL.new w 50 [.int .i64 0]).alloc (.cells #[.int .i64 by_] 3)
  have hB := BL.new (w.alloc (.cells #[.int .i64 0] 50)) 3 [.int .i64 by_]
  rw [size_alloc] at hB
  have l1 := h1.lt
  have l2 := h2.lt
  have HP := Lib.hid hP
  have HR := Lib.hid hR
  have H1 := Lib.hid h1
  have H2 := Lib.hid h2
  clear hP hR h1 h2
  unfold pV
  go_enter Tryd.func32, Tryd.ntmps32
  go_upto_region 2 with fail
  generalize ((w.alloc (.cells #[.int .i64 0] 50)).alloc (.cells #[.int .i64 by_] 3)) = X at *
  have hall : ∀ V, Below w.heap.size w V → V.cell? ⟨b, 3, none⟩ = some (.int .i64 1) ∧ V.cell? ⟨b, 4, none⟩ = some (.slice (some ⟨kb, 0, none⟩) 2 cap) := fun V hV => by
    have h := HP.out.only (Only.of_below (F := []) hV) (by simp)
    exact ⟨h.cell 3, h.cell 4⟩
  obtain ⟨e3, e4⟩ := hall X hb0
  have il := isLeaf_at b 2 cap (some ⟨kb, 0, none⟩) X e4
  have ed : decide ((2 : Nat) = 0) = false := rfl
  rw [ed] at il
  go_wp2_with fail
  refine il.mono ?_
  rintro _ w1 ⟨rfl, rfl⟩
  have a0 : X.cell? ⟨w.heap.size, 0, none⟩ = some (.int .i64 0) := hA.cell 0
  go_wp2_with fail
  go_quiet (fail)
  have hbq : Below w.heap.size w (X.drewN nq) := drewN_below hb0 nq
  have hAq : BL (X.drewN nq) w.heap.size 50 [.int .i64 0] := hA
  have hBq : BL (X.drewN nq) (w.heap.size + 1) 3 [.int .i64 by_] := hB
  generalize X.drewN nq = V at *
  obtain ⟨e3, e4⟩ := hall V hbq
  have ke := each_at b kb 2 cap (some ⟨kb, 0, none⟩) 55 #[pV w.heap.size, pV (w.heap.size + 1)] (fun i => [pV c1, pV c2].getD i undef)
    (fun i Y => BL Y w.heap.size 50 [.int .i64 0] ∧ BL Y (w.heap.size + 1) 3 [.int .i64 by_] ∧ BN Y c1 (leafC p1 (if 0 < i then s0 + by_ else s0) s1) ∧ BN Y c2 (leafC p2 (if 1 < i then u0 + by_ else u0) u1) ∧ Only [c1, c2] w Y) V
    (enters_of Tryd.func55 (by kernel_rfl) rfl) e4 (fun _ => rfl)
    (fun i Y hi hY => by
      have hr := (HR.out.only hY.2.2.2.2 (by simp [hk1, hk2])).cell (i := i) (by simpa using hi)
      exact hr.trans (getD_some (by simpa using hi)))
    (fun i Y hi hY => by
      obtain ⟨q0, q1, q2, q3, q4⟩ := hY
      match i, hi with
      | 0, _ =>
        refine (grow1_at (c := c1) q0 q1 (by simpa using q2) (by omega)).mono ?_
        rintro e Z ⟨rfl, z1, z2⟩
        refine ⟨rfl, q0.only z2 (by simp; omega), q1.only z2 (by simp; omega), by simpa using z1, (q3.only z2 (by simpa using fun e : c2 = c1 => h12 e.symm)), q4.trans (z2.mono (by simp))⟩
      | 1, _ =>
        refine (grow1_at (c := c2) q0 q1 (by simpa using q3) (by omega)).mono ?_
        rintro e Z ⟨rfl, z1, z2⟩
        refine ⟨rfl, q0.only z2 (by simp; omega), q1.only z2 (by simp; omega), (q2.only z2 (by simpa using h12)), by simpa using z1, q4.trans (z2.mono (by simp))⟩)
    ⟨hAq, hBq, by simpa using H1.out.only (Only.of_below (F := []) hbq) (by simp), by simpa using H2.out.only (Only.of_below (F := []) hbq) (by simp), Only.of_below hbq⟩ (by omega)
  have KE := Lib.hid ke
  clear ke hAq hBq hA hB hall il
  unfold pV at KE
  go_wp2_with fail
  refine KE.out.mono ?_
  rintro _ w5 ⟨rfl, _, _, r1, r2, r3⟩
  have RR := Lib.hid (And.intro r1 (And.intro r2 r3))
  clear r1 r2 r3 KE
  go_wp2_with fail
  exact body_end rfl rfl ⟨rfl, RR.out.1, RR.out.2.1, RR.out.2.2⟩
end Go.Proofs.YtkanglfpiahecaaDoor.Lyt
/- The law's own small functions: pick, sameBoxes of boxes that are the same. -/
namespace Go.Proofs.YtkanglfpiahecaaDoor.Lyt
open Go.RowKit

/-- Which of so many things a raw number speaks of. -/
def pickS (n m : Int) : Int := if n < 0 then (-(n + 1)) % m else n % m
set_option maxRecDepth 100000 in
theorem pick7 (n m : Int) (h0 : -9223372036854775808 ≤ n) (h1 : n ≤ 9223372036854775807) (hm0 : 0 < m) (hm1 : m ≤ 16777216) (w : World) :
    Calls Tryd.prog 7 #[.int .i64 n, .int .i64 m] w fun e w' => e = .returned (.int .i64 (pickS n m)) ∧ w = w' := by
  by_cases hn : n < 0
  · have HE : Hid (pickS n m = -((n + 1).tmod m)) := by show _ = _; unfold pickS; rw [if_pos hn, ← Int.neg_tmod, Int.tmod_eq_emod_of_nonneg (by omega)]
    have hmz : m ≠ 0 := by omega
    go_enter Tryd.func7, Tryd.ntmps7
    go_wp2_with fail
    go_ret
    exact ⟨by rw [HE.out]; rfl, rfl⟩
  · have HE : Hid (pickS n m = n % m) := by show _ = _; unfold pickS; rw [if_neg hn]
    have hmz : m ≠ 0 := by omega
    go_enter Tryd.func7, Tryd.ntmps7
    go_wp2_with fail
    go_ret
    exact ⟨by rw [HE.out]; rfl, rfl⟩
theorem pickS_in (n m : Int) (hm : 0 < m) : ∃ k : Nat, pickS n m = (k : Int) ∧ (k : Int) < m := by
  have h : 0 ≤ pickS n m ∧ pickS n m < m := by
    unfold pickS
    split
    · exact ⟨Int.emod_nonneg _ (by omega), Int.emod_lt_of_pos _ hm⟩
    · exact ⟨Int.emod_nonneg _ (by omega), Int.emod_lt_of_pos _ hm⟩
  exact ⟨(pickS n m).toNat, by omega, by omega⟩
theorem bx_cell {l : List Bx} {i : Nat} {b : Bx} (h : l[i]? = some b) (j : Nat) (hj : j < 5) : (l.flatMap bxC)[i * 5 + j]? = (bxC b)[j]? := by
  induction l generalizing i with
  | nil => simp at h
  | cons a l ih =>
    rw [List.flatMap_cons]
    cases i with
    | zero =>
      obtain rfl : a = b := by simpa using h
      rw [Nat.zero_mul, Nat.zero_add, List.getElem?_append_left (by simpa [bxC] using hj)]
    | succ i =>
      rw [List.getElem?_append_right (by simp [bxC]; omega)]
      have e : (i + 1) * 5 + j - (bxC a).length = i * 5 + j := by simp [bxC]; omega
      rw [e]
      exact ih (by simpa using h)
set_option maxRecDepth 100000 in
set_option maxHeartbeats 4000000 in
theorem same_yes {l : List Bx} {w : World} {g1 c1 g2 c2 : Nat} (ha : ∀ (j : Nat) u, (l.flatMap bxC)[j]? = some u → w.cell? ⟨g1, j, none⟩ = some u) (hb : ∀ (j : Nat) u, (l.flatMap bxC)[j]? = some u → w.cell? ⟨g2, j, none⟩ = some u) (hl : l.length ≤ 1000000) :
    Calls Tryd.prog 18 #[.slice (some ⟨g1, 0, none⟩) l.length c1, .slice (some ⟨g2, 0, none⟩) l.length c2] w fun e w' => e = .returned (.bool true) ∧ Below w.heap.size w w' := by
  have HA := Lib.hid ha
  have HB := Lib.hid hb
  clear ha hb
  go_enter Tryd.func18, Tryd.ntmps18
  go_wp2_with fail
  go_loopw [5] (fun i wr => ∃ j : Nat, j ≤ l.length ∧ i = .int .i64 (j : Int) ∧ Below w.heap.size w wr ∧ (∀ a v, w.cell? a = some v → wr.cell? a = some v)) (fun i _ => l.length - (intOf i).toNat)
  case atStart => exact ⟨0, Nat.zero_le _, rfl, Below.refl _ _, fun _ _ h => h⟩
  case round =>
    obtain ⟨j, hj, rfl, hbl, hkp⟩ := hrel
    by_cases hlt : j < l.length
    · have j1 : (j : Int) < (l.length : Int) := by omega
      obtain ⟨⟨b0, b1, b2, b3, b4⟩, hbx⟩ : ∃ b, l[j]? = some b := ⟨_, List.getElem?_eq_getElem hlt⟩
      have f := fun k hk => bx_cell hbx k hk
      have x0 : wr.drew.cell? ⟨g1, j * 5, none⟩ = some (.int .i64 b0) := hkp _ _ (HA.out _ _ (f 0 (by omega)))
      have x1 : wr.drew.cell? ⟨g1, j * 5 + 1, none⟩ = some (.int .i64 b1) := hkp _ _ (HA.out _ _ (f 1 (by omega)))
      have x2 : wr.drew.cell? ⟨g1, j * 5 + 2, none⟩ = some (.int .i64 b2) := hkp _ _ (HA.out _ _ (f 2 (by omega)))
      have x3 : wr.drew.cell? ⟨g1, j * 5 + 3, none⟩ = some (.int .i64 b3) := hkp _ _ (HA.out _ _ (f 3 (by omega)))
      have x4 : wr.drew.cell? ⟨g1, j * 5 + 4, none⟩ = some (.int .i64 b4) := hkp _ _ (HA.out _ _ (f 4 (by omega)))
      have y0 : wr.drew.cell? ⟨g2, j * 5, none⟩ = some (.int .i64 b0) := hkp _ _ (HB.out _ _ (f 0 (by omega)))
      have y1 : wr.drew.cell? ⟨g2, j * 5 + 1, none⟩ = some (.int .i64 b1) := hkp _ _ (HB.out _ _ (f 1 (by omega)))
      have y2 : wr.drew.cell? ⟨g2, j * 5 + 2, none⟩ = some (.int .i64 b2) := hkp _ _ (HB.out _ _ (f 2 (by omega)))
      have y3 : wr.drew.cell? ⟨g2, j * 5 + 3, none⟩ = some (.int .i64 b3) := hkp _ _ (HB.out _ _ (f 3 (by omega)))
      have y4 : wr.drew.cell? ⟨g2, j * 5 + 4, none⟩ = some (.int .i64 b4) := hkp _ _ (HB.out _ _ (f 4 (by omega)))
      have hbd : Below w.heap.size w wr.drew := hbl.drew
      have HKP := Lib.hid hkp
      clear hbx f hkp
      go_wp2_with fail
      go_region_law (first | fail)
      all_goals
        clear x0 x1 x2 x3 x4 y0 y1 y2 y3 y4
        go_wp2_with fail
        go_roundw
      all_goals first
        | exact ⟨j + 1, by omega, by go_num, hbd, fun a v h => HKP.out a v h⟩
        | (simp [intOf]; omega)
    · obtain rfl : j = l.length := by omega
      have HKP := Lib.hid hkp
      clear hkp
      go_wp2_with fail
      go_ret
      exact ⟨rfl, hbl⟩
end Go.Proofs.YtkanglfpiahecaaDoor.Lyt
