/- A list of calls of environments that came in, opened; its texts' lengths by their weights. -/
import Derived.Test.YthmadnadaakjaaaGreatDoorPOec
import Derived.Test.YthmadnadaakjaaaGreatDoorPOet
namespace Go.Proofs.YthmadnadaakjaaaGreatDoor.Opt.Ev
open Go.RowKit Go.ChangeShapes Go.WideShapes Go.ChangeAt Go.Joins Go.Proofs.YthmadnadaakjaaaGreatDoor.Opt

theorem k_int2 : Tryz.prog.cellsOf 3 = 1 := by kernel_rfl
theorem k_str2 : Tryz.prog.cellsOf 9 = 1 := by kernel_rfl
theorem k_var : Tryz.prog.cellsOf 44 = 4 := by kernel_rfl
structure VarV where
  on : Int
  kd : Int
  nm : Tx
  vl : Tx
def varvL (o : VarV) : List Value := [.int .i64 o.on, .int .i64 o.kd, .string (bs o.nm), .string (bs o.vl)]
def VarV.ok (o : VarV) : Prop := (-9223372036854775808 ≤ o.on ∧ o.on ≤ 9223372036854775807) ∧ (-9223372036854775808 ≤ o.kd ∧ o.kd ≤ 9223372036854775807) ∧ o.nm.length ≤ 140737488355328 ∧ o.vl.length ≤ 140737488355328
/-- Calls that can be read. -/
def RdV (w : World) (A : Option Addr) (n : Nat) (ops : Nat → VarV) : Prop := ∀ k, k < n → ∃ g o, A = some ⟨g, o, none⟩ ∧ g < w.heap.size ∧ (ops k).ok ∧ ∀ j, j < 4 → w.cell? ⟨g, o + k * 4 + j, none⟩ = (varvL (ops k))[j]?
section
variable {H : Type} {enc : TypeId × Value → H} {w : World}
theorem weights_mem {P : Program} {e : TypeId} {d : DataW H} {n : Nat} : ∀ {ds : List (DataW H)}, d ∈ ds → n ∈ d.weights P e → n ∈ DataW.weightsAll P e ds
  | a :: r, h, hn => by
    rw [DataW.weightsAll, List.mem_append]
    rcases List.mem_cons.1 h with rfl | h
    · exact .inl hn
    · exact .inr (weights_mem h hn)
set_option maxRecDepth 100000 in
theorem open_var {n : Nat} {cs : List Value} {y : DataW H × List MemPlace} (h : DataW.trod enc Tryz.prog w 0 (fun _ => true) true n 44 cs = some y) :
    ∃ o : VarV, cs = varvL o ∧ (-9223372036854775808 ≤ o.on ∧ o.on ≤ 9223372036854775807) ∧ (-9223372036854775808 ≤ o.kd ∧ o.kd ≤ 9223372036854775807) ∧ o.nm.length ∈ y.1.weights Tryz.prog 44 ∧ o.vl.length ∈ y.1.weights Tryz.prog 44 := by
  obtain ⟨xs, m, _, hx, hl, hlen, hf⟩ := DataW.trod_struct Tryz.underlying44 h
  rw [k_var] at hl
  match cs, hl, xs, hlen with
  | [c0, c1, c2, c3], _, [y0, y1, y2, y3], _ =>
    have g0 : DataW.trod enc Tryz.prog w 0 (fun _ => true) true m 3 [c0] = some y0 := by simpa [k_int2] using hf 0 _ rfl
    have g1 : DataW.trod enc Tryz.prog w 0 (fun _ => true) true m 3 [c1] = some y1 := by simpa [k_int2] using hf 1 _ rfl
    have g2 : DataW.trod enc Tryz.prog w 0 (fun _ => true) true m 9 [c2] = some y2 := by simpa [k_str2] using hf 2 _ rfl
    have g3 : DataW.trod enc Tryz.prog w 0 (fun _ => true) true m 9 [c3] = some y3 := by simpa [k_str2] using hf 3 _ rfl
    obtain ⟨a, e0, _, w0⟩ := DataW.trod_int Tryz.underlying3 g0
    obtain ⟨b, e1, _, w1⟩ := DataW.trod_int Tryz.underlying3 g1
    obtain ⟨s2, e2, rfl, _⟩ := DataW.trod_string Tryz.underlying9 g2
    obtain ⟨s3, e3, rfl, _⟩ := DataW.trod_string Tryz.underlying9 g3
    simp [Lit.wf, IntKind.min, IntKind.max, IntKind.signed, IntKind.bits] at w0 w1
    injection e0 with e0
    injection e1 with e1
    injection e2 with e2
    injection e3 with e3
    have hy : y.1 = .agg [y0.1, y1.1, .lit (.string s2.data.toList), .lit (.string s3.data.toList)] := by rw [hx]; rfl
    have hwt : y.1.weights Tryz.prog 44 = y0.1.weights Tryz.prog 3 ++ (y1.1.weights Tryz.prog 3 ++ ([s2.data.toList.length] ++ ([s3.data.toList.length] ++ []))) := by
      rw [hy, DataW.weights, Tryz.underlying44]
      rfl
    refine ⟨⟨a, b, s2.data.toList, s3.data.toList⟩, ?_, w0, w1, ?_, ?_⟩
    · unfold varvL
      simp only
      rw [← bs_of, ← bs_of, e0, e1, e2, e3]
    · rw [hwt]; simp
    · rw [hwt]; simp
set_option maxRecDepth 100000 in
theorem open_vars {r : Reach} {b0 : Nat} {v : Value} {d : DataW H} {p : List MemPlace}
    (hv : Value.okWide Tryz.prog w r b0 38 v) (h : DataW.Trod enc Tryz.prog w 0 (fun _ => true) true 38 v d p) (hk : ∀ n ∈ d.weights Tryz.prog 38, n ≤ 140737488351232) :
    ∃ (A : Option Addr) (n c : Nat) (ops : Nat → VarV), v = .slice A n c ∧ RdV w A n ops ∧ n ≤ 9223372036854775807 := by
  obtain ⟨a0, n0, c0, rfl⟩ := okWide_slice Tryz.underlying38 hv
  obtain ⟨fuel, hf⟩ := h
  rcases DataW.trod_slice Tryz.underlying38 hf with ⟨e, _⟩ | ⟨a, len, cap, elems, rest, n, _, e, hx, _, hl, hm, hel, hat, _, _⟩
  · simp [Value.cells] at e
    obtain ⟨rfl, rfl, rfl⟩ := e
    exact ⟨none, 0, 0, fun _ => ⟨0, 0, [], []⟩, rfl, (fun k hk => by simp at hk), by simp⟩
  · simp [Value.cells] at e
    obtain ⟨rfl, rfl, rfl⟩ := e
    have hd : d = .slice (elems.map (·.1)) (rest.map (·.1)) := congrArg Prod.fst hx
    have hwt : ∀ y ∈ elems, ∀ n ∈ y.1.weights Tryz.prog 44, n ≤ 140737488351232 := fun y hy n hn => by
      refine hk n ?_
      rw [hd, DataW.weights, Tryz.underlying38]
      refine List.mem_cons_of_mem _ (List.mem_append.2 (.inl ?_))
      exact weights_mem (List.mem_map.2 ⟨y, hy, rfl⟩) hn
    unfold maxLen at hm
    rw [k_var] at hat
    have hex : ∀ k, ∃ o : VarV, k < n0 → o.ok ∧ ∀ j, j < 4 → w.cell? ((a.add (k * 4)).add j) = (varvL o)[j]? := fun k => by
      by_cases hk : k < n0
      · have h1 := hat k hk
        have hke : k < elems.length := by omega
        rw [List.getElem?_eq_getElem hke] at h1
        obtain ⟨cs, hcs, ht⟩ := Option.bind_eq_some_iff.1 h1
        obtain ⟨o, rfl, h2, h3, h4, h5⟩ := open_var ht
        have h6 := hwt _ (List.getElem_mem hke) _ h4
        have h7 := hwt _ (List.getElem_mem hke) _ h5
        obtain ⟨_, _, hc⟩ := World.cells?_some hcs
        exact ⟨o, fun _ => ⟨⟨h2, h3, by omega, by omega⟩, hc⟩⟩
      · exact ⟨⟨0, 0, [], []⟩, fun h => absurd h hk⟩
    obtain ⟨ops, hops⟩ : ∃ ops : Nat → VarV, ∀ k, k < n0 → (ops k).ok ∧ ∀ j, j < 4 → w.cell? ((a.add (k * 4)).add j) = (varvL (ops k))[j]? := ⟨fun k => Classical.choose (hex k), fun k => Classical.choose_spec (hex k)⟩
    clear hex hat hx hf hv hk hd hwt
    refine ⟨some a, n0, c0, ops, rfl, fun k hk => ?_, by omega⟩
    have h0 := (hops 0 (by omega)).2 0 (by omega)
    obtain ⟨hok, hcell⟩ := hops k hk
    clear hops
    obtain ⟨g, o, sp⟩ := a
    have e0 : (((⟨g, o, sp⟩ : Addr).add (0 * 4)).add 0) = ⟨g, o, sp⟩ := by unfold Addr.add; simp
    rw [e0] at h0
    have h0' : w.cell? ⟨g, o, sp⟩ = some (.int .i64 (ops 0).on) := h0
    clear h0 e0
    have hsn : sp = none := by
      unfold World.cell? at h0'
      cases sp with
      | none => rfl
      | some x => simp at h0'; split at h0' <;> simp at h0'
    subst hsn
    have hg : g < w.heap.size := by
      rcases Nat.lt_or_ge g w.heap.size with q | q
      · exact q
      · unfold World.cell? at h0'
        simp [Array.getElem?_eq_none q] at h0'
    refine ⟨g, o, rfl, hg, hok, fun j hj => ?_⟩
    have h1 := hcell j hj
    have ek : (((⟨g, o, none⟩ : Addr).add (k * 4)).add j) = ⟨g, o + k * 4 + j, none⟩ := by
      unfold Addr.add
      by_cases hk0 : k * 4 = 0
      · by_cases hj0 : j = 0
        · simp [hk0, hj0]
        · simp [hk0, hj0]
      · by_cases hj0 : j = 0
        · simp [hk0, hj0]
        · simp [hk0, hj0]
    rw [ek] at h1
    exact h1
end
end Go.Proofs.YthmadnadaakjaaaGreatDoor.Opt.Ev
/- The law on environments. -/
namespace Go.Proofs.YthmadnadaakjaaaGreatDoor.Opt.Ev
open Go.RowKit Go.Maps Go.Proofs.YthmadnadaakjaaaGreatDoor.Opt

/-- How the loop's head stands. -/
def LoopS (w : World) (ba bb bc bd k : Nat) (wr : World) : Prop := ∃ D es, SVu w ba bb bc bd [] (fun _ => none) (2 * k) D es wr ∧ Rels D es
theorem RdV.below {w w' : World} {A : Option Addr} {n : Nat} {ops : Nat → VarV} (h : RdV w A n ops) (hb : Below w.heap.size w w') {k : Nat} (hk : k < n) : ∃ g o, A = some ⟨g, o, none⟩ ∧ (ops k).ok ∧ ∀ j, j < 4 → w'.cell? ⟨g, o + k * 4 + j, none⟩ = (varvL (ops k))[j]? := by
  obtain ⟨g, o, h1, h2, h3, h4⟩ := h k hk
  exact ⟨g, o, h1, h3, fun j hj => (hb.cell (p := ⟨g, o + k * 4 + j, none⟩) h2).trans (h4 j hj)⟩
section
variable {w wr w' : World} {ba bb bc bd k : Nat} {E : List Nat} {K : Nat → Option Obj} {D : Bool → DataW Value} {es : Bool → List En} {nm v : Tx}
/-- What is left behind one call. -/
structure Next (w : World) (ba bb bc bd k : Nat) (vb : Nat) (o : VarV) (wr : World) : Prop where
  sv : ∃ D es, SVu w ba bb bc bd [vb] (fun _ => some (.cells (varvL o).toArray 44 (0, 0))) k D es wr ∧ Rels D es
theorem Next.cell2 {vb : Nat} {o : VarV} (h : Next w ba bb bc bd k vb o wr) : wr.cell? ⟨vb, 2, none⟩ = some (.string (bs o.nm)) := by
  obtain ⟨D, es, h, -⟩ := h.sv
  exact (SV.bl h).cell 2
end
set_option maxRecDepth 100000 in
set_option maxHeartbeats 16000000 in
theorem env_walk {B : Nat} (A : Option Addr) (n c : Nat) (ops : Nat → VarV) (w : World) (ht : Tabs B w) (hB : B ≤ w.heap.size) (hro : RdV w A n ops) (_hn : n ≤ 9223372036854775807) :
    Calls Tryz.prog 4 #[.slice A n c] w fun e w' => e = .returned (.bool true) ∧ Below w.heap.size w w' := by
  have HS := Lib.hid (shown_any w ht hB)
  have HRO := Lib.hid hro
  clear ht hB hro
  go_enter Tryz.func4, Tryz.ntmps4
  go_wp2_with fail
  refine HS.out.mono ?_
  rintro e w1 ⟨rfl, hb1⟩
  have HB1 := Lib.hid hb1
  clear hb1 HS
  go_wp2_with fail
  refine (new_nil w1).mono ?_
  rintro e w2 ⟨rfl, hA, hb2⟩
  have HA := Lib.hid hA
  have HB2 := Lib.hid hb2
  clear hA hb2
  go_wp2_with fail
  refine (new_over w1.heap.size w2).mono ?_
  rintro e w3 ⟨rfl, hE, hb3⟩
  have HE := Lib.hid hE
  have HB3 := Lib.hid hb3
  clear hE hb3
  go_wp2_with fail
  refine (rnew_any none w3).mono ?_
  rintro e w4 ⟨rfl, hC, hb4⟩
  have HC := Lib.hid hC
  have HB4 := Lib.hid hb4
  clear hC hb4
  go_wp2_with fail
  refine (rnew_any (some ⟨w3.heap.size, 0, none⟩) w4).mono ?_
  rintro e w5 ⟨rfl, hD, hb5⟩
  have HL0 := Lib.hid (show LoopS w w1.heap.size w2.heap.size w3.heap.size w4.heap.size 0 w5 from ⟨_, _, SV.start HB1.out HA.out HB2.out HE.out HB3.out HC.out HB4.out rfl hD hb5, Rels.start⟩)
  clear hD hb5 HA HB2 HE HB3 HC HB4 HB1
  generalize w1.heap.size = ba at *
  generalize w2.heap.size = bb at *
  generalize w3.heap.size = bc at *
  generalize w4.heap.size = bd at *
  clear w1 w2 w3 w4
  go_wp2_with fail
  go_loopw [8] (fun i wr => ∃ k : Nat, k ≤ n ∧ k ≤ 100 ∧ i = .int .i64 (k : Int) ∧ Hid (LoopS w ba bb bc bd k wr)) (fun i _ => n - (intOf i).toNat)
  case atStart => exact ⟨0, Nat.zero_le _, Nat.zero_le _, rfl, HL0⟩
  case round =>
    obtain ⟨k, hk, hk100, rfl, hLS⟩ := hrel
    clear HL0
    have i0 : (0 : Int) ≤ (k : Int) := Int.natCast_nonneg _
    by_cases hgo : k < n ∧ k < 100
    · obtain ⟨hlt, hlt2⟩ := hgo
      have i1 : (k : Int) < (n : Int) := by omega
      have i2 : (k : Int) < 100 := by omega
      obtain ⟨D, es, hSV, hR⟩ := hLS.out
      clear hLS
      obtain ⟨go, oo, rfl, hok, hcell⟩ := HRO.out.below (SV.fr hSV) hlt
      obtain ⟨o, ho⟩ : ∃ o, ops k = o := ⟨_, rfl⟩
      rw [ho] at hok hcell
      obtain ⟨on, kd, nm, vl⟩ := o
      obtain ⟨⟨ho0, ho1⟩, ⟨hk0, hk1⟩, hnl, hvl⟩ := hok
      simp only at ho0 ho1 hk0 hk1 hnl hvl
      have q0 : wr.cell? ⟨go, oo + k * 4, none⟩ = some (.int .i64 on) := hcell 0 (by omega)
      have q1 : wr.cell? ⟨go, oo + k * 4 + 1, none⟩ = some (.int .i64 kd) := hcell 1 (by omega)
      have q2 : wr.cell? ⟨go, oo + k * 4 + 2, none⟩ = some (.string (bs nm)) := hcell 2 (by omega)
      have q3 : wr.cell? ⟨go, oo + k * 4 + 3, none⟩ = some (.string (bs vl)) := hcell 3 (by omega)
      have hBL := BL.new wr 44 [.int .i64 on, .int .i64 kd, .string (bs nm), .string (bs vl)]
      have hS1 : SVu w ba bb bc bd [wr.heap.size] (fun _ => some (.cells #[.int .i64 on, .int .i64 kd, .string (bs nm), .string (bs vl)] 44 (0, 0))) (2 * k) D es (wr.alloc (.cells #[.int .i64 on, .int .i64 kd, .string (bs nm), .string (bs vl)] 44 (0, 0))) := SV.hold hSV rfl rfl
      have p1 := pick8 on 2 ho0 ho1 (by decide) (by decide)
      have p2 := pick8 kd 3 hk0 hk1 (by decide) (by decide)
      obtain ⟨a, ha, ha2⟩ := pickS_in on 2 (by decide)
      obtain ⟨b, hb, hb2⟩ := pickS_in kd 3 (by decide)
      rw [ha] at p1
      rw [hb] at p2
      have P1 := Lib.hid p1
      have P2 := Lib.hid p2
      have HSV := Lib.hid hS1
      have HR := Lib.hid hR
      clear p1 p2 ha hb hcell ho hSV hR hS1 ho0 ho1 hk0 hk1
      have hnm : nm.length ≤ maxLen := by unfold maxLen; omega
      have hk9 : 2 * k < 900 := by omega
      have k0 := hBL.cell 0
      have k1 := hBL.cell 1
      have k2 := hBL.cell 2
      have k3 := hBL.cell 3
      clear hBL
      have hab : a = 0 ∨ a = 1 := by omega
      have hbb : b = 0 ∨ b = 1 ∨ b = 2 := by omega
      clear ha2 hb2
      rcases hab with rfl | rfl
      · by_cases hb0 : b = 0
        · subst hb0
          clear hbb
          obtain ⟨Dn, en, hRn, hX, hY⟩ := unset_two (w := w) (ba := ba) (bb := bb) (bc := bc) (bd := bd) (E := [wr.heap.size]) (K := (fun _ => some (.cells #[.int .i64 on, .int .i64 kd, .string (bs nm), .string (bs vl)] 44 (0, 0)))) false HR.out hnl
          have HX := Lib.hid hX
          have HY := Lib.hid hY
          have HRn := Lib.hid hRn
          clear hRn hX hY HR
          go_wp2_with fail
          refine (P1.out _).mono ?_
          rintro e w6 ⟨rfl, rfl⟩
          go_wp2_with fail
          refine (P2.out _).mono ?_
          rintro e w7 ⟨rfl, rfl⟩
          clear P1 P2
          go_wp2_with fail
          generalize (wr.alloc (.cells #[.int .i64 on, .int .i64 kd, .string (bs nm), .string (bs vl)] 44)) = W at *
          generalize wr.heap.size = vb at *
          refine (HX.out _ _ _ HSV.out (by omega)).mono ?_
          rintro e w8 ⟨rfl, hS8⟩
          have HS8 := Lib.hid hS8
          have c2 := (SV.bl hS8).cell 2
          clear hS8 HSV k0 k1 k2 k3 HX
          go_wp2_with fail
          refine (HY.out _ _ _ HS8.out (by omega)).mono ?_
          rintro e w9 ⟨rfl, hS2⟩
          clear c2 HS8 HY
          have c2 := (SV.bl hS2).cell 2
          go_wp2_with fail
          obtain ⟨s, hd, hg⟩ := getV_pair (rlook (rls en true) nm)
          have hP := p_get (wr := _) true hS2 HRn.out hnm
          rw [hg] at hP
          refine hP.mono ?_
          clear hP
          rintro e w8 ⟨rfl, hS8, -⟩
          clear hS2 c2
          have HS8 := Lib.hid hS8
          have c2 := (SV.bl hS8).cell 2
          clear hS8
          go_wp2_with fail
          have hP := r_get true HS8.out (by omega) (nm := nm)
          rw [hg] at hP
          refine hP.mono ?_
          clear hP c2 hg
          rintro e w9 ⟨rfl, hS9, -⟩
          have HS9 := Lib.hid hS9
          clear hS9 HS8
          go_wp2_with fail
          refine (p_names false HS9.out (by omega) HRn.out).mono ?_
          rintro e w10 ⟨va, rfl, hna, hS10, -⟩
          have HS10 := Lib.hid hS10
          have HNA := Lib.hid hna
          clear hS10 hna HS9
          go_wp2_with fail
          refine (r_names false HS10.out (by omega) HRn.out).mono ?_
          rintro e w11 ⟨vb2, rfl, hnb, hS11, hb11⟩
          have HS11 := Lib.hid hS11
          have HNA2 := Lib.hid (HNA.out.below hb11)
          have HNB := Lib.hid hnb
          clear hS11 hnb hb11 HS10 HNA
          go_wp2_with fail
          refine (texts_same HS11.out HNA2.out HNB.out (nameL_le false HS11.out (by omega) HRn.out)).mono ?_
          rintro e w12 ⟨rfl, hS12⟩
          have HS12 := Lib.hid hS12
          clear hS12 HS11 HNA2 HNB
          go_wp2_with fail
          refine (p_names true HS12.out (by omega) HRn.out).mono ?_
          rintro e w13 ⟨va3, rfl, hna, hS13, -⟩
          have HS13 := Lib.hid hS13
          have HNA := Lib.hid hna
          clear hS13 hna HS12
          go_wp2_with fail
          refine (r_names true HS13.out (by omega) HRn.out).mono ?_
          rintro e w14 ⟨vb4, rfl, hnb, hS14, hb14⟩
          have HS14 := Lib.hid hS14
          have HNA2 := Lib.hid (HNA.out.below hb14)
          have HNB := Lib.hid hnb
          clear hS14 hnb hb14 HS13 HNA
          go_wp2_with fail
          refine (texts_same HS14.out HNA2.out HNB.out (nameL_le true HS14.out (by omega) HRn.out)).mono ?_
          rintro e w15 ⟨rfl, hS15⟩
          have HLN := Lib.hid (show LoopS w ba bb bc bd (k + 1) w15 from ⟨_, _, SV.drop hS15, HRn.out⟩)
          clear hS15 HS14 HNA2 HNB
          go_wp2_with fail
          go_roundw
          case rel => exact ⟨k + 1, by omega, by omega, by go_num, HLN⟩
          case measure => simp [intOf]; omega
        · have hbn : ((b : Int) == 0) = false := by rw [beq_eq_false_iff_ne]; omega
          clear hbb hb0
          obtain ⟨Z, Dn, en, hRn, hX, hY⟩ := set_two (w := w) (ba := ba) (bb := bb) (bc := bc) (bd := bd) (E := [wr.heap.size]) (K := (fun _ => some (.cells #[.int .i64 on, .int .i64 kd, .string (bs nm), .string (bs vl)] 44 (0, 0)))) false HR.out hnl hvl
          have HX := Lib.hid hX
          have HY := Lib.hid hY
          have HRn := Lib.hid hRn
          have SS : ∀ V, (∃ k' D' es', SVu w ba bb bc bd [wr.heap.size] (fun _ => some (.cells #[.int .i64 on, .int .i64 kd, .string (bs nm), .string (bs vl)] 44 (0, 0))) k' D' es' V) → (V.cell? ⟨wr.heap.size, 2, none⟩ = some (.string (bs nm)) ∧ V.cell? ⟨wr.heap.size, 3, none⟩ = some (.string (bs vl))) := fun V ⟨_, _, _, h⟩ => ⟨(SV.bl h).cell 2, (SV.bl h).cell 3⟩
          clear hRn hX hY HR
          go_wp2_with fail
          refine (P1.out _).mono ?_
          rintro e w6 ⟨rfl, rfl⟩
          go_wp2_with fail
          refine (P2.out _).mono ?_
          rintro e w7 ⟨rfl, rfl⟩
          clear P1 P2
          go_wp2_with fail
          have s0 : SVu w ba bb bc bd [wr.heap.size] (fun _ => some (.cells #[.int .i64 on, .int .i64 kd, .string (bs nm), .string (bs vl)] 44 (0, 0))) (2 * k) D es (wr.alloc (.cells #[.int .i64 on, .int .i64 kd, .string (bs nm), .string (bs vl)] 44)).drew := SV.below HSV.out (Below.refl _ _).drew
          generalize (wr.alloc (.cells #[.int .i64 on, .int .i64 kd, .string (bs nm), .string (bs vl)] 44)) = W at *
          generalize wr.heap.size = vb at *
          go_region_held3 (fun V => V.cell? ⟨vb, 2, none⟩ = some (.string (bs nm)) ∧ V.cell? ⟨vb, 3, none⟩ = some (.string (bs vl)))
            (first
              | (exact SS _ ⟨_, _, _, by assumption⟩)
              | fail)
            (first
              | (go_at_call 25; refine (HX.out _ _ _ (by assumption) (by omega)).mono ?_; rintro _ w8 ⟨rfl, h8⟩)
              | (go_at_call 26; refine (HY.out _ _ _ (by assumption) (by omega)).mono ?_; rintro _ w9 ⟨rfl, h9⟩))
          all_goals
            first | (have hS2 : SVu w ba bb bc bd [vb] (fun _ => some (.cells #[.int .i64 on, .int .i64 kd, .string (bs nm), .string (bs vl)] 44 (0, 0))) (2 * k + 1 + 1) Dn en w9 := h9) | (have hS2 : SVu w ba bb bc bd [vb] (fun _ => some (.cells #[.int .i64 on, .int .i64 kd, .string (bs nm), .string (bs vl)] 44 (0, 0))) (2 * k + 1 + 1) Dn en w8 := h8)
            clear SS HX HY s0 HSV h8 h9 k0 k1 k2 k3
            have c2 := (SV.bl hS2).cell 2
            go_wp2_with fail
            obtain ⟨s, hd, hg⟩ := getV_pair (rlook (rls en true) nm)
            have hP := p_get (wr := _) true hS2 HRn.out hnm
            rw [hg] at hP
            refine hP.mono ?_
            clear hP
            rintro e w8 ⟨rfl, hS8, -⟩
            clear hS2 c2
            have HS8 := Lib.hid hS8
            have c2 := (SV.bl hS8).cell 2
            clear hS8
            go_wp2_with fail
            have hP := r_get true HS8.out (by omega) (nm := nm)
            rw [hg] at hP
            refine hP.mono ?_
            clear hP c2 hg
            rintro e w9 ⟨rfl, hS9, -⟩
            have HS9 := Lib.hid hS9
            clear hS9 HS8
            go_wp2_with fail
            refine (p_names false HS9.out (by omega) HRn.out).mono ?_
            rintro e w10 ⟨va, rfl, hna, hS10, -⟩
            have HS10 := Lib.hid hS10
            have HNA := Lib.hid hna
            clear hS10 hna HS9
            go_wp2_with fail
            refine (r_names false HS10.out (by omega) HRn.out).mono ?_
            rintro e w11 ⟨vb2, rfl, hnb, hS11, hb11⟩
            have HS11 := Lib.hid hS11
            have HNA2 := Lib.hid (HNA.out.below hb11)
            have HNB := Lib.hid hnb
            clear hS11 hnb hb11 HS10 HNA
            go_wp2_with fail
            refine (texts_same HS11.out HNA2.out HNB.out (nameL_le false HS11.out (by omega) HRn.out)).mono ?_
            rintro e w12 ⟨rfl, hS12⟩
            have HS12 := Lib.hid hS12
            clear hS12 HS11 HNA2 HNB
            go_wp2_with fail
            refine (p_names true HS12.out (by omega) HRn.out).mono ?_
            rintro e w13 ⟨va3, rfl, hna, hS13, -⟩
            have HS13 := Lib.hid hS13
            have HNA := Lib.hid hna
            clear hS13 hna HS12
            go_wp2_with fail
            refine (r_names true HS13.out (by omega) HRn.out).mono ?_
            rintro e w14 ⟨vb4, rfl, hnb, hS14, hb14⟩
            have HS14 := Lib.hid hS14
            have HNA2 := Lib.hid (HNA.out.below hb14)
            have HNB := Lib.hid hnb
            clear hS14 hnb hb14 HS13 HNA
            go_wp2_with fail
            refine (texts_same HS14.out HNA2.out HNB.out (nameL_le true HS14.out (by omega) HRn.out)).mono ?_
            rintro e w15 ⟨rfl, hS15⟩
            have HLN := Lib.hid (show LoopS w ba bb bc bd (k + 1) w15 from ⟨_, _, SV.drop hS15, HRn.out⟩)
            clear hS15 HS14 HNA2 HNB
            go_wp2_with fail
            go_roundw
            case rel => exact ⟨k + 1, by omega, by omega, by go_num, HLN⟩
            case measure => simp [intOf]; omega
      · by_cases hb0 : b = 0
        · subst hb0
          clear hbb
          obtain ⟨Dn, en, hRn, hX, hY⟩ := unset_two (w := w) (ba := ba) (bb := bb) (bc := bc) (bd := bd) (E := [wr.heap.size]) (K := (fun _ => some (.cells #[.int .i64 on, .int .i64 kd, .string (bs nm), .string (bs vl)] 44 (0, 0)))) true HR.out hnl
          have HX := Lib.hid hX
          have HY := Lib.hid hY
          have HRn := Lib.hid hRn
          clear hRn hX hY HR
          go_wp2_with fail
          refine (P1.out _).mono ?_
          rintro e w6 ⟨rfl, rfl⟩
          go_wp2_with fail
          refine (P2.out _).mono ?_
          rintro e w7 ⟨rfl, rfl⟩
          clear P1 P2
          go_wp2_with fail
          generalize (wr.alloc (.cells #[.int .i64 on, .int .i64 kd, .string (bs nm), .string (bs vl)] 44)) = W at *
          generalize wr.heap.size = vb at *
          refine (HX.out _ _ _ HSV.out (by omega)).mono ?_
          rintro e w8 ⟨rfl, hS8⟩
          have HS8 := Lib.hid hS8
          have c2 := (SV.bl hS8).cell 2
          clear hS8 HSV k0 k1 k2 k3 HX
          go_wp2_with fail
          refine (HY.out _ _ _ HS8.out (by omega)).mono ?_
          rintro e w9 ⟨rfl, hS2⟩
          clear c2 HS8 HY
          have c2 := (SV.bl hS2).cell 2
          go_wp2_with fail
          obtain ⟨s, hd, hg⟩ := getV_pair (rlook (rls en true) nm)
          have hP := p_get (wr := _) true hS2 HRn.out hnm
          rw [hg] at hP
          refine hP.mono ?_
          clear hP
          rintro e w8 ⟨rfl, hS8, -⟩
          clear hS2 c2
          have HS8 := Lib.hid hS8
          have c2 := (SV.bl hS8).cell 2
          clear hS8
          go_wp2_with fail
          have hP := r_get true HS8.out (by omega) (nm := nm)
          rw [hg] at hP
          refine hP.mono ?_
          clear hP c2 hg
          rintro e w9 ⟨rfl, hS9, -⟩
          have HS9 := Lib.hid hS9
          clear hS9 HS8
          go_wp2_with fail
          refine (p_names false HS9.out (by omega) HRn.out).mono ?_
          rintro e w10 ⟨va, rfl, hna, hS10, -⟩
          have HS10 := Lib.hid hS10
          have HNA := Lib.hid hna
          clear hS10 hna HS9
          go_wp2_with fail
          refine (r_names false HS10.out (by omega) HRn.out).mono ?_
          rintro e w11 ⟨vb2, rfl, hnb, hS11, hb11⟩
          have HS11 := Lib.hid hS11
          have HNA2 := Lib.hid (HNA.out.below hb11)
          have HNB := Lib.hid hnb
          clear hS11 hnb hb11 HS10 HNA
          go_wp2_with fail
          refine (texts_same HS11.out HNA2.out HNB.out (nameL_le false HS11.out (by omega) HRn.out)).mono ?_
          rintro e w12 ⟨rfl, hS12⟩
          have HS12 := Lib.hid hS12
          clear hS12 HS11 HNA2 HNB
          go_wp2_with fail
          refine (p_names true HS12.out (by omega) HRn.out).mono ?_
          rintro e w13 ⟨va3, rfl, hna, hS13, -⟩
          have HS13 := Lib.hid hS13
          have HNA := Lib.hid hna
          clear hS13 hna HS12
          go_wp2_with fail
          refine (r_names true HS13.out (by omega) HRn.out).mono ?_
          rintro e w14 ⟨vb4, rfl, hnb, hS14, hb14⟩
          have HS14 := Lib.hid hS14
          have HNA2 := Lib.hid (HNA.out.below hb14)
          have HNB := Lib.hid hnb
          clear hS14 hnb hb14 HS13 HNA
          go_wp2_with fail
          refine (texts_same HS14.out HNA2.out HNB.out (nameL_le true HS14.out (by omega) HRn.out)).mono ?_
          rintro e w15 ⟨rfl, hS15⟩
          have HLN := Lib.hid (show LoopS w ba bb bc bd (k + 1) w15 from ⟨_, _, SV.drop hS15, HRn.out⟩)
          clear hS15 HS14 HNA2 HNB
          go_wp2_with fail
          go_roundw
          case rel => exact ⟨k + 1, by omega, by omega, by go_num, HLN⟩
          case measure => simp [intOf]; omega
        · have hbn : ((b : Int) == 0) = false := by rw [beq_eq_false_iff_ne]; omega
          clear hbb hb0
          obtain ⟨Z, Dn, en, hRn, hX, hY⟩ := set_two (w := w) (ba := ba) (bb := bb) (bc := bc) (bd := bd) (E := [wr.heap.size]) (K := (fun _ => some (.cells #[.int .i64 on, .int .i64 kd, .string (bs nm), .string (bs vl)] 44 (0, 0)))) true HR.out hnl hvl
          have HX := Lib.hid hX
          have HY := Lib.hid hY
          have HRn := Lib.hid hRn
          have SS : ∀ V, (∃ k' D' es', SVu w ba bb bc bd [wr.heap.size] (fun _ => some (.cells #[.int .i64 on, .int .i64 kd, .string (bs nm), .string (bs vl)] 44 (0, 0))) k' D' es' V) → (V.cell? ⟨wr.heap.size, 2, none⟩ = some (.string (bs nm)) ∧ V.cell? ⟨wr.heap.size, 3, none⟩ = some (.string (bs vl))) := fun V ⟨_, _, _, h⟩ => ⟨(SV.bl h).cell 2, (SV.bl h).cell 3⟩
          clear hRn hX hY HR
          go_wp2_with fail
          refine (P1.out _).mono ?_
          rintro e w6 ⟨rfl, rfl⟩
          go_wp2_with fail
          refine (P2.out _).mono ?_
          rintro e w7 ⟨rfl, rfl⟩
          clear P1 P2
          go_wp2_with fail
          have s0 : SVu w ba bb bc bd [wr.heap.size] (fun _ => some (.cells #[.int .i64 on, .int .i64 kd, .string (bs nm), .string (bs vl)] 44 (0, 0))) (2 * k) D es (wr.alloc (.cells #[.int .i64 on, .int .i64 kd, .string (bs nm), .string (bs vl)] 44)).drew := SV.below HSV.out (Below.refl _ _).drew
          generalize (wr.alloc (.cells #[.int .i64 on, .int .i64 kd, .string (bs nm), .string (bs vl)] 44)) = W at *
          generalize wr.heap.size = vb at *
          go_region_held3 (fun V => V.cell? ⟨vb, 2, none⟩ = some (.string (bs nm)) ∧ V.cell? ⟨vb, 3, none⟩ = some (.string (bs vl)))
            (first
              | (exact SS _ ⟨_, _, _, by assumption⟩)
              | fail)
            (first
              | (go_at_call 25; refine (HX.out _ _ _ (by assumption) (by omega)).mono ?_; rintro _ w8 ⟨rfl, h8⟩)
              | (go_at_call 26; refine (HY.out _ _ _ (by assumption) (by omega)).mono ?_; rintro _ w9 ⟨rfl, h9⟩))
          all_goals
            first | (have hS2 : SVu w ba bb bc bd [vb] (fun _ => some (.cells #[.int .i64 on, .int .i64 kd, .string (bs nm), .string (bs vl)] 44 (0, 0))) (2 * k + 1 + 1) Dn en w9 := h9) | (have hS2 : SVu w ba bb bc bd [vb] (fun _ => some (.cells #[.int .i64 on, .int .i64 kd, .string (bs nm), .string (bs vl)] 44 (0, 0))) (2 * k + 1 + 1) Dn en w8 := h8)
            clear SS HX HY s0 HSV h8 h9 k0 k1 k2 k3
            have c2 := (SV.bl hS2).cell 2
            go_wp2_with fail
            obtain ⟨s, hd, hg⟩ := getV_pair (rlook (rls en true) nm)
            have hP := p_get (wr := _) true hS2 HRn.out hnm
            rw [hg] at hP
            refine hP.mono ?_
            clear hP
            rintro e w8 ⟨rfl, hS8, -⟩
            clear hS2 c2
            have HS8 := Lib.hid hS8
            have c2 := (SV.bl hS8).cell 2
            clear hS8
            go_wp2_with fail
            have hP := r_get true HS8.out (by omega) (nm := nm)
            rw [hg] at hP
            refine hP.mono ?_
            clear hP c2 hg
            rintro e w9 ⟨rfl, hS9, -⟩
            have HS9 := Lib.hid hS9
            clear hS9 HS8
            go_wp2_with fail
            refine (p_names false HS9.out (by omega) HRn.out).mono ?_
            rintro e w10 ⟨va, rfl, hna, hS10, -⟩
            have HS10 := Lib.hid hS10
            have HNA := Lib.hid hna
            clear hS10 hna HS9
            go_wp2_with fail
            refine (r_names false HS10.out (by omega) HRn.out).mono ?_
            rintro e w11 ⟨vb2, rfl, hnb, hS11, hb11⟩
            have HS11 := Lib.hid hS11
            have HNA2 := Lib.hid (HNA.out.below hb11)
            have HNB := Lib.hid hnb
            clear hS11 hnb hb11 HS10 HNA
            go_wp2_with fail
            refine (texts_same HS11.out HNA2.out HNB.out (nameL_le false HS11.out (by omega) HRn.out)).mono ?_
            rintro e w12 ⟨rfl, hS12⟩
            have HS12 := Lib.hid hS12
            clear hS12 HS11 HNA2 HNB
            go_wp2_with fail
            refine (p_names true HS12.out (by omega) HRn.out).mono ?_
            rintro e w13 ⟨va3, rfl, hna, hS13, -⟩
            have HS13 := Lib.hid hS13
            have HNA := Lib.hid hna
            clear hS13 hna HS12
            go_wp2_with fail
            refine (r_names true HS13.out (by omega) HRn.out).mono ?_
            rintro e w14 ⟨vb4, rfl, hnb, hS14, hb14⟩
            have HS14 := Lib.hid hS14
            have HNA2 := Lib.hid (HNA.out.below hb14)
            have HNB := Lib.hid hnb
            clear hS14 hnb hb14 HS13 HNA
            go_wp2_with fail
            refine (texts_same HS14.out HNA2.out HNB.out (nameL_le true HS14.out (by omega) HRn.out)).mono ?_
            rintro e w15 ⟨rfl, hS15⟩
            have HLN := Lib.hid (show LoopS w ba bb bc bd (k + 1) w15 from ⟨_, _, SV.drop hS15, HRn.out⟩)
            clear hS15 HS14 HNA2 HNB
            go_wp2_with fail
            go_roundw
            case rel => exact ⟨k + 1, by omega, by omega, by go_num, HLN⟩
            case measure => simp [intOf]; omega
    · have hend : (n : Int) ≤ (k : Int) ∨ ((k : Int) < (n : Int) ∧ (100 : Int) ≤ (k : Int)) := by omega
      have hbe : Below w.heap.size w wr := by obtain ⟨_, _, h, _⟩ := hLS.out; exact SV.fr h
      clear hgo hLS HRO
      rcases hend with i1 | ⟨i1, i2⟩
      all_goals
        go_wp2_with fail
        go_ret
        exact ⟨rfl, hbe⟩
end Go.Proofs.YthmadnadaakjaaaGreatDoor.Opt.Ev
/- OptionEnv: its card. No condition beyond the listed tables and errors, tied to the text. -/
namespace Go.Proofs.YthmadnadaakjaaaGreatDoor.Opt
open Go.RowKit Go.ChangeShapes Go.WideShapes Go.ChangeAt Go.ChangeMaps

namespace LawOptionEnv
set_option maxRecDepth 100000 in
theorem contract (H : Type) (enc : TypeId × Value → H) (W : World) (base : Nat) (args : Array Value) (ds gs : List (DataW H)) (before : List MemPlace)
    (hval : ∀ (j : Nat) t v, Tryz.f4.params[j]? = some t → args[j]? = some v → Value.okWide Tryz.prog W .any base t v)
    (hW : DataW.Whole enc Tryz.prog Tryz.f4.params.toList Rows.optionEnvSpec.vars false W args.toList ds gs before) (hL : laidMetH Tryz.prog Rows.optionEnvRow.laid W) (hk : (DataW.weightsEach Tryz.prog [38] (ds ++ gs)).all (· ≤ reachBytes) = true) :
    Calls Tryz.prog 4 args W fun e W' => ∃ v, e = .returned v ∧ Rows.optionEnvSpec.post enc Tryz.prog Tryz.f4 false true false false W args v W' := by
  have hW' := hW
  obtain ⟨p, q, hA0, hV, hbefore, hfz, hnd⟩ := hW
  have hA : DataW.TrodAll enc Tryz.prog W 0 (fun _ => true) true Tryz.f4.params.toList args.toList ds p := hA0
  rw [Tryz.params4] at hA hval
  obtain ⟨v0, vs0, d0, ds0, p0, q0, hargs, rfl, rfl, h0, r0⟩ := trodAll_cons hA
  obtain ⟨rfl, rfl, rfl⟩ := trodAll_nil r0
  obtain rfl : args = #[v0] := by cases args; simp_all
  obtain ⟨rfl, rfl⟩ := trodVars_none hV
  have fin : ∀ W' : World, Below W.heap.size W W' → Rows.optionEnvSpec.post enc Tryz.prog Tryz.f4 false true false false W #[v0] (.bool true) W' := fun W' hb =>
    Post.law_post (by kernel_rfl) (by kernel_rfl) rfl (by kernel_rfl) Tryz.underlying4 hW' rfl hb
  have hre : reachBytes = 140737488351232 := rfl
  have hkk : ∀ n ∈ d0.weights Tryz.prog 38, n ≤ 140737488351232 := by
    intro n hn
    simp only [DataW.weightsEach, List.append_nil, List.all_eq_true, decide_eq_true_eq] at hk
    rw [← hre]
    exact hk n hn
  obtain ⟨A0, n0, c0, ops0, rfl, hrd0, hn0⟩ := Ev.open_vars (hval 0 38 v0 rfl rfl) h0 hkk
  clear hA0 hA
  refine (Ev.env_walk A0 n0 c0 ops0 W (tabs_of hL) (Nat.le_refl _) hrd0 hn0).mono fun e W' ⟨he, hg⟩ => ?_
  subst he
  exact ⟨_, rfl, fin W' hg⟩

theorem reads (os : Os) {H : Type} (enc : TypeId × Value → H) : ∃ places, DataW.whole enc Tryz.prog ((laidWorld os).forCall (fun _ _ => 0) ⟨#[], #[.slice none 0 0], []⟩).memory Tryz.f4.params.toList Rows.optionEnvSpec.vars false #[.slice none 0 0].toList 8 = some ([.nil], [], places) :=
  ⟨[], by kernel_rfl⟩

set_option maxRecDepth 100000 in
theorem lifted (os : Os) (started : os.Started) (H : Type) (enc : TypeId × Value → H) (F : Stop.Interp) :
    ReturnsInHanded {} Tryz.checked os 4 .any ((OpenSpec.ofChange Rows.optionEnvSpec).preRow enc Tryz.prog Tryz.f4 Rows.optionEnvRow.domain false Rows.optionEnvRow.laid) (((OpenSpec.ofChange Rows.optionEnvSpec).at F).post enc Tryz.prog Tryz.f4 false true false false) := by
  obtain ⟨places, hx⟩ := reads os enc
  refine returnsInHanded_of_row (C := Tryz.checked) (s := OpenSpec.ofChange Rows.optionEnvSpec) own started (by kernel_rfl) Tryz.func4
    (witness_row_shaped (enc := enc) (C := Tryz.checked) (laidWorld os) #[.slice none 0 0] (World.laidAll_os _ _ _) (shaped os _) (by kernel_rfl)
      (OpenSpec.preRow_of_cond 8 hx (by kernel_rfl) (fun k hk => by cases hk) (by kernel_rfl) (laid_met os _))) ?_
  intro W base args ds gs before hval hW _ _ hwt hL _ _
  exact contract H enc W base args ds gs before hval hW hL hwt

theorem said : Rows.OptionEnvSaid :=
  OpenClaim.holds_of_cond 4 Tryz.f4 rfl rfl rfl rfl rfl rfl rfl ⟨rfl, rfl, rfl, rfl, rfl⟩ rfl rfl rfl rfl rfl (by kernel_rfl) Tryz.func4 (by kernel_rfl)
    (of_decide_eq_true (by kernel_rfl)) (by unfold Func.isWrapper; first | (rw [if_pos (by decide +kernel)]; kernel_rfl) | (rw [if_neg (by decide +kernel)]; exact ⟨rfl, rfl⟩))
    (fun os started H enc _ F => by rw [OpenClaim.pre_eq_preRow]; exact lifted os started H enc F)

/-- No parameter wants a stand-in; the program's own looks. -/
theorem plain (f : FuncId) (fn : Func) (hf : Tryz.pinned.checked.prog.funcNamed Rows.optionEnvRow.func = some f) (hfn : Tryz.pinned.checked.prog.funcs[f]? = some fn) :
    true = Tryz.pinned.checked.prog.looks [] ∧ ∀ (j : Nat) t, fn.params[j]? = some t → Tryz.pinned.checked.prog.wantsStandIn t = false := by
  obtain rfl : f = 4 := Option.some.inj ((show Tryz.prog.funcNamed Rows.optionEnvRow.func = some 4 by kernel_rfl).symm.trans hf) |>.symm
  obtain rfl : fn = Tryz.f4 := (Option.some.inj (Tryz.func4.symm.trans hfn)).symm
  refine ⟨by kernel_rfl, fun j t ht => ?_⟩
  rw [Tryz.params4] at ht
  have hm : t ∈ [38] := by simpa using Array.mem_of_getElem? ht
  have hall : ([38].all fun u => !Tryz.prog.wantsStandIn u) = true := by kernel_rfl
  exact (show Tryz.prog.wantsStandIn t = false by simpa using List.all_eq_true.1 hall t hm)

theorem card : Rows.OptionEnvCardSaid :=
  Claim7.holds_tied_plain_at .later [] _ _ _ _ said (fun _ h => by cases h) (by kernel_rfl) (fun _ h => by cases h) optionEnv_row_tie rfl ⟨rfl, rfl⟩ (by kernel_rfl) rfl plain (by kernel_rfl)
end LawOptionEnv
end Go.Proofs.YthmadnadaakjaaaGreatDoor.Opt
