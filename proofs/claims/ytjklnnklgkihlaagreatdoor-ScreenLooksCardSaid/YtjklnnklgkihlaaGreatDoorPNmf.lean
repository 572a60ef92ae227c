/- CSI m, whatever its numbers. -/
import Derived.Test.YtjklnnklgkihlaaGreatDoorPbb
import Derived.Test.YtjklnnklgkihlaaGreatDoorPba
import Derived.Test.YtjklnnklgkihlaaGreatDoorPNpn
import Derived.Test.YtjklnnklgkihlaaGreatDoorPad
namespace Go.Proofs.YtjklnnklgkihlaaGreatDoor.Scr
open Go.RowKit Cel Sty Grd

/-- A pen turned to what numbers say. -/
inductive PenR : St → List Int → St → Prop
  | nil (p : St) : PenR p [] p
  | fg {p q : St} {l : List Int} : PenR ((mixP (38 :: l) p.1).1, p.2.1, p.2.2) ((38 :: l).drop (mixP (38 :: l) p.1).2) q → PenR p (38 :: l) q
  | bg {p q : St} {l : List Int} : PenR (p.1, (mixP (48 :: l) p.2.1).1, p.2.2) ((48 :: l).drop (mixP (48 :: l) p.2.1).2) q → PenR p (48 :: l) q
  | one {p q : St} {x : Int} {l : List Int} : x ≠ 38 → x ≠ 48 → PenR (turnedP p x) l q → PenR p (x :: l) q
theorem mixP_in (l : List Int) (was : Int) (h : l ≠ []) : 1 ≤ (mixP l was).2 ∧ (mixP l was).2 ≤ l.length := by
  have := List.length_pos_iff.2 h
  unfold mixP
  split
  · rename_i h1
    exact ⟨by simp, h1.1⟩
  · split
    · rename_i h1 h2
      exact ⟨by simp, h2.1⟩
    · exact ⟨this, Nat.le_refl _⟩
section
variable {w : World} {sb g d : Nat} {a : Vt.Ac} {pv av : Value} {B2 B : Nat} {pp tv : Value} {S : ScP}
set_option maxRecDepth 100000 in
set_option maxHeartbeats 16000000 in
theorem turnPen_all (hD : dgB w d sb a pv av) (hp : Vt.Ints w B2 pv a.ps) (hb : ∀ x ∈ a.ps, -9223372036854775808 ≤ x ∧ x ≤ 9223372036854775807) (hl : a.ps.length ≤ 100)
    (h : scB w sb pp g none tv S) (hT : TabA B w) (hB : B ≤ w.heap.size) (hsb : B ≤ sb) (hne : d ≠ sb) (hno : ∀ x ∈ codesP a.ps, 0 ≤ x ∧ x ≤ 9999) {q : St} (hq : PenR S.now.pen (codesP a.ps) q) :
    Calls Tryz.prog 186 #[ptrV d] w fun e w' => e = .returned (.tuple #[]) ∧ scB w' sb pp g none tv (S.setP q) ∧ Only [sb] w w' := by
  have kc := penCodes_at hD hp hb hl
  have hcl := codesP_len a.ps
  have hsl := h.lt
  have hdl := hD.lt
  generalize codesP a.ps = L at *
  have hL : L.length ≤ 100 := by omega
  obtain ⟨n, hn⟩ : ∃ n, L.length = n := ⟨_, rfl⟩
  have HNL := Lib.hid hn
  rw [hn] at kc hL
  have HD := Lib.hid hD
  have HH := Lib.hid h
  have HTT := Lib.hid hT
  have HNO := Lib.hid hno
  have HQ := Lib.hid hq
  clear hD h hT hno hp hb hl hcl hn hq
  unfold ptrV at kc ⊢
  go_enter Tryz.func186, Tryz.ntmps186
  go_wp2_with (go_at_call 220; refine kc.mono ?_; rintro _ w1 ⟨rfl, hC, hb1⟩)
  go_loopw [2] (fun v wr => ∃ (k : Nat) (A : Option Addr) (p : St), k ≤ n ∧ v = .slice A (n - k) (n - k) ∧ (k < n → A = some ⟨w.heap.size, k, none⟩) ∧ BL wr w.heap.size 3 (intV L) ∧ scB wr sb pp g none tv (S.setP p) ∧ Only [sb] w wr ∧ PenR p (L.drop k) q) (fun v _ => lenV v)
  case atStart => exact ⟨0, _, S.now.pen, Nat.zero_le _, rfl, fun _ => rfl, hC, HH.out.only (F := []) (Only.of_below hb1) (by simp), Only.of_below hb1, HQ.out⟩
  case round =>
    obtain ⟨k, A, p, hk, rfl, hA, hBC, hS, hO, hR⟩ := hrel
    clear hC hb1
    by_cases hlt : k < n
    · obtain rfl := hA hlt
      have hkL : k < L.length := by rw [HNL.out]; exact hlt
      have hx := HNO.out L[k] (List.getElem_mem hkL)
      have hdrop : L.drop k = L[k] :: L.drop (k + 1) := List.drop_eq_getElem_cons hkL
      have hcell : (intV L)[k]? = some (.int .i64 L[k]) := by unfold intV; rw [List.getElem?_map, List.getElem?_eq_getElem hkL]; rfl
      generalize L[k] = x at *
      obtain ⟨x0, x1⟩ := hx
      have m0 : (0 : Int) < ((n - k : Nat) : Int) := by omega
      have m1 : ¬ (n - k : Nat) = 0 := by omega
      have od : Only [] wr wr.drew := (Only.refl _ _).drew
      have hDd := (HD.out.only hO (by simpa using hne)).only od (by simp)
      have q0 : wr.drew.cell? ⟨d, 0, none⟩ = some (.pointer (some ⟨sb, 0, none⟩)) := hDd.cell 0
      have c0 : wr.cell? ⟨w.heap.size, k, none⟩ = some (.int .i64 x) := (hBC.cell k).trans hcell
      have c0d : wr.drew.cell? ⟨w.heap.size, k, none⟩ = some (.int .i64 x) := ((hBC.only od (by simp)).cell k).trans hcell
      have hSd : scB wr.drew sb pp g none tv (S.setP p) := hS.only od (by simp)
      have hTd := (HTT.out.only hO hB (by simpa using hsb)).only od (Nat.le_trans hB hO.size) (by simp)
      have s6 : wr.drew.cell? ⟨sb, 6, none⟩ = some (.int .i64 p.1) := hSd.cell 6
      have s7 : wr.drew.cell? ⟨sb, 7, none⟩ = some (.int .i64 p.2.1) := hSd.cell 7
      have s8 : wr.drew.cell? ⟨sb, 8, none⟩ = some (.int .i64 p.2.2) := hSd.cell 8
      have hll : (L.drop k).length = n - k := by rw [List.length_drop, HNL.out]
      have kmx := fun (was : Int) => mixed_at wr.drew w.heap.size k (L.drop k) was (by omega) (fun x hx => HNO.out x (List.mem_of_mem_drop hx)) (fun i hi => by
        have hi2 : k + i < L.length := by rw [List.length_drop] at hi; omega
        rw [List.getElem_drop]
        refine ((hBC.only od (by simp)).cell (k + i)).trans ?_
        unfold intV
        rw [List.getElem?_map, List.getElem?_eq_getElem hi2]
        rfl)
      rw [hll] at kmx
      have hmi := fun (was : Int) => mixP_in (L.drop k) was (by rw [hdrop]; simp)
      rw [hll] at hmi
      have kt := turned_at p x x0 x1 wr.drew hTd (Nat.le_trans hB (Nat.le_trans hO.size od.size))
      have hdd : ∀ m, (x :: L.drop (k + 1)).drop m = L.drop (k + m) := fun m => by
        rw [← hdrop]
        simp [List.drop_drop]
      have HSD := Lib.hid hSd
      have HDD := Lib.hid hDd
      have HBC := Lib.hid hBC
      have HR : Hid (PenR p (x :: L.drop (k + 1)) q) := Lib.hid (by rw [← hdrop]; exact hR)
      rw [hdrop] at kmx hmi
      clear hcell hDd hSd hTd hBC hS hR hdrop hll
      -- behind a step that stored the pen q2 and goes m numbers on
      have hend : ∀ (W9 : World) (q2 : St) (m : Nat), scB W9 sb pp g none tv (S.setP q2) → Only [sb] wr W9 → 1 ≤ m → m ≤ n - k → PenR q2 (L.drop (k + m)) q → (∃ (k' : Nat) (A : Option Addr) (p : St), k' ≤ n ∧ (Value.slice (if n - k = m then some ⟨w.heap.size, k, none⟩ else some ⟨w.heap.size, k + m, none⟩) (n - k - m) (n - k - m)) = .slice A (n - k') (n - k') ∧ (k' < n → A = some ⟨w.heap.size, k', none⟩) ∧ BL W9 w.heap.size 3 (intV L) ∧ scB W9 sb pp g none tv (S.setP p) ∧ Only [sb] w W9 ∧ PenR p (L.drop k') q) := fun W9 q2 m h1 h2 h3 h4 h5 =>
        ⟨k + m, _, q2, by omega, by rw [show n - k - m = n - (k + m) by omega], fun hk1 => by rw [if_neg (by omega)], HBC.out.only h2 (by simp; omega), h1, hO.trans h2, h5⟩
      by_cases n38 : x = 38
      · subst n38
        have kx := kmx p.1
        have mi := hmi p.1
        have hr : PenR ((mixP (38 :: L.drop (k + 1)) p.1).1, p.2.1, p.2.2) (L.drop (k + (mixP (38 :: L.drop (k + 1)) p.1).2)) q := by
          cases HR.out with
          | one h38 _ _ => exact absurd rfl h38
          | fg h2 =>
            rw [hdd] at h2
            exact h2
        generalize (mixP (38 :: L.drop (k + 1)) p.1).1 = mc at *
        generalize (mixP (38 :: L.drop (k + 1)) p.1).2 = mn at *
        have m3 : (mn : Int) ≤ ((n - k : Nat) : Int) := by omega
        have m4 : (0 : Int) ≤ (mn : Int) := by omega
        have HE := Lib.hid hend
        have HRR := Lib.hid hr
        clear hend hr kmx hmi kt hdd
        go_wp2_with fail
        go_region_law
          (first
            | (go_simp; go_at_call 221; refine kx.mono ?_; rintro _ w4 ⟨rfl, hb4⟩; have hS4 := HSD.out.only (F := []) (Only.of_below hb4) (by simp); have z6 : w4.cell? ⟨sb, 6, none⟩ = some (.int .i64 p.1) := hS4.cell 6; have z6f := hS4.frozen 6; have q04 : w4.cell? ⟨d, 0, none⟩ = some (.pointer (some ⟨sb, 0, none⟩)) := (HDD.out.only (F := []) (Only.of_below hb4) (by simp)).cell 0; have HS4 := Lib.hid hS4; clear hS4))
        all_goals
          have hS5 := HS4.out.set_ 6 (.int .i64 mc)
          have o5 : Only [sb] wr (w4.setCell ⟨sb, 6, none⟩ (.int .i64 mc)) := ((od.mono (by simp)).trans (Only.of_below hb4)).trans (one_set w4 sb 6 (.int .i64 mc))
          have hf := HE.out _ (mc, p.2.1, p.2.2) mn hS5 o5 mi.1 mi.2 HRR.out
          have HFF := Lib.hid hf
          clear z6 z6f q04 HS4 s6 s7 s8 c0 c0d q0 hb4 HSD HDD kx hS5 o5 hf HE
          go_wp2_with fail
          refine ⟨HFF.out, ?_⟩
          unfold lenV
          simp only
          omega
      · by_cases n48 : x = 48
        · subst n48
          have kx := kmx p.2.1
          have mi := hmi p.2.1
          have hr : PenR (p.1, (mixP (48 :: L.drop (k + 1)) p.2.1).1, p.2.2) (L.drop (k + (mixP (48 :: L.drop (k + 1)) p.2.1).2)) q := by
            cases HR.out with
            | one _ h48 _ => exact absurd rfl h48
            | bg h2 =>
              rw [hdd] at h2
              exact h2
          generalize (mixP (48 :: L.drop (k + 1)) p.2.1).1 = mc at *
          generalize (mixP (48 :: L.drop (k + 1)) p.2.1).2 = mn at *
          have m3 : (mn : Int) ≤ ((n - k : Nat) : Int) := by omega
          have m4 : (0 : Int) ≤ (mn : Int) := by omega
          have HE := Lib.hid hend
          have HRR := Lib.hid hr
          clear hend hr kmx hmi kt hdd
          go_wp2_with fail
          go_region_law
            (first
              | (go_simp; go_at_call 221; refine kx.mono ?_; rintro _ w4 ⟨rfl, hb4⟩; have hS4 := HSD.out.only (F := []) (Only.of_below hb4) (by simp); have z6 : w4.cell? ⟨sb, 7, none⟩ = some (.int .i64 p.2.1) := hS4.cell 7; have z6f := hS4.frozen 7; have q04 : w4.cell? ⟨d, 0, none⟩ = some (.pointer (some ⟨sb, 0, none⟩)) := (HDD.out.only (F := []) (Only.of_below hb4) (by simp)).cell 0; have HS4 := Lib.hid hS4; clear hS4))
          all_goals
            have hS5 := HS4.out.set_ 7 (.int .i64 mc)
            have o5 : Only [sb] wr (w4.setCell ⟨sb, 7, none⟩ (.int .i64 mc)) := ((od.mono (by simp)).trans (Only.of_below hb4)).trans (one_set w4 sb 7 (.int .i64 mc))
            have hf := HE.out _ (p.1, mc, p.2.2) mn hS5 o5 mi.1 mi.2 HRR.out
            have HFF := Lib.hid hf
            clear z6 z6f q04 HS4 s6 s7 s8 c0 c0d q0 hb4 HSD HDD kx hS5 o5 hf HE
            go_wp2_with fail
            refine ⟨HFF.out, ?_⟩
            unfold lenV
            simp only
            omega
        · have hr : PenR (turnedP p x) (L.drop (k + 1)) q := by
            cases HR.out with
            | one _ _ h2 => exact h2
            | fg h2 => exact absurd rfl n38
            | bg h2 => exact absurd rfl n48
          generalize turnedP p x = q2 at *
          unfold penV at kt
          have HE := Lib.hid hend
          have HRR := Lib.hid hr
          clear hend hr kmx hmi hdd
          go_wp2_with fail
          go_region_law
            (first
              | (go_simp; go_at_call 222; refine kt.mono ?_; rintro _ w4 ⟨rfl, hb4⟩; have hS4 := HSD.out.only (F := []) (Only.of_below hb4) (by simp); have z6 : w4.cell? ⟨sb, 6, none⟩ = some (.int .i64 p.1) := hS4.cell 6; have z6f := hS4.frozen 6; have hS4a := hS4.set_ 6 (.int .i64 q2.1); have z7 : (w4.setCell ⟨sb, 6, none⟩ (.int .i64 q2.1)).cell? ⟨sb, 7, none⟩ = some (.int .i64 p.2.1) := hS4a.cell 7; have z7f := hS4a.frozen 7; have hS4b := hS4a.set_ 7 (.int .i64 q2.2.1); have z8 : ((w4.setCell ⟨sb, 6, none⟩ (.int .i64 q2.1)).setCell ⟨sb, 7, none⟩ (.int .i64 q2.2.1)).cell? ⟨sb, 8, none⟩ = some (.int .i64 p.2.2) := hS4b.cell 8; have z8f := hS4b.frozen 8; have q04 : w4.cell? ⟨d, 0, none⟩ = some (.pointer (some ⟨sb, 0, none⟩)) := (HDD.out.only (F := []) (Only.of_below hb4) (by simp)).cell 0; have HS4b := Lib.hid hS4b; clear hS4 hS4a hS4b))
          all_goals
            have hS5 := HS4b.out.set_ 8 (.int .i64 q2.2.2)
            have o5 : Only [sb] wr (((w4.setCell ⟨sb, 6, none⟩ (.int .i64 q2.1)).setCell ⟨sb, 7, none⟩ (.int .i64 q2.2.1)).setCell ⟨sb, 8, none⟩ (.int .i64 q2.2.2)) := (((((od.mono (by simp)).trans (Only.of_below hb4)).trans (one_set w4 sb 6 (.int .i64 q2.1))).trans (one_set _ sb 7 (.int .i64 q2.2.1))).trans (one_set _ sb 8 (.int .i64 q2.2.2)))
            have hf := HE.out _ q2 1 hS5 o5 (Nat.le_refl _) (by omega) HRR.out
            have HFF := Lib.hid hf
            clear z6 z6f z7 z7f z8 z8f q04 HS4b s6 s7 s8 c0 c0d q0 hb4 HSD HDD kt hS5 o5 hf HE
            have m2 : (1 : Int) ≤ ((n - k : Nat) : Int) := by omega
            go_wp2_with fail
            refine ⟨HFF.out, ?_⟩
            unfold lenV
            simp only
            omega
    · obtain rfl : k = n := by omega
      have ht : L.drop k = [] := by rw [← HNL.out, List.drop_length]
      rw [ht] at hR
      have hpq : p = q := by cases hR; rfl
      rw [hpq] at hS
      have z : k - k = 0 := by omega
      rw [z]
      clear hA hBC
      go_wp2_with fail
      exact body_end rfl rfl ⟨rfl, hS, hO⟩
end
end Go.Proofs.YtjklnnklgkihlaaGreatDoor.Scr
/- A CSI done. -/
namespace Go.Proofs.YtjklnnklgkihlaaGreatDoor.Scr
open Go.RowKit Cel Sty Grd

section
variable {w : World} {d sb : Nat} {a : Vt.Ac} {pv av : Value}
set_option maxRecDepth 100000 in
set_option maxHeartbeats 1000000 in
theorem sequence_at {P : World → Prop} (hD : dgB w d sb a pv av) (hb : a.b = 72 ∨ a.b = 110 ∨ a.b = 109) (hi : a.it = [])
    (hs : Calls Tryz.prog (stepF a.b) #[ptrV d] w fun e w' => e = .returned (.tuple #[]) ∧ P w') :
    Calls Tryz.prog 47 #[ptrV d] w fun e w' => e = .returned (.tuple #[]) ∧ P w' := by
  have kc := Lib.hid (csi_at hD hb hi)
  have hn2 : ∀ (f : FuncId) (p : Value) (w : World), Sem.run Tryz.prog (binOp BinOp.neq 1 (.func (.func f) #[p] #[]) Value.nilFunc) w = .ok (.bool true) w := fun _ _ _ => rfl
  clear hD hi
  unfold ptrV at *
  rcases hb with hb | hb | hb
  all_goals
    rw [hb] at hs kc
    first
      | rw [show stepF 72 = 169 from rfl] at hs kc
      | rw [show stepF 110 = 183 from rfl] at hs kc
      | rw [show stepF 109 = 186 from rfl] at hs kc
    have HS := Lib.hid hs
    clear hs
    go_enter Tryz.func47, Tryz.ntmps47
    go_wp2_with fail
    refine kc.out.mono ?_
    rintro _ w1 ⟨rfl, rfl⟩
    go_wp2_with fail
    refine HS.out.mono ?_
    rintro _ w2 ⟨rfl, hP⟩
    go_wp2_with fail
    exact body_end rfl rfl ⟨rfl, hP⟩
end
end Go.Proofs.YtjklnnklgkihlaaGreatDoor.Scr
/- Do at a CSI. -/
namespace Go.Proofs.YtjklnnklgkihlaaGreatDoor.Scr
open Go.RowKit Cel Sty Grd

section
variable (B sb g c lim : Nat) (pp tv : Value) (M M2 : MP) (a : Vt.Ac) (ans : List UInt8)
/-- What holds where an action is done. -/
structure Ready (V : World) (F : List Nat) (pv : Value) (B2 : Nat) : Prop where
  scr : SG V sb g F c lim M.past M.rows pp tv M.S
  tab : Tabs B V
  att : TabA B V
  base : B ≤ V.heap.size
  far : ∀ x ∈ F, B ≤ x
  own : B ≤ sb
  nums : Vt.Ints V B2 pv a.ps
/-- The step of a CSI makes that of a screen, and answers that. -/
def StepIs : Prop := ∀ V F pv B2 d, Ready B sb g c lim pp tv M a V F pv B2 → dgB V d sb a pv (.slice none 0 0) → d ≠ sb → d ∉ F →
  Calls Tryz.prog (stepF a.b) #[ptrV d] V fun e w' => e = .returned (.tuple #[]) ∧ ∃ av F', dgB w' d sb a pv av ∧ AnsAt w' V.heap.size av ans ∧ SG w' sb g F' c lim M2.past M2.rows pp tv M2.S ∧ (∀ x ∈ F', x ∈ F ∨ V.heap.size ≤ x) ∧ Only (d :: sb :: F) V w'
/-- Do of an action makes that of a screen, and answers that. -/
def DoIs : Prop := ∀ V F pv B2, Ready B sb g c lim pp tv M a V F pv B2 →
  Calls Tryz.prog 25 #[ptrV sb, .agg #[.int .i64 a.k, .int .i32 a.r, .int .u8 a.b, pv, .string (Vt.bs a.it), .string (Vt.bs a.tx)]] V fun e w' => ∃ av, e = .returned av ∧ AnsAt w' V.heap.size av ans ∧ ∃ F', SG w' sb g F' c lim M2.past M2.rows pp tv M2.S ∧ Went (sb :: F) (sb :: F') V w'
end
section
variable {B sb g c lim : Nat} {pp tv : Value} {M M2 : MP} {a : Vt.Ac} {ans : List UInt8}
theorem Ready.below {V W : World} {F : List Nat} {pv : Value} {B2 : Nat} (h : Ready B sb g c lim pp tv M a V F pv B2) (hb : Below V.heap.size V W) : Ready B sb g c lim pp tv M a W F pv B2 :=
  ⟨h.scr.below hb, h.tab.below hb h.base, h.att.below hb h.base, Nat.le_trans h.base hb.size, h.far, h.own, ints_below h.nums hb⟩
set_option maxRecDepth 100000 in
set_option maxHeartbeats 2000000 in
theorem do_csi (hk : a.k = 4) (hb : a.b = 72 ∨ a.b = 110 ∨ a.b = 109) (hi : a.it = []) (hst : StepIs B sb g c lim pp tv M M2 a ans) : DoIs B sb g c lim pp tv M M2 a ans := by
  intro w F pv B2 h
  have hsl := h.scr.blk.lt
  have hFl := h.scr.grd.lt
  have hq : ∀ V, Below w.heap.size w V → dgB V (w.heap.size + 1) sb a pv (.slice none 0 0) → Calls Tryz.prog 47 #[ptrV (w.heap.size + 1)] V fun e w' => e = .returned (.tuple #[]) ∧ ∃ av F', dgB w' (w.heap.size + 1) sb a pv av ∧ AnsAt w' V.heap.size av ans ∧ SG w' sb g F' c lim M2.past M2.rows pp tv M2.S ∧ (∀ x ∈ F', x ∈ F ∨ V.heap.size ≤ x) ∧ Only ((w.heap.size + 1) :: sb :: F) V w' := fun V hV hD =>
    sequence_at hD hb hi (hst V F pv B2 _ (h.below hV) hD (by omega) (fun hx => by have := hFl _ hx; omega))
  have HQ := Lib.hid hq
  obtain ⟨A, cA, rfl⟩ := Vt.own_slice h.nums
  obtain ⟨k, r, b, ps, it, tx⟩ := a
  simp only at hk
  subst hk
  generalize hps : ps.length = n at *
  have HFL := Lib.hid hFl
  clear hq h hb hi hFl hps
  unfold ptrV at HQ ⊢
  simp only at HQ ⊢
  go_enter Tryz.func25, Tryz.ntmps25
  go_wp2_with fail
  have hbV : Below w.heap.size w ((w.alloc (.cells #[.int .i64 4, .int .i32 r, .int .u8 b, .slice A n cA, .string (Vt.bs it), .string (Vt.bs tx)] 65)).alloc (.cells #[.pointer (some ⟨sb, 0, none⟩), .int .i64 4, .int .i32 r, .int .u8 b, .slice A n cA, .string (Vt.bs it), .string (Vt.bs tx), .slice none 0 0] 103)) := ((Below.refl _ _).alloc (Nat.le_refl _) _).alloc (by simp) _
  have hD : BL ((w.alloc (.cells #[.int .i64 4, .int .i32 r, .int .u8 b, .slice A n cA, .string (Vt.bs it), .string (Vt.bs tx)] 65)).alloc (.cells #[.pointer (some ⟨sb, 0, none⟩), .int .i64 4, .int .i32 r, .int .u8 b, .slice A n cA, .string (Vt.bs it), .string (Vt.bs tx), .slice none 0 0] 103)) (w.heap.size + 1) 103 [.pointer (some ⟨sb, 0, none⟩), .int .i64 4, .int .i32 r, .int .u8 b, .slice A n cA, .string (Vt.bs it), .string (Vt.bs tx), .slice none 0 0] := by
    have := BL.new (w.alloc (.cells #[.int .i64 4, .int .i32 r, .int .u8 b, .slice A n cA, .string (Vt.bs it), .string (Vt.bs tx)] 65)) 103 [.pointer (some ⟨sb, 0, none⟩), .int .i64 4, .int .i32 r, .int .u8 b, .slice A n cA, .string (Vt.bs it), .string (Vt.bs tx), .slice none 0 0]
    rw [size_alloc] at this
    exact this
  generalize (w.alloc (.cells #[.int .i64 4, .int .i32 r, .int .u8 b, .slice A n cA, .string (Vt.bs it), .string (Vt.bs tx)] 65)).alloc (.cells #[.pointer (some ⟨sb, 0, none⟩), .int .i64 4, .int .i32 r, .int .u8 b, .slice A n cA, .string (Vt.bs it), .string (Vt.bs tx), .slice none 0 0] 103) = V at *
  refine (HQ.out V hbV hD).mono ?_
  rintro _ w2 ⟨rfl, av, F2, hD2, hA2, hS2, hF2, hO2⟩
  have hbs := hbV.size
  have d7 : w2.cell? ⟨w.heap.size + 1, 7, none⟩ = some av := hD2.cell 7
  have hdV := hD.lt
  have hA3 : AnsAt w2 w.heap.size av ans := ⟨hA2.1, hA2.2.imp id fun ⟨g1, c1, u1, e1, e2, e3⟩ => ⟨g1, c1, u1, e1, Nat.le_trans hbs e2, e3⟩⟩
  have hO3 : Only (sb :: F) w w2 := (Only.of_below hbV).trans2 hO2 fun x hx => by
    rcases List.mem_cons.1 hx with rfl | hx
    · right; omega
    · exact .inl hx
  have HS := Lib.hid hS2
  have HW : Hid (Went (sb :: F) (sb :: F2) w w2) := Lib.hid ⟨fun x hx => by
    rcases List.mem_cons.1 hx with rfl | hx
    · exact .inl (.head _)
    · exact (hF2 x hx).imp (List.mem_cons_of_mem _) fun q => Nat.le_trans hbs q, hO3⟩
  have HA := Lib.hid hA3
  obtain ⟨A3, c3, rfl⟩ := Vt.own_slice hA3
  clear hS2 hF2 hO2 hO3 hA2 hA3 hD hD2 hbV
  go_wp2_with fail
  go_ret
  exact ⟨_, rfl, HA.out, F2, HS.out, HW.out⟩
end
end Go.Proofs.YtjklnnklgkihlaaGreatDoor.Scr
