/- find, of what no level has: the table's first value. -/
import Derived.Test.YtgnlfikkmomghaaGreatDoorOfi
namespace Go.Proofs.YtgnlfikkmomghaaGreatDoor.Opt
open Go.RowKit Go.Maps
def gv (V : World) (b i : Nat) : Value := (V.cell? ⟨b, i, none⟩).getD undef
theorem gv_some {V : World} {b i : Nat} {x : Value} (h : V.cell? ⟨b, i, none⟩ = some x) : V.cell? ⟨b, i, none⟩ = some (gv V b i) := by unfold gv; rw [h]; rfl
/-- Block b is what is held: two cells. -/
def Two (V : World) (b : Nat) : Prop := ∃ x y, BL V b 78 [x, y]
theorem Two.later {V V' : World} {b : Nat} (h : Two V b) (hb : Below V.heap.size V V') : Two V' b := by
  obtain ⟨x, y, h⟩ := h
  exact ⟨x, y, h.keep (hb.block _ h.lt)⟩
theorem Two.set {V : World} {b : Nat} (h : Two V b) (v0 v1 : Value) : Two ((V.setCell ⟨b, 0, none⟩ v0).setCell ⟨b, 1, none⟩ v1) b := by
  obtain ⟨x, y, h⟩ := h
  exact ⟨v0, v1, (h.set_ 0 v0).set_ 1 v1⟩
set_option maxRecDepth 100000 in
set_option maxHeartbeats 4000000 in
theorem find_first {B : Nat} (b : Nat) (sc : Int) (own : Value) (q : Option Addr) (ls : List (DataW Value)) (l : Tx) (o : Op8) (hl : l.length ≤ 140737488355328) (w : World) (ht : Tabs B w) (hB : B ≤ w.heap.size)
    (hs : SetB w b sc own q) (hls : LvAt w (some ⟨b, 1, none⟩) ls) (hn : namedP l = some (o, -1)) (hk : o.kind ≠ arrK) (hon : o.name.length ≤ 140737488355328) (hlook : lookP ls o.name = none) (hus : userP o.name = false) :
    Calls Tryz.prog 76 #[.pointer (some ⟨b, 0, none⟩), .string (bs l)] w fun e w' => e = .returned (findV o (-1) (bs o.first) 0) ∧ Below w.heap.size w w' := by
  have h1 := named_any l hl w ht hB
  rw [hn] at h1
  obtain ⟨nm, sc2, kd, fi, le, mo, ch⟩ := o
  dsimp only at hk hlook hon hus
  have HF := Lib.hid (fun w' => first_plain ⟨nm, sc2, kd, fi, le, mo, ch⟩ hk w')
  dsimp only [optV, optL] at HF
  have hu0 := fun w' => user_any nm (by omega) w'
  rw [hus] at hu0
  have HU := Lib.hid hu0
  clear hu0 hus
  have H1 := Lib.hid (fun w' (hb : Below w.heap.size w w') => named_any l hl w' (ht.below (hb.mono hB)) (Nat.le_trans hB hb.size))
  have H2 := Lib.hid (fun w' (hb : Below w.heap.size w w') => lookUp_any (some ⟨b, 1, none⟩) ls nm (by unfold maxLen; omega) w' (LvAt.later hb hls))
  rw [hn] at H1
  rw [hlook] at H2
  have hzz : lookV none = .tuple #[.agg #[.string ⟨#[]⟩, .slice none 0 0], .bool false] := rfl
  rw [hzz] at H2
  clear hzz
  have ek : ((bs kd).toList == [97, 114, 114, 97, 121]) = false := by rw [bs_tl]; exact beq_eq_false_iff_ne.2 hk
  have HS := Lib.hid hs
  have HZ := Lib.hid (BL.new w 95 (placeL noOpt 0))
  have c1 : ∀ w', Below w.heap.size w w' → w'.cell? ⟨b, 1, none⟩ = some own := fun w' hb => (hb.cell (p := ⟨b, 1, none⟩) (BL.lt hs)).trans (BL.cell hs 1)
  clear h1 hs hls ht hn hlook hk
  go_enter Tryz.func76, Tryz.ntmps76
  go_wp2_with fail
  refine (H1.out _ ((Below.refl _ w).alloc (Nat.le_refl _) _)).mono ?_
  rintro e w1 ⟨rfl, hb1⟩
  have hz1 := HZ.out.keep (hb1.block _ HZ.out.lt)
  have HB1 := Lib.hid (((Below.refl _ w).alloc (Nat.le_refl _) (.cells (placeL noOpt 0).toArray 95)).trans (hb1.mono (by simp)))
  have hs1 : w.heap.size + 1 ≤ w1.heap.size := by have := hb1.size; rw [size_alloc] at this; exact this
  have HZ1 := Lib.hid hz1
  clear hb1 hz1 H1 HZ
  dsimp only [namedV, placeV, placeL]
  go_upto_region 4 with fail
  have hA := BL.new w1 95 [.string (bs nm), .int .i64 sc2, .string (bs kd), .string (bs fi), .int .i64 le, .int .i64 mo, .string (bs ch), .int .i64 (-1)]
  have hX0 : Below w.heap.size w (w1.alloc (.cells #[.string (bs nm), .int .i64 sc2, .string (bs kd), .string (bs fi), .int .i64 le, .int .i64 mo, .string (bs ch), .int .i64 (-1)] 95)) := HB1.out.alloc (by omega) _
  have hXZ := HZ1.out.alloc (.cells #[.string (bs nm), .int .i64 sc2, .string (bs kd), .string (bs fi), .int .i64 le, .int .i64 mo, .string (bs ch), .int .i64 (-1)] 95)
  have hXs : (w1.alloc (.cells #[.string (bs nm), .int .i64 sc2, .string (bs kd), .string (bs fi), .int .i64 le, .int .i64 mo, .string (bs ch), .int .i64 (-1)] 95)).heap.size = w1.heap.size + 1 := by simp
  generalize w1.alloc (.cells #[.string (bs nm), .int .i64 sc2, .string (bs kd), .string (bs fi), .int .i64 le, .int .i64 mo, .string (bs ch), .int .i64 (-1)] 95) = X at *
  have HA := Lib.hid hA
  have HXZ := Lib.hid hXZ
  clear hA hXZ HZ1 hXs
  have SS : ∀ V, Below w.heap.size w V → Below X.heap.size X V → (V.cell? ⟨w1.heap.size, 0, none⟩ = some (.string (bs nm)) ∧ Below X.heap.size X V ∧ Below w.heap.size w V) := fun V hV hX => by
    have := HA.out.only (Only.of_below (F := []) hX) (by simp)
    exact ⟨this.cell 0, hX, hV⟩
  have hwX : w.heap.size ≤ X.heap.size := hX0.size
  have SA : ∀ V o, Below w.heap.size w V → Below X.heap.size X V → (((V.alloc o).cell? ⟨w1.heap.size, 0, none⟩ = some (.string (bs nm))) ∧ Below X.heap.size X (V.alloc o) ∧ Below w.heap.size w (V.alloc o)) := fun V o hV hX => SS _ (hV.alloc hV.size _) (hX.alloc hX.size _)
  have SC : ∀ V p v, Below w.heap.size w V → Below X.heap.size X V → X.heap.size ≤ p.block → (((V.setCell p v).cell? ⟨w1.heap.size, 0, none⟩ = some (.string (bs nm))) ∧ Below X.heap.size X (V.setCell p v) ∧ Below w.heap.size w (V.setCell p v)) := fun V p v hV hX hp => SS _ (hV.setCell (Nat.le_trans hwX hp) _) (hX.setCell hp _)
  have SC2 : ∀ V p v p' v', Below w.heap.size w V → Below X.heap.size X V → X.heap.size ≤ p.block → X.heap.size ≤ p'.block → ((((V.setCell p v).setCell p' v').cell? ⟨w1.heap.size, 0, none⟩ = some (.string (bs nm))) ∧ Below X.heap.size X ((V.setCell p v).setCell p' v') ∧ Below w.heap.size w ((V.setCell p v).setCell p' v')) := fun V p v p' v' hV hX hp hp' => SS _ ((hV.setCell (Nat.le_trans hwX hp) _).setCell (Nat.le_trans hwX hp') _) ((hX.setCell hp _).setCell hp' _)
  have hdX : Below X.heap.size X X.drew := (Below.refl _ _).drew
  have hdw : Below w.heap.size w X.drew := hX0.drew
  go_cut [9, 10] (fun s9 s10 wx => ∃ hb, s9 = .pointer (some ⟨hb, 0, none⟩) ∧ s10 = .bool false ∧ BL wx hb 78 [.string ⟨#[]⟩, .slice none 0 0] ∧ X.heap.size ≤ hb ∧ Below w.heap.size w wx ∧ Below X.heap.size X wx)
  case first =>
    go_region_held3 (fun V => V.cell? ⟨w1.heap.size, 0, none⟩ = some (.string (bs nm)) ∧ Below X.heap.size X V ∧ Below w.heap.size w V)
      (first
        | (refine SS _ ?_ ?_ <;> assumption)
        | exact SA _ _ (by assumption) (by assumption)
        | exact SC2 _ _ _ _ _ (by assumption) (by assumption) (by first | exact Nat.le_refl _ | (simp; done) | omega) (by first | exact Nat.le_refl _ | (simp; done) | omega)
        | exact SC _ _ _ (by assumption) (by assumption) (by first | exact Nat.le_refl _ | (simp; done) | omega)
        | fail)
      (first
        | (go_at_call 112; obtain ⟨_, kx, kw⟩ := (by assumption : _ ∧ Below X.heap.size X _ ∧ Below w.heap.size w _); refine (H2.out _ kw).mono ?_; rintro _ w2 ⟨rfl, hb2⟩; have hbx := kx.trans (hb2.mono kx.size); have hbw := kw.trans (hb2.mono kw.size); (try (have kk := BL.keep (BL.new _ 78 [.string ⟨#[]⟩, .slice none 0 0]) (hb2.block _ (BL.new _ _ _).lt); have kk0 := kk.cell 0; have kk1 := kk.cell 1; simp only [List.getElem?_cons_zero, List.getElem?_cons_succ] at kk0 kk1; have kf0 := kk.frozen 0; have kf1 := kk.frozen 1; have KK := Lib.hid kk; clear kk)); clear hb2)
        | fail)
    all_goals go_wp2_with fail
    all_goals go_meet
    all_goals first
      | exact ⟨_, rfl, rfl, BL.new _ 78 [.string ⟨#[]⟩, .slice none 0 0], hbx.size, hbw.alloc hbw.size _, hbx.alloc hbx.size _⟩
      | exact ⟨_, rfl, rfl, (KK.out.set_ 0 (.string ⟨#[]⟩)).set_ 1 (.slice none 0 0), Nat.le_refl _, (hbw.setCell (p := ⟨X.heap.size, 0, none⟩) hwX _).setCell (p := ⟨X.heap.size, 1, none⟩) hwX _, (hbx.setCell (p := ⟨X.heap.size, 0, none⟩) (Nat.le_refl _) _).setCell (p := ⟨X.heap.size, 1, none⟩) (Nat.le_refl _) _⟩
  case rest =>
    obtain ⟨hb, rfl, rfl, hbl, hbX, hbw, hbx⟩ := hcut
    have hw1X := HA.out.lt
    clear SS SA SC SC2 hdX hdw HB1 H2 hX0 HS c1
    have ht0 : Two wc.drew hb := ⟨_, _, hbl⟩
    clear hbl
    have mkS : ∀ V, Two V hb → Below X.heap.size X V → Below w.heap.size w V → (V.cell? ⟨w1.heap.size, 0, none⟩ = some (.string (bs nm)) ∧ V.cell? ⟨w1.heap.size, 1, none⟩ = some (.int .i64 sc2) ∧ V.cell? ⟨w1.heap.size, 2, none⟩ = some (.string (bs kd)) ∧ V.cell? ⟨w1.heap.size, 3, none⟩ = some (.string (bs fi)) ∧ V.cell? ⟨w1.heap.size, 4, none⟩ = some (.int .i64 le) ∧ V.cell? ⟨w1.heap.size, 5, none⟩ = some (.int .i64 mo) ∧ V.cell? ⟨w1.heap.size, 6, none⟩ = some (.string (bs ch)) ∧ V.cell? ⟨hb, 0, none⟩ = some (gv V hb 0) ∧ V.cell? ⟨hb, 1, none⟩ = some (gv V hb 1) ∧ V.frozen? ⟨hb, 0, none⟩ = false ∧ V.frozen? ⟨hb, 1, none⟩ = false ∧ Two V hb ∧ Below X.heap.size X V ∧ Below w.heap.size w V) := fun V hT hX hV => by
      have k1 := HA.out.keep (hX.block _ HA.out.lt)
      obtain ⟨x, y, k2⟩ := hT
      exact ⟨k1.cell 0, k1.cell 1, k1.cell 2, k1.cell 3, k1.cell 4, k1.cell 5, k1.cell 6, gv_some (k2.cell 0), gv_some (k2.cell 1), k2.frozen 0, k2.frozen 1, ⟨x, y, k2⟩, hX, hV⟩
    have mkS2 : ∀ V v0 v1, Two V hb → Below X.heap.size X V → Below w.heap.size w V → (((V.setCell ⟨hb, 0, none⟩ v0).setCell ⟨hb, 1, none⟩ v1).cell? ⟨w1.heap.size, 0, none⟩ = some (.string (bs nm)) ∧ ((V.setCell ⟨hb, 0, none⟩ v0).setCell ⟨hb, 1, none⟩ v1).cell? ⟨w1.heap.size, 1, none⟩ = some (.int .i64 sc2) ∧ ((V.setCell ⟨hb, 0, none⟩ v0).setCell ⟨hb, 1, none⟩ v1).cell? ⟨w1.heap.size, 2, none⟩ = some (.string (bs kd)) ∧ ((V.setCell ⟨hb, 0, none⟩ v0).setCell ⟨hb, 1, none⟩ v1).cell? ⟨w1.heap.size, 3, none⟩ = some (.string (bs fi)) ∧ ((V.setCell ⟨hb, 0, none⟩ v0).setCell ⟨hb, 1, none⟩ v1).cell? ⟨w1.heap.size, 4, none⟩ = some (.int .i64 le) ∧ ((V.setCell ⟨hb, 0, none⟩ v0).setCell ⟨hb, 1, none⟩ v1).cell? ⟨w1.heap.size, 5, none⟩ = some (.int .i64 mo) ∧ ((V.setCell ⟨hb, 0, none⟩ v0).setCell ⟨hb, 1, none⟩ v1).cell? ⟨w1.heap.size, 6, none⟩ = some (.string (bs ch)) ∧ ((V.setCell ⟨hb, 0, none⟩ v0).setCell ⟨hb, 1, none⟩ v1).cell? ⟨hb, 0, none⟩ = some (gv ((V.setCell ⟨hb, 0, none⟩ v0).setCell ⟨hb, 1, none⟩ v1) hb 0) ∧ ((V.setCell ⟨hb, 0, none⟩ v0).setCell ⟨hb, 1, none⟩ v1).cell? ⟨hb, 1, none⟩ = some (gv ((V.setCell ⟨hb, 0, none⟩ v0).setCell ⟨hb, 1, none⟩ v1) hb 1) ∧ ((V.setCell ⟨hb, 0, none⟩ v0).setCell ⟨hb, 1, none⟩ v1).frozen? ⟨hb, 0, none⟩ = false ∧ ((V.setCell ⟨hb, 0, none⟩ v0).setCell ⟨hb, 1, none⟩ v1).frozen? ⟨hb, 1, none⟩ = false ∧ Two ((V.setCell ⟨hb, 0, none⟩ v0).setCell ⟨hb, 1, none⟩ v1) hb ∧ Below X.heap.size X ((V.setCell ⟨hb, 0, none⟩ v0).setCell ⟨hb, 1, none⟩ v1) ∧ Below w.heap.size w ((V.setCell ⟨hb, 0, none⟩ v0).setCell ⟨hb, 1, none⟩ v1)) := fun V v0 v1 hT hX hV =>
      mkS _ (hT.set v0 v1) ((hX.setCell (p := ⟨hb, 0, none⟩) hbX _).setCell (p := ⟨hb, 1, none⟩) hbX _) ((hV.setCell (p := ⟨hb, 0, none⟩) (Nat.le_trans hwX hbX) _).setCell (p := ⟨hb, 1, none⟩) (Nat.le_trans hwX hbX) _)
    have hdw : Below w.heap.size w wc.drew := hbw.drew
    have hdX : Below X.heap.size X wc.drew := hbx.drew
    clear hbw hbx
    go_upto_region 6 with fail
    go_cut [10] (fun s10 wx => s10 = .bool true ∧ BL wx hb 78 [.string (bs fi), .slice none 0 0] ∧ Below w.heap.size w wx ∧ Below X.heap.size X wx)
    case first =>
      go_region_held3 (fun V => V.cell? ⟨w1.heap.size, 0, none⟩ = some (.string (bs nm)) ∧ V.cell? ⟨w1.heap.size, 1, none⟩ = some (.int .i64 sc2) ∧ V.cell? ⟨w1.heap.size, 2, none⟩ = some (.string (bs kd)) ∧ V.cell? ⟨w1.heap.size, 3, none⟩ = some (.string (bs fi)) ∧ V.cell? ⟨w1.heap.size, 4, none⟩ = some (.int .i64 le) ∧ V.cell? ⟨w1.heap.size, 5, none⟩ = some (.int .i64 mo) ∧ V.cell? ⟨w1.heap.size, 6, none⟩ = some (.string (bs ch)) ∧ V.cell? ⟨hb, 0, none⟩ = some (gv V hb 0) ∧ V.cell? ⟨hb, 1, none⟩ = some (gv V hb 1) ∧ V.frozen? ⟨hb, 0, none⟩ = false ∧ V.frozen? ⟨hb, 1, none⟩ = false ∧ Two V hb ∧ Below X.heap.size X V ∧ Below w.heap.size w V)
        (first
          | exact mkS _ (by assumption) (by assumption) (by assumption)
          | exact mkS2 _ _ _ (by assumption) (by assumption) (by assumption)
          | fail)
        (first
          | (go_at_call 113; obtain ⟨_, _, _, _, _, _, _, _, _, _, _, kt, kx, kw⟩ := (by assumption : _ ∧ _ ∧ _ ∧ _ ∧ _ ∧ _ ∧ _ ∧ _ ∧ _ ∧ _ ∧ _ ∧ Two _ hb ∧ Below X.heap.size X _ ∧ Below w.heap.size w _); refine (HF.out _).mono ?_; rintro _ w2 ⟨rfl, hb2⟩; have hbx := kx.trans (hb2.mono kx.size); have hbw2 := kw.trans (hb2.mono kw.size); have kt2 := kt.later hb2; clear hb2)
          | (go_at_call 87; obtain ⟨_, _, _, _, _, _, _, _, _, _, _, kt, kx, kw⟩ := (by assumption : _ ∧ _ ∧ _ ∧ _ ∧ _ ∧ _ ∧ _ ∧ _ ∧ _ ∧ _ ∧ _ ∧ Two _ hb ∧ Below X.heap.size X _ ∧ Below w.heap.size w _); refine (HU.out _).mono ?_; rintro _ w2 ⟨rfl, hb2⟩; have hbx := kx.trans (hb2.mono kx.size); have hbw2 := kw.trans (hb2.mono kw.size); have kt2 := kt.later hb2; clear hb2)
          | fail)
      all_goals go_wp2_with fail
      all_goals go_meet
      all_goals (
        have kt9 : Two w2 hb := by assumption
        obtain ⟨x, y, k9⟩ := kt9
        exact ⟨rfl, (k9.set_ 0 _).set_ 1 _, ((by assumption : Below w.heap.size w w2).setCell (p := ⟨hb, 0, none⟩) (Nat.le_trans hwX hbX) _).setCell (p := ⟨hb, 1, none⟩) (Nat.le_trans hwX hbX) _, ((by assumption : Below X.heap.size X w2).setCell (p := ⟨hb, 0, none⟩) hbX _).setCell (p := ⟨hb, 1, none⟩) hbX _⟩)
    case rest =>
      obtain ⟨rfl, hbl, hbw, hbx⟩ := hcut
      have hAc := HA.out.keep (hbx.block _ HA.out.lt)
      have hZc := HXZ.out.keep (hbx.block _ HXZ.out.lt)
      have t0 := hbl.cell 0
      have p2 := hAc.cell 2
      have p7 := hAc.cell 7
      simp only [List.getElem?_cons_zero, List.getElem?_cons_succ] at t0 p2 p7
      have HAR := Lib.hid (hAc.range (o := 0) (vs := [.string (bs nm), .int .i64 sc2, .string (bs kd), .string (bs fi), .int .i64 le, .int .i64 mo, .string (bs ch), .int .i64 (-1)]) (fun j v hj => by rw [Nat.zero_add]; exact hj))
      have HZC := Lib.hid hZc
      have HBW := Lib.hid hbw
      clear mkS mkS2 hdX hdw HA HXZ hbl hAc hZc hbw hbx ht0 HF HU
      go_wp2_with (first
        | (refine wpList_load_mid rfl 95 _ rfl w1.heap.size 0 rfl [.string (bs nm), .int .i64 sc2, .string (bs kd), .string (bs fi), .int .i64 le, .int .i64 mo, .string (bs ch), .int .i64 (-1)] _ HAR.out Tryz.underlying95 rfl (by kernel_rfl) ?_)
        | (refine wpList_store_all rfl 95 _ _ rfl w.heap.size (placeL ⟨nm, sc2, kd, fi, le, mo, ch⟩ (-1)) rfl rfl 95 _ HZC.out rfl (by kernel_rfl) (placeL_one _ _) ?_; intro w4 h0 ho hs4; have H0 := Lib.hid h0; have HO := Lib.hid ho; clear h0 ho))
      refine bodyPost_ret (results_ctt (p := 4) (u := 5) (u2 := 6) (by kernel_rfl) _ _ w.heap.size _ _ _ rfl H0.out Tryz.underlying95 rfl (by kernel_rfl)) rfl ⟨rfl, ?_⟩
      exact HBW.out.trans (HO.out.below HBW.out.size (by simp))
end Go.Proofs.YtgnlfikkmomghaaGreatDoor.Opt
