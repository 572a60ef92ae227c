/- find, of an option that is no array. -/
import Derived.Test.YtgnlfikkmomghaaGreatDoorOlv
import Derived.Test.YtgnlfikkmomghaaGreatDoorOkn
namespace Go.Proofs.YtgnlfikkmomghaaGreatDoor.Opt
open Go.RowKit Go.Maps

set_option maxRecDepth 100000 in
set_option maxHeartbeats 2000000 in
theorem first_plain (o : Op8) (hk : o.kind ≠ arrK) (w : World) :
    Calls Tryz.prog 113 #[optV o] w fun e w' => e = .returned (.agg #[.string (bs o.first), .slice none 0 0]) ∧ Below w.heap.size w w' := by
  obtain ⟨nm, sc, kd, fi, le, mo, ch⟩ := o
  dsimp only [optV, optL] at hk ⊢
  have ek : ((bs kd).toList == [97, 114, 114, 97, 121]) = false := by rw [bs_tl]; exact beq_eq_false_iff_ne.2 hk
  have hZ := BL.new (w.alloc (.cells #[.string (bs nm), .int .i64 sc, .string (bs kd), .string (bs fi), .int .i64 le, .int .i64 mo, .string (bs ch)] 93)) 78 [.string (bs fi), .slice none 0 0]
  rw [size_alloc] at hZ
  have HZ := Lib.hid hZ
  clear hZ hk
  go_enter Tryz.func113, Tryz.ntmps113
  go_wp2_with fail
  refine bodyPost_ret (v := .agg #[.string (bs fi), .slice none 0 0]) (results_cell (p := 2) (by kernel_rfl) _ _ (w.heap.size + 1) _ _ _ _ rfl HZ.out Tryz.underlying78 rfl (by kernel_rfl)) rfl ⟨rfl, ?_⟩
  exact ((Below.refl _ w).alloc (Nat.le_refl _) _).alloc (by simp) _

/-- What find hands back. -/
def findV (o : Op8) (i : Int) (t : ByteArray) (e : Int) : Value := .tuple #[placeV o i, .string t, .int .i64 e]
theorem results_ctt {P : Program} {fn : Func} {p u u2 : Tmp} {ty : TypeId} (h : fn.results = #[.cell p ty, .tmp u, .tmp u2]) (tmps : Array Value) (w : World) (g : Nat) (t : TypeId) (cs : List Value) (d : TypeDesc)
    (hp : tmps.getD p undef = .pointer (some ⟨g, 0, none⟩)) (hg : BL w g t cs) (hu : P.underlying ty = some d) (hd : d.isRow = true) (hi : (P.info? ty).map (·.size) = some cs.length) :
    (results fn tmps).run P w = .ok (.tuple #[.agg cs.toArray, tmps.getD u undef, tmps.getD u2 undef]) w := by
  have hp' : tmps[p]?.getD undef = .pointer (some ⟨g, 0, none⟩) := by simpa using hp
  simp [results, h, hp', asAddr, run_loadVar_mid w g 0 ty cs d (hg.range (fun j v hj => by simpa using hj)) hu hd hi]
set_option maxRecDepth 100000 in
set_option maxHeartbeats 4000000 in
theorem find_has {B : Nat} (b : Nat) (sc : Int) (own : Value) (q : Option Addr) (ls : List (DataW Value)) (l : Tx) (o : Op8) (s : ByteArray) (A : Option Addr) (n c : Nat) (hl : l.length ≤ 140737488355328) (w : World) (ht : Tabs B w) (hB : B ≤ w.heap.size)
    (hs : SetB w b sc own q) (hls : LvAt w (some ⟨b, 1, none⟩) ls) (hn : namedP l = some (o, -1)) (hk : o.kind ≠ arrK) (hon : o.name.length ≤ 140737488355328) (hlook : lookP ls o.name = some (.agg #[.string s, .slice A n c])) :
    Calls Tryz.prog 76 #[.pointer (some ⟨b, 0, none⟩), .string (bs l)] w fun e w' => e = .returned (findV o (-1) s 0) ∧ Below w.heap.size w w' := by
  have h1 := named_any l hl w ht hB
  rw [hn] at h1
  obtain ⟨nm, sc2, kd, fi, le, mo, ch⟩ := o
  dsimp only at hk hlook hon
  have H1 := Lib.hid (fun w' (hb : Below w.heap.size w w') => named_any l hl w' (ht.below (hb.mono hB)) (Nat.le_trans hB hb.size))
  have H2 := Lib.hid (fun w' (hb : Below w.heap.size w w') => lookUp_any (some ⟨b, 1, none⟩) ls nm (by unfold maxLen; omega) w' (LvAt.later hb hls))
  rw [hn] at H1
  rw [hlook] at H2
  have ek : ((bs kd).toList == [97, 114, 114, 97, 121]) = false := by rw [bs_tl]; exact beq_eq_false_iff_ne.2 hk
  have HS := Lib.hid hs
  have HZ := Lib.hid (BL.new w 95 (placeL noOpt 0))
  have c1 : ∀ w', Below w.heap.size w w' → w'.cell? ⟨b, 1, none⟩ = some own := fun w' hb => (hb.cell (p := ⟨b, 1, none⟩) (BL.lt hs)).trans (BL.cell hs 1)
  clear h1 hs hls ht hn hlook hk
  go_enter Tryz.func76, Tryz.ntmps76
  go_wp2_with fail
  refine (H1.out _ ((Below.refl _ w).alloc (Nat.le_refl _) _)).mono ?_
  rintro e w1 ⟨rfl, hb1⟩
  have hz1 := HZ.out.keep (hb1.block _ HZ.out.lt)
  have HB1 := Lib.hid (((Below.refl _ w).alloc (Nat.le_refl _) (.cells (placeL noOpt 0).toArray 95)).trans (hb1.mono (by simp)))
  have hs1 : w.heap.size + 1 ≤ w1.heap.size := by have := hb1.size; rw [size_alloc] at this; exact this
  have HZ1 := Lib.hid hz1
  clear hb1 hz1 H1 HZ
  dsimp only [namedV, placeV, placeL]
  go_upto_region 4 with fail
  have hA := BL.new w1 95 [.string (bs nm), .int .i64 sc2, .string (bs kd), .string (bs fi), .int .i64 le, .int .i64 mo, .string (bs ch), .int .i64 (-1)]
  have hX0 : Below w.heap.size w (w1.alloc (.cells #[.string (bs nm), .int .i64 sc2, .string (bs kd), .string (bs fi), .int .i64 le, .int .i64 mo, .string (bs ch), .int .i64 (-1)] 95)) := HB1.out.alloc (by omega) _
  have hXZ := HZ1.out.alloc (.cells #[.string (bs nm), .int .i64 sc2, .string (bs kd), .string (bs fi), .int .i64 le, .int .i64 mo, .string (bs ch), .int .i64 (-1)] 95)
  have hXs : (w1.alloc (.cells #[.string (bs nm), .int .i64 sc2, .string (bs kd), .string (bs fi), .int .i64 le, .int .i64 mo, .string (bs ch), .int .i64 (-1)] 95)).heap.size = w1.heap.size + 1 := by simp
  generalize w1.alloc (.cells #[.string (bs nm), .int .i64 sc2, .string (bs kd), .string (bs fi), .int .i64 le, .int .i64 mo, .string (bs ch), .int .i64 (-1)] 95) = X at *
  have HA := Lib.hid hA
  have HXZ := Lib.hid hXZ
  clear hA hXZ HZ1 hXs
  have SS : ∀ V, Below w.heap.size w V → Below X.heap.size X V → (V.cell? ⟨w1.heap.size, 0, none⟩ = some (.string (bs nm)) ∧ Below X.heap.size X V ∧ Below w.heap.size w V) := fun V hV hX => by
    have := HA.out.only (Only.of_below (F := []) hX) (by simp)
    exact ⟨this.cell 0, hX, hV⟩
  have hwX : w.heap.size ≤ X.heap.size := hX0.size
  have SA : ∀ V o, Below w.heap.size w V → Below X.heap.size X V → (((V.alloc o).cell? ⟨w1.heap.size, 0, none⟩ = some (.string (bs nm))) ∧ Below X.heap.size X (V.alloc o) ∧ Below w.heap.size w (V.alloc o)) := fun V o hV hX => SS _ (hV.alloc hV.size _) (hX.alloc hX.size _)
  have SC : ∀ V p v, Below w.heap.size w V → Below X.heap.size X V → X.heap.size ≤ p.block → (((V.setCell p v).cell? ⟨w1.heap.size, 0, none⟩ = some (.string (bs nm))) ∧ Below X.heap.size X (V.setCell p v) ∧ Below w.heap.size w (V.setCell p v)) := fun V p v hV hX hp => SS _ (hV.setCell (Nat.le_trans hwX hp) _) (hX.setCell hp _)
  have SC2 : ∀ V p v p' v', Below w.heap.size w V → Below X.heap.size X V → X.heap.size ≤ p.block → X.heap.size ≤ p'.block → ((((V.setCell p v).setCell p' v').cell? ⟨w1.heap.size, 0, none⟩ = some (.string (bs nm))) ∧ Below X.heap.size X ((V.setCell p v).setCell p' v') ∧ Below w.heap.size w ((V.setCell p v).setCell p' v')) := fun V p v p' v' hV hX hp hp' => SS _ ((hV.setCell (Nat.le_trans hwX hp) _).setCell (Nat.le_trans hwX hp') _) ((hX.setCell hp _).setCell hp' _)
  have hdX : Below X.heap.size X X.drew := (Below.refl _ _).drew
  have hdw : Below w.heap.size w X.drew := hX0.drew
  go_cut [9, 10] (fun s9 s10 wx => ∃ hb, s9 = .pointer (some ⟨hb, 0, none⟩) ∧ s10 = .bool true ∧ BL wx hb 78 [.string s, .slice A n c] ∧ Below w.heap.size w wx ∧ Below X.heap.size X wx)
  case first =>
    go_region_held3 (fun V => V.cell? ⟨w1.heap.size, 0, none⟩ = some (.string (bs nm)) ∧ Below X.heap.size X V ∧ Below w.heap.size w V)
      (first
        | (refine SS _ ?_ ?_ <;> assumption)
        | exact SA _ _ (by assumption) (by assumption)
        | exact SC2 _ _ _ _ _ (by assumption) (by assumption) (by first | exact Nat.le_refl _ | (simp; done) | omega) (by first | exact Nat.le_refl _ | (simp; done) | omega)
        | exact SC _ _ _ (by assumption) (by assumption) (by first | exact Nat.le_refl _ | (simp; done) | omega)
        | fail)
      (first
        | (go_at_call 112; obtain ⟨_, kx, kw⟩ := (by assumption : _ ∧ Below X.heap.size X _ ∧ Below w.heap.size w _); refine (H2.out _ kw).mono ?_; rintro _ w2 ⟨rfl, hb2⟩; dsimp only [lookV]; have hbx := kx.trans (hb2.mono kx.size); have hbw := kw.trans (hb2.mono kw.size); (try (have kk := BL.keep (BL.new _ 78 [.string ⟨#[]⟩, .slice none 0 0]) (hb2.block _ (BL.new _ _ _).lt); have kk0 := kk.cell 0; have kk1 := kk.cell 1; simp only [List.getElem?_cons_zero, List.getElem?_cons_succ] at kk0 kk1; have kf0 := kk.frozen 0; have kf1 := kk.frozen 1; have KK := Lib.hid kk; clear kk)); clear hb2)
        | fail)
    all_goals go_wp2_with fail
    all_goals go_meet
    all_goals first
      | exact ⟨_, rfl, rfl, BL.new _ 78 [.string s, .slice A n c], hbw.alloc hbw.size _, hbx.alloc hbx.size _⟩
      | exact ⟨_, rfl, rfl, (KK.out.set_ 0 (.string s)).set_ 1 (.slice A n c), (hbw.setCell (p := ⟨X.heap.size, 0, none⟩) hwX _).setCell (p := ⟨X.heap.size, 1, none⟩) hwX _, (hbx.setCell (p := ⟨X.heap.size, 0, none⟩) (Nat.le_refl _) _).setCell (p := ⟨X.heap.size, 1, none⟩) (Nat.le_refl _) _⟩
  case rest =>
    obtain ⟨hb, rfl, rfl, hbl, hbw, hbx⟩ := hcut
    have hAc := HA.out.keep (hbx.block _ HA.out.lt)
    have hZc := HXZ.out.keep (hbx.block _ HXZ.out.lt)
    have t0 := hbl.cell 0
    have p2 := hAc.cell 2
    have p7 := hAc.cell 7
    simp only [List.getElem?_cons_zero, List.getElem?_cons_succ] at t0 p2 p7
    have HAR := Lib.hid (hAc.range (o := 0) (vs := [.string (bs nm), .int .i64 sc2, .string (bs kd), .string (bs fi), .int .i64 le, .int .i64 mo, .string (bs ch), .int .i64 (-1)]) (fun j v hj => by rw [Nat.zero_add]; exact hj))
    have HZC := Lib.hid hZc
    have HBW := Lib.hid hbw
    clear SS SA SC SC2 hdX hdw HA HXZ HB1 hbl hAc hZc hbw hbx H2 hX0 HS c1
    go_wp2_with (first
      | (refine wpList_load_mid rfl 95 _ rfl w1.heap.size 0 rfl [.string (bs nm), .int .i64 sc2, .string (bs kd), .string (bs fi), .int .i64 le, .int .i64 mo, .string (bs ch), .int .i64 (-1)] _ HAR.out Tryz.underlying95 rfl (by kernel_rfl) ?_)
      | (refine wpList_store_all rfl 95 _ _ rfl w.heap.size (placeL ⟨nm, sc2, kd, fi, le, mo, ch⟩ (-1)) rfl rfl 95 _ HZC.out rfl (by kernel_rfl) (placeL_one _ _) ?_; intro w4 h0 ho hs4; have H0 := Lib.hid h0; have HO := Lib.hid ho; clear h0 ho))
    refine bodyPost_ret (results_ctt (p := 4) (u := 5) (u2 := 6) (by kernel_rfl) _ _ w.heap.size _ _ _ rfl H0.out Tryz.underlying95 rfl (by kernel_rfl)) rfl ⟨rfl, ?_⟩
    exact HBW.out.trans (HO.out.below HBW.out.size (by simp))
end Go.Proofs.YtgnlfikkmomghaaGreatDoor.Opt
