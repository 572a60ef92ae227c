/- What a whole name stands for. -/
import Derived.Test.YtgnlfikkmomghaaGreatDoorOci
import Derived.Test.YtgnlfikkmomghaaGreatDoorOtb
import Derived.Test.YtgnlfikkmomghaaGreatDoorOst
namespace Go.Proofs.YtgnlfikkmomghaaGreatDoor.Opt
open Go.RowKit Go.Shelf
attribute [local go_sem] Oper.semAt_some

def arrK : Tx := [97, 114, 114, 97, 121]
def strK : Tx := [115, 116, 114, 105, 110, 103]
def placeL (o : Op8) (i : Int) : List Value := [.string (bs o.name), .int .i64 o.scope, .string (bs o.kind), .string (bs o.first), .int .i64 o.least, .int .i64 o.most, .string (bs o.choices), .int .i64 i]
theorem placeL_one (o : Op8) (i : Int) : (placeL o i).toArray.all (·.oneCell') = true := by simp [placeL, Value.oneCell']
def placeV (o : Op8) (i : Int) : Value := .agg (placeL o i).toArray
def noOpt : Op8 := ⟨[], 0, [], [], 0, 0, []⟩
def isIt (a : Tx) (i : Int) (o : Op8) : Bool := o.name == a && (i == -1 || o.kind == arrK)
def namedP (l : Tx) : Option (Op8 × Int) :=
  if userP l = true then some (⟨l, 4, strK, [], 0, 0, []⟩, -1)
  else (tabL.find? (isIt (cutItemP l).1 (cutItemP l).2)).map fun o => (o, (cutItemP l).2)
def namedV (r : Option (Op8 × Int)) : Value := match r with
  | some (o, i) => .tuple #[placeV o i, .bool true]
  | none => .tuple #[placeV noOpt 0, .bool false]

theorem BL.kept {W W' : World} {row : Option Nat} {b B : Nat} {t : TypeId} {xs : List Value} (h : BL W b t xs) (hg : W.grownBy W' row) (hr : ∀ r, row = some r → B ≤ r ∧ ∃ o : Obj, W.heap[r]? = some o ∧ o.isCells = false) : BL W' b t xs :=
  h.keep (hg.block b h.lt (fun e => by
    obtain ⟨_, o, ho, hc⟩ := hr b e.symm
    unfold BL at h; rw [h] at ho; cases ho; cases hc))
theorem BL.putD {W : World} {b D : Nat} {t : TypeId} {xs : List Value} {o : Obj} (h : BL W b t xs) (hD : W.heap[D]? = some o) (hc : o.isCells = false) (o' : Obj) : BL (W.putObj D o') b t xs :=
  (World.putObj_heap_other (by intro e; subst e; unfold BL at h; rw [h] at hD; cases hD; cases hc)).trans h
theorem find_hit {f : Op8 → Bool} {p l : List Op8} {o : Op8} (h : p ++ [o] <+: l) (h1 : ∀ x ∈ p, f x = false) (h2 : f o = true) : l.find? f = some o := by
  obtain ⟨t, rfl⟩ := h
  rw [List.find?_append, List.find?_append, List.find?_eq_none.2 (fun x hx => by rw [h1 x hx]; simp)]
  simp [h2]
set_option maxRecDepth 100000 in
set_option maxHeartbeats 4000000 in
theorem named_any {B : Nat} (l : Tx) (hl : l.length ≤ 140737488355328) (w : World) (ht : Tabs B w) (hB : B ≤ w.heap.size) :
    Calls Tryz.prog 47 #[.string (bs l)] w fun e w' => e = .returned (namedV (namedP l)) ∧ Below w.heap.size w w' := by
  have H1 := Lib.hid (fun w' => user_any l (by omega) w')
  have H2 := Lib.hid (fun w' (ht' : Tabs B w') (hB' : B ≤ w'.heap.size) => cutItem_any l hl w' ht' hB')
  have HT := Lib.hid ht
  obtain ⟨R, hR⟩ : ∃ R, R = namedV (namedP l) := ⟨_, rfl⟩
  rw [← hR]
  have HR := Lib.hid hR
  obtain ⟨u, hu⟩ : ∃ u, u = userP l := ⟨_, rfl⟩
  rw [← hu] at H1
  have HU := Lib.hid hu
  clear hR ht hu
  have F0 : ∀ w1, Below ((w.alloc (.cells (placeL noOpt 0).toArray 95)).alloc (.cells #[.bool false] 4)).heap.size ((w.alloc (.cells (placeL noOpt 0).toArray 95)).alloc (.cells #[.bool false] 4)) w1 →
      BL w1 w.heap.size 95 (placeL noOpt 0) ∧ BL w1 (w.heap.size + 1) 4 [.bool false] ∧ Below w.heap.size w w1 ∧ w.heap.size + 2 ≤ w1.heap.size := fun w1 hb => by
    have h0 := (BL.new w 95 (placeL noOpt 0)).alloc (.cells #[.bool false] 4)
    have h1 := BL.new (w.alloc (.cells (placeL noOpt 0).toArray 95)) 4 [.bool false]
    rw [size_alloc] at h1
    have hs := hb.size
    rw [size_alloc, size_alloc] at hs
    exact ⟨h0.keep (hb.block _ h0.lt), h1.keep (hb.block _ h1.lt), (((Below.refl _ w).alloc (Nat.le_refl _) _).alloc (by simp) _).trans (hb.mono (by simp; omega)), by omega⟩
  have HF := Lib.hid F0
  clear F0
  refine (callsIn_wide (n := 6)).1 ?_
  refine callsIn_of_wp_marks Tryz.func47 rfl trivial ?_ rfl
  simp only [Tryz.ntmps47, List.size_toArray, List.length_cons, List.length_nil, Nat.reduceAdd, Nat.reduceSub, Array.replicate_succ, Array.replicate_zero, List.push_toArray, List.append_toArray, List.nil_append, List.cons_append]
  gi_wp2
  refine ⟨trivial, (callsIn_wide.2 (H1.out _)).mono ?_⟩
  clear H1
  rintro e w1 ⟨rfl, hb1⟩
  obtain ⟨c0, c1, hbw, hsz⟩ := HF.out w1 hb1
  have C0 := Lib.hid c0
  have C1 := Lib.hid c1
  have HB := Lib.hid hbw
  have HT1 := Lib.hid (HT.out.below (hbw.mono hB))
  clear HF hb1 c0 c1 hbw
  cases u with
  | true =>
    gi_wp2_with (refine wpListIn_store_all rfl 95 _ _ rfl w.heap.size (placeL ⟨l, 4, strK, [], 0, 0, []⟩ (-1)) rfl rfl 95 _ C0.out rfl (by kernel_rfl) (placeL_one _ _) ?_; intro w2 h0 ho hk hs2; have D1 := C1.out.only ho (by simp); have d1 := D1.cell 0; have f1 := D1.frozen 0; have D0 := Lib.hid h0; have HO := Lib.hid ho; clear h0 ho hk)
    have HV := Lib.hid (show R = .tuple #[placeV ⟨l, 4, strK, [], 0, 0, []⟩ (-1), .bool true] by rw [HR.out, namedP, if_pos HU.out.symm]; rfl)
    have D2 := Lib.hid (D1.set_ 0 (.bool true))
    have D3 := Lib.hid (D0.out.keep (w' := w2.setCell ⟨w.heap.size + 1, 0, none⟩ (.bool true)) (Below.heap_setCell _ _ _ _ (by simp)))
    refine ⟨_, results_two (p := 2) (q := 3) (by kernel_rfl) _ _ w.heap.size (w.heap.size + 1) _ _ _ _ _ rfl rfl D3.out D2.out Tryz.underlying95 rfl (by kernel_rfl) _ Tryz.underlying4 rfl, ?_⟩
    refine ⟨by rw [HV.out]; rfl, ?_⟩
    exact HB.out.trans ((HO.out.below (by omega) (by simp)).setCell (p := ⟨w.heap.size + 1, 0, none⟩) (by simp) _)
  | false =>
    gi_wp2
    refine ⟨trivial, (callsIn_wide.2 (H2.out _ HT1.out (by omega))).mono ?_⟩
    clear H2
    rintro e w2 ⟨rfl, hb2⟩
    obtain ⟨a, ha⟩ : ∃ a, a = (cutItemP l).1 := ⟨_, rfl⟩
    obtain ⟨i, hi⟩ : ∃ i, i = (cutItemP l).2 := ⟨_, rfl⟩
    have HV := Lib.hid (show R = namedV ((tabL.find? (isIt a i)).map fun o => (o, i)) by rw [HR.out, namedP, if_neg (by rw [← HU.out]; simp), ha, hi])
    rw [← ha, ← hi]
    clear ha hi
    have D0 := Lib.hid (C0.out.keep (hb2.block _ C0.out.lt))
    have D1 := Lib.hid (C1.out.keep (hb2.block _ C1.out.lt))
    have HB2 := Lib.hid (HB.out.trans (hb2.mono HB.out.size))
    have hsz2 : w.heap.size + 2 ≤ w2.heap.size := Nat.le_trans hsz hb2.size
    clear hb2 C0 C1 HB HT1
    gi_wp2
    obtain ⟨W3, hW3⟩ : ∃ W3, (w2.alloc (Obj.cells #[Value.string (bs a)] 9)).alloc (Obj.cells #[Value.int IntKind.i64 i] 3) = W3 := ⟨_, rfl⟩
    have hs3 : W3.heap.size = w2.heap.size + 2 := by rw [← hW3]; simp
    have hA3 : BL W3 w2.heap.size 9 [.string (bs a)] := by rw [← hW3]; exact (BL.new w2 9 [.string (bs a)]).alloc _
    have hI3 : BL W3 (w2.heap.size + 1) 3 [.int .i64 i] := by
      rw [← hW3]
      have := BL.new (w2.alloc (Obj.cells #[Value.string (bs a)] 9)) 3 [.int .i64 i]
      rwa [size_alloc] at this
    have h03 : BL W3 w.heap.size 95 (placeL noOpt 0) := by rw [← hW3]; exact (D0.out.alloc _).alloc _
    have h13 : BL W3 (w.heap.size + 1) 4 [.bool false] := by rw [← hW3]; exact (D1.out.alloc _).alloc _
    have hB3 : Below w.heap.size w W3 := by rw [← hW3]; exact (HB2.out.alloc (by omega) _).alloc (by simp; omega) _
    rw [hW3]
    clear hW3 D0 D1 HB2
    refine wpIn_rangeFunc_ownH rfl (by omega) (gf := 88) (lb := #[]) rfl trivial (enters_of Tryz.func88 (by kernel_rfl) rfl)
      (table_stops 5 W3) (fun h k => h.trans k) (fun W l o o' _ h hc _ => KT.putObj W l o o' h hc) (Below.refl _ _) (fun _ => rfl)
      (fun pre W => (BL W w.heap.size 95 (placeL noOpt 0) ∧ BL W (w.heap.size + 1) 4 [.bool false] ∧ BL W w2.heap.size 9 [.string (bs a)] ∧ BL W (w2.heap.size + 1) 3 [.int .i64 i]) ∧ (∀ o ∈ pre, isIt a i o = false) ∧ Below w.heap.size w W ∧ W3.heap.size ≤ W.heap.size)
      (fun c pre W => c = .ret ∧ (∃ o p, pre = p ++ [o] ∧ (∀ x ∈ p, isIt a i x = false) ∧ isIt a i o = true ∧ BL W w.heap.size 95 (placeL o i) ∧ BL W (w.heap.size + 1) 4 [.bool true]) ∧ Below w.heap.size w W)
      ?hI ?hIx ⟨⟨h03, h13, hA3, hI3⟩, by simp, hB3, Nat.le_refl _⟩
      (fun x a' W => ∃ Bx, W3.heap.size ≤ Bx ∧ BL W Bx 93 (optL x) ∧ a' = { tmps := #[.string (bs l), undef, .pointer (some ⟨w.heap.size, 0, none⟩), .pointer (some ⟨w.heap.size + 1, 0, none⟩), .pointer (some ⟨w2.heap.size, 0, none⟩), .pointer (some ⟨w2.heap.size + 1, 0, none⟩), .pointer (some ⟨Bx, 0, none⟩), .string (bs l), .bool false, undef, undef, undef, .tuple #[.string (bs a), .int .i64 i], .string (bs l), .tuple #[.string (bs a), .int .i64 i], .string (bs a), .int .i64 i, optV x, undef, undef, undef, undef, undef, undef, undef, undef, undef, undef, undef, undef, undef, undef, undef, undef, undef], defers := [] })
      ?hAx ?assign ?body ?done ?stop
    case hI =>
      rintro s A B row ⟨⟨h1, h2, h3, h4⟩, h5, h6, h7⟩ hg hr
      exact ⟨⟨h1.kept hg hr, h2.kept hg hr, h3.kept hg hr, h4.kept hg hr⟩, h5, ownFrom_below (β := Unit) (Nat.le_refl _) (by omega) () A B row h6 hg hr, Nat.le_trans h7 hg.size⟩
    case hIx =>
      rintro c s A B row ⟨h1, ⟨o, p, h2, h3, h4, h5, h6⟩, h7⟩ hg hr
      exact ⟨h1, ⟨o, p, h2, h3, h4, h5.kept hg hr, h6.kept hg hr⟩, ownFrom_below (β := Unit) (Nat.le_refl _) (by omega) () A B row h7 hg hr⟩
    case hAx =>
      rintro x a' s A B row ⟨Bx, h1, h2, h3⟩ hg hr
      exact ⟨Bx, h1, h2.kept hg hr, h3⟩
    case assign =>
      rintro l' pre ⟨nm, sc, kd, fi, le, mo, ch⟩ W K ⟨⟨h1, h2, h3, h4⟩, h5, h6, h7⟩ hK
      have HK := Lib.hid (hK _ (W.alloc (.cells (optL ⟨nm, sc, kd, fi, le, mo, ch⟩).toArray 93)) ((KeepsOthers.alloc _ _).from _) (KT.only ((Only.refl [] W).alloc _)) ⟨⟨h1.alloc _, h2.alloc _, h3.alloc _, h4.alloc _⟩, h5, h6.alloc (by omega) _, by simp; omega⟩ ⟨W.heap.size, h7, BL.new W 93 _, rfl⟩)
      clear hK h1 h2 h3 h4 h5 h6 h7
      dsimp only [optV, optL]
      gi_wp2
      exact HK.out
    case body =>
      rintro l' pre ⟨nm, sc, kd, fi, le, mo, ch⟩ a' W hl' ⟨r, hr⟩ ⟨⟨h1, h2, h3, h4⟩, h5, h6, h7⟩ ⟨Bx, hBx, hx, rfl⟩ hlen
      have hra : W.rangeAt Bx 0 [.string (bs nm), .int .i64 sc, .string (bs kd), .string (bs fi), .int .i64 le, .int .i64 mo, .string (bs ch)] := hx.range (fun j v hj => by rw [Nat.zero_add]; exact hj)
      have x0 : W.cell? ⟨Bx, 0, none⟩ = some (.string (bs nm)) := hx.cell 0
      have x2 : W.cell? ⟨Bx, 2, none⟩ = some (.string (bs kd)) := hx.cell 2
      have a0 : W.cell? ⟨w2.heap.size, 0, none⟩ = some (.string (bs a)) := h3.cell 0
      have i0 : W.cell? ⟨w2.heap.size + 1, 0, none⟩ = some (.int .i64 i) := h4.cell 0
      have hW : w.heap.size + 2 ≤ W.heap.size := by omega
      have HX := Lib.hid hra
      have HH1 := Lib.hid h1
      have HH2 := Lib.hid h2
      have HH3 := Lib.hid h3
      have HH4 := Lib.hid h4
      have H5 := Lib.hid h5
      have H6 := Lib.hid h6
      have H7 := Lib.hid h7
      clear hra h1 h2 h3 h4 h5 h6 hx hl' hr hlen
      dsimp only [optV, optL]
      by_cases hn : nm = a
      · have hne : ((bs nm).toList == (bs a).toList) = true := by rw [bs_tl, bs_tl, hn]; simp
        have hq0 : (nm == a) = true := by rw [hn]; simp
        clear hn
        by_cases hi : i = -1
        · have hj : (i == -1) = true := by rw [hi]; rfl
          have hj2 : decide (i = -1) = true := decide_eq_true hi
          clear hi
          have hit : isIt a i ⟨nm, sc, kd, fi, le, mo, ch⟩ = true := by simp only [isIt, hq0, hj]; rfl
          have HIT := Lib.hid hit
          clear hit
          gi_wp2_with (first
            | (refine wpListIn_load_mid rfl 93 _ rfl Bx 0 rfl [.string (bs nm), .int .i64 sc, .string (bs kd), .string (bs fi), .int .i64 le, .int .i64 mo, .string (bs ch)] _ HX.out Tryz.underlying93 rfl (by kernel_rfl) ?_)
            | (refine wpListIn_store_all rfl 95 _ _ rfl w.heap.size (placeL ⟨nm, sc, kd, fi, le, mo, ch⟩ i) rfl rfl 95 _ HH1.out rfl (by kernel_rfl) (placeL_one _ _) ?_; intro w4 h0 ho hk hs4; have D1 := HH2.out.only ho (by simp); have d1 := D1.cell 0; have f1 := D1.frozen 0; have D0 := Lib.hid h0; have HO := Lib.hid ho; have HKK := Lib.hid hk; have DD := Lib.hid D1; clear h0 ho hk D1))
          refine ⟨(HKK.out.trans (KeepsOthers.setCell _ _ _)).from _, rfl, ⟨_, _, rfl, H5.out, HIT.out, D0.out.keep (Below.heap_setCell _ _ _ _ (by simp)), DD.out.set_ 0 _⟩, H6.out.trans ((HO.out.below (by omega) (by simp)).setCell (p := ⟨w.heap.size + 1, 0, none⟩) (by simp) _)⟩
        · have hj : (i == -1) = false := beq_eq_false_iff_ne.2 hi
          have hj2 : decide (i = -1) = false := decide_eq_false hi
          clear hi
          by_cases hkd : kd = arrK
          · have ek : ((bs kd).toList == [97, 114, 114, 97, 121]) = true := by rw [bs_tl, hkd]; rfl
            have hq : (kd == arrK) = true := by rw [hkd]; rfl
            clear hkd
            have hit : isIt a i ⟨nm, sc, kd, fi, le, mo, ch⟩ = true := by simp only [isIt, hq0, hj, hq]; rfl
            have HIT := Lib.hid hit
            clear hit
            gi_wp2_with (first
              | (refine wpListIn_load_mid rfl 93 _ rfl Bx 0 rfl [.string (bs nm), .int .i64 sc, .string (bs kd), .string (bs fi), .int .i64 le, .int .i64 mo, .string (bs ch)] _ HX.out Tryz.underlying93 rfl (by kernel_rfl) ?_)
              | (refine wpListIn_store_all rfl 95 _ _ rfl w.heap.size (placeL ⟨nm, sc, kd, fi, le, mo, ch⟩ i) rfl rfl 95 _ HH1.out rfl (by kernel_rfl) (placeL_one _ _) ?_; intro w4 h0 ho hk hs4; have D1 := HH2.out.only ho (by simp); have d1 := D1.cell 0; have f1 := D1.frozen 0; have D0 := Lib.hid h0; have HO := Lib.hid ho; have HKK := Lib.hid hk; have DD := Lib.hid D1; clear h0 ho hk D1))
            refine ⟨(HKK.out.trans (KeepsOthers.setCell _ _ _)).from _, rfl, ⟨_, _, rfl, H5.out, HIT.out, D0.out.keep (Below.heap_setCell _ _ _ _ (by simp)), DD.out.set_ 0 _⟩, H6.out.trans ((HO.out.below (by omega) (by simp)).setCell (p := ⟨w.heap.size + 1, 0, none⟩) (by simp) _)⟩
          · have ek : ((bs kd).toList == [97, 114, 114, 97, 121]) = false := by rw [bs_tl]; exact beq_eq_false_iff_ne.2 hkd
            have hq : (kd == arrK) = false := beq_eq_false_iff_ne.2 hkd
            clear hkd
            have hit : isIt a i ⟨nm, sc, kd, fi, le, mo, ch⟩ = false := by simp only [isIt, hq0, hj, hq]; rfl
            have HIT := Lib.hid hit
            clear hit
            gi_wp2
            refine ⟨KeepsFrom.refl _ _, KT.refl _, ⟨HH1.out, HH2.out, HH3.out, HH4.out⟩, fun o ho => ?_, H6.out, H7.out⟩
            rcases List.mem_append.1 ho with h | h
            · exact H5.out o h
            · simp only [List.mem_singleton] at h; rw [h]; exact HIT.out
      · have hne : ((bs nm).toList == (bs a).toList) = false := by rw [bs_tl, bs_tl]; exact beq_eq_false_iff_ne.2 hn
        have hq : (nm == a) = false := beq_eq_false_iff_ne.2 hn
        clear hn
        have hit : isIt a i ⟨nm, sc, kd, fi, le, mo, ch⟩ = false := by simp only [isIt, hq]; rfl
        have HIT := Lib.hid hit
        clear hit
        gi_wp2
        refine ⟨KeepsFrom.refl _ _, KT.refl _, ⟨HH1.out, HH2.out, HH3.out, HH4.out⟩, fun o ho => ?_, H6.out, H7.out⟩
        rcases List.mem_append.1 ho with h | h
        · exact H5.out o h
        · simp only [List.mem_singleton] at h; rw [h]; exact HIT.out
    case done =>
      rintro D xs W hD rfl ⟨⟨h1, h2, h3, h4⟩, h5, h6, h7⟩ hK
      have HV2 := Lib.hid (show R = .tuple #[placeV noOpt 0, .bool false] by
        rw [HV.out, List.find?_eq_none.2 (fun o ho => by rw [h5 o ho]; simp)]; rfl)
      have HH1 := Lib.hid h1
      have HH2 := Lib.hid h2
      have H6 := Lib.hid h6
      have HK := Lib.hid hK
      have hD2 : w.heap.size ≤ D := by omega
      have hW : w.heap.size + 2 ≤ W.heap.size := by omega
      clear h1 h2 h3 h4 h5 h6 hK
      gi_wp2_with (refine wpListIn_store_all rfl 95 _ _ rfl w.heap.size (placeL noOpt 0) rfl rfl 95 _ HH1.out rfl (by kernel_rfl) (placeL_one _ _) ?_; intro w4 h0 ho hk hs4; have D1 := HH2.out.only ho (by simp); have d1 := D1.cell 0; have f1 := D1.frozen 0; have D0 := Lib.hid h0; have HO := Lib.hid ho; have HKK := Lib.hid hk; have DD := Lib.hid D1; clear h0 ho hk D1)
      have hK4 := ((HKK.out.trans (KeepsOthers.setCell w4 ⟨w.heap.size + 1, 0, none⟩ (.bool false))).same D _ HK.out rfl)
      have E0 := (D0.out.keep (w' := w4.setCell ⟨w.heap.size + 1, 0, none⟩ (.bool false)) (Below.heap_setCell _ _ _ _ (by simp))).putD hK4 rfl (.deferred none)
      have E1 := (DD.out.set_ 0 (.bool false)).putD hK4 rfl (.deferred none)
      have hb := (H6.out.trans ((HO.out.below (by omega) (by simp)).setCell (p := ⟨w.heap.size + 1, 0, none⟩) (by simp) (.bool false))).trans (belowK_b (w := w) (Nat.le_refl _) _ D _ (.deferred none) hD2 hK4 rfl rfl)
      refine ⟨by simp, .inl ⟨_, _, rfl, run_takeDeferred hK4, ?_⟩⟩
      exact ⟨_, results_two (p := 2) (q := 3) (by kernel_rfl) _ _ w.heap.size (w.heap.size + 1) _ _ _ _ _ rfl rfl E0 E1 Tryz.underlying95 rfl (by kernel_rfl) _ Tryz.underlying4 rfl, by rw [HV2.out]; rfl, hb⟩
    case stop =>
      rintro D c pre W hD hSp ⟨rfl, ⟨o, p, hp, h3, h4, h5, h6⟩, h7⟩ hK
      have HV2 := Lib.hid (show R = .tuple #[placeV o i, .bool true] by
        rw [HV.out, find_hit (hp ▸ hSp) h3 h4]; rfl)
      have hD2 : w.heap.size ≤ D := by omega
      have E0 := h5.putD hK rfl (.deferred none)
      have E1 := h6.putD hK rfl (.deferred none)
      have hb := h7.trans (belowK_b (w := w) (Nat.le_refl _) _ D _ (.deferred none) hD2 hK rfl rfl)
      clear h5 h6 h7 hSp h3 h4 hp
      gi_wp2
      refine ⟨by simp, .inl ⟨_, _, rfl, run_takeDeferred hK, ?_⟩⟩
      exact ⟨_, results_two (p := 2) (q := 3) (by kernel_rfl) _ _ w.heap.size (w.heap.size + 1) _ _ _ _ _ rfl rfl E0 E1 Tryz.underlying95 rfl (by kernel_rfl) _ Tryz.underlying4 rfl, by rw [HV2.out]; rfl, hb⟩
end Go.Proofs.YtgnlfikkmomghaaGreatDoor.Opt
