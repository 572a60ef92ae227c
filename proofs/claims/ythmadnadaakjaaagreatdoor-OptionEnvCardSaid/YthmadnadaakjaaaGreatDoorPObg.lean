/- The options whose names begin so. -/
import Derived.Test.YthmadnadaakjaaaGreatDoorPOcu
import Derived.Test.YthmadnadaakjaaaGreatDoorPOsp
namespace Go.Proofs.YthmadnadaakjaaaGreatDoor.Opt
open Go.RowKit Go.Shelf
attribute [local go_sem] Oper.semAt_some

def cellsO (os : List Op8) : List Value := (os.map optL).flatten
theorem optL_len (o : Op8) : (optL o).length = 7 := rfl
theorem cellsO_app (a : List Op8) (o : Op8) : cellsO (a ++ [o]) = cellsO a ++ optL o := by simp [cellsO]
theorem cellsO_len (os : List Op8) : (cellsO os).length = os.length * 7 := by
  unfold cellsO
  induction os with
  | nil => rfl
  | cons o os ih => simp only [List.map_cons, List.flatten_cons, List.length_append, List.length_cons, optL_len]; omega
def begP (l : Tx) (o : Op8) : Bool := Lib.hasPrefix o.name l
def foundL (l : Tx) : List Op8 := tabL.filter (begP l)
def fsP (l : Tx) (pre : List OpS) : List Op8 := (pre.map (·.1)).filter (begP l)
theorem optL_one (o : Op8) : ∀ u ∈ optL o, u.oneCell' = true := by
  intro u hu; simp [optL] at hu; rcases hu with h | h | h | h | h | h | h <;> (subst h; rfl)
theorem info_optn : (Tryz.prog.info? 73).map (fun i => (i.zero, i.size, i.bytes)) = some (some (.agg #[.string (bs []), .int .i64 0, .string (bs []), .string (bs []), .int .i64 0, .int .i64 0, .string (bs [])]), 7, 88) := by kernel_rfl
theorem info_parts {t : TypeId} {z : Value} {s b : Nat} (h : (Tryz.prog.info? t).map (fun i => (i.zero, i.size, i.bytes)) = some (some z, s, b)) : ∃ i, Tryz.prog.info? t = some i ∧ i.zero = some z ∧ i.size = s ∧ i.bytes = b := by
  cases hq : Tryz.prog.info? t with
  | none => simp [hq] at h
  | some i =>
    simp only [hq, Option.map_some, Option.some.injEq, Prod.mk.injEq] at h
    exact ⟨i, rfl, h.1, h.2.1, h.2.2⟩
/-- What has been found lies in a row of the call's own. -/
structure Fnd (B : Nat) (W : World) (Bf : Nat) (l : Tx) (pre : List OpS) (v : Value) : Prop where
  box : BL W Bf 140 [v]
  row : W.ownsRow B 73 7 v (fsP l pre).length (cellsO (fsP l pre))
  none_ : v = .slice none 0 0 ↔ fsP l pre = []
  far : v.ownBlock ≠ some Bf
  one : v.oneCell' = true
theorem Fnd.turned {B Bf : Nat} {W : World} {l : Tx} {pre : List OpS} {v : Value} (h : Fnd B W Bf l pre v) {b : Nat} {t : TypeId} {xs : List Value} (hb : BL W b t xs) (h0 : xs[1]? = some (.int .i64 0)) : some b ≠ v.ownBlock := by
  intro e
  rcases h.row.2 with ⟨rfl, _⟩ | ⟨g, cap, cur, rfl, _, hg, _, _, hc, hx⟩
  · cases e
  · have e2 : b = g := by simpa [Value.ownBlock] using e
    subst e2
    unfold BL at hb
    rw [hg] at hb
    have hcur : cur = xs.toArray := by cases hb; rfl
    have hne : fsP l pre ≠ [] := fun hh => by have := h.none_.2 hh; cases this
    obtain ⟨o, r, hor⟩ := List.exists_cons_of_ne_nil hne
    have hmem : o ∈ fsP l pre := by rw [hor]; simp
    have hs : o.scope ≠ 0 := by
      unfold fsP at hmem
      obtain ⟨p, _, hp⟩ := List.mem_map.1 (List.mem_filter.1 hmem).1
      exact hp ▸ p.2
    have h1 : (cellsO (fsP l pre))[1]? = some (.int .i64 o.scope) := by rw [hor]; rfl
    rw [← hx, hcur, List.getElem?_take_of_lt (by rw [hor]; simp only [List.length_cons]; omega)] at h1
    simp only [h0] at h1
    exact hs (by simpa using h1.symm)
theorem Fnd.alloc {B Bf : Nat} {W : World} {l : Tx} {pre : List OpS} {v : Value} (h : Fnd B W Bf l pre v) (o : Obj) : Fnd B (W.alloc o) Bf l pre v := ⟨h.box.alloc o, h.row.alloc o, h.none_, h.far, h.one⟩
theorem Fnd.kept {B Bf C : Nat} {W W' : World} {l : Tx} {pre : List OpS} {v : Value} {row : Option Nat} (h : Fnd B W Bf l pre v) (hg : W.grownBy W' row) (hr : ∀ r, row = some r → C ≤ r ∧ ∃ o : Obj, W.heap[r]? = some o ∧ o.isCells = false) : Fnd B W' Bf l pre v := by
  refine ⟨h.box.kept hg hr, h.row.kept hg ?_, h.none_, h.far, h.one⟩
  rcases h.row.2 with ⟨rfl, _⟩ | ⟨g, cap, cur, rfl, _, hgb, _⟩
  · exact .inl rfl
  · refine .inr fun e => ?_
    obtain ⟨_, o, ho, hc⟩ := hr g e.symm
    rw [hgb] at ho; cases ho; cases hc

/-- One option appended to a row of the call's own, or to nil. -/
theorem wpListIn_app_opt {F : Fence} {n : Nat} {ops : Array Oper} {rest : List Oper} {op : Oper} {a : Act} {w : World} {Q : Exit → Act → World → Prop} (hgd : op.guard = none) (s x : Operand) (ho : op.op = .call { callee := .builtin .append, args := #[s, x], argTypes := #[140, 140] })
    (base : Nat) (v : Value) (k : Nat) (xs : List Value) (u : List Value) (c : Nat) (b : Nat) (hs : a.eval s = v) (hown : w.ownsRow base 73 7 v k xs) (hul : u.length = 7) (hu : ∀ y ∈ u, y.oneCell' = true) (hx : a.eval x = .slice (some ⟨b, 0, none⟩) 1 c) (hb : BL w b 73 u) (hbase : base ≤ w.heap.size) (hn : k + 1 ≤ 1000)
    (h : ∀ g cap w', w'.ownsRow base 73 7 (.slice (some ⟨g, 0, none⟩) (k + 1) cap) (k + 1) (xs ++ u) → w.grownBy w' v.ownBlock → ((Value.slice (some ⟨g, 0, none⟩) (k + 1) cap).ownBlock = v.ownBlock ∨ (Value.slice (some ⟨g, 0, none⟩) (k + 1) cap).ownBlock = some w.heap.size) → wpListIn F n Tryz.prog ops Q rest (a.put op.dst (.slice (some ⟨g, 0, none⟩) (k + 1) cap)) w') :
    wpListIn F n Tryz.prog ops Q (op :: rest) a w := by
  obtain ⟨i0, hi0, hz0, hz1, hz2⟩ := info_parts info_optn
  refine wpListIn_append_own_at w hgd s x 140 ho base 73 i0 _ 7 88 Tryz.underlying140 hi0 hz0 hz1 hz2 rfl (by decide) v k xs hs hown ⟨b, 0, none⟩ 1 c u hx (by omega)
    (fun j y hj => by rw [Addr.add_mid, Nat.zero_add, hb.cell j]; exact hj) hu (by unfold maxLen; omega) (by omega) hbase ?_
  intro v' w' hown' hgr _ hloc
  obtain ⟨g, cap, rfl⟩ := ownsRow_succ hown'
  exact h g cap w' hown' hgr hloc
theorem fsP_no {l : Tx} {pre : List OpS} {x : OpS} (h : begP l x.1 = false) : fsP l (pre ++ [x]) = fsP l pre := by
  simp [fsP, List.map_append, List.filter_append, h]
theorem fsP_yes {l : Tx} {pre : List OpS} {x : OpS} (h : begP l x.1 = true) : fsP l (pre ++ [x]) = fsP l pre ++ [x.1] := by
  simp [fsP, List.map_append, List.filter_append, h]
theorem fsP_le (l : Tx) (pre : List OpS) : (fsP l pre).length ≤ pre.length := by
  unfold fsP; exact Nat.le_trans (List.length_filter_le _ _) (by simp)
theorem Fnd.cells_ {B Bf : Nat} {W : World} {l : Tx} {pre : List OpS} {v : Value} (h : Fnd B W Bf l pre v) {j : Nat} (hj : v.ownBlock = some j) : B ≤ j ∧ ∃ o : Obj, W.heap[j]? = some o ∧ o.isCells = true := by
  rcases h.row.2 with ⟨rfl, _⟩ | ⟨g, cap, cur, rfl, hb, hgb, _⟩
  · cases hj
  · obtain rfl : g = j := by simpa [Value.ownBlock] using hj
    exact ⟨hb, _, hgb, rfl⟩
/-- One more is found. -/
theorem Fnd.more {B Bf : Nat} {W w1 : World} {l : Tx} {pre : List OpS} {v : Value} (h : Fnd B W Bf l pre v) (x : OpS) (hx : begP l x.1 = true) (u : Obj) {g cap : Nat} (hBf : Bf < W.heap.size) (hB : B ≤ W.heap.size)
    (hown : w1.ownsRow B 73 7 (.slice (some ⟨g, 0, none⟩) ((fsP l pre).length + 1) cap) ((fsP l pre).length + 1) (cellsO (fsP l pre) ++ optL x.1)) (hgr : (W.alloc u).grownBy w1 v.ownBlock)
    (hloc : (Value.slice (some ⟨g, 0, none⟩) ((fsP l pre).length + 1) cap).ownBlock = v.ownBlock ∨ (Value.slice (some ⟨g, 0, none⟩) ((fsP l pre).length + 1) cap).ownBlock = some (W.alloc u).heap.size) :
    Fnd B (w1.setCell ⟨Bf, 0, none⟩ (.slice (some ⟨g, 0, none⟩) ((fsP l pre).length + 1) cap)) Bf l (pre ++ [x]) (.slice (some ⟨g, 0, none⟩) ((fsP l pre).length + 1) cap) ∧
    KeepsOthers W (w1.setCell ⟨Bf, 0, none⟩ (.slice (some ⟨g, 0, none⟩) ((fsP l pre).length + 1) cap)) ∧
    KT W (w1.setCell ⟨Bf, 0, none⟩ (.slice (some ⟨g, 0, none⟩) ((fsP l pre).length + 1) cap)) ∧
    (∀ b t xs, BL W b t xs → b ≠ Bf → some b ≠ v.ownBlock → BL (w1.setCell ⟨Bf, 0, none⟩ (.slice (some ⟨g, 0, none⟩) ((fsP l pre).length + 1) cap)) b t xs) ∧
    (∀ w, Below B w W → B ≤ Bf → Below B w (w1.setCell ⟨Bf, 0, none⟩ (.slice (some ⟨g, 0, none⟩) ((fsP l pre).length + 1) cap))) ∧
    W.heap.size ≤ (w1.setCell ⟨Bf, 0, none⟩ (.slice (some ⟨g, 0, none⟩) ((fsP l pre).length + 1) cap)).heap.size ∧ g ≠ Bf ∧ (some g = v.ownBlock ∨ W.heap.size ≤ g) := by
  have hbl : ∀ b t xs, BL W b t xs → some b ≠ v.ownBlock → BL w1 b t xs := fun b t xs hb hne => (hb.alloc u).keep (hgr.block b (hb.alloc u).lt hne)
  have hne : ∀ b t xs, BL W b t xs → b ≠ Bf → some b ≠ v.ownBlock → BL (w1.setCell ⟨Bf, 0, none⟩ (.slice (some ⟨g, 0, none⟩) ((fsP l pre).length + 1) cap)) b t xs := fun b t xs hb h1 h2 =>
    (hbl b t xs hb h2).keep (Below.heap_setCell _ _ _ _ h1)
  have hbox := hbl Bf _ _ h.box (fun e => h.far e.symm)
  have hg : g ≠ Bf ∧ (some g = v.ownBlock ∨ W.heap.size ≤ g) := by
    rcases hloc with e | e
    · have e' : some g = v.ownBlock := e
      exact ⟨fun e2 => h.far (by rw [← e', e2]), .inl e'⟩
    · simp [Value.ownBlock] at e
      exact ⟨by omega, .inr (by omega)⟩
  have hsz : W.heap.size ≤ (w1.setCell ⟨Bf, 0, none⟩ (.slice (some ⟨g, 0, none⟩) ((fsP l pre).length + 1) cap)).heap.size := by
    have := hgr.size; rw [size_alloc] at this; simp [World.setCell]; omega
  have hrow := hown.kept (grownBy_setCell' w1 Bf (.slice (some ⟨g, 0, none⟩) ((fsP l pre).length + 1) cap)) (.inr (fun e => hg.1 (by simpa [Value.ownBlock] using e)))
  have hko : KeepsOthers W (w1.setCell ⟨Bf, 0, none⟩ (.slice (some ⟨g, 0, none⟩) ((fsP l pre).length + 1) cap)) :=
    ((KeepsOthers.alloc W u).trans (KeepsOthers.of_grownBy hgr (fun j o hj ho => by
      obtain ⟨_, o', ho', hc⟩ := h.cells_ hj
      have hlt := (Array.getElem?_eq_some_iff.1 ho').1
      rw [Below.heap_alloc W u j hlt, ho'] at ho
      cases ho; exact hc))).trans (KeepsOthers.setCell _ _ _)
  refine ⟨⟨hbox.set_ 0 _, ?_, ?_, fun e => hg.1 (by simpa [Value.ownBlock] using e), rfl⟩, hko, ⟨hsz, fun b t xs hb h0 => hne b t xs hb (fun e => ?_) (h.turned hb h0)⟩, hne, fun w hw hB2 => ?_, hsz, hg⟩
  · rw [fsP_yes hx, List.length_append, cellsO_app]; exact hrow
  · rw [fsP_yes hx]; simp
  · subst e
    have hbx := h.box
    unfold BL at hb hbx
    rw [hbx] at hb
    have : xs = [v] := by cases hb; rfl
    rw [this] at h0; simp at h0
  · exact (((hw.alloc hB _).grown hgr (by rw [size_alloc]; omega) (fun k hk => (h.cells_ hk).1)).setCell (p := ⟨Bf, 0, none⟩) hB2 _)

set_option maxRecDepth 100000 in
set_option maxHeartbeats 4000000 in
theorem beginning_any (l : Tx) (w : World) :
    Calls Tryz.prog 73 #[.string (bs l)] w fun e w' => ∃ v, e = .returned v ∧ w'.ownsRow w.heap.size 73 7 v (foundL l).length (cellsO (foundL l)) ∧ Below w.heap.size w w' := by
  have hp : ∀ (nm : Tx) (W : World), Calls Tryz.prog 113 #[.string (bs nm), .string (bs l)] W fun e w' => e = .returned (.bool (Lib.hasPrefix nm l)) ∧ w' = W := fun nm W => by
    have := Tryz.strings_HasPrefix (bs nm) (bs l) W
    rw [bs_list, bs_list] at this
    exact this
  have HP := Lib.hid hp
  clear hp
  refine (callsIn_wide (n := 6)).1 ?_
  refine callsIn_of_wp_marks Tryz.func73 rfl trivial ?_ rfl
  simp only [Tryz.ntmps73, List.size_toArray, List.length_cons, List.length_nil, Nat.reduceAdd, Nat.reduceSub, Array.replicate_succ, Array.replicate_zero, List.push_toArray, List.append_toArray, List.nil_append, List.cons_append]
  gi_wp2
  obtain ⟨W3, hW3⟩ : ∃ W3, (w.alloc (Obj.cells #[Value.string (bs l)] 9)).alloc (Obj.cells #[Value.slice none 0 0] 140) = W3 := ⟨_, rfl⟩
  have hs3 : W3.heap.size = w.heap.size + 2 := by rw [← hW3]; simp
  have hA3 : BL W3 w.heap.size 9 [.string (bs l)] := by rw [← hW3]; exact (BL.new w 9 [.string (bs l)]).alloc _
  have hI3 : BL W3 (w.heap.size + 1) 140 [.slice none 0 0] := by
    rw [← hW3]
    have := BL.new (w.alloc (Obj.cells #[Value.string (bs l)] 9)) 140 [.slice none 0 0]
    rwa [size_alloc] at this
  have hB3 : Below w.heap.size w W3 := by rw [← hW3]; exact ((Below.refl _ w).alloc (Nat.le_refl _) _).alloc (by simp) _
  have hF3 : Fnd w.heap.size W3 (w.heap.size + 1) l [] (.slice none 0 0) := ⟨hI3, ⟨rfl, .inl ⟨rfl, rfl⟩⟩, by simp [fsP], by simp [Value.ownBlock], rfl⟩
  rw [hW3]
  clear hW3
  refine wpIn_rangeFunc_ownH rfl (by omega) (gf := 102) (lb := #[]) rfl trivial (enters_of Tryz.func102 (by kernel_rfl) rfl)
    (table_stopsS 5 W3) (fun h k => h.trans k) (fun W l o o' _ h hc _ => KT.putObj W l o o' h hc) (Below.refl _ _) (fun _ => rfl)
    (fun pre W => BL W w.heap.size 9 [.string (bs l)] ∧ (∃ v, Fnd w.heap.size W (w.heap.size + 1) l pre v ∧ v.ownBlock ≠ some w.heap.size) ∧ Below w.heap.size w W ∧ W3.heap.size ≤ W.heap.size ∧ pre.length ≤ 63)
    (fun c pre W => False)
    ?hI (fun _ _ _ _ _ h _ _ => h) ⟨hA3, ⟨_, hF3, by simp [Value.ownBlock]⟩, hB3, Nat.le_refl _, by simp⟩
    (fun x a' W => ∃ Bx, W3.heap.size ≤ Bx ∧ BL W Bx 73 (optL x.1) ∧ a' = { tmps := #[.string (bs l), .pointer (some ⟨w.heap.size, 0, none⟩), .slice none 0 0, .pointer (some ⟨w.heap.size + 1, 0, none⟩), .pointer (some ⟨Bx, 0, none⟩), optV x.1, undef, undef, undef, undef, undef, undef, undef, undef, undef], defers := [] })
    ?hAx ?assign ?body ?done ?stop
  case hI =>
    rintro s A B row ⟨h1, ⟨v, h2, h3⟩, h6, h7, h8⟩ hg hr
    exact ⟨h1.kept hg hr, ⟨v, h2.kept hg hr, h3⟩, ownFrom_below (β := Unit) (Nat.le_refl _) (by omega) () A B row h6 hg hr, Nat.le_trans h7 hg.size, h8⟩
  case hAx =>
    rintro x a' s A B row ⟨Bx, h1, h2, h3⟩ hg hr
    exact ⟨Bx, h1, h2.kept hg hr, h3⟩
  case assign =>
    rintro l' pre ⟨⟨nm, sc, kd, fi, le, mo, ch⟩, hx⟩ W K ⟨h1, ⟨v, h2, h3⟩, h6, h7, h8⟩ hK
    have HK := Lib.hid (hK _ (W.alloc (.cells (optL ⟨nm, sc, kd, fi, le, mo, ch⟩).toArray 73)) ((KeepsOthers.alloc _ _).from _) (KT.only ((Only.refl [] W).alloc _)) ⟨h1.alloc _, ⟨v, h2.alloc _, h3⟩, h6.alloc (by omega) _, by simp; omega, h8⟩ ⟨W.heap.size, h7, BL.new W 73 _, rfl⟩)
    clear hK h1 h2 h3 h6 h7 h8
    dsimp only [optV, optL]
    gi_wp2
    exact HK.out
  case body =>
    rintro l' pre ⟨⟨nm, sc, kd, fi, le, mo, ch⟩, hxs⟩ a' W hl' ⟨r, hr⟩ ⟨h1, ⟨v, h2, h3⟩, h6, h7, h8⟩ ⟨Bx, hBx, hx, rfl⟩ hlen
    have hra : W.rangeAt Bx 0 [.string (bs nm), .int .i64 sc, .string (bs kd), .string (bs fi), .int .i64 le, .int .i64 mo, .string (bs ch)] := hx.range (fun j v hj => by rw [Nat.zero_add]; exact hj)
    have x0 : W.cell? ⟨Bx, 0, none⟩ = some (.string (bs nm)) := hx.cell 0
    have a0 : W.cell? ⟨w.heap.size, 0, none⟩ = some (.string (bs l)) := h1.cell 0
    have v0 : W.cell? ⟨w.heap.size + 1, 0, none⟩ = some v := h2.box.cell 0
    have hW : w.heap.size + 2 ≤ W.heap.size := by omega
    have HX := Lib.hid hra
    have HH1 := Lib.hid h1
    have HH2 := Lib.hid h2
    have HH3 := Lib.hid h3
    have H6 := Lib.hid h6
    have H7 := Lib.hid h7
    have H8 := Lib.hid (show pre.length < 63 from hlen)

    clear hra h1 h2 h3 h6 hx hl' hr hlen h8
    dsimp only [optV, optL]
    have hk := fsP_le l pre
    gi_wp2
    refine ⟨trivial, (CallsIn.inRound l' (callsIn_wide.2 (HP.out nm W))).mono ?_⟩
    rintro e W' ⟨rfl, hww⟩
    obtain rfl := hww.symm
    cases hpre : Lib.hasPrefix nm l with
    | false =>
      have hb : begP l (⟨⟨nm, sc, kd, fi, le, mo, ch⟩, hxs⟩ : OpS).1 = false := hpre
      have hB := Lib.hid (fsP_no (pre := pre) hb)
      clear hb
      gi_wp2
      have hf := HH2.out
      exact ⟨KeepsFrom.refl _ _, KT.refl _, HH1.out, ⟨v, ⟨hf.box, by rw [hB.out]; exact hf.row, by rw [hB.out]; exact hf.none_, hf.far, hf.one⟩, HH3.out⟩, H6.out, H7.out, by rw [List.length_append]; have := H8.out; simp; omega⟩
    | true =>
      have hb : begP l (⟨⟨nm, sc, kd, fi, le, mo, ch⟩, hxs⟩ : OpS).1 = true := hpre
      have hB := Lib.hid hb
      clear hb
      have hal := HH2.out.row.alloc (.cells (optL ⟨nm, sc, kd, fi, le, mo, ch⟩).toArray 73)
      have HAL := Lib.hid hal
      clear hal
      have h63 := H8.out
      have HBN := Lib.hid (BL.new W 73 (optL ⟨nm, sc, kd, fi, le, mo, ch⟩))
      gi_wp2_with (first
        | (refine wpListIn_load_mid rfl 73 _ rfl Bx 0 rfl [.string (bs nm), .int .i64 sc, .string (bs kd), .string (bs fi), .int .i64 le, .int .i64 mo, .string (bs ch)] _ HX.out Tryz.underlying73 rfl (by kernel_rfl) ?_)
        | (gi_at_builtin; refine wpListIn_app_opt rfl (.tmp 10) (.tmp 12) rfl w.heap.size v (fsP l pre).length (cellsO (fsP l pre)) (optL ⟨nm, sc, kd, fi, le, mo, ch⟩) 1 W.heap.size rfl HAL.out rfl (optL_one _) rfl HBN.out (by simp; omega) (by omega) ?_; intro g' cap' w1 hown hgr hloc; have m := HH2.out.more ⟨⟨nm, sc, kd, fi, le, mo, ch⟩, hxs⟩ hB.out (.cells (optL ⟨nm, sc, kd, fi, le, mo, ch⟩).toArray 73) (by omega) (by omega) hown hgr hloc; have cb : BL w1 (w.heap.size + 1) 140 [v] := (HH2.out.box.alloc _).keep (hgr.block _ (HH2.out.box.alloc _).lt (fun e => HH2.out.far e.symm)); have c1 := cb.cell 0; have f1 := cb.frozen 0; have M := Lib.hid m; clear m cb hown hgr hloc))
      obtain ⟨m1, m2, m3, m4, m5, m6, m7, m8⟩ := M.out
      refine ⟨m2.from _, m3, m4 _ _ _ HH1.out (by omega) (fun e => HH3.out e.symm), ⟨_, m1, ?_⟩, m5 w H6.out (by omega), by omega, by rw [List.length_append]; simp; omega⟩
      intro e
      have e' : g' = w.heap.size := by simpa [Value.ownBlock] using e
      rcases m8 with h | h
      · exact HH3.out (by rw [← h, e'])
      · omega
  case done =>
    rintro D xs W hD hxs ⟨h1, ⟨v, h2, h3⟩, h6, h7, h8⟩ hK
    have hfs : fsP l xs = foundL l := by unfold fsP foundL; rw [hxs]
    have v0 : W.cell? ⟨w.heap.size + 1, 0, none⟩ = some v := h2.box.cell 0
    have hrow := ownsRow_putObj h2.row (.deferred none) hK rfl
    rw [hfs] at hrow
    have hb := h6.trans (belowK_b (w := w) (Nat.le_refl _) _ D _ (.deferred none) (by omega) hK rfl rfl)
    have HR := Lib.hid hrow
    have HB := Lib.hid hb
    have HKK := Lib.hid hK
    clear h1 h2 h3 h6 h7 h8 hrow hb hfs hxs hK
    gi_wp2
    refine ⟨by simp, .inl ⟨_, _, rfl, run_takeDeferred HKK.out, ?_⟩⟩
    exact ⟨_, results_tmp rfl _ _ _, v, rfl, HR.out, HB.out⟩
  case stop =>
    rintro D c pre W _ _ h _
    exact h.elim
end Go.Proofs.YthmadnadaakjaaaGreatDoor.Opt
/- Known, for every text. -/
namespace Go.Proofs.YthmadnadaakjaaaGreatDoor.Opt
open Go.RowKit

def knownP (l : Tx) : Tx × Tx × Int :=
  match namedP l with
  | some (o, _) => (l, o.kind, 0)
  | none =>
    if l = [] ∨ foundL (cutItemP l).1 = [] then ([], [], 6)
    else if 1 < (foundL (cutItemP l).1).length then ([], [], 3)
    else if (cutItemP l).2 ≠ -1 ∧ ((foundL (cutItemP l).1).headD noOpt).kind ≠ arrK then ([], [], 6)
    else (((foundL (cutItemP l).1).headD noOpt).name ++ l.drop (cutItemP l).1.length, ((foundL (cutItemP l).1).headD noOpt).kind, 0)
theorem cutItemP_le (l : Tx) : (cutItemP l).1.length ≤ l.length := by
  unfold cutItemP
  split
  · exact Nat.le_refl _
  · exact (cutP_le l).1

theorem found_le {a : Tx} (o : Op8) (ho : o ∈ foundL a) : o.name.length ≤ 100 := by
  have h : tabL.all (fun o => decide (o.name.length ≤ 100)) = true := by decide
  exact of_decide_eq_true (List.all_eq_true.1 h o (List.mem_filter.1 ho).1)
theorem row_form {w : World} {B : Nat} {v : Value} {fs : List Op8} (h : w.ownsRow B 73 7 v fs.length (cellsO fs)) : ∃ A C, v = .slice A fs.length C ∧ (∀ o r, fs = o :: r → ∃ g, A = some ⟨g, 0, none⟩ ∧ fs.length ≤ C ∧ w.cell? ⟨g, 0, none⟩ = some (.string (bs o.name)) ∧ w.cell? ⟨g, 2, none⟩ = some (.string (bs o.kind))) := by
  rcases h.2 with ⟨rfl, hz⟩ | ⟨g, cap, cur, rfl, hb, hg, h1, h2, h3, h4⟩
  · exact ⟨none, 0, by rw [hz], fun o r e => by rw [e] at hz; cases hz⟩
  · refine ⟨_, _, rfl, fun o r e => ⟨g, rfl, h1, ?_, ?_⟩⟩
    · have := h.cells (g := g) rfl 0 (.string (bs o.name)) (by rw [e]; rfl)
      rwa [Addr.add_mid] at this
    · have := h.cells (g := g) rfl 2 (.string (bs o.kind)) (by rw [e]; rfl)
      rwa [Addr.add_mid] at this

set_option maxRecDepth 100000 in
set_option maxHeartbeats 4000000 in
theorem known_any {B : Nat} (l : Tx) (hl : l.length ≤ 140737488355328) (w : World) (ht : Tabs B w) (hB : B ≤ w.heap.size) :
    Calls Tryz.prog 36 #[.string (bs l)] w fun e w' => e = .returned (.tuple #[.string (bs (knownP l).1), .string (bs (knownP l).2.1), .int .i64 (knownP l).2.2]) ∧ Below w.heap.size w w' := by
  have H1 := Lib.hid (named_any l hl w ht hB)
  have H2 := Lib.hid (fun w' (ht' : Tabs B w') (hB' : B ≤ w'.heap.size) => cutItem_any l hl w' ht' hB')
  have HT := Lib.hid ht
  obtain ⟨R, hR⟩ : ∃ R, R = knownP l := ⟨_, rfl⟩
  rw [← hR]
  have HR := Lib.hid hR
  have hsl : (bs l).size = l.length := bs_size l
  clear hR ht
  cases hn : namedP l with
  | some oi =>
    obtain ⟨⟨nm, sc, kd, fi, le, mo, ch⟩, i⟩ := oi
    have HV := Lib.hid (show R = (l, kd, 0) by rw [HR.out, knownP, hn])
    have h1 := H1.out
    rw [hn] at h1
    have H1b := Lib.hid h1
    clear h1 H1 H2 hn
    go_enter Tryz.func36, Tryz.ntmps36
    go_wp2_with fail
    refine H1b.out.mono ?_
    rintro e w1 ⟨rfl, hb1⟩
    have HB := Lib.hid hb1
    clear hb1 H1b
    dsimp only [namedV, placeV, placeL]
    go_wp2_with fail
    go_region
    go_wp2_with fail
    go_ret3
    exact ⟨by rw [HV.out]; rfl, (HB.out.alloc HB.out.size _).drew⟩
  | none =>
    have h1 := H1.out
    rw [hn] at h1
    have H1b := Lib.hid h1
    have HV0 := Lib.hid (show R = if l = [] ∨ foundL (cutItemP l).1 = [] then ([], [], 6) else if 1 < (foundL (cutItemP l).1).length then ([], [], 3) else if (cutItemP l).2 ≠ -1 ∧ ((foundL (cutItemP l).1).headD noOpt).kind ≠ arrK then ([], [], 6)
      else (((foundL (cutItemP l).1).headD noOpt).name ++ l.drop (cutItemP l).1.length, ((foundL (cutItemP l).1).headD noOpt).kind, 0) by rw [HR.out, knownP, hn])
    have hle := cutItemP_le l
    clear h1 H1 hn HR
    generalize (cutItemP l).2 = i at H2 HV0
    generalize (cutItemP l).1 = a at H2 HV0 hle
    go_enter Tryz.func36, Tryz.ntmps36
    go_wp2_with fail
    refine H1b.out.mono ?_
    rintro e w1 ⟨rfl, hb1⟩
    have HB := Lib.hid hb1
    clear hb1 H1b
    dsimp only [namedV, placeV, placeL, noOpt]
    go_wp2_with fail
    have hbA := HB.out.alloc HB.out.size (.cells #[.string (bs []), .int .i64 0, .string (bs []), .string (bs []), .int .i64 0, .int .i64 0, .string (bs []), .int .i64 0] 75)
    refine (H2.out _ (HT.out.below (hbA.mono hB)) (Nat.le_trans hB hbA.size)).mono ?_
    clear H2 HB
    rintro e w2 ⟨rfl, hb2⟩
    have HB2 := Lib.hid (hbA.trans (hb2.mono hbA.size))
    clear hbA hb2
    go_wp2_with fail
    refine (beginning_any a w2).mono ?_
    rintro e w3 ⟨v, rfl, hrow, hb3⟩
    have HB3 := Lib.hid (HB2.out.trans (hb3.mono HB2.out.size))
    obtain ⟨A, C, rfl, hform⟩ := row_form hrow
    clear hrow hb3 HB2
    have hem : (bs l).toList.isEmpty = l.isEmpty := by rw [bs_tl]
    have hmem : ∀ o ∈ foundL a, o.name.length ≤ 100 := fun o ho => found_le o ho
    generalize foundL a = fs at HV0 hform hmem ⊢
    by_cases hl0 : l = []
    · have HV := Lib.hid (show R = ([], [], 6) by rw [HV0.out, if_pos (.inl hl0)])
      have hem2 : (bs l).toList.isEmpty = true := by rw [hem, hl0]; rfl
      clear hem hform HV0 hl0 hmem
      go_wp2_with fail
      go_ret3
      exact ⟨by rw [HV.out]; rfl, HB3.out⟩
    · have hem2 : (bs l).toList.isEmpty = false := by rw [hem]; cases l with | nil => exact absurd rfl hl0 | cons _ _ => rfl
      clear hem
      rcases fs with _ | ⟨⟨nm, sc, kd, fi, le, mo, ch⟩, _ | ⟨o2, r⟩⟩
      · have HV := Lib.hid (show R = ([], [], 6) by rw [HV0.out, if_pos (.inr rfl)])
        clear hform HV0 hmem
        go_wp2_with fail
        go_ret3
        exact ⟨by rw [HV.out]; rfl, HB3.out⟩
      · obtain ⟨g, rfl, hC, c0, c2⟩ := hform _ _ rfl
        have e1 : R = if i ≠ -1 ∧ kd ≠ arrK then ([], [], 6) else (nm ++ l.drop a.length, kd, 0) := by
          rw [HV0.out, if_neg (by simp [hl0]), if_neg (by simp)]; rfl
        have E1 := Lib.hid e1
        have hnl : nm.length ≤ 100 := hmem ⟨nm, sc, kd, fi, le, mo, ch⟩ (by simp)
        have hnm : (bs nm).size = nm.length := bs_size nm
        have hex : ((bs l).extract a.length l.length).size = l.length - a.length := by rw [ByteArray.size_extract, hsl]; omega
        clear hform HV0 e1 hl0 hmem
        dsimp only at c0 c2
        have hlen : (bs a).size = a.length := bs_size a
        have hcut : bs nm ++ (bs l).extract a.length l.length = bs (nm ++ l.drop a.length) := by
          rw [cut_ext, List.take_of_length_le (Nat.le_refl _), bs_app]
        have HC := Lib.hid hcut
        clear hcut
        have hle2 : (a.length : Int) ≤ ((bs l).size : Int) := by omega
        by_cases hi : i = -1
        · have HV := Lib.hid (show R = (nm ++ l.drop a.length, kd, 0) by rw [E1.out, if_neg (by simp [hi])])
          have hj2 : decide (i = -1) = true := decide_eq_true hi
          have hj3 : (i != -1) = false := by simp [hi]
          clear E1
          go_wp2_with fail
          go_region
          go_wp2_with fail
          go_ret3
          exact ⟨by rw [HV.out, ← HC.out]; rfl, HB3.out.drew⟩
        · have hj2 : decide (i = -1) = false := decide_eq_false hi
          have hj3 : (i != -1) = true := by simp [hi]
          by_cases hkd : kd = arrK
          · have HV := Lib.hid (show R = (nm ++ l.drop a.length, kd, 0) by rw [E1.out, if_neg (by simp [hkd])])
            have ek : ((bs kd).toList == [97, 114, 114, 97, 121]) = true := by rw [bs_tl, hkd]; rfl
            clear E1 hi hkd
            go_wp2_with fail
            go_region
            go_wp2_with fail
            go_ret3
            exact ⟨by rw [HV.out, ← HC.out]; rfl, HB3.out.drew⟩
          · have HV := Lib.hid (show R = ([], [], 6) by rw [E1.out, if_pos ⟨hi, hkd⟩])
            have ek : ((bs kd).toList == [97, 114, 114, 97, 121]) = false := by rw [bs_tl]; exact beq_eq_false_iff_ne.2 hkd
            clear E1 hi hkd
            go_wp2_with fail
            go_ret3
            exact ⟨by rw [HV.out]; rfl, HB3.out⟩
      · have HV := Lib.hid (show R = ([], [], 3) by rw [HV0.out, if_neg (by simp [hl0]), if_pos (by simp)])
        clear hform HV0 hmem
        simp only [List.length_cons]
        go_wp2_with fail
        go_ret3
        exact ⟨by rw [HV.out]; rfl, HB3.out⟩
end Go.Proofs.YthmadnadaakjaaaGreatDoor.Opt
/- find, of an option that is no array. -/
namespace Go.Proofs.YthmadnadaakjaaaGreatDoor.Opt
open Go.RowKit Go.Maps

set_option maxRecDepth 100000 in
set_option maxHeartbeats 2000000 in
theorem first_plain (o : Op8) (hk : o.kind ≠ arrK) (w : World) :
    Calls Tryz.prog 107 #[optV o] w fun e w' => e = .returned (.agg #[.string (bs o.first), .slice none 0 0]) ∧ Below w.heap.size w w' := by
  obtain ⟨nm, sc, kd, fi, le, mo, ch⟩ := o
  dsimp only [optV, optL] at hk ⊢
  have ek : ((bs kd).toList == [97, 114, 114, 97, 121]) = false := by rw [bs_tl]; exact beq_eq_false_iff_ne.2 hk
  have hZ := BL.new (w.alloc (.cells #[.string (bs nm), .int .i64 sc, .string (bs kd), .string (bs fi), .int .i64 le, .int .i64 mo, .string (bs ch)] 73)) 90 [.string (bs fi), .slice none 0 0]
  rw [size_alloc] at hZ
  have HZ := Lib.hid hZ
  clear hZ hk
  go_enter Tryz.func107, Tryz.ntmps107
  go_wp2_with fail
  refine bodyPost_ret (v := .agg #[.string (bs fi), .slice none 0 0]) (results_cell (p := 2) (by kernel_rfl) _ _ (w.heap.size + 1) _ _ _ _ rfl HZ.out Tryz.underlying90 rfl (by kernel_rfl)) rfl ⟨rfl, ?_⟩
  exact ((Below.refl _ w).alloc (Nat.le_refl _) _).alloc (by simp) _

/-- What find hands back. -/
def findV (o : Op8) (i : Int) (t : ByteArray) (e : Int) : Value := .tuple #[placeV o i, .string t, .int .i64 e]
theorem results_ctt {P : Program} {fn : Func} {p u u2 : Tmp} {ty : TypeId} (h : fn.results = #[.cell p ty, .tmp u, .tmp u2]) (tmps : Array Value) (w : World) (g : Nat) (t : TypeId) (cs : List Value) (d : TypeDesc)
    (hp : tmps.getD p undef = .pointer (some ⟨g, 0, none⟩)) (hg : BL w g t cs) (hu : P.underlying ty = some d) (hd : d.isRow = true) (hi : (P.info? ty).map (·.size) = some cs.length) :
    (results fn tmps).run P w = .ok (.tuple #[.agg cs.toArray, tmps.getD u undef, tmps.getD u2 undef]) w := by
  have hp' : tmps[p]?.getD undef = .pointer (some ⟨g, 0, none⟩) := by simpa using hp
  simp [results, h, hp', asAddr, run_loadVar_mid w g 0 ty cs d (hg.range (fun j v hj => by simpa using hj)) hu hd hi]
set_option maxRecDepth 100000 in
set_option maxHeartbeats 4000000 in
theorem find_has {B : Nat} (b : Nat) (sc : Int) (own : Value) (q : Option Addr) (ls : List (DataW Value)) (l : Tx) (o : Op8) (s : ByteArray) (A : Option Addr) (n c : Nat) (hl : l.length ≤ 140737488355328) (w : World) (ht : Tabs B w) (hB : B ≤ w.heap.size)
    (hs : SetB w b sc own q) (hls : LvAt w (some ⟨b, 1, none⟩) ls) (hn : namedP l = some (o, -1)) (hk : o.kind ≠ arrK) (hon : o.name.length ≤ 140737488355328) (hlook : lookP ls o.name = some (.agg #[.string s, .slice A n c])) :
    Calls Tryz.prog 69 #[.pointer (some ⟨b, 0, none⟩), .string (bs l)] w fun e w' => e = .returned (findV o (-1) s 0) ∧ Below w.heap.size w w' := by
  have h1 := named_any l hl w ht hB
  rw [hn] at h1
  obtain ⟨nm, sc2, kd, fi, le, mo, ch⟩ := o
  dsimp only at hk hlook hon
  have H1 := Lib.hid (fun w' (hb : Below w.heap.size w w') => named_any l hl w' (ht.below (hb.mono hB)) (Nat.le_trans hB hb.size))
  have H2 := Lib.hid (fun w' (hb : Below w.heap.size w w') => lookUp_any (some ⟨b, 1, none⟩) ls nm (by unfold maxLen; omega) w' (LvAt.later hb hls))
  rw [hn] at H1
  rw [hlook] at H2
  have ek : ((bs kd).toList == [97, 114, 114, 97, 121]) = false := by rw [bs_tl]; exact beq_eq_false_iff_ne.2 hk
  have HS := Lib.hid hs
  have HZ := Lib.hid (BL.new w 75 (placeL noOpt 0))
  have c1 : ∀ w', Below w.heap.size w w' → w'.cell? ⟨b, 1, none⟩ = some own := fun w' hb => (hb.cell (p := ⟨b, 1, none⟩) (BL.lt hs)).trans (BL.cell hs 1)
  clear h1 hs hls ht hn hlook hk
  go_enter Tryz.func69, Tryz.ntmps69
  go_wp2_with fail
  refine (H1.out _ ((Below.refl _ w).alloc (Nat.le_refl _) _)).mono ?_
  rintro e w1 ⟨rfl, hb1⟩
  have hz1 := HZ.out.keep (hb1.block _ HZ.out.lt)
  have HB1 := Lib.hid (((Below.refl _ w).alloc (Nat.le_refl _) (.cells (placeL noOpt 0).toArray 75)).trans (hb1.mono (by simp)))
  have hs1 : w.heap.size + 1 ≤ w1.heap.size := by have := hb1.size; rw [size_alloc] at this; exact this
  have HZ1 := Lib.hid hz1
  clear hb1 hz1 H1 HZ
  dsimp only [namedV, placeV, placeL]
  go_upto_region 4 with fail
  have hA := BL.new w1 75 [.string (bs nm), .int .i64 sc2, .string (bs kd), .string (bs fi), .int .i64 le, .int .i64 mo, .string (bs ch), .int .i64 (-1)]
  have hX0 : Below w.heap.size w (w1.alloc (.cells #[.string (bs nm), .int .i64 sc2, .string (bs kd), .string (bs fi), .int .i64 le, .int .i64 mo, .string (bs ch), .int .i64 (-1)] 75)) := HB1.out.alloc (by omega) _
  have hXZ := HZ1.out.alloc (.cells #[.string (bs nm), .int .i64 sc2, .string (bs kd), .string (bs fi), .int .i64 le, .int .i64 mo, .string (bs ch), .int .i64 (-1)] 75)
  have hXs : (w1.alloc (.cells #[.string (bs nm), .int .i64 sc2, .string (bs kd), .string (bs fi), .int .i64 le, .int .i64 mo, .string (bs ch), .int .i64 (-1)] 75)).heap.size = w1.heap.size + 1 := by simp
  generalize w1.alloc (.cells #[.string (bs nm), .int .i64 sc2, .string (bs kd), .string (bs fi), .int .i64 le, .int .i64 mo, .string (bs ch), .int .i64 (-1)] 75) = X at *
  have HA := Lib.hid hA
  have HXZ := Lib.hid hXZ
  clear hA hXZ HZ1 hXs
  have SS : ∀ V, Below w.heap.size w V → Below X.heap.size X V → (V.cell? ⟨w1.heap.size, 0, none⟩ = some (.string (bs nm)) ∧ Below X.heap.size X V ∧ Below w.heap.size w V) := fun V hV hX => by
    have := HA.out.only (Only.of_below (F := []) hX) (by simp)
    exact ⟨this.cell 0, hX, hV⟩
  have hwX : w.heap.size ≤ X.heap.size := hX0.size
  have SA : ∀ V o, Below w.heap.size w V → Below X.heap.size X V → (((V.alloc o).cell? ⟨w1.heap.size, 0, none⟩ = some (.string (bs nm))) ∧ Below X.heap.size X (V.alloc o) ∧ Below w.heap.size w (V.alloc o)) := fun V o hV hX => SS _ (hV.alloc hV.size _) (hX.alloc hX.size _)
  have SC : ∀ V p v, Below w.heap.size w V → Below X.heap.size X V → X.heap.size ≤ p.block → (((V.setCell p v).cell? ⟨w1.heap.size, 0, none⟩ = some (.string (bs nm))) ∧ Below X.heap.size X (V.setCell p v) ∧ Below w.heap.size w (V.setCell p v)) := fun V p v hV hX hp => SS _ (hV.setCell (Nat.le_trans hwX hp) _) (hX.setCell hp _)
  have SC2 : ∀ V p v p' v', Below w.heap.size w V → Below X.heap.size X V → X.heap.size ≤ p.block → X.heap.size ≤ p'.block → ((((V.setCell p v).setCell p' v').cell? ⟨w1.heap.size, 0, none⟩ = some (.string (bs nm))) ∧ Below X.heap.size X ((V.setCell p v).setCell p' v') ∧ Below w.heap.size w ((V.setCell p v).setCell p' v')) := fun V p v p' v' hV hX hp hp' => SS _ ((hV.setCell (Nat.le_trans hwX hp) _).setCell (Nat.le_trans hwX hp') _) ((hX.setCell hp _).setCell hp' _)
  have hdX : Below X.heap.size X X.drew := (Below.refl _ _).drew
  have hdw : Below w.heap.size w X.drew := hX0.drew
  go_cut [9, 10] (fun s9 s10 wx => ∃ hb, s9 = .pointer (some ⟨hb, 0, none⟩) ∧ s10 = .bool true ∧ BL wx hb 90 [.string s, .slice A n c] ∧ Below w.heap.size w wx ∧ Below X.heap.size X wx)
  case first =>
    go_region_held3 (fun V => V.cell? ⟨w1.heap.size, 0, none⟩ = some (.string (bs nm)) ∧ Below X.heap.size X V ∧ Below w.heap.size w V)
      (first
        | (refine SS _ ?_ ?_ <;> assumption)
        | exact SA _ _ (by assumption) (by assumption)
        | exact SC2 _ _ _ _ _ (by assumption) (by assumption) (by first | exact Nat.le_refl _ | (simp; done) | omega) (by first | exact Nat.le_refl _ | (simp; done) | omega)
        | exact SC _ _ _ (by assumption) (by assumption) (by first | exact Nat.le_refl _ | (simp; done) | omega)
        | fail)
      (first
        | (go_at_call 106; obtain ⟨_, kx, kw⟩ := (by assumption : _ ∧ Below X.heap.size X _ ∧ Below w.heap.size w _); refine (H2.out _ kw).mono ?_; rintro _ w2 ⟨rfl, hb2⟩; dsimp only [lookV]; have hbx := kx.trans (hb2.mono kx.size); have hbw := kw.trans (hb2.mono kw.size); (try (have kk := BL.keep (BL.new _ 90 [.string ⟨#[]⟩, .slice none 0 0]) (hb2.block _ (BL.new _ _ _).lt); have kk0 := kk.cell 0; have kk1 := kk.cell 1; simp only [List.getElem?_cons_zero, List.getElem?_cons_succ] at kk0 kk1; have kf0 := kk.frozen 0; have kf1 := kk.frozen 1; have KK := Lib.hid kk; clear kk)); clear hb2)
        | fail)
    all_goals go_wp2_with fail
    all_goals go_meet
    all_goals first
      | exact ⟨_, rfl, rfl, BL.new _ 90 [.string s, .slice A n c], hbw.alloc hbw.size _, hbx.alloc hbx.size _⟩
      | exact ⟨_, rfl, rfl, (KK.out.set_ 0 (.string s)).set_ 1 (.slice A n c), (hbw.setCell (p := ⟨X.heap.size, 0, none⟩) hwX _).setCell (p := ⟨X.heap.size, 1, none⟩) hwX _, (hbx.setCell (p := ⟨X.heap.size, 0, none⟩) (Nat.le_refl _) _).setCell (p := ⟨X.heap.size, 1, none⟩) (Nat.le_refl _) _⟩
  case rest =>
    obtain ⟨hb, rfl, rfl, hbl, hbw, hbx⟩ := hcut
    have hAc := HA.out.keep (hbx.block _ HA.out.lt)
    have hZc := HXZ.out.keep (hbx.block _ HXZ.out.lt)
    have t0 := hbl.cell 0
    have p2 := hAc.cell 2
    have p7 := hAc.cell 7
    simp only [List.getElem?_cons_zero, List.getElem?_cons_succ] at t0 p2 p7
    have HAR := Lib.hid (hAc.range (o := 0) (vs := [.string (bs nm), .int .i64 sc2, .string (bs kd), .string (bs fi), .int .i64 le, .int .i64 mo, .string (bs ch), .int .i64 (-1)]) (fun j v hj => by rw [Nat.zero_add]; exact hj))
    have HZC := Lib.hid hZc
    have HBW := Lib.hid hbw
    clear SS SA SC SC2 hdX hdw HA HXZ HB1 hbl hAc hZc hbw hbx H2 hX0 HS c1
    go_wp2_with (first
      | (refine wpList_load_mid rfl 75 _ rfl w1.heap.size 0 rfl [.string (bs nm), .int .i64 sc2, .string (bs kd), .string (bs fi), .int .i64 le, .int .i64 mo, .string (bs ch), .int .i64 (-1)] _ HAR.out Tryz.underlying75 rfl (by kernel_rfl) ?_)
      | (refine wpList_store_all rfl 75 _ _ rfl w.heap.size (placeL ⟨nm, sc2, kd, fi, le, mo, ch⟩ (-1)) rfl rfl 75 _ HZC.out rfl (by kernel_rfl) (placeL_one _ _) ?_; intro w4 h0 ho hs4; have H0 := Lib.hid h0; have HO := Lib.hid ho; clear h0 ho))
    refine bodyPost_ret (results_ctt (p := 4) (u := 5) (u2 := 6) (by kernel_rfl) _ _ w.heap.size _ _ _ rfl H0.out Tryz.underlying75 rfl (by kernel_rfl)) rfl ⟨rfl, ?_⟩
    exact HBW.out.trans (HO.out.below HBW.out.size (by simp))
end Go.Proofs.YthmadnadaakjaaaGreatDoor.Opt
/- find, of what no level has: the table's first value. -/
namespace Go.Proofs.YthmadnadaakjaaaGreatDoor.Opt
open Go.RowKit Go.Maps
def gv (V : World) (b i : Nat) : Value := (V.cell? ⟨b, i, none⟩).getD undef
theorem gv_some {V : World} {b i : Nat} {x : Value} (h : V.cell? ⟨b, i, none⟩ = some x) : V.cell? ⟨b, i, none⟩ = some (gv V b i) := by unfold gv; rw [h]; rfl
/-- Block b is what is held: two cells. -/
def Two (V : World) (b : Nat) : Prop := ∃ x y, BL V b 90 [x, y]
theorem Two.later {V V' : World} {b : Nat} (h : Two V b) (hb : Below V.heap.size V V') : Two V' b := by
  obtain ⟨x, y, h⟩ := h
  exact ⟨x, y, h.keep (hb.block _ h.lt)⟩
theorem Two.set {V : World} {b : Nat} (h : Two V b) (v0 v1 : Value) : Two ((V.setCell ⟨b, 0, none⟩ v0).setCell ⟨b, 1, none⟩ v1) b := by
  obtain ⟨x, y, h⟩ := h
  exact ⟨v0, v1, (h.set_ 0 v0).set_ 1 v1⟩
set_option maxRecDepth 100000 in
set_option maxHeartbeats 4000000 in
theorem find_first {B : Nat} (b : Nat) (sc : Int) (own : Value) (q : Option Addr) (ls : List (DataW Value)) (l : Tx) (o : Op8) (hl : l.length ≤ 140737488355328) (w : World) (ht : Tabs B w) (hB : B ≤ w.heap.size)
    (hs : SetB w b sc own q) (hls : LvAt w (some ⟨b, 1, none⟩) ls) (hn : namedP l = some (o, -1)) (hk : o.kind ≠ arrK) (hon : o.name.length ≤ 140737488355328) (hlook : lookP ls o.name = none) (hus : userP o.name = false) :
    Calls Tryz.prog 69 #[.pointer (some ⟨b, 0, none⟩), .string (bs l)] w fun e w' => e = .returned (findV o (-1) (bs o.first) 0) ∧ Below w.heap.size w w' := by
  have h1 := named_any l hl w ht hB
  rw [hn] at h1
  obtain ⟨nm, sc2, kd, fi, le, mo, ch⟩ := o
  dsimp only at hk hlook hon hus
  have HF := Lib.hid (fun w' => first_plain ⟨nm, sc2, kd, fi, le, mo, ch⟩ hk w')
  dsimp only [optV, optL] at HF
  have hu0 := fun w' => user_any nm (by omega) w'
  rw [hus] at hu0
  have HU := Lib.hid hu0
  clear hu0 hus
  have H1 := Lib.hid (fun w' (hb : Below w.heap.size w w') => named_any l hl w' (ht.below (hb.mono hB)) (Nat.le_trans hB hb.size))
  have H2 := Lib.hid (fun w' (hb : Below w.heap.size w w') => lookUp_any (some ⟨b, 1, none⟩) ls nm (by unfold maxLen; omega) w' (LvAt.later hb hls))
  rw [hn] at H1
  rw [hlook] at H2
  have hzz : lookV none = .tuple #[.agg #[.string ⟨#[]⟩, .slice none 0 0], .bool false] := rfl
  rw [hzz] at H2
  clear hzz
  have ek : ((bs kd).toList == [97, 114, 114, 97, 121]) = false := by rw [bs_tl]; exact beq_eq_false_iff_ne.2 hk
  have HS := Lib.hid hs
  have HZ := Lib.hid (BL.new w 75 (placeL noOpt 0))
  have c1 : ∀ w', Below w.heap.size w w' → w'.cell? ⟨b, 1, none⟩ = some own := fun w' hb => (hb.cell (p := ⟨b, 1, none⟩) (BL.lt hs)).trans (BL.cell hs 1)
  clear h1 hs hls ht hn hlook hk
  go_enter Tryz.func69, Tryz.ntmps69
  go_wp2_with fail
  refine (H1.out _ ((Below.refl _ w).alloc (Nat.le_refl _) _)).mono ?_
  rintro e w1 ⟨rfl, hb1⟩
  have hz1 := HZ.out.keep (hb1.block _ HZ.out.lt)
  have HB1 := Lib.hid (((Below.refl _ w).alloc (Nat.le_refl _) (.cells (placeL noOpt 0).toArray 75)).trans (hb1.mono (by simp)))
  have hs1 : w.heap.size + 1 ≤ w1.heap.size := by have := hb1.size; rw [size_alloc] at this; exact this
  have HZ1 := Lib.hid hz1
  clear hb1 hz1 H1 HZ
  dsimp only [namedV, placeV, placeL]
  go_upto_region 4 with fail
  have hA := BL.new w1 75 [.string (bs nm), .int .i64 sc2, .string (bs kd), .string (bs fi), .int .i64 le, .int .i64 mo, .string (bs ch), .int .i64 (-1)]
  have hX0 : Below w.heap.size w (w1.alloc (.cells #[.string (bs nm), .int .i64 sc2, .string (bs kd), .string (bs fi), .int .i64 le, .int .i64 mo, .string (bs ch), .int .i64 (-1)] 75)) := HB1.out.alloc (by omega) _
  have hXZ := HZ1.out.alloc (.cells #[.string (bs nm), .int .i64 sc2, .string (bs kd), .string (bs fi), .int .i64 le, .int .i64 mo, .string (bs ch), .int .i64 (-1)] 75)
  have hXs : (w1.alloc (.cells #[.string (bs nm), .int .i64 sc2, .string (bs kd), .string (bs fi), .int .i64 le, .int .i64 mo, .string (bs ch), .int .i64 (-1)] 75)).heap.size = w1.heap.size + 1 := by simp
  generalize w1.alloc (.cells #[.string (bs nm), .int .i64 sc2, .string (bs kd), .string (bs fi), .int .i64 le, .int .i64 mo, .string (bs ch), .int .i64 (-1)] 75) = X at *
  have HA := Lib.hid hA
  have HXZ := Lib.hid hXZ
  clear hA hXZ HZ1 hXs
  have SS : ∀ V, Below w.heap.size w V → Below X.heap.size X V → (V.cell? ⟨w1.heap.size, 0, none⟩ = some (.string (bs nm)) ∧ Below X.heap.size X V ∧ Below w.heap.size w V) := fun V hV hX => by
    have := HA.out.only (Only.of_below (F := []) hX) (by simp)
    exact ⟨this.cell 0, hX, hV⟩
  have hwX : w.heap.size ≤ X.heap.size := hX0.size
  have SA : ∀ V o, Below w.heap.size w V → Below X.heap.size X V → (((V.alloc o).cell? ⟨w1.heap.size, 0, none⟩ = some (.string (bs nm))) ∧ Below X.heap.size X (V.alloc o) ∧ Below w.heap.size w (V.alloc o)) := fun V o hV hX => SS _ (hV.alloc hV.size _) (hX.alloc hX.size _)
  have SC : ∀ V p v, Below w.heap.size w V → Below X.heap.size X V → X.heap.size ≤ p.block → (((V.setCell p v).cell? ⟨w1.heap.size, 0, none⟩ = some (.string (bs nm))) ∧ Below X.heap.size X (V.setCell p v) ∧ Below w.heap.size w (V.setCell p v)) := fun V p v hV hX hp => SS _ (hV.setCell (Nat.le_trans hwX hp) _) (hX.setCell hp _)
  have SC2 : ∀ V p v p' v', Below w.heap.size w V → Below X.heap.size X V → X.heap.size ≤ p.block → X.heap.size ≤ p'.block → ((((V.setCell p v).setCell p' v').cell? ⟨w1.heap.size, 0, none⟩ = some (.string (bs nm))) ∧ Below X.heap.size X ((V.setCell p v).setCell p' v') ∧ Below w.heap.size w ((V.setCell p v).setCell p' v')) := fun V p v p' v' hV hX hp hp' => SS _ ((hV.setCell (Nat.le_trans hwX hp) _).setCell (Nat.le_trans hwX hp') _) ((hX.setCell hp _).setCell hp' _)
  have hdX : Below X.heap.size X X.drew := (Below.refl _ _).drew
  have hdw : Below w.heap.size w X.drew := hX0.drew
  go_cut [9, 10] (fun s9 s10 wx => ∃ hb, s9 = .pointer (some ⟨hb, 0, none⟩) ∧ s10 = .bool false ∧ BL wx hb 90 [.string ⟨#[]⟩, .slice none 0 0] ∧ X.heap.size ≤ hb ∧ Below w.heap.size w wx ∧ Below X.heap.size X wx)
  case first =>
    go_region_held3 (fun V => V.cell? ⟨w1.heap.size, 0, none⟩ = some (.string (bs nm)) ∧ Below X.heap.size X V ∧ Below w.heap.size w V)
      (first
        | (refine SS _ ?_ ?_ <;> assumption)
        | exact SA _ _ (by assumption) (by assumption)
        | exact SC2 _ _ _ _ _ (by assumption) (by assumption) (by first | exact Nat.le_refl _ | (simp; done) | omega) (by first | exact Nat.le_refl _ | (simp; done) | omega)
        | exact SC _ _ _ (by assumption) (by assumption) (by first | exact Nat.le_refl _ | (simp; done) | omega)
        | fail)
      (first
        | (go_at_call 106; obtain ⟨_, kx, kw⟩ := (by assumption : _ ∧ Below X.heap.size X _ ∧ Below w.heap.size w _); refine (H2.out _ kw).mono ?_; rintro _ w2 ⟨rfl, hb2⟩; have hbx := kx.trans (hb2.mono kx.size); have hbw := kw.trans (hb2.mono kw.size); (try (have kk := BL.keep (BL.new _ 90 [.string ⟨#[]⟩, .slice none 0 0]) (hb2.block _ (BL.new _ _ _).lt); have kk0 := kk.cell 0; have kk1 := kk.cell 1; simp only [List.getElem?_cons_zero, List.getElem?_cons_succ] at kk0 kk1; have kf0 := kk.frozen 0; have kf1 := kk.frozen 1; have KK := Lib.hid kk; clear kk)); clear hb2)
        | fail)
    all_goals go_wp2_with fail
    all_goals go_meet
    all_goals first
      | exact ⟨_, rfl, rfl, BL.new _ 90 [.string ⟨#[]⟩, .slice none 0 0], hbx.size, hbw.alloc hbw.size _, hbx.alloc hbx.size _⟩
      | exact ⟨_, rfl, rfl, (KK.out.set_ 0 (.string ⟨#[]⟩)).set_ 1 (.slice none 0 0), Nat.le_refl _, (hbw.setCell (p := ⟨X.heap.size, 0, none⟩) hwX _).setCell (p := ⟨X.heap.size, 1, none⟩) hwX _, (hbx.setCell (p := ⟨X.heap.size, 0, none⟩) (Nat.le_refl _) _).setCell (p := ⟨X.heap.size, 1, none⟩) (Nat.le_refl _) _⟩
  case rest =>
    obtain ⟨hb, rfl, rfl, hbl, hbX, hbw, hbx⟩ := hcut
    have hw1X := HA.out.lt
    clear SS SA SC SC2 hdX hdw HB1 H2 hX0 HS c1
    have ht0 : Two wc.drew hb := ⟨_, _, hbl⟩
    clear hbl
    have mkS : ∀ V, Two V hb → Below X.heap.size X V → Below w.heap.size w V → (V.cell? ⟨w1.heap.size, 0, none⟩ = some (.string (bs nm)) ∧ V.cell? ⟨w1.heap.size, 1, none⟩ = some (.int .i64 sc2) ∧ V.cell? ⟨w1.heap.size, 2, none⟩ = some (.string (bs kd)) ∧ V.cell? ⟨w1.heap.size, 3, none⟩ = some (.string (bs fi)) ∧ V.cell? ⟨w1.heap.size, 4, none⟩ = some (.int .i64 le) ∧ V.cell? ⟨w1.heap.size, 5, none⟩ = some (.int .i64 mo) ∧ V.cell? ⟨w1.heap.size, 6, none⟩ = some (.string (bs ch)) ∧ V.cell? ⟨hb, 0, none⟩ = some (gv V hb 0) ∧ V.cell? ⟨hb, 1, none⟩ = some (gv V hb 1) ∧ V.frozen? ⟨hb, 0, none⟩ = false ∧ V.frozen? ⟨hb, 1, none⟩ = false ∧ Two V hb ∧ Below X.heap.size X V ∧ Below w.heap.size w V) := fun V hT hX hV => by
      have k1 := HA.out.keep (hX.block _ HA.out.lt)
      obtain ⟨x, y, k2⟩ := hT
      exact ⟨k1.cell 0, k1.cell 1, k1.cell 2, k1.cell 3, k1.cell 4, k1.cell 5, k1.cell 6, gv_some (k2.cell 0), gv_some (k2.cell 1), k2.frozen 0, k2.frozen 1, ⟨x, y, k2⟩, hX, hV⟩
    have mkS2 : ∀ V v0 v1, Two V hb → Below X.heap.size X V → Below w.heap.size w V → (((V.setCell ⟨hb, 0, none⟩ v0).setCell ⟨hb, 1, none⟩ v1).cell? ⟨w1.heap.size, 0, none⟩ = some (.string (bs nm)) ∧ ((V.setCell ⟨hb, 0, none⟩ v0).setCell ⟨hb, 1, none⟩ v1).cell? ⟨w1.heap.size, 1, none⟩ = some (.int .i64 sc2) ∧ ((V.setCell ⟨hb, 0, none⟩ v0).setCell ⟨hb, 1, none⟩ v1).cell? ⟨w1.heap.size, 2, none⟩ = some (.string (bs kd)) ∧ ((V.setCell ⟨hb, 0, none⟩ v0).setCell ⟨hb, 1, none⟩ v1).cell? ⟨w1.heap.size, 3, none⟩ = some (.string (bs fi)) ∧ ((V.setCell ⟨hb, 0, none⟩ v0).setCell ⟨hb, 1, none⟩ v1).cell? ⟨w1.heap.size, 4, none⟩ = some (.int .i64 le) ∧ ((V.setCell ⟨hb, 0, none⟩ v0).setCell ⟨hb, 1, none⟩ v1).cell? ⟨w1.heap.size, 5, none⟩ = some (.int .i64 mo) ∧ ((V.setCell ⟨hb, 0, none⟩ v0).setCell ⟨hb, 1, none⟩ v1).cell? ⟨w1.heap.size, 6, none⟩ = some (.string (bs ch)) ∧ ((V.setCell ⟨hb, 0, none⟩ v0).setCell ⟨hb, 1, none⟩ v1).cell? ⟨hb, 0, none⟩ = some (gv ((V.setCell ⟨hb, 0, none⟩ v0).setCell ⟨hb, 1, none⟩ v1) hb 0) ∧ ((V.setCell ⟨hb, 0, none⟩ v0).setCell ⟨hb, 1, none⟩ v1).cell? ⟨hb, 1, none⟩ = some (gv ((V.setCell ⟨hb, 0, none⟩ v0).setCell ⟨hb, 1, none⟩ v1) hb 1) ∧ ((V.setCell ⟨hb, 0, none⟩ v0).setCell ⟨hb, 1, none⟩ v1).frozen? ⟨hb, 0, none⟩ = false ∧ ((V.setCell ⟨hb, 0, none⟩ v0).setCell ⟨hb, 1, none⟩ v1).frozen? ⟨hb, 1, none⟩ = false ∧ Two ((V.setCell ⟨hb, 0, none⟩ v0).setCell ⟨hb, 1, none⟩ v1) hb ∧ Below X.heap.size X ((V.setCell ⟨hb, 0, none⟩ v0).setCell ⟨hb, 1, none⟩ v1) ∧ Below w.heap.size w ((V.setCell ⟨hb, 0, none⟩ v0).setCell ⟨hb, 1, none⟩ v1)) := fun V v0 v1 hT hX hV =>
      mkS _ (hT.set v0 v1) ((hX.setCell (p := ⟨hb, 0, none⟩) hbX _).setCell (p := ⟨hb, 1, none⟩) hbX _) ((hV.setCell (p := ⟨hb, 0, none⟩) (Nat.le_trans hwX hbX) _).setCell (p := ⟨hb, 1, none⟩) (Nat.le_trans hwX hbX) _)
    have hdw : Below w.heap.size w wc.drew := hbw.drew
    have hdX : Below X.heap.size X wc.drew := hbx.drew
    clear hbw hbx
    go_upto_region 6 with fail
    go_cut [10] (fun s10 wx => s10 = .bool true ∧ BL wx hb 90 [.string (bs fi), .slice none 0 0] ∧ Below w.heap.size w wx ∧ Below X.heap.size X wx)
    case first =>
      go_region_held3 (fun V => V.cell? ⟨w1.heap.size, 0, none⟩ = some (.string (bs nm)) ∧ V.cell? ⟨w1.heap.size, 1, none⟩ = some (.int .i64 sc2) ∧ V.cell? ⟨w1.heap.size, 2, none⟩ = some (.string (bs kd)) ∧ V.cell? ⟨w1.heap.size, 3, none⟩ = some (.string (bs fi)) ∧ V.cell? ⟨w1.heap.size, 4, none⟩ = some (.int .i64 le) ∧ V.cell? ⟨w1.heap.size, 5, none⟩ = some (.int .i64 mo) ∧ V.cell? ⟨w1.heap.size, 6, none⟩ = some (.string (bs ch)) ∧ V.cell? ⟨hb, 0, none⟩ = some (gv V hb 0) ∧ V.cell? ⟨hb, 1, none⟩ = some (gv V hb 1) ∧ V.frozen? ⟨hb, 0, none⟩ = false ∧ V.frozen? ⟨hb, 1, none⟩ = false ∧ Two V hb ∧ Below X.heap.size X V ∧ Below w.heap.size w V)
        (first
          | exact mkS _ (by assumption) (by assumption) (by assumption)
          | exact mkS2 _ _ _ (by assumption) (by assumption) (by assumption)
          | fail)
        (first
          | (go_at_call 107; obtain ⟨_, _, _, _, _, _, _, _, _, _, _, kt, kx, kw⟩ := (by assumption : _ ∧ _ ∧ _ ∧ _ ∧ _ ∧ _ ∧ _ ∧ _ ∧ _ ∧ _ ∧ _ ∧ Two _ hb ∧ Below X.heap.size X _ ∧ Below w.heap.size w _); refine (HF.out _).mono ?_; rintro _ w2 ⟨rfl, hb2⟩; have hbx := kx.trans (hb2.mono kx.size); have hbw2 := kw.trans (hb2.mono kw.size); have kt2 := kt.later hb2; clear hb2)
          | (go_at_call 101; obtain ⟨_, _, _, _, _, _, _, _, _, _, _, kt, kx, kw⟩ := (by assumption : _ ∧ _ ∧ _ ∧ _ ∧ _ ∧ _ ∧ _ ∧ _ ∧ _ ∧ _ ∧ _ ∧ Two _ hb ∧ Below X.heap.size X _ ∧ Below w.heap.size w _); refine (HU.out _).mono ?_; rintro _ w2 ⟨rfl, hb2⟩; have hbx := kx.trans (hb2.mono kx.size); have hbw2 := kw.trans (hb2.mono kw.size); have kt2 := kt.later hb2; clear hb2)
          | fail)
      all_goals go_wp2_with fail
      all_goals go_meet
      all_goals (
        have kt9 : Two w2 hb := by assumption
        obtain ⟨x, y, k9⟩ := kt9
        exact ⟨rfl, (k9.set_ 0 _).set_ 1 _, ((by assumption : Below w.heap.size w w2).setCell (p := ⟨hb, 0, none⟩) (Nat.le_trans hwX hbX) _).setCell (p := ⟨hb, 1, none⟩) (Nat.le_trans hwX hbX) _, ((by assumption : Below X.heap.size X w2).setCell (p := ⟨hb, 0, none⟩) hbX _).setCell (p := ⟨hb, 1, none⟩) hbX _⟩)
    case rest =>
      obtain ⟨rfl, hbl, hbw, hbx⟩ := hcut
      have hAc := HA.out.keep (hbx.block _ HA.out.lt)
      have hZc := HXZ.out.keep (hbx.block _ HXZ.out.lt)
      have t0 := hbl.cell 0
      have p2 := hAc.cell 2
      have p7 := hAc.cell 7
      simp only [List.getElem?_cons_zero, List.getElem?_cons_succ] at t0 p2 p7
      have HAR := Lib.hid (hAc.range (o := 0) (vs := [.string (bs nm), .int .i64 sc2, .string (bs kd), .string (bs fi), .int .i64 le, .int .i64 mo, .string (bs ch), .int .i64 (-1)]) (fun j v hj => by rw [Nat.zero_add]; exact hj))
      have HZC := Lib.hid hZc
      have HBW := Lib.hid hbw
      clear mkS mkS2 hdX hdw HA HXZ hbl hAc hZc hbw hbx ht0 HF HU
      go_wp2_with (first
        | (refine wpList_load_mid rfl 75 _ rfl w1.heap.size 0 rfl [.string (bs nm), .int .i64 sc2, .string (bs kd), .string (bs fi), .int .i64 le, .int .i64 mo, .string (bs ch), .int .i64 (-1)] _ HAR.out Tryz.underlying75 rfl (by kernel_rfl) ?_)
        | (refine wpList_store_all rfl 75 _ _ rfl w.heap.size (placeL ⟨nm, sc2, kd, fi, le, mo, ch⟩ (-1)) rfl rfl 75 _ HZC.out rfl (by kernel_rfl) (placeL_one _ _) ?_; intro w4 h0 ho hs4; have H0 := Lib.hid h0; have HO := Lib.hid ho; clear h0 ho))
      refine bodyPost_ret (results_ctt (p := 4) (u := 5) (u2 := 6) (by kernel_rfl) _ _ w.heap.size _ _ _ rfl H0.out Tryz.underlying75 rfl (by kernel_rfl)) rfl ⟨rfl, ?_⟩
      exact HBW.out.trans (HO.out.below HBW.out.size (by simp))
end Go.Proofs.YthmadnadaakjaaaGreatDoor.Opt
/- Get and Number, of what find tells. -/
namespace Go.Proofs.YthmadnadaakjaaaGreatDoor.Opt
open Go.RowKit Go.Maps

set_option maxRecDepth 100000 in
set_option maxHeartbeats 2000000 in
theorem get_of (b : Nat) (l : Tx) (o : Op8) (i : Int) (t : ByteArray) (er : Int) (w : World)
    (hf : Calls Tryz.prog 69 #[.pointer (some ⟨b, 0, none⟩), .string (bs l)] w fun e w' => e = .returned (findV o i t er) ∧ Below w.heap.size w w') :
    Calls Tryz.prog 33 #[.pointer (some ⟨b, 0, none⟩), .string (bs l)] w fun e w' => e = .returned (.tuple #[.string t, .int .i64 er]) ∧ Below w.heap.size w w' := by
  have HF := Lib.hid hf
  clear hf
  go_enter Tryz.func33, Tryz.ntmps33
  go_wp2_with fail
  refine HF.out.mono ?_
  rintro e w1 ⟨rfl, hb⟩
  have HB := Lib.hid hb
  clear hb HF
  dsimp only [findV, placeV, placeL]
  go_wp2_with fail
  go_ret2
  exact ⟨rfl, HB.out.alloc HB.out.size _⟩
def numK : Tx := [110, 117, 109, 98, 101, 114]
def flagK : Tx := [102, 108, 97, 103]
set_option maxRecDepth 100000 in
set_option maxHeartbeats 2000000 in
theorem getOf_of (kd : Tx) (b : Nat) (l : Tx) (o : Op8) (i : Int) (t : ByteArray) (w : World) (hk : o.kind = kd)
    (hf : Calls Tryz.prog 69 #[.pointer (some ⟨b, 0, none⟩), .string (bs l)] w fun e w' => e = .returned (findV o i t 0) ∧ Below w.heap.size w w') :
    Calls Tryz.prog 70 #[.pointer (some ⟨b, 0, none⟩), .string (bs kd), .string (bs l)] w fun e w' => e = .returned (.tuple #[.string t, .int .i64 0]) ∧ Below w.heap.size w w' := by
  have HF := Lib.hid hf
  obtain ⟨nm, sc, kd2, fi, le, mo, ch⟩ := o
  dsimp only at hk
  subst hk
  clear hf
  go_enter Tryz.func70, Tryz.ntmps70
  go_wp2_with fail
  refine HF.out.mono ?_
  rintro e w1 ⟨rfl, hb⟩
  have HB := Lib.hid hb
  clear hb HF
  dsimp only [findV, placeV, placeL]
  go_wp2_with fail
  go_ret2
  exact ⟨rfl, HB.out.alloc HB.out.size _⟩
set_option maxRecDepth 100000 in
set_option maxHeartbeats 2000000 in
theorem number_of {B : Nat} (b : Nat) (l : Tx) (o : Op8) (i : Int) (t : Tx) (v : Int) (w : World) (ht : Tabs B w) (hB : B ≤ w.heap.size) (htl : t.length ≤ 281474976710656) (hk : o.kind = numK) (hp : atoiP t = (v, false))
    (hf : Calls Tryz.prog 69 #[.pointer (some ⟨b, 0, none⟩), .string (bs l)] w fun e w' => e = .returned (findV o i (bs t) 0) ∧ Below w.heap.size w w') :
    Calls Tryz.prog 35 #[.pointer (some ⟨b, 0, none⟩), .string (bs l)] w fun e w' => e = .returned (.tuple #[.int .i64 v, .int .i64 0]) ∧ Below w.heap.size w w' := by
  have H1 := Lib.hid (getOf_of numK b l o i (bs t) w hk hf)
  have H2 := Lib.hid (fun w' (hb : Below w.heap.size w w') => atoi_any t htl w' (ht.below (hb.mono hB)))
  rw [hp] at H2
  clear hf ht hk hp
  go_enter Tryz.func35, Tryz.ntmps35
  go_wp2_with fail
  refine H1.out.mono ?_
  rintro e w1 ⟨rfl, hb⟩
  have HB := Lib.hid hb
  clear H1
  go_wp2_with fail
  refine (H2.out w1 hb).mono ?_
  rintro e w2 ⟨⟨ev, rfl, hev⟩, hb2⟩
  have HB2 := Lib.hid (HB.out.trans (hb2.mono hb.size))
  clear hb hb2 H2 hev
  go_wp2_with fail
  go_ret2
  exact ⟨rfl, HB2.out⟩
/-! ### What a kind makes of a text -/
set_option maxRecDepth 100000 in
set_option maxHeartbeats 2000000 in
theorem flag_no (w : World) : Calls Tryz.prog 167 #[.string ⟨#[110, 111]⟩] w fun e w' => e = .returned (.tuple #[.string ⟨#[111, 102, 102]⟩, .bool true]) ∧ w' = w := by
  go_enter Tryz.func167, Tryz.ntmps167
  go_wp2_with fail
  go_ret2
  exact ⟨rfl, rfl⟩
theorem made_flag (nm : Tx) (sc : Int) (fi : Tx) (le mo : Int) (ch : Tx) (w : World) : Calls Tryz.prog 117 #[optV ⟨nm, sc, flagK, fi, le, mo, ch⟩, .string ⟨#[110, 111]⟩] w fun e w' => e = .returned (.tuple #[.string ⟨#[111, 102, 102]⟩, .bool true]) ∧ Below w.heap.size w w' := by
  have e1 : ((bs flagK).toList == [110, 117, 109, 98, 101, 114]) = false := by rw [bs_tl]; rfl
  have e2 : ((bs flagK).toList == [102, 108, 97, 103]) = true := by rw [bs_tl]; rfl
  dsimp only [optV, optL]
  generalize flagK = kd at *
  go_enter Tryz.func117, Tryz.ntmps117
  go_wp2_with fail
  refine (flag_no _).mono ?_
  rintro e w2 ⟨rfl, rfl⟩
  go_wp2_with fail
  go_ret2
  exact ⟨rfl, (Below.refl _ w).alloc (Nat.le_refl _) _⟩
end Go.Proofs.YthmadnadaakjaaaGreatDoor.Opt
