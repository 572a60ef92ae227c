/- The options whose names begin so. -/
import Derived.Test.YtgnlfikkmomghaaGreatDoorOnm
namespace Go.Proofs.YtgnlfikkmomghaaGreatDoor.Opt
open Go.RowKit Go.Shelf
attribute [local go_sem] Oper.semAt_some

def cellsO (os : List Op8) : List Value := (os.map optL).flatten
theorem optL_len (o : Op8) : (optL o).length = 7 := rfl
theorem cellsO_app (a : List Op8) (o : Op8) : cellsO (a ++ [o]) = cellsO a ++ optL o := by simp [cellsO]
theorem cellsO_len (os : List Op8) : (cellsO os).length = os.length * 7 := by
  unfold cellsO
  induction os with
  | nil => rfl
  | cons o os ih => simp only [List.map_cons, List.flatten_cons, List.length_append, List.length_cons, optL_len]; omega
def begP (l : Tx) (o : Op8) : Bool := Lib.hasPrefix o.name l
def foundL (l : Tx) : List Op8 := tabL.filter (begP l)
def fsP (l : Tx) (pre : List OpS) : List Op8 := (pre.map (·.1)).filter (begP l)
theorem optL_one (o : Op8) : ∀ u ∈ optL o, u.oneCell' = true := by
  intro u hu; simp [optL] at hu; rcases hu with h | h | h | h | h | h | h <;> (subst h; rfl)
theorem info_optn : (Tryz.prog.info? 93).map (fun i => (i.zero, i.size, i.bytes)) = some (some (.agg #[.string (bs []), .int .i64 0, .string (bs []), .string (bs []), .int .i64 0, .int .i64 0, .string (bs [])]), 7, 88) := by kernel_rfl
theorem info_parts {t : TypeId} {z : Value} {s b : Nat} (h : (Tryz.prog.info? t).map (fun i => (i.zero, i.size, i.bytes)) = some (some z, s, b)) : ∃ i, Tryz.prog.info? t = some i ∧ i.zero = some z ∧ i.size = s ∧ i.bytes = b := by
  cases hq : Tryz.prog.info? t with
  | none => simp [hq] at h
  | some i =>
    simp only [hq, Option.map_some, Option.some.injEq, Prod.mk.injEq] at h
    exact ⟨i, rfl, h.1, h.2.1, h.2.2⟩
/-- What has been found lies in a row of the call's own. -/
structure Fnd (B : Nat) (W : World) (Bf : Nat) (l : Tx) (pre : List OpS) (v : Value) : Prop where
  box : BL W Bf 100 [v]
  row : W.ownsRow B 93 7 v (fsP l pre).length (cellsO (fsP l pre))
  none_ : v = .slice none 0 0 ↔ fsP l pre = []
  far : v.ownBlock ≠ some Bf
  one : v.oneCell' = true
theorem Fnd.turned {B Bf : Nat} {W : World} {l : Tx} {pre : List OpS} {v : Value} (h : Fnd B W Bf l pre v) {b : Nat} {t : TypeId} {xs : List Value} (hb : BL W b t xs) (h0 : xs[1]? = some (.int .i64 0)) : some b ≠ v.ownBlock := by
  intro e
  rcases h.row.2 with ⟨rfl, _⟩ | ⟨g, cap, cur, rfl, _, hg, _, _, hc, hx⟩
  · cases e
  · have e2 : b = g := by simpa [Value.ownBlock] using e
    subst e2
    unfold BL at hb
    rw [hg] at hb
    have hcur : cur = xs.toArray := by cases hb; rfl
    have hne : fsP l pre ≠ [] := fun hh => by have := h.none_.2 hh; cases this
    obtain ⟨o, r, hor⟩ := List.exists_cons_of_ne_nil hne
    have hmem : o ∈ fsP l pre := by rw [hor]; simp
    have hs : o.scope ≠ 0 := by
      unfold fsP at hmem
      obtain ⟨p, _, hp⟩ := List.mem_map.1 (List.mem_filter.1 hmem).1
      exact hp ▸ p.2
    have h1 : (cellsO (fsP l pre))[1]? = some (.int .i64 o.scope) := by rw [hor]; rfl
    rw [← hx, hcur, List.getElem?_take_of_lt (by rw [hor]; simp only [List.length_cons]; omega)] at h1
    simp only [h0] at h1
    exact hs (by simpa using h1.symm)
theorem Fnd.alloc {B Bf : Nat} {W : World} {l : Tx} {pre : List OpS} {v : Value} (h : Fnd B W Bf l pre v) (o : Obj) : Fnd B (W.alloc o) Bf l pre v := ⟨h.box.alloc o, h.row.alloc o, h.none_, h.far, h.one⟩
theorem Fnd.kept {B Bf C : Nat} {W W' : World} {l : Tx} {pre : List OpS} {v : Value} {row : Option Nat} (h : Fnd B W Bf l pre v) (hg : W.grownBy W' row) (hr : ∀ r, row = some r → C ≤ r ∧ ∃ o : Obj, W.heap[r]? = some o ∧ o.isCells = false) : Fnd B W' Bf l pre v := by
  refine ⟨h.box.kept hg hr, h.row.kept hg ?_, h.none_, h.far, h.one⟩
  rcases h.row.2 with ⟨rfl, _⟩ | ⟨g, cap, cur, rfl, _, hgb, _⟩
  · exact .inl rfl
  · refine .inr fun e => ?_
    obtain ⟨_, o, ho, hc⟩ := hr g e.symm
    rw [hgb] at ho; cases ho; cases hc

/-- One option appended to a row of the call's own, or to nil. -/
theorem wpListIn_app_opt {F : Fence} {n : Nat} {ops : Array Oper} {rest : List Oper} {op : Oper} {a : Act} {w : World} {Q : Exit → Act → World → Prop} (hgd : op.guard = none) (s x : Operand) (ho : op.op = .call { callee := .builtin .append, args := #[s, x], argTypes := #[100, 100] })
    (base : Nat) (v : Value) (k : Nat) (xs : List Value) (u : List Value) (c : Nat) (b : Nat) (hs : a.eval s = v) (hown : w.ownsRow base 93 7 v k xs) (hul : u.length = 7) (hu : ∀ y ∈ u, y.oneCell' = true) (hx : a.eval x = .slice (some ⟨b, 0, none⟩) 1 c) (hb : BL w b 93 u) (hbase : base ≤ w.heap.size) (hn : k + 1 ≤ 1000)
    (h : ∀ g cap w', w'.ownsRow base 93 7 (.slice (some ⟨g, 0, none⟩) (k + 1) cap) (k + 1) (xs ++ u) → w.grownBy w' v.ownBlock → ((Value.slice (some ⟨g, 0, none⟩) (k + 1) cap).ownBlock = v.ownBlock ∨ (Value.slice (some ⟨g, 0, none⟩) (k + 1) cap).ownBlock = some w.heap.size) → wpListIn F n Tryz.prog ops Q rest (a.put op.dst (.slice (some ⟨g, 0, none⟩) (k + 1) cap)) w') :
    wpListIn F n Tryz.prog ops Q (op :: rest) a w := by
  obtain ⟨i0, hi0, hz0, hz1, hz2⟩ := info_parts info_optn
  refine wpListIn_append_own_at w hgd s x 100 ho base 93 i0 _ 7 88 Tryz.underlying100 hi0 hz0 hz1 hz2 rfl (by decide) v k xs hs hown ⟨b, 0, none⟩ 1 c u hx (by omega)
    (fun j y hj => by rw [Addr.add_mid, Nat.zero_add, hb.cell j]; exact hj) hu (by unfold maxLen; omega) (by omega) hbase ?_
  intro v' w' hown' hgr _ hloc
  obtain ⟨g, cap, rfl⟩ := ownsRow_succ hown'
  exact h g cap w' hown' hgr hloc
theorem fsP_no {l : Tx} {pre : List OpS} {x : OpS} (h : begP l x.1 = false) : fsP l (pre ++ [x]) = fsP l pre := by
  simp [fsP, List.map_append, List.filter_append, h]
theorem fsP_yes {l : Tx} {pre : List OpS} {x : OpS} (h : begP l x.1 = true) : fsP l (pre ++ [x]) = fsP l pre ++ [x.1] := by
  simp [fsP, List.map_append, List.filter_append, h]
theorem fsP_le (l : Tx) (pre : List OpS) : (fsP l pre).length ≤ pre.length := by
  unfold fsP; exact Nat.le_trans (List.length_filter_le _ _) (by simp)
theorem Fnd.cells_ {B Bf : Nat} {W : World} {l : Tx} {pre : List OpS} {v : Value} (h : Fnd B W Bf l pre v) {j : Nat} (hj : v.ownBlock = some j) : B ≤ j ∧ ∃ o : Obj, W.heap[j]? = some o ∧ o.isCells = true := by
  rcases h.row.2 with ⟨rfl, _⟩ | ⟨g, cap, cur, rfl, hb, hgb, _⟩
  · cases hj
  · obtain rfl : g = j := by simpa [Value.ownBlock] using hj
    exact ⟨hb, _, hgb, rfl⟩
/-- One more is found. -/
theorem Fnd.more {B Bf : Nat} {W w1 : World} {l : Tx} {pre : List OpS} {v : Value} (h : Fnd B W Bf l pre v) (x : OpS) (hx : begP l x.1 = true) (u : Obj) {g cap : Nat} (hBf : Bf < W.heap.size) (hB : B ≤ W.heap.size)
    (hown : w1.ownsRow B 93 7 (.slice (some ⟨g, 0, none⟩) ((fsP l pre).length + 1) cap) ((fsP l pre).length + 1) (cellsO (fsP l pre) ++ optL x.1)) (hgr : (W.alloc u).grownBy w1 v.ownBlock)
    (hloc : (Value.slice (some ⟨g, 0, none⟩) ((fsP l pre).length + 1) cap).ownBlock = v.ownBlock ∨ (Value.slice (some ⟨g, 0, none⟩) ((fsP l pre).length + 1) cap).ownBlock = some (W.alloc u).heap.size) :
    Fnd B (w1.setCell ⟨Bf, 0, none⟩ (.slice (some ⟨g, 0, none⟩) ((fsP l pre).length + 1) cap)) Bf l (pre ++ [x]) (.slice (some ⟨g, 0, none⟩) ((fsP l pre).length + 1) cap) ∧
    KeepsOthers W (w1.setCell ⟨Bf, 0, none⟩ (.slice (some ⟨g, 0, none⟩) ((fsP l pre).length + 1) cap)) ∧
    KT W (w1.setCell ⟨Bf, 0, none⟩ (.slice (some ⟨g, 0, none⟩) ((fsP l pre).length + 1) cap)) ∧
    (∀ b t xs, BL W b t xs → b ≠ Bf → some b ≠ v.ownBlock → BL (w1.setCell ⟨Bf, 0, none⟩ (.slice (some ⟨g, 0, none⟩) ((fsP l pre).length + 1) cap)) b t xs) ∧
    (∀ w, Below B w W → B ≤ Bf → Below B w (w1.setCell ⟨Bf, 0, none⟩ (.slice (some ⟨g, 0, none⟩) ((fsP l pre).length + 1) cap))) ∧
    W.heap.size ≤ (w1.setCell ⟨Bf, 0, none⟩ (.slice (some ⟨g, 0, none⟩) ((fsP l pre).length + 1) cap)).heap.size ∧ g ≠ Bf ∧ (some g = v.ownBlock ∨ W.heap.size ≤ g) := by
  have hbl : ∀ b t xs, BL W b t xs → some b ≠ v.ownBlock → BL w1 b t xs := fun b t xs hb hne => (hb.alloc u).keep (hgr.block b (hb.alloc u).lt hne)
  have hne : ∀ b t xs, BL W b t xs → b ≠ Bf → some b ≠ v.ownBlock → BL (w1.setCell ⟨Bf, 0, none⟩ (.slice (some ⟨g, 0, none⟩) ((fsP l pre).length + 1) cap)) b t xs := fun b t xs hb h1 h2 =>
    (hbl b t xs hb h2).keep (Below.heap_setCell _ _ _ _ h1)
  have hbox := hbl Bf _ _ h.box (fun e => h.far e.symm)
  have hg : g ≠ Bf ∧ (some g = v.ownBlock ∨ W.heap.size ≤ g) := by
    rcases hloc with e | e
    · have e' : some g = v.ownBlock := e
      exact ⟨fun e2 => h.far (by rw [← e', e2]), .inl e'⟩
    · simp [Value.ownBlock] at e
      exact ⟨by omega, .inr (by omega)⟩
  have hsz : W.heap.size ≤ (w1.setCell ⟨Bf, 0, none⟩ (.slice (some ⟨g, 0, none⟩) ((fsP l pre).length + 1) cap)).heap.size := by
    have := hgr.size; rw [size_alloc] at this; simp [World.setCell]; omega
  have hrow := hown.kept (grownBy_setCell' w1 Bf (.slice (some ⟨g, 0, none⟩) ((fsP l pre).length + 1) cap)) (.inr (fun e => hg.1 (by simpa [Value.ownBlock] using e)))
  have hko : KeepsOthers W (w1.setCell ⟨Bf, 0, none⟩ (.slice (some ⟨g, 0, none⟩) ((fsP l pre).length + 1) cap)) :=
    ((KeepsOthers.alloc W u).trans (KeepsOthers.of_grownBy hgr (fun j o hj ho => by
      obtain ⟨_, o', ho', hc⟩ := h.cells_ hj
      have hlt := (Array.getElem?_eq_some_iff.1 ho').1
      rw [Below.heap_alloc W u j hlt, ho'] at ho
      cases ho; exact hc))).trans (KeepsOthers.setCell _ _ _)
  refine ⟨⟨hbox.set_ 0 _, ?_, ?_, fun e => hg.1 (by simpa [Value.ownBlock] using e), rfl⟩, hko, ⟨hsz, fun b t xs hb h0 => hne b t xs hb (fun e => ?_) (h.turned hb h0)⟩, hne, fun w hw hB2 => ?_, hsz, hg⟩
  · rw [fsP_yes hx, List.length_append, cellsO_app]; exact hrow
  · rw [fsP_yes hx]; simp
  · subst e
    have hbx := h.box
    unfold BL at hb hbx
    rw [hbx] at hb
    have : xs = [v] := by cases hb; rfl
    rw [this] at h0; simp at h0
  · exact (((hw.alloc hB _).grown hgr (by rw [size_alloc]; omega) (fun k hk => (h.cells_ hk).1)).setCell (p := ⟨Bf, 0, none⟩) hB2 _)

set_option maxRecDepth 100000 in
set_option maxHeartbeats 4000000 in
theorem beginning_any (l : Tx) (w : World) :
    Calls Tryz.prog 49 #[.string (bs l)] w fun e w' => ∃ v, e = .returned v ∧ w'.ownsRow w.heap.size 93 7 v (foundL l).length (cellsO (foundL l)) ∧ Below w.heap.size w w' := by
  have hp : ∀ (nm : Tx) (W : World), Calls Tryz.prog 91 #[.string (bs nm), .string (bs l)] W fun e w' => e = .returned (.bool (Lib.hasPrefix nm l)) ∧ w' = W := fun nm W => by
    have := Tryz.strings_HasPrefix (bs nm) (bs l) W
    rw [bs_list, bs_list] at this
    exact this
  have HP := Lib.hid hp
  clear hp
  refine (callsIn_wide (n := 6)).1 ?_
  refine callsIn_of_wp_marks Tryz.func49 rfl trivial ?_ rfl
  simp only [Tryz.ntmps49, List.size_toArray, List.length_cons, List.length_nil, Nat.reduceAdd, Nat.reduceSub, Array.replicate_succ, Array.replicate_zero, List.push_toArray, List.append_toArray, List.nil_append, List.cons_append]
  gi_wp2
  obtain ⟨W3, hW3⟩ : ∃ W3, (w.alloc (Obj.cells #[Value.string (bs l)] 9)).alloc (Obj.cells #[Value.slice none 0 0] 100) = W3 := ⟨_, rfl⟩
  have hs3 : W3.heap.size = w.heap.size + 2 := by rw [← hW3]; simp
  have hA3 : BL W3 w.heap.size 9 [.string (bs l)] := by rw [← hW3]; exact (BL.new w 9 [.string (bs l)]).alloc _
  have hI3 : BL W3 (w.heap.size + 1) 100 [.slice none 0 0] := by
    rw [← hW3]
    have := BL.new (w.alloc (Obj.cells #[Value.string (bs l)] 9)) 100 [.slice none 0 0]
    rwa [size_alloc] at this
  have hB3 : Below w.heap.size w W3 := by rw [← hW3]; exact ((Below.refl _ w).alloc (Nat.le_refl _) _).alloc (by simp) _
  have hF3 : Fnd w.heap.size W3 (w.heap.size + 1) l [] (.slice none 0 0) := ⟨hI3, ⟨rfl, .inl ⟨rfl, rfl⟩⟩, by simp [fsP], by simp [Value.ownBlock], rfl⟩
  rw [hW3]
  clear hW3
  refine wpIn_rangeFunc_ownH rfl (by omega) (gf := 88) (lb := #[]) rfl trivial (enters_of Tryz.func88 (by kernel_rfl) rfl)
    (table_stopsS 5 W3) (fun h k => h.trans k) (fun W l o o' _ h hc _ => KT.putObj W l o o' h hc) (Below.refl _ _) (fun _ => rfl)
    (fun pre W => BL W w.heap.size 9 [.string (bs l)] ∧ (∃ v, Fnd w.heap.size W (w.heap.size + 1) l pre v ∧ v.ownBlock ≠ some w.heap.size) ∧ Below w.heap.size w W ∧ W3.heap.size ≤ W.heap.size ∧ pre.length ≤ 63)
    (fun c pre W => False)
    ?hI (fun _ _ _ _ _ h _ _ => h) ⟨hA3, ⟨_, hF3, by simp [Value.ownBlock]⟩, hB3, Nat.le_refl _, by simp⟩
    (fun x a' W => ∃ Bx, W3.heap.size ≤ Bx ∧ BL W Bx 93 (optL x.1) ∧ a' = { tmps := #[.string (bs l), .pointer (some ⟨w.heap.size, 0, none⟩), .slice none 0 0, .pointer (some ⟨w.heap.size + 1, 0, none⟩), .pointer (some ⟨Bx, 0, none⟩), optV x.1, undef, undef, undef, undef, undef, undef, undef, undef, undef], defers := [] })
    ?hAx ?assign ?body ?done ?stop
  case hI =>
    rintro s A B row ⟨h1, ⟨v, h2, h3⟩, h6, h7, h8⟩ hg hr
    exact ⟨h1.kept hg hr, ⟨v, h2.kept hg hr, h3⟩, ownFrom_below (β := Unit) (Nat.le_refl _) (by omega) () A B row h6 hg hr, Nat.le_trans h7 hg.size, h8⟩
  case hAx =>
    rintro x a' s A B row ⟨Bx, h1, h2, h3⟩ hg hr
    exact ⟨Bx, h1, h2.kept hg hr, h3⟩
  case assign =>
    rintro l' pre ⟨⟨nm, sc, kd, fi, le, mo, ch⟩, hx⟩ W K ⟨h1, ⟨v, h2, h3⟩, h6, h7, h8⟩ hK
    have HK := Lib.hid (hK _ (W.alloc (.cells (optL ⟨nm, sc, kd, fi, le, mo, ch⟩).toArray 93)) ((KeepsOthers.alloc _ _).from _) (KT.only ((Only.refl [] W).alloc _)) ⟨h1.alloc _, ⟨v, h2.alloc _, h3⟩, h6.alloc (by omega) _, by simp; omega, h8⟩ ⟨W.heap.size, h7, BL.new W 93 _, rfl⟩)
    clear hK h1 h2 h3 h6 h7 h8
    dsimp only [optV, optL]
    gi_wp2
    exact HK.out
  case body =>
    rintro l' pre ⟨⟨nm, sc, kd, fi, le, mo, ch⟩, hxs⟩ a' W hl' ⟨r, hr⟩ ⟨h1, ⟨v, h2, h3⟩, h6, h7, h8⟩ ⟨Bx, hBx, hx, rfl⟩ hlen
    have hra : W.rangeAt Bx 0 [.string (bs nm), .int .i64 sc, .string (bs kd), .string (bs fi), .int .i64 le, .int .i64 mo, .string (bs ch)] := hx.range (fun j v hj => by rw [Nat.zero_add]; exact hj)
    have x0 : W.cell? ⟨Bx, 0, none⟩ = some (.string (bs nm)) := hx.cell 0
    have a0 : W.cell? ⟨w.heap.size, 0, none⟩ = some (.string (bs l)) := h1.cell 0
    have v0 : W.cell? ⟨w.heap.size + 1, 0, none⟩ = some v := h2.box.cell 0
    have hW : w.heap.size + 2 ≤ W.heap.size := by omega
    have HX := Lib.hid hra
    have HH1 := Lib.hid h1
    have HH2 := Lib.hid h2
    have HH3 := Lib.hid h3
    have H6 := Lib.hid h6
    have H7 := Lib.hid h7
    have H8 := Lib.hid (show pre.length < 63 from hlen)

    clear hra h1 h2 h3 h6 hx hl' hr hlen h8
    dsimp only [optV, optL]
    have hk := fsP_le l pre
    gi_wp2
    refine ⟨trivial, (CallsIn.inRound l' (callsIn_wide.2 (HP.out nm W))).mono ?_⟩
    rintro e W' ⟨rfl, hww⟩
    obtain rfl := hww.symm
    cases hpre : Lib.hasPrefix nm l with
    | false =>
      have hb : begP l (⟨⟨nm, sc, kd, fi, le, mo, ch⟩, hxs⟩ : OpS).1 = false := hpre
      have hB := Lib.hid (fsP_no (pre := pre) hb)
      clear hb
      gi_wp2
      have hf := HH2.out
      exact ⟨KeepsFrom.refl _ _, KT.refl _, HH1.out, ⟨v, ⟨hf.box, by rw [hB.out]; exact hf.row, by rw [hB.out]; exact hf.none_, hf.far, hf.one⟩, HH3.out⟩, H6.out, H7.out, by rw [List.length_append]; have := H8.out; simp; omega⟩
    | true =>
      have hb : begP l (⟨⟨nm, sc, kd, fi, le, mo, ch⟩, hxs⟩ : OpS).1 = true := hpre
      have hB := Lib.hid hb
      clear hb
      have hal := HH2.out.row.alloc (.cells (optL ⟨nm, sc, kd, fi, le, mo, ch⟩).toArray 93)
      have HAL := Lib.hid hal
      clear hal
      have h63 := H8.out
      have HBN := Lib.hid (BL.new W 93 (optL ⟨nm, sc, kd, fi, le, mo, ch⟩))
      gi_wp2_with (first
        | (refine wpListIn_load_mid rfl 93 _ rfl Bx 0 rfl [.string (bs nm), .int .i64 sc, .string (bs kd), .string (bs fi), .int .i64 le, .int .i64 mo, .string (bs ch)] _ HX.out Tryz.underlying93 rfl (by kernel_rfl) ?_)
        | (gi_at_builtin; refine wpListIn_app_opt rfl (.tmp 10) (.tmp 12) rfl w.heap.size v (fsP l pre).length (cellsO (fsP l pre)) (optL ⟨nm, sc, kd, fi, le, mo, ch⟩) 1 W.heap.size rfl HAL.out rfl (optL_one _) rfl HBN.out (by simp; omega) (by omega) ?_; intro g' cap' w1 hown hgr hloc; have m := HH2.out.more ⟨⟨nm, sc, kd, fi, le, mo, ch⟩, hxs⟩ hB.out (.cells (optL ⟨nm, sc, kd, fi, le, mo, ch⟩).toArray 93) (by omega) (by omega) hown hgr hloc; have cb : BL w1 (w.heap.size + 1) 100 [v] := (HH2.out.box.alloc _).keep (hgr.block _ (HH2.out.box.alloc _).lt (fun e => HH2.out.far e.symm)); have c1 := cb.cell 0; have f1 := cb.frozen 0; have M := Lib.hid m; clear m cb hown hgr hloc))
      obtain ⟨m1, m2, m3, m4, m5, m6, m7, m8⟩ := M.out
      refine ⟨m2.from _, m3, m4 _ _ _ HH1.out (by omega) (fun e => HH3.out e.symm), ⟨_, m1, ?_⟩, m5 w H6.out (by omega), by omega, by rw [List.length_append]; simp; omega⟩
      intro e
      have e' : g' = w.heap.size := by simpa [Value.ownBlock] using e
      rcases m8 with h | h
      · exact HH3.out (by rw [← h, e'])
      · omega
  case done =>
    rintro D xs W hD hxs ⟨h1, ⟨v, h2, h3⟩, h6, h7, h8⟩ hK
    have hfs : fsP l xs = foundL l := by unfold fsP foundL; rw [hxs]
    have v0 : W.cell? ⟨w.heap.size + 1, 0, none⟩ = some v := h2.box.cell 0
    have hrow := ownsRow_putObj h2.row (.deferred none) hK rfl
    rw [hfs] at hrow
    have hb := h6.trans (belowK_b (w := w) (Nat.le_refl _) _ D _ (.deferred none) (by omega) hK rfl rfl)
    have HR := Lib.hid hrow
    have HB := Lib.hid hb
    have HKK := Lib.hid hK
    clear h1 h2 h3 h6 h7 h8 hrow hb hfs hxs hK
    gi_wp2
    refine ⟨by simp, .inl ⟨_, _, rfl, run_takeDeferred HKK.out, ?_⟩⟩
    exact ⟨_, results_tmp rfl _ _ _, v, rfl, HR.out, HB.out⟩
  case stop =>
    rintro D c pre W _ _ h _
    exact h.elim
end Go.Proofs.YtgnlfikkmomghaaGreatDoor.Opt
