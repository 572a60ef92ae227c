/- A flow in plain words, in memory; begun, a cell put. -/
import Derived.Test.YtgjlohplgpcghaaDoorGfp
namespace Go.Proofs.YtgjlohplgpcghaaDoor.Grd
open Go.RowKit

/-- The blocks of a flow. -/
def footF (f : Nat) (ft : List Nat) (L : FL) : List Nat := f :: (ft ++ L.rows.map MR.b)
def FlowIn (w : World) (f : Nat) (F : List Nat) (P : PF) : Prop := ∃ tv ft L, FlowAt w f tv ft L ∧ L.pl = P ∧ F = footF f ft L
/-- What a call may turn of blocks that were there: those in F; and what it holds behind it: those, and new ones. -/
structure Went (F F' : List Nat) (w w' : World) : Prop where
  foot : ∀ x ∈ F', x ∈ F ∨ w.heap.size ≤ x
  only : Only F w w'
theorem Went.trans {F G H : List Nat} {a b c : World} (h : Went F G a b) (k : Went G H b c) : Went F H a c :=
  ⟨fun x hx => by
    rcases k.foot x hx with y | y
    · exact h.foot x y
    · have := h.only.size; exact .inr (by omega), h.only.trans2 k.only h.foot⟩
theorem Went.refl (F : List Nat) (w : World) : Went F F w w := ⟨fun _ hx => .inl hx, Only.refl _ _⟩
theorem FlowIn.only {w w' : World} {f : Nat} {F G : List Nat} {P : PF} (h : FlowIn w f F P) (ho : Only G w w') (hF : ∀ x ∈ F, x ∉ G) : FlowIn w' f F P := by
  obtain ⟨tv, ft, L, h1, h2, rfl⟩ := h
  refine ⟨tv, ft, L, h1.only ho (hF f (by simp [footF])) (fun x hx => hF x (by simp [footF, hx])) (fun m hm => hF m.b ?_), h2, rfl⟩
  unfold footF
  exact List.mem_cons_of_mem _ (List.mem_append_right _ (List.mem_map_of_mem hm))
theorem FlowIn.below {w w' : World} {f : Nat} {F : List Nat} {P : PF} (h : FlowIn w f F P) (ho : Below w.heap.size w w') : FlowIn w' f F P := h.only (G := []) (Only.of_below ho) (by simp)
theorem FlowIn.lt {w : World} {f : Nat} {F : List Nat} {P : PF} (h : FlowIn w f F P) : ∀ x ∈ F, x < w.heap.size := by
  obtain ⟨tv, ft, L, h1, h2, rfl⟩ := h
  intro x hx
  unfold footF at hx
  simp only [List.mem_cons, List.mem_append, List.mem_map] at hx
  rcases hx with rfl | hx | ⟨m, hm, rfl⟩
  · exact h1.blk.lt
  · exact h1.tab.lt x hx
  · exact h1.held.lt hm
theorem FlowIn.mem {w : World} {f : Nat} {F : List Nat} {P : PF} (h : FlowIn w f F P) : f ∈ F := by
  obtain ⟨tv, ft, L, h1, h2, rfl⟩ := h
  simp [footF]
theorem FlowIn.bd {w : World} {f : Nat} {F : List Nat} {P : PF} (h : FlowIn w f F P) : 1 ≤ P.cols ∧ P.cols ≤ 250 ∧ P.next ≤ P.cols := by
  obtain ⟨tv, ft, L, h1, rfl, rfl⟩ := h
  exact ⟨h1.c1, h1.c2, h1.n2⟩
/-- A flow's numbers. -/
theorem FlowIn.nums {w : World} {f : Nat} {F : List Nat} {P : PF} (h : FlowIn w f F P) : w.cell? ⟨f, 0, none⟩ = some (.int .i64 (P.cols : Int)) ∧ w.cell? ⟨f, 2, none⟩ = some (.int .i64 (P.next : Int)) ∧ w.cell? ⟨f, 3, none⟩ = some (.int .i64 P.px) ∧ w.cell? ⟨f, 4, none⟩ = some (.int .i64 P.py) := by
  obtain ⟨tv, ft, L, h1, rfl, rfl⟩ := h
  exact ⟨h1.blk.cell 0, h1.blk.cell 2, h1.blk.cell 3, h1.blk.cell 4⟩

theorem begin_in {w : World} {f : Nat} {F : List Nat} {P : PF} (h : FlowIn w f F P) (hr : P.rows.length + 1 ≤ 900000) :
    Calls Tryd.prog 77 #[.pointer (some ⟨f, 0, none⟩)] w fun e w' => e = .returned (.tuple #[]) ∧ ∃ F', FlowIn w' f F' (beginF P) ∧ Went F F' w w' := by
  obtain ⟨tv, ft, L, h1, rfl, rfl⟩ := h
  refine (begin_any h1 (by simpa [FL.pl] using hr)).mono ?_
  rintro e w' ⟨he, tv', ft', m, hm1, hm2, hm3, hF, hft, ho⟩
  refine ⟨he, _, ⟨tv', ft', _, hF, ?_, rfl⟩, ⟨fun x hx => ?_, ho.mono (fun x hx => ?_)⟩⟩
  · simp [FL.pl, beginF, MR.pl, hm1, hm2]
  · unfold footF at hx ⊢
    simp only [List.mem_cons, List.mem_append, List.map_append, List.map_cons, List.map_nil, List.not_mem_nil, or_false] at hx ⊢
    rcases hx with rfl | hx | hx | rfl
    · exact .inl (.inl rfl)
    · exact (hft x hx).imp (fun y => .inr (.inl y)) id
    · exact .inl (.inr (.inr hx))
    · exact .inr hm3
  · unfold footF
    simp only [List.mem_cons, List.mem_append] at hx ⊢
    rcases hx with rfl | hx
    · exact .inl rfl
    · exact .inr (.inl hx)

theorem put_in {w : World} {f : Nat} {F : List Nat} {P : PF} (h : FlowIn w f F P) (h0 : P.rows ≠ []) (hr : P.rows.length + 1 ≤ 900000) (r wd s1 s2 s3 : Int) :
    Calls Tryd.prog 87 #[.pointer (some ⟨f, 0, none⟩), .agg #[.int .i32 r, .int .i64 wd, .int .i64 s1, .int .i64 s2, .int .i64 s3]] w fun e w' => e = .returned (.tuple #[]) ∧ ∃ F', FlowIn w' f F' (putF P (r, wd, s1, s2, s3)) ∧ Went F F' w w' := by
  obtain ⟨tv, ft, ⟨cols, rows, next, px, py⟩, h1, rfl, rfl⟩ := h
  obtain ⟨R, m, rfl⟩ : ∃ R m, rows = R ++ [m] := by
    have hne : rows ≠ [] := by intro e; subst e; exact h0 rfl
    exact ⟨rows.dropLast, rows.getLast hne, (List.dropLast_concat_getLast hne).symm⟩
  have hn2 := h1.n2
  simp only at hn2
  have hrl : R.length + 2 ≤ 900000 := by simp [FL.pl] at hr; omega
  by_cases hx : next < cols
  · refine (fput_room h1 hx r wd s1 s2 s3).mono ?_
    rintro e w' ⟨he, hF, ho⟩
    refine ⟨he, _, ⟨tv, ft, _, hF, ?_, rfl⟩, ⟨fun x hx => .inl ?_, ho.mono (fun x hx => ?_)⟩⟩
    · have hne : ¬ next = cols := by omega
      simp [FL.pl, putF, roomF, hne, MR.pl, setLast_snoc]
    · unfold footF at hx ⊢
      simpa using hx
    · unfold footF
      simp only [List.mem_cons, List.not_mem_nil, or_false] at hx
      rcases hx with rfl | rfl
      · simp
      · simp
  · have hx2 : next = cols := by omega
    refine (fput_full h1 hx2 hrl r wd s1 s2 s3).mono ?_
    rintro e w' ⟨he, tv', ft', m', hm1, hm2, hm3, hF, hft, ho⟩
    refine ⟨he, _, ⟨tv', ft', _, hF, ?_, rfl⟩, ⟨fun x hx => ?_, ho.mono (fun x hx => ?_)⟩⟩
    · have e1 : setLast ((R ++ [m]).map MR.pl) (fun r => (r.1, true)) = R.map MR.pl ++ [(m.l, true)] := by
        rw [List.map_append]; exact setLast_snoc _ _ _
      simp only [FL.pl, putF, roomF, hx2, if_true, beginF, e1]
      rw [setLast_snoc]
      simp [MR.pl, hm1, hm2]
    · unfold footF at hx ⊢
      simp only [List.mem_cons, List.mem_append, List.map_append, List.map_cons, List.map_nil, List.not_mem_nil, or_false] at hx ⊢
      rcases hx with rfl | hx | (hx | rfl) | rfl
      · exact .inl (.inl rfl)
      · exact (hft x hx).imp (fun y => .inr (.inl y)) id
      · exact .inl (.inr (.inr (.inl hx)))
      · exact .inl (.inr (.inr (.inr rfl)))
      · exact .inr hm3
    · unfold footF
      simp only [List.mem_cons, List.mem_append] at hx ⊢
      rcases hx with rfl | hx
      · exact .inl rfl
      · exact .inr (.inl hx)
end Go.Proofs.YtgjlohplgpcghaaDoor.Grd
/- A cell flows on. -/
namespace Go.Proofs.YtgjlohplgpcghaaDoor.Grd
open Go.RowKit

/-- A cell flows on. -/
def onF (P : PF) (c : Ce) : PF :=
  if P.cols = 1 ∧ c.2.1 = 0 then P
  else if P.cols = 1 ∧ c.2.1 = 2 then putF P (32, 1, c.2.2)
  else if P.next + 1 = P.cols ∧ c.2.1 = 2 then putF (putF P plainCe) c
  else putF P c
theorem Went.after {F F' : List Nat} {w V w' : World} (h : Only F w V) (k : Went F F' V w') : Went F F' w w' := ⟨fun x hx => (k.foot x hx).imp id (fun y => by have := h.size; omega), h.trans k.only⟩
theorem putF_rows (P : PF) (c : Ce) : (putF P c).rows.length ≤ P.rows.length + 1 ∧ (P.rows ≠ [] → (putF P c).rows ≠ []) := by
  have hs : ∀ (rs : List Ro) (g : Ro → Ro), (setLast rs g).length = rs.length := fun rs g => by
    rcases List.eq_nil_or_concat rs with rfl | ⟨rs, r, rfl⟩
    · rfl
    · rw [List.concat_eq_append, setLast_snoc]; simp
  have h1 : (roomF P).rows.length ≤ P.rows.length + 1 ∧ P.rows.length ≤ (roomF P).rows.length := by
    unfold roomF
    split
    · simp [beginF, hs]
    · simp
  have h2 : (putF P c).rows.length = (roomF P).rows.length := by simp [putF, hs]
  refine ⟨by omega, fun h e => ?_⟩
  have := List.length_pos_iff.2 h
  rw [e, List.length_nil] at h2
  omega

set_option maxRecDepth 100000 in
set_option maxHeartbeats 1000000 in
theorem on_a {w : World} {f : Nat} {F : List Nat} {P : PF} (h : FlowIn w f F P) (h0 : P.rows ≠ []) (hr : P.rows.length + 1 ≤ 900000) (r wd s1 s2 s3 : Int) (hc : P.cols ≠ 1) (hx : P.next + 1 ≠ P.cols) :
    Calls Tryd.prog 79 #[.pointer (some ⟨f, 0, none⟩), .agg #[.int .i32 r, .int .i64 wd, .int .i64 s1, .int .i64 s2, .int .i64 s3]] w fun e w' => e = .returned (.tuple #[]) ∧ ∃ F', FlowIn w' f F' (putF P (r, wd, s1, s2, s3)) ∧ Went F F' w w' := by
  obtain ⟨b1, b2, b3⟩ := h.bd
  have hlt := h.lt
  have hA := BL.new w 35 [.int .i32 r, .int .i64 wd, .int .i64 s1, .int .i64 s2, .int .i64 s3]
  have ho0 : Only [] w (w.alloc (.cells #[.int .i32 r, .int .i64 wd, .int .i64 s1, .int .i64 s2, .int .i64 s3] 35)) := (Only.refl _ _).alloc _
  have hz : (w.alloc (.cells #[.int .i32 r, .int .i64 wd, .int .i64 s1, .int .i64 s2, .int .i64 s3] 35)).heap.size = w.heap.size + 1 := by rw [size_alloc]
  have hI := h.only ho0 (by simp)
  have d1 : decide ((P.cols : Int) = 1) = false := by simp; omega
  have d1' : ¬ (P.cols : Int) = 1 := by omega
  have d3 : ((P.cols : Int) == 1) = false := by simp; omega
  have j1 : IntKind.i64.wrap ((P.cols : Int) - 1) = (P.cols : Int) - 1 := IntWalk.i64_in _ ⟨by omega, by omega⟩
  have d2 : ¬ (P.next : Int) = (P.cols : Int) - 1 := by omega
  have d2' : decide ((P.next : Int) = (P.cols : Int) - 1) = false := by simp; omega
  have d4 : ((P.next : Int) == (P.cols : Int) - 1) = false := by simp; omega
  have HO := Lib.hid ho0
  obtain ⟨x0, x2, _, _⟩ := hI.nums
  have y0 := hA.cell 0
  have y1 := hA.cell 1
  have y2 := hA.cell 2
  have y3 := hA.cell 3
  have y4 := hA.cell 4
  go_enter Tryd.func79, Tryd.ntmps79
  go_wp2_with fail
  generalize (w.alloc (.cells #[.int .i32 r, .int .i64 wd, .int .i64 s1, .int .i64 s2, .int .i64 s3] 35)) = W at *
  go_region
  all_goals go_wp2_with (go_at_call 87; refine (put_in (hI.only (w' := W.drew) (G := []) ((Only.refl _ _).drew) (by simp)) h0 hr r wd s1 s2 s3).mono ?_; rintro _ w1 ⟨rfl, F1, hF1, hw1⟩)
  all_goals exact body_end rfl rfl ⟨rfl, F1, hF1, hw1.after ((HO.out.mono (by simp)).drew)⟩

set_option maxRecDepth 100000 in
set_option maxHeartbeats 1000000 in
theorem on_b {w : World} {f : Nat} {F : List Nat} {P : PF} (h : FlowIn w f F P) (h0 : P.rows ≠ []) (hr : P.rows.length + 1 ≤ 900000) (r wd s1 s2 s3 : Int) (hc : P.cols ≠ 1) (hx : P.next + 1 = P.cols) (hwd : wd ≠ 2) :
    Calls Tryd.prog 79 #[.pointer (some ⟨f, 0, none⟩), .agg #[.int .i32 r, .int .i64 wd, .int .i64 s1, .int .i64 s2, .int .i64 s3]] w fun e w' => e = .returned (.tuple #[]) ∧ ∃ F', FlowIn w' f F' (putF P (r, wd, s1, s2, s3)) ∧ Went F F' w w' := by
  obtain ⟨b1, b2, b3⟩ := h.bd
  have hlt := h.lt
  have hA := BL.new w 35 [.int .i32 r, .int .i64 wd, .int .i64 s1, .int .i64 s2, .int .i64 s3]
  have ho0 : Only [] w (w.alloc (.cells #[.int .i32 r, .int .i64 wd, .int .i64 s1, .int .i64 s2, .int .i64 s3] 35)) := (Only.refl _ _).alloc _
  have hz : (w.alloc (.cells #[.int .i32 r, .int .i64 wd, .int .i64 s1, .int .i64 s2, .int .i64 s3] 35)).heap.size = w.heap.size + 1 := by rw [size_alloc]
  have hI := h.only ho0 (by simp)
  have d1 : decide ((P.cols : Int) = 1) = false := by simp; omega
  have d1' : ¬ (P.cols : Int) = 1 := by omega
  have d3 : ((P.cols : Int) == 1) = false := by simp; omega
  have j1 : IntKind.i64.wrap ((P.cols : Int) - 1) = (P.cols : Int) - 1 := IntWalk.i64_in _ ⟨by omega, by omega⟩
  have d2 : (P.next : Int) = (P.cols : Int) - 1 := by omega
  have d4 : ((P.next : Int) == (P.cols : Int) - 1) = true := by simp; omega
  have d5 : ¬ wd = 2 := by omega
  have d6 : (wd == 2) = false := by simp; omega
  have HO := Lib.hid ho0
  obtain ⟨x0, x2, _, _⟩ := hI.nums
  have y0 := hA.cell 0
  have y1 := hA.cell 1
  have y2 := hA.cell 2
  have y3 := hA.cell 3
  have y4 := hA.cell 4
  go_enter Tryd.func79, Tryd.ntmps79
  go_wp2_with fail
  generalize (w.alloc (.cells #[.int .i32 r, .int .i64 wd, .int .i64 s1, .int .i64 s2, .int .i64 s3] 35)) = W at *
  go_region
  all_goals go_wp2_with (go_at_call 87; refine (put_in (hI.only (w' := W.drew) (G := []) ((Only.refl _ _).drew) (by simp)) h0 hr r wd s1 s2 s3).mono ?_; rintro _ w1 ⟨rfl, F1, hF1, hw1⟩)
  all_goals exact body_end rfl rfl ⟨rfl, F1, hF1, hw1.after ((HO.out.mono (by simp)).drew)⟩

set_option maxRecDepth 100000 in
set_option maxHeartbeats 1000000 in
theorem on_d {w : World} {f : Nat} {F : List Nat} {P : PF} (h : FlowIn w f F P) (r s1 s2 s3 : Int) (hc : P.cols = 1) :
    Calls Tryd.prog 79 #[.pointer (some ⟨f, 0, none⟩), .agg #[.int .i32 r, .int .i64 0, .int .i64 s1, .int .i64 s2, .int .i64 s3]] w fun e w' => e = .returned (.tuple #[]) ∧ ∃ F', FlowIn w' f F' (P) ∧ Went F F' w w' := by
  obtain ⟨b1, b2, b3⟩ := h.bd
  have hlt := h.lt
  have hA := BL.new w 35 [.int .i32 r, .int .i64 0, .int .i64 s1, .int .i64 s2, .int .i64 s3]
  have ho0 : Only [] w (w.alloc (.cells #[.int .i32 r, .int .i64 0, .int .i64 s1, .int .i64 s2, .int .i64 s3] 35)) := (Only.refl _ _).alloc _
  have hz : (w.alloc (.cells #[.int .i32 r, .int .i64 0, .int .i64 s1, .int .i64 s2, .int .i64 s3] 35)).heap.size = w.heap.size + 1 := by rw [size_alloc]
  have hI := h.only ho0 (by simp)
  have d1 : decide ((P.cols : Int) = 1) = true := by simp; omega
  have d1' : (P.cols : Int) = 1 := by omega
  have d3 : ((P.cols : Int) == 1) = true := by simp; omega
  have j1 : IntKind.i64.wrap ((P.cols : Int) - 1) = (P.cols : Int) - 1 := IntWalk.i64_in _ ⟨by omega, by omega⟩
  have HO := Lib.hid ho0
  obtain ⟨x0, x2, _, _⟩ := hI.nums
  have y0 := hA.cell 0
  have y1 := hA.cell 1
  have y2 := hA.cell 2
  have y3 := hA.cell 3
  have y4 := hA.cell 4
  go_enter Tryd.func79, Tryd.ntmps79
  go_wp2_with (go_at_call 54; refine (isPadding_any r 0 s1 s2 s3 _).mono ?_; rintro _ wq ⟨rfl, hbq⟩; have hIq := hI.below hbq; have hAq := hA.only (F := []) (Only.of_below hbq) (by simp); have hoq := HO.out.trans (Only.of_below (F := []) hbq); obtain ⟨v0, v2, _, _⟩ := hIq.nums; have u0 := hAq.cell 0; have u1 := hAq.cell 1; have u2 := hAq.cell 2; have u3 := hAq.cell 3; have u4 := hAq.cell 4)
  exact bodyPost_ret (v := .tuple #[]) (by simp [results, Tryd.results79, go_sem]) rfl ⟨rfl, F, hIq, fun _ hx => .inl hx, hoq.mono (by simp)⟩

set_option maxRecDepth 100000 in
set_option maxHeartbeats 1000000 in
theorem on_f {w : World} {f : Nat} {F : List Nat} {P : PF} (h : FlowIn w f F P) (h0 : P.rows ≠ []) (hr : P.rows.length + 1 ≤ 900000) (r wd s1 s2 s3 : Int) (hc : P.cols = 1) (hx : P.next + 1 ≠ P.cols) (hw0 : wd ≠ 0) (hw2 : wd ≠ 2) :
    Calls Tryd.prog 79 #[.pointer (some ⟨f, 0, none⟩), .agg #[.int .i32 r, .int .i64 wd, .int .i64 s1, .int .i64 s2, .int .i64 s3]] w fun e w' => e = .returned (.tuple #[]) ∧ ∃ F', FlowIn w' f F' (putF P (r, wd, s1, s2, s3)) ∧ Went F F' w w' := by
  obtain ⟨b1, b2, b3⟩ := h.bd
  have hlt := h.lt
  have hA := BL.new w 35 [.int .i32 r, .int .i64 wd, .int .i64 s1, .int .i64 s2, .int .i64 s3]
  have ho0 : Only [] w (w.alloc (.cells #[.int .i32 r, .int .i64 wd, .int .i64 s1, .int .i64 s2, .int .i64 s3] 35)) := (Only.refl _ _).alloc _
  have hz : (w.alloc (.cells #[.int .i32 r, .int .i64 wd, .int .i64 s1, .int .i64 s2, .int .i64 s3] 35)).heap.size = w.heap.size + 1 := by rw [size_alloc]
  have hI := h.only ho0 (by simp)
  have d1 : decide ((P.cols : Int) = 1) = true := by simp; omega
  have d1' : (P.cols : Int) = 1 := by omega
  have d3 : ((P.cols : Int) == 1) = true := by simp; omega
  have j1 : IntKind.i64.wrap ((P.cols : Int) - 1) = (P.cols : Int) - 1 := IntWalk.i64_in _ ⟨by omega, by omega⟩
  have d2 : ¬ (P.next : Int) = (P.cols : Int) - 1 := by omega
  have d2' : decide ((P.next : Int) = (P.cols : Int) - 1) = false := by simp; omega
  have d4 : ((P.next : Int) == (P.cols : Int) - 1) = false := by simp; omega
  have d5 : ¬ wd = 2 := by omega
  have d6 : (wd == 2) = false := by simp; omega
  have d7 : ¬ wd = 0 := by omega
  have d8 : (wd == 0) = false := by simp; omega
  have k0 : IntKind.i64.wrap 0 = 0 := by decide
  have k1 : ¬ (P.next : Int) = 0 := by omega
  have k2 : ((P.next : Int) == 0) = false := by simp; omega
  have HO := Lib.hid ho0
  obtain ⟨x0, x2, _, _⟩ := hI.nums
  have y0 := hA.cell 0
  have y1 := hA.cell 1
  have y2 := hA.cell 2
  have y3 := hA.cell 3
  have y4 := hA.cell 4
  go_enter Tryd.func79, Tryd.ntmps79
  go_wp2_with (go_at_call 54; refine (isPadding_any r wd s1 s2 s3 _).mono ?_; rintro _ wq ⟨rfl, hbq⟩; have hIq := hI.below hbq; have hAq := hA.only (F := []) (Only.of_below hbq) (by simp); have hoq := HO.out.trans (Only.of_below (F := []) hbq); obtain ⟨v0, v2, _, _⟩ := hIq.nums; have u0 := hAq.cell 0; have u1 := hAq.cell 1; have u2 := hAq.cell 2; have u3 := hAq.cell 3; have u4 := hAq.cell 4)
  go_region
  all_goals go_wp2_with (go_at_call 87; refine (put_in (hIq.only (w' := wq.drew) (G := []) ((Only.refl _ _).drew) (by simp)) h0 hr r wd s1 s2 s3).mono ?_; rintro _ w1 ⟨rfl, F1, hF1, hw1⟩)
  all_goals exact body_end rfl rfl ⟨rfl, F1, hF1, hw1.after ((hoq.mono (by simp)).drew)⟩

set_option maxRecDepth 100000 in
set_option maxHeartbeats 1000000 in
theorem on_g {w : World} {f : Nat} {F : List Nat} {P : PF} (h : FlowIn w f F P) (h0 : P.rows ≠ []) (hr : P.rows.length + 1 ≤ 900000) (r wd s1 s2 s3 : Int) (hc : P.cols = 1) (hx : P.next + 1 = P.cols) (hw0 : wd ≠ 0) (hw2 : wd ≠ 2) :
    Calls Tryd.prog 79 #[.pointer (some ⟨f, 0, none⟩), .agg #[.int .i32 r, .int .i64 wd, .int .i64 s1, .int .i64 s2, .int .i64 s3]] w fun e w' => e = .returned (.tuple #[]) ∧ ∃ F', FlowIn w' f F' (putF P (r, wd, s1, s2, s3)) ∧ Went F F' w w' := by
  obtain ⟨b1, b2, b3⟩ := h.bd
  have hlt := h.lt
  have hA := BL.new w 35 [.int .i32 r, .int .i64 wd, .int .i64 s1, .int .i64 s2, .int .i64 s3]
  have ho0 : Only [] w (w.alloc (.cells #[.int .i32 r, .int .i64 wd, .int .i64 s1, .int .i64 s2, .int .i64 s3] 35)) := (Only.refl _ _).alloc _
  have hz : (w.alloc (.cells #[.int .i32 r, .int .i64 wd, .int .i64 s1, .int .i64 s2, .int .i64 s3] 35)).heap.size = w.heap.size + 1 := by rw [size_alloc]
  have hI := h.only ho0 (by simp)
  have d1 : decide ((P.cols : Int) = 1) = true := by simp; omega
  have d1' : (P.cols : Int) = 1 := by omega
  have d3 : ((P.cols : Int) == 1) = true := by simp; omega
  have j1 : IntKind.i64.wrap ((P.cols : Int) - 1) = (P.cols : Int) - 1 := IntWalk.i64_in _ ⟨by omega, by omega⟩
  have d2 : (P.next : Int) = (P.cols : Int) - 1 := by omega
  have d4 : ((P.next : Int) == (P.cols : Int) - 1) = true := by simp; omega
  have d5 : ¬ wd = 2 := by omega
  have d6 : (wd == 2) = false := by simp; omega
  have d7 : ¬ wd = 0 := by omega
  have d8 : (wd == 0) = false := by simp; omega
  have k0 : IntKind.i64.wrap 0 = 0 := by decide
  have k1 : (P.next : Int) = 0 := by omega
  have HO := Lib.hid ho0
  obtain ⟨x0, x2, _, _⟩ := hI.nums
  have y0 := hA.cell 0
  have y1 := hA.cell 1
  have y2 := hA.cell 2
  have y3 := hA.cell 3
  have y4 := hA.cell 4
  go_enter Tryd.func79, Tryd.ntmps79
  go_wp2_with (go_at_call 54; refine (isPadding_any r wd s1 s2 s3 _).mono ?_; rintro _ wq ⟨rfl, hbq⟩; have hIq := hI.below hbq; have hAq := hA.only (F := []) (Only.of_below hbq) (by simp); have hoq := HO.out.trans (Only.of_below (F := []) hbq); obtain ⟨v0, v2, _, _⟩ := hIq.nums; have u0 := hAq.cell 0; have u1 := hAq.cell 1; have u2 := hAq.cell 2; have u3 := hAq.cell 3; have u4 := hAq.cell 4)
  go_region
  all_goals go_wp2_with (go_at_call 87; refine (put_in (hIq.only (w' := wq.drew) (G := []) ((Only.refl _ _).drew) (by simp)) h0 hr r wd s1 s2 s3).mono ?_; rintro _ w1 ⟨rfl, F1, hF1, hw1⟩)
  all_goals exact body_end rfl rfl ⟨rfl, F1, hF1, hw1.after ((hoq.mono (by simp)).drew)⟩

set_option maxRecDepth 100000 in
set_option maxHeartbeats 1000000 in
theorem on_c {w : World} {f : Nat} {F : List Nat} {P : PF} (h : FlowIn w f F P) (h0 : P.rows ≠ []) (hr : P.rows.length + 2 ≤ 900000) (r s1 s2 s3 : Int) (hc : P.cols ≠ 1) (hx : P.next + 1 = P.cols) :
    Calls Tryd.prog 79 #[.pointer (some ⟨f, 0, none⟩), .agg #[.int .i32 r, .int .i64 2, .int .i64 s1, .int .i64 s2, .int .i64 s3]] w fun e w' => e = .returned (.tuple #[]) ∧ ∃ F', FlowIn w' f F' (putF (putF P plainCe) (r, 2, s1, s2, s3)) ∧ Went F F' w w' := by
  obtain ⟨b1, b2, b3⟩ := h.bd
  have hlt := h.lt
  have hA := BL.new w 35 [.int .i32 r, .int .i64 2, .int .i64 s1, .int .i64 s2, .int .i64 s3]
  have ho0 : Only [] w (w.alloc (.cells #[.int .i32 r, .int .i64 2, .int .i64 s1, .int .i64 s2, .int .i64 s3] 35)) := (Only.refl _ _).alloc _
  have hz : (w.alloc (.cells #[.int .i32 r, .int .i64 2, .int .i64 s1, .int .i64 s2, .int .i64 s3] 35)).heap.size = w.heap.size + 1 := by rw [size_alloc]
  have hI := h.only ho0 (by simp)
  have d1 : decide ((P.cols : Int) = 1) = false := by simp; omega
  have d1' : ¬ (P.cols : Int) = 1 := by omega
  have d3 : ((P.cols : Int) == 1) = false := by simp; omega
  have j1 : IntKind.i64.wrap ((P.cols : Int) - 1) = (P.cols : Int) - 1 := IntWalk.i64_in _ ⟨by omega, by omega⟩
  have d2 : (P.next : Int) = (P.cols : Int) - 1 := by omega
  have d4 : ((P.next : Int) == (P.cols : Int) - 1) = true := by simp; omega
  have HO := Lib.hid ho0
  obtain ⟨x0, x2, _, _⟩ := hI.nums
  have y0 := hA.cell 0
  have y1 := hA.cell 1
  have y2 := hA.cell 2
  have y3 := hA.cell 3
  have y4 := hA.cell 4
  go_enter Tryd.func79, Tryd.ntmps79
  go_wp2_with fail
  generalize (w.alloc (.cells #[.int .i32 r, .int .i64 2, .int .i64 s1, .int .i64 s2, .int .i64 s3] 35)) = W at *
  go_region
  all_goals go_wp2_with (first
    | (go_at_call 67; refine (plain_any _).mono ?_; rintro _ w1 ⟨rfl, hb1⟩)
    | (go_at_call 60; refine (blank_any (-1) (-1) 0 _).mono ?_; rintro _ w2 ⟨rfl, hb2⟩; have ho2 : Only [] W w2 := (((Only.refl _ W).drew).trans (Only.of_below hb1)).trans (Only.of_below hb2); have hI2 := hI.only ho2 (by simp))
    | (go_at_call 87; refine (put_in hI2 h0 (by omega) 32 1 (-1) (-1) 0).mono ?_; rintro _ w3 ⟨rfl, F3, hF3, hw3⟩; have hA3 := (hA.only ho2 (by simp)).only hw3.only (fun x => by have := hlt _ x; omega); clear hI2; have z0 := hA3.cell 0; have z1 := hA3.cell 1; have z2 := hA3.cell 2; have z3 := hA3.cell 3; have z4 := hA3.cell 4)
    | (go_at_call 87; refine (put_in hF3 ((putF_rows P _).2 h0) (by have := (putF_rows P (32, 1, -1, -1, 0)).1; omega) r 2 s1 s2 s3).mono ?_; rintro _ w5 ⟨rfl, F5, hF5, hw5⟩))
  all_goals exact body_end rfl rfl ⟨rfl, F5, hF5, (hw3.after ((HO.out.trans ho2).mono (by simp))).trans hw5⟩

set_option maxRecDepth 100000 in
set_option maxHeartbeats 1000000 in
theorem on_e {w : World} {f : Nat} {F : List Nat} {P : PF} (h : FlowIn w f F P) (h0 : P.rows ≠ []) (hr : P.rows.length + 1 ≤ 900000) (r s1 s2 s3 : Int) (hc : P.cols = 1) :
    Calls Tryd.prog 79 #[.pointer (some ⟨f, 0, none⟩), .agg #[.int .i32 r, .int .i64 2, .int .i64 s1, .int .i64 s2, .int .i64 s3]] w fun e w' => e = .returned (.tuple #[]) ∧ ∃ F', FlowIn w' f F' (putF P (32, 1, s1, s2, s3)) ∧ Went F F' w w' := by
  obtain ⟨b1, b2, b3⟩ := h.bd
  have hlt := h.lt
  have hA := BL.new w 35 [.int .i32 r, .int .i64 2, .int .i64 s1, .int .i64 s2, .int .i64 s3]
  have ho0 : Only [] w (w.alloc (.cells #[.int .i32 r, .int .i64 2, .int .i64 s1, .int .i64 s2, .int .i64 s3] 35)) := (Only.refl _ _).alloc _
  have hz : (w.alloc (.cells #[.int .i32 r, .int .i64 2, .int .i64 s1, .int .i64 s2, .int .i64 s3] 35)).heap.size = w.heap.size + 1 := by rw [size_alloc]
  have hI := h.only ho0 (by simp)
  have d1 : decide ((P.cols : Int) = 1) = true := by simp; omega
  have d1' : (P.cols : Int) = 1 := by omega
  have d3 : ((P.cols : Int) == 1) = true := by simp; omega
  have j1 : IntKind.i64.wrap ((P.cols : Int) - 1) = (P.cols : Int) - 1 := IntWalk.i64_in _ ⟨by omega, by omega⟩
  have HO := Lib.hid ho0
  obtain ⟨x0, x2, _, _⟩ := hI.nums
  have y0 := hA.cell 0
  have y1 := hA.cell 1
  have y2 := hA.cell 2
  have y3 := hA.cell 3
  have y4 := hA.cell 4
  go_enter Tryd.func79, Tryd.ntmps79
  go_wp2_with (first
    | (go_at_call 54; refine (isPadding_any r 2 s1 s2 s3 _).mono ?_; rintro _ wq ⟨rfl, hbq⟩; have hIq := hI.below hbq; have hAq := hA.only (F := []) (Only.of_below hbq) (by simp); have hoq := HO.out.trans (Only.of_below (F := []) hbq); obtain ⟨v0, v2, _, _⟩ := hIq.nums; have u0 := hAq.cell 0; have u1 := hAq.cell 1; have u2 := hAq.cell 2; have u3 := hAq.cell 3; have u4 := hAq.cell 4)
    | (go_at_call 60; refine (blank_any s1 s2 s3 _).mono ?_; rintro _ w2 ⟨rfl, hb2⟩; have hA2 := hAq.only (F := []) (Only.of_below hb2) (by simp); have hI2 := hIq.below hb2; have ho2 := hoq.trans (Only.of_below (F := []) hb2))
    | (refine wpList_store_bl rfl 35 (.tmp 3) (.tmp 27) rfl w.heap.size 0 [.int .i32 32, .int .i64 1, .int .i64 s1, .int .i64 s2, .int .i64 s3] rfl rfl _ _ hA2 (by kernel_rfl) (by simp) (by kernel_rfl) ?_; intro w3 hA3 hw3; have hI3 := hI2.only hw3.only (fun x hx => by have := hlt x hx; simp; omega); have z0 : w3.cell? ⟨w.heap.size, 0, none⟩ = some (.int .i32 32) := hA3.cell 0; have z1 : w3.cell? ⟨w.heap.size, 1, none⟩ = some (.int .i64 1) := hA3.cell 1; have z2 : w3.cell? ⟨w.heap.size, 2, none⟩ = some (.int .i64 s1) := hA3.cell 2; have z3 : w3.cell? ⟨w.heap.size, 3, none⟩ = some (.int .i64 s2) := hA3.cell 3; have z4 : w3.cell? ⟨w.heap.size, 4, none⟩ = some (.int .i64 s3) := hA3.cell 4)
    | (go_at_call 87; refine (put_in hI3 h0 hr 32 1 s1 s2 s3).mono ?_; rintro _ w5 ⟨rfl, F5, hF5, hw5⟩))
  exact body_end rfl rfl ⟨rfl, F5, hF5, hw5.after ((ho2.trans2 hw3.only (fun x hx => by rw [List.mem_singleton] at hx; exact .inr (by omega))).mono (by simp))⟩

theorem flowOn_in {w : World} {f : Nat} {F : List Nat} {P : PF} (h : FlowIn w f F P) (h0 : P.rows ≠ []) (hr : P.rows.length + 2 ≤ 900000) (r wd s1 s2 s3 : Int) :
    Calls Tryd.prog 79 #[.pointer (some ⟨f, 0, none⟩), .agg #[.int .i32 r, .int .i64 wd, .int .i64 s1, .int .i64 s2, .int .i64 s3]] w fun e w' => e = .returned (.tuple #[]) ∧ ∃ F', FlowIn w' f F' (onF P (r, wd, s1, s2, s3)) ∧ Went F F' w w' := by
  have hr1 : P.rows.length + 1 ≤ 900000 := by omega
  by_cases hc : P.cols = 1
  · by_cases hw0 : wd = 0
    · subst hw0
      have e : onF P (r, 0, s1, s2, s3) = P := by simp [onF, hc]
      rw [e]
      exact on_d h r s1 s2 s3 hc
    · by_cases hw2 : wd = 2
      · subst hw2
        have e : onF P (r, 2, s1, s2, s3) = putF P (32, 1, s1, s2, s3) := by simp [onF, hc]
        rw [e]
        exact on_e h h0 hr1 r s1 s2 s3 hc
      · have e : onF P (r, wd, s1, s2, s3) = putF P (r, wd, s1, s2, s3) := by simp [onF, hw0, hw2]
        rw [e]
        by_cases hx : P.next + 1 = P.cols
        · exact on_g h h0 hr1 r wd s1 s2 s3 hc hx hw0 hw2
        · exact on_f h h0 hr1 r wd s1 s2 s3 hc hx hw0 hw2
  · by_cases hx : P.next + 1 = P.cols
    · by_cases hw2 : wd = 2
      · subst hw2
        have e : onF P (r, 2, s1, s2, s3) = putF (putF P plainCe) (r, 2, s1, s2, s3) := by simp [onF, hc, hx]
        rw [e]
        exact on_c h h0 hr r s1 s2 s3 hc hx
      · have e : onF P (r, wd, s1, s2, s3) = putF P (r, wd, s1, s2, s3) := by simp [onF, hc, hw2]
        rw [e]
        exact on_b h h0 hr1 r wd s1 s2 s3 hc hx hw2
    · have e : onF P (r, wd, s1, s2, s3) = putF P (r, wd, s1, s2, s3) := by simp [onF, hc, hx]
      rw [e]
      exact on_a h h0 hr1 r wd s1 s2 s3 hc hx
end Go.Proofs.YtgjlohplgpcghaaDoor.Grd
