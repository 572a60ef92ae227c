/- lex: words held against one another. -/
import Derived.Test.YtplikjbajejciaaDoorQsp
namespace Go.Proofs.YtplikjbajejciaaDoor.Lex
open Go.RowKit Go.Maps
/-- Words that can be read. -/
def WsAt (w : World) (v : Value) (l : List Wd) : Prop :=
  (l = [] ∧ ∃ A c, v = .slice A 0 c) ∨ ∃ g c tail, v = .slice (some ⟨g, 0, none⟩) l.length c ∧ BL w g 36 (wdsC l ++ tail)
theorem WsAt.of {w : World} {G : Nat} {v : Value} {l : List Wd} (h : w.ownsRow G 36 3 v l.length (wdsC l)) : WsAt w v l := by
  cases l with
  | nil =>
    obtain ⟨A, c, rfl⟩ := own_slice h
    exact .inl ⟨rfl, A, c, rfl⟩
  | cons x l =>
    obtain ⟨g, c, tail, hv, _, hb, _⟩ := own_some h (by simp)
    exact .inr ⟨g, c, tail, hv, hb⟩
theorem WsAt.slice {w : World} {v : Value} {l : List Wd} (h : WsAt w v l) : ∃ A c, v = .slice A l.length c := by
  rcases h with ⟨rfl, A, c, rfl⟩ | ⟨g, c, tail, rfl, _⟩
  · exact ⟨A, c, rfl⟩
  · exact ⟨_, c, rfl⟩
theorem wdsC_len (l : List Wd) : (wdsC l).length = l.length * 3 := by
  unfold wdsC
  induction l with
  | nil => rfl
  | cons p l ih => rw [List.flatMap_cons, List.length_append, ih, List.length_cons]; show 3 + _ = _; omega
theorem wds_cell {l : List Wd} {j : Nat} (hlt : j < l.length) (tail : List Value) :
    (wdsC l ++ tail)[j * 3]? = some (.string (bs l[j].text)) ∧ (wdsC l ++ tail)[j * 3 + 1]? = some (.int .i64 (l[j].line : Int)) ∧ (wdsC l ++ tail)[j * 3 + 2]? = some (.bool l[j].block) := by
  have h1 : l = l.take j ++ l[j] :: l.drop (j + 1) := by rw [← List.drop_eq_getElem_cons hlt, List.take_append_drop]
  have h2 : wdsC l = wdsC (l.take j) ++ (wdL l[j] ++ wdsC (l.drop (j + 1))) := by
    conv => lhs; rw [h1]
    unfold wdsC
    rw [List.flatMap_append, List.flatMap_cons]
  have h3 : (wdsC (l.take j)).length = j * 3 := by rw [wdsC_len, List.length_take, Nat.min_eq_left (by omega)]
  rw [h2]
  refine ⟨?_, ?_, ?_⟩
  · rw [List.append_assoc, List.getElem?_append_right (by omega), h3, Nat.sub_self]; rfl
  · rw [List.append_assoc, List.getElem?_append_right (by omega), h3, Nat.add_sub_cancel_left]; rfl
  · rw [List.append_assoc, List.getElem?_append_right (by omega), h3, Nat.add_sub_cancel_left]; rfl
/-- The same words, k lines further on. -/
def sh (k : Nat) (x : Wd) : Wd := { x with line := x.line + k }
def shW (k : Nat) (l : List Wd) : List Wd := l.map (sh k)
theorem drewN_add (w : World) (m : Nat) : ∀ n, (w.drewN m).drewN n = w.drewN (m + n)
  | 0 => rfl
  | n + 1 => by
    show World.drew ((w.drewN m).drewN n) = World.drew (w.drewN (m + n))
    rw [drewN_add w m n]
theorem shW_at (k : Nat) (b : List Wd) (i : Nat) (h : i < b.length) (h2 : i < (shW k b).length) : (shW k b)[i] = sh k b[i] := by
  show (List.map (sh k) b)[i]'h2 = _
  exact List.getElem_map (sh k)
set_option maxRecDepth 100000 in
set_option maxHeartbeats 4000000 in
theorem same_any (w : World) (va vb : Value) (b : List Wd) (k : Nat) (ha : WsAt w va (shW k b)) (hb : WsAt w vb b) (hl : ∀ x ∈ b, x.line ≤ 200000) (hk : k ≤ 200000) (hn : b.length ≤ 200000) :
    Calls Tryd.prog 11 #[va, vb, .int .i64 (k : Int)] w fun e w' => e = .returned (.bool true) ∧ ∃ m, w' = w.drewN m := by
  have hlen : (shW k b).length = b.length := by unfold shW; rw [List.length_map]
  obtain ⟨A, c, rfl⟩ := ha.slice
  obtain ⟨A2, c2, rfl⟩ := hb.slice
  rw [hlen] at ha ⊢
  have HA := Lib.hid ha
  have HB := Lib.hid hb
  have HL := Lib.hid hl
  clear ha hb hl hlen
  go_enter Tryd.func11, Tryd.ntmps11
  go_wp2_with fail
  go_loopw [7] (fun v wr => ∃ i : Nat, i ≤ b.length ∧ v = .int .i64 (i : Int) ∧ ∃ m, wr = w.drewN m) (fun v _ => b.length - (intOf v).toNat)
  case atStart => exact ⟨0, by omega, rfl, 0, rfl⟩
  case round =>
    obtain ⟨i, hi, rfl, m, hm⟩ := hrel
    have hO : Only [] w wr := by rw [hm]; exact only_drewN (Only.refl _ _) m
    have HO := Lib.hid hm
    clear hm
    by_cases hlt : i < b.length
    · have hA := HA.out
      have hB := HB.out
      rcases hA with ⟨h0, _⟩ | ⟨g, c', tail, hv, hbl⟩
      · exfalso
        have := congrArg List.length h0
        unfold shW at this
        rw [List.length_map] at this
        simp at this
        rw [this] at hlt
        simp at hlt
      rcases hB with ⟨h0, _⟩ | ⟨g2, c2', tail2, hv2, hbl2⟩
      · rw [h0] at hlt; cases hlt
      simp only [Value.slice.injEq] at hv hv2
      obtain ⟨rfl, -, rfl⟩ := hv
      obtain ⟨rfl, -, rfl⟩ := hv2
      have hlt2 : i < (shW k b).length := by unfold shW; rw [List.length_map]; exact hlt
      have hsh : (shW k b)[i] = sh k b[i] := shW_at k b i hlt hlt2
      obtain ⟨x0, x1, x2⟩ := wds_cell hlt2 tail
      obtain ⟨y0, y1, y2⟩ := wds_cell hlt tail2
      rw [hsh] at x0 x1 x2
      have hxl := HL.out b[i] (List.getElem_mem hlt)
      have a0 : wr.cell? ⟨g, i * 3, none⟩ = some (.string (bs b[i].text)) := ((BL.only hbl hO (by simp)).cell _).trans x0
      have a1 : wr.cell? ⟨g, i * 3 + 1, none⟩ = some (.int .i64 ((b[i].line + k : Nat) : Int)) := ((BL.only hbl hO (by simp)).cell _).trans x1
      have a2 : wr.cell? ⟨g, i * 3 + 2, none⟩ = some (.bool b[i].block) := ((BL.only hbl hO (by simp)).cell _).trans x2
      have b0 : wr.cell? ⟨g2, i * 3, none⟩ = some (.string (bs b[i].text)) := ((BL.only hbl2 hO (by simp)).cell _).trans y0
      have b1 : wr.cell? ⟨g2, i * 3 + 1, none⟩ = some (.int .i64 (b[i].line : Int)) := ((BL.only hbl2 hO (by simp)).cell _).trans y1
      have b2 : wr.cell? ⟨g2, i * 3 + 2, none⟩ = some (.bool b[i].block) := ((BL.only hbl2 hO (by simp)).cell _).trans y2
      have zw : IntKind.i64.wrap ((b[i].line : Int) + (k : Int)) = ((b[i].line + k : Nat) : Int) := by rw [IntWalk.i64_in _ (by omega)]; omega
      have hii : (i : Int) < (b.length : Int) := by omega
      clear x0 x1 x2 y0 y1 y2 hbl hbl2 hsh hlt2 hO HA HB HL hxl
      generalize b[i].block = bk at *
      generalize bs b[i].text = tx at *
      generalize b[i].line = ln at *
      generalize ln + k = lk at *
      cases bk with
      | true =>
        go_wp2_with fail
        go_quiet (fail)
        have HO2 : Hid (∃ m, World.drewN wr nq = w.drewN m) := by rw [HO.out]; exact ⟨m + nq, drewN_add w m nq⟩
        generalize World.drewN wr nq = V at *
        go_wp2_with fail
        go_roundw
        case measure => simp [intOf]; omega
        case rel => exact ⟨i + 1, by omega, by go_num, HO2.out⟩
      | false =>
        go_wp2_with fail
        go_quiet (fail)
        have HO2 : Hid (∃ m, World.drewN wr nq = w.drewN m) := by rw [HO.out]; exact ⟨m + nq, drewN_add w m nq⟩
        generalize World.drewN wr nq = V at *
        go_wp2_with fail
        go_roundw
        case measure => simp [intOf]; omega
        case rel => exact ⟨i + 1, by omega, by go_num, HO2.out⟩
    · clear hO
      have hii : ¬ (i : Int) < (b.length : Int) := by omega
      have hie : i = b.length := by omega
      subst hie
      go_wp2_with fail
      go_ret
      exact ⟨rfl, m, HO.out⟩
end Go.Proofs.YtplikjbajejciaaDoor.Lex
