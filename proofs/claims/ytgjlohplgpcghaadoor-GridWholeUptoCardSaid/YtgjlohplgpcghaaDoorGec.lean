/- Cells copied to cells. -/
import Derived.Test.YtgjlohplgpcghaaDoorGee
namespace Go.Proofs.YtgjlohplgpcghaaDoor.Grd
open Go.RowKit Cel Sty

theorem copy_gen {P : Program} (w : World) (dT sT ty elem : TypeId) (size g o dLen dCap : Nat) (a : Addr) (sLen sCap : Nat) (cur : List Value) (t : TypeId) (cs : List Value)
    (hu : P.underlying dT = some (.slice elem)) (hs : (P.info? elem).map (·.size) = some size)
    (hg : BL w g t cur) (hn : cs.length = Nat.min sLen dLen * size)
    (hsrc : ∀ j v, cs[j]? = some v → w.cell? (a.add j) = some v) (hfit : o + cs.length ≤ cur.length) (h1 : ∀ v ∈ cs, v.oneCell' = true) :
    ∃ w1, (Builtin.copy_ #[dT, sT] ty #[.slice (some ⟨g, o, none⟩) dLen dCap, .slice (some a) sLen sCap]).run P w = .ok (goInt (Nat.min sLen dLen)) w1 ∧ BL w1 g t (splice cur o cs) ∧ Wrote g w w1 :=
  ⟨_, run_copy_wide (P := P) w dT sT ty elem size g o dLen dCap a sLen sCap cur.toArray t cs hu hs hg hn hsrc (by simpa using hfit) h1,
    setRow_heap w g cur.toArray (cur.take o ++ cs ++ cur.drop (o + cs.length)).toArray t _ hg, Wrote.setRow hg (cur.take o ++ cs ++ cur.drop (o + cs.length)).toArray⟩
/-- Copied: what it is, what stands in the row then. -/
theorem run_copy_cells {w : World} (ty : TypeId) (b cap dx dLen dCap b2 cap2 sx sLen sCap do_ so : Nat) (L L2 : List Ce)
    (hdo : do_ = dx * 5) (hso : so = sx * 5) (hb : CellsAt w b L cap) (hb2 : CellsAt w b2 L2 cap2) (hdl : dx + dLen ≤ L.length) (hsl : sx + sLen ≤ L2.length) :
    ∃ w1, (Builtin.copy_ #[62, 62] ty #[.slice (some ⟨b, do_, none⟩) dLen dCap, .slice (some ⟨b2, so, none⟩) sLen sCap]).run Tryd.prog w = .ok (goInt (Nat.min sLen dLen)) w1 ∧
      CellsAt w1 b (L.take dx ++ (L2.drop sx).take (Nat.min sLen dLen) ++ L.drop (dx + Nat.min sLen dLen)) cap ∧ Wrote b w w1 := by
  subst hdo hso
  obtain ⟨h1, tail, h2, h3⟩ := hb
  obtain ⟨k1, tail2, k2, k3⟩ := hb2
  obtain ⟨m, hm⟩ : ∃ m, Nat.min sLen dLen = m := ⟨_, rfl⟩
  have hm1 : m ≤ sLen := hm ▸ Nat.min_le_left _ _
  have hm2 : m ≤ dLen := hm ▸ Nat.min_le_right _ _
  have hl0 : ((L2.drop sx).take m).length = m := by rw [List.length_take, List.length_drop]; omega
  have hcl : (flat ((L2.drop sx).take m)).length = 5 * m := by rw [flat_len, hl0]
  obtain ⟨w1, hrun, hB, hw⟩ := copy_gen (P := Tryd.prog) w 62 62 ty 35 5 b (dx * 5) dLen dCap ⟨b2, sx * 5, none⟩ sLen sCap (flat L ++ tail) 35 (flat ((L2.drop sx).take m)) Tryd.underlying62 (by kernel_rfl) h3 (by rw [hcl, hm, Nat.mul_comm]) (fun j u hj => by
    have hjl := (List.getElem?_eq_some_iff.1 hj).1
    rw [hcl] at hjl
    rw [Addr.add_mid, k3.cell, List.getElem?_append_left (by rw [flat_len]; omega), ← hj, flat_take, flat_drop, List.getElem?_take_of_lt hjl, List.getElem?_drop, Nat.mul_comm 5 sx]) (by
    rw [hcl, List.length_append, flat_len]; omega) (one_flat _)
  rw [hm] at hrun ⊢
  have hlen : (L.take dx ++ (L2.drop sx).take m ++ L.drop (dx + m)).length = L.length := by
    simp only [List.length_append, hl0, List.length_take, List.length_drop]; omega
  refine ⟨_, hrun, ⟨by rw [hlen]; exact h1, tail, by rw [h2, hlen], ?_⟩, hw⟩
  · have e : flat (L.take dx ++ (L2.drop sx).take m ++ L.drop (dx + m)) ++ tail = splice (flat L ++ tail) (dx * 5) (flat ((L2.drop sx).take m)) := by
      unfold splice
      rw [hcl, flat_app, flat_app, flat_take L dx, flat_drop L, List.take_append_of_le_length (by rw [flat_len]; omega), List.drop_append_of_le_length (by rw [flat_len]; omega), Nat.mul_comm 5 dx, show 5 * (dx + m) = dx * 5 + 5 * m by omega]
      simp only [List.append_assoc]
    rw [e]
    exact hB
section
variable {ops : Array Oper} {rest : List Oper} {op o : Oper} {a : Act} {w : World} {Q : Exit → Act → World → Prop}
theorem wpList_copy_cells (hgd : op.guard = none) (d s : Operand) (ho : op.op = .call { callee := .builtin .copy, args := #[d, s], argTypes := #[62, 62] })
    (b cap dx dLen dCap b2 cap2 sx sLen sCap do_ so : Nat) (L L2 : List Ce) (hd : a.eval d = .slice (some ⟨b, do_, none⟩) dLen dCap) (hs : a.eval s = .slice (some ⟨b2, so, none⟩) sLen sCap)
    (hdo : do_ = dx * 5) (hso : so = sx * 5) (hb : CellsAt w b L cap) (hb2 : CellsAt w b2 L2 cap2) (hdl : dx + dLen ≤ L.length) (hsl : sx + sLen ≤ L2.length)
    (h : ∀ w1, CellsAt w1 b (L.take dx ++ (L2.drop sx).take (Nat.min sLen dLen) ++ L.drop (dx + Nat.min sLen dLen)) cap → Wrote b w w1 → wpList Tryd.prog ops Q rest (a.put op.dst (goInt (Nat.min sLen dLen))) w1) : wpList Tryd.prog ops Q (op :: rest) a w := by
  refine wpList_plain hgd fun K hK => ?_
  obtain ⟨w1, hrun, h1, h2⟩ := run_copy_cells op.type b cap dx dLen dCap b2 cap2 sx sLen sCap do_ so L L2 hdo hso hb hb2 hdl hsl
  have hk := hK _ _ (h _ h1 h2)
  unfold Oper.wp
  simp [execOp, ho, resolve, invoke, builtin, hd, hs, hrun, Result.andThen]
  exact hk
theorem step_copy_cells {K : Act → World → Prop} {E : Prop} (hgd : o.guard = none) (d s : Operand) (ho : o.op = .call { callee := .builtin .copy, args := #[d, s], argTypes := #[62, 62] })
    (b cap dx dLen dCap b2 cap2 sx sLen sCap do_ so : Nat) (L L2 : List Ce) (hd : a.eval d = .slice (some ⟨b, do_, none⟩) dLen dCap) (hs : a.eval s = .slice (some ⟨b2, so, none⟩) sLen sCap)
    (hdo : do_ = dx * 5) (hso : so = sx * 5) (hb : CellsAt w b L cap) (hb2 : CellsAt w b2 L2 cap2) (hdl : dx + dLen ≤ L.length) (hsl : sx + sLen ≤ L2.length)
    (h : ∀ w1, CellsAt w1 b (L.take dx ++ (L2.drop sx).take (Nat.min sLen dLen) ++ L.drop (dx + Nat.min sLen dLen)) cap → Wrote b w w1 → K (a.put o.dst (goInt (Nat.min sLen dLen))) w1) :
    if Region.wanted o (yielded ops a.tmps) = true then Oper.wp Tryd.prog o a w K Q else E := by
  have hw : Region.wanted o (yielded ops a.tmps) = true := by simp [Region.wanted, hgd]
  rw [if_pos hw]
  obtain ⟨w1, hrun, h1, h2⟩ := run_copy_cells o.type b cap dx dLen dCap b2 cap2 sx sLen sCap do_ so L L2 hdo hso hb hb2 hdl hsl
  have hk := h _ h1 h2
  unfold Oper.wp
  simp [execOp, ho, resolve, invoke, builtin, hd, hs, hrun, Result.andThen]
  exact hk
end
end Go.Proofs.YtgjlohplgpcghaaDoor.Grd
