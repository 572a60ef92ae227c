/- The law's runes and sameRunes. -/
import Derived.Test.YtgjlohplgpcghaaDoorGvi
namespace Go.Proofs.YtgjlohplgpcghaaDoor.Grd
open Go.RowKit Cel Sty

/-- A list of runes of the call's own. -/
def RunAt (w : World) (base : Nat) (v : Value) (l : List Int) : Prop := w.ownsRow base 21 1 v l.length (l.map (Value.int .i32))
theorem RunAt.nil (w : World) (base : Nat) : RunAt w base (.slice none 0 0) [] := ⟨rfl, .inl ⟨rfl, rfl⟩⟩
theorem RunAt.keep {w w' : World} {base : Nat} {v : Value} {l : List Int} (h : RunAt w base v l) (hb : Below w.heap.size w w') : RunAt w' base v l := own_keep h fun g hg => hb.block g (own_ge h g hg).2
theorem info_rune : (Tryd.prog.info? 21).map (fun i => (i.zero, i.size, i.bytes)) = some (some (.int .i32 0), 1, 4) := by kernel_rfl
section
variable {ops : Array Oper} {rest : List Oper} {op : Oper} {a : Act} {w : World} {Q : Exit → Act → World → Prop}
theorem wpList_append_run (hgd : op.guard = none) (s x : Operand) (ho : op.op = .call { callee := .builtin .append, args := #[s, x], argTypes := #[53, 53] })
    (base : Nat) (v : Value) (l : List Int) (r : Int) (c : Nat) (hs : a.eval s = v) (h : RunAt w base v l) (hx : a.eval x = .slice (some ⟨w.heap.size, 0, none⟩) 1 c) (hl : l.length + 1 ≤ 1000000) (hbase : base ≤ w.heap.size)
    (hk : ∀ v' w', RunAt w' base v' (l ++ [r]) → Below base w w' → (∀ k, k < w.heap.size → v.ownBlock ≠ some k → w'.heap[k]? = w.heap[k]?) → w.heap.size ≤ w'.heap.size → wpList Tryd.prog ops Q rest (a.put op.dst v') w') : wpList Tryd.prog ops Q (op :: rest) a (w.alloc (.cells #[.int .i32 r] 21)) := by
  have hi := info_rune
  cases hq2 : Tryd.prog.info? 21 with
  | none => rw [hq2] at hi; cases hi
  | some i =>
    rw [hq2] at hi
    simp only [Option.map_some, Option.some.injEq, Prod.mk.injEq] at hi
    obtain ⟨hz, hsz, hby⟩ := hi
    refine wpList_plain hgd fun K hK => ?_
    have hal : Below w.heap.size w (w.alloc (.cells #[.int .i32 r] 21)) := (Below.refl _ _).alloc (Nat.le_refl _) _
    have hB := BL.new w 21 [.int .i32 r]
    have h' := h.keep hal
    obtain ⟨g, cap', w', hrun, h2, h3, h4⟩ := append_own (w := w.alloc (.cells #[.int .i32 r] 21)) 53 op.type base 21 i _ 1 4 Tryd.underlying53 hq2 hz hsz hby rfl (by omega) v l.length (l.map (Value.int .i32)) h' ⟨w.heap.size, 0, none⟩ 1 c [.int .i32 r] rfl
      (fun j u hj => by rw [Addr.add_mid, hB.cell, Nat.zero_add]; exact hj) (by intro u hu; simp only [List.mem_cons, List.not_mem_nil, or_false] at hu; rw [hu]; rfl) (by omega) (by omega) hl (by rw [size_alloc]; omega)
    have hbl : ∀ k, k < w.heap.size → v.ownBlock ≠ some k → w'.heap[k]? = w.heap[k]? := fun k h5 h6 => (h3.block k (by rw [size_alloc]; omega) (Ne.symm h6)).trans (hal.block k h5)
    have hsz' : w.heap.size ≤ w'.heap.size := by have := h3.size; rw [size_alloc] at this; omega
    have hkk := hK _ _ (hk (slV g 0 (l.length + 1) cap') w' (by
      unfold RunAt
      rw [List.length_append, List.map_append]
      exact h2) ⟨h3.os.trans hal.os, h3.tape.trans hal.tape, h3.output.trans hal.output, hsz', fun k hk => hbl k (by omega) (fun e => by have := (own_ge h k e).1; omega)⟩ hbl hsz')
    unfold Oper.wp
    simp [execOp, ho, resolve, invoke, builtin, hs, hx, hrun, Result.andThen]
    exact hkk
end
/-- A row by its number from the oldest on. -/
theorem GA.row_at {w : World} {g : Nat} {F : List Nat} {c lim : Nat} {past rows : List Ro} (h : GA w g F c lim past rows) (k : Nat) (hk : k < (past ++ rows).length) : RowOf w g ((k : Int) - (past.length : Int)) ((past ++ rows)[k]) := by
  rw [List.length_append] at hk
  by_cases hp : k < past.length
  · rw [List.getElem_append_left hp]
    exact h.past_row k hp
  · rw [List.getElem_append_right (by omega)]
    have := h.scr_row (k - past.length) (by omega)
    rwa [show ((k - past.length : Nat) : Int) = (k : Int) - (past.length : Int) by omega] at this
theorem vis_snoc (l : List Ce) {k : Nat} (h : k < l.length) : vis (l.take (k + 1)) = vis (l.take k) ++ (if visC l[k] then [l[k].1] else []) := by
  rw [List.take_succ_eq_append_getElem h, vis_app]
  congr 1
  unfold vis
  by_cases hv : visC l[k] = true
  · rw [if_pos hv, List.filter_cons_of_pos hv]; rfl
  · rw [if_neg hv, List.filter_cons_of_neg hv]; rfl
theorem vis_len (l : List Ce) : (vis l).length ≤ l.length := by unfold vis; rw [List.length_map]; exact List.length_filter_le _ _
theorem visR_len (c : Nat) : ∀ (rs : List Ro), (∀ r ∈ rs, r.1.length = c) → (visR rs).length ≤ rs.length * c
  | [], _ => by simp [visR]
  | r :: rs, h => by
    have h1 := visR_len c rs fun x hx => h x (List.mem_cons_of_mem _ hx)
    have h2 := vis_len r.1
    rw [h r (List.mem_cons_self ..)] at h2
    rw [show r :: rs = [r] ++ rs from rfl, visR_app, visR_one, List.length_append, List.length_append, List.length_singleton, Nat.add_mul, Nat.one_mul]
    omega
theorem take_visR (rs : List Ro) (c : Nat) (h : ∀ r ∈ rs, r.1.length = c) (k : Nat) : (visR (rs.take k)).length ≤ rs.length * c := by
  refine Nat.le_trans (visR_len c _ fun r hr => h r (List.mem_of_mem_take hr)) ?_
  exact Nat.mul_le_mul_right _ (by rw [List.length_take]; omega)
set_option maxRecDepth 100000 in
set_option maxHeartbeats 4000000 in
theorem runes_law {w : World} {g : Nat} {F : List Nat} {c lim : Nat} {past rows : List Ro} (h : GA w g F c lim past rows) (hsz : (past ++ rows).length * c ≤ 400000) :
    Calls Tryd.prog 26 #[.pointer (some ⟨g, 0, none⟩)] w fun e w' => ∃ v, e = .returned v ∧ RunAt w' w.heap.size v (visR (past ++ rows)) ∧ Below w.heap.size w w' := by
  have hbd := h.bd
  obtain ⟨R, hR⟩ : ∃ R, past ++ rows = R := ⟨_, rfl⟩
  have hrow := fun V (hV : Below w.heap.size w V) k hk => (h.below hV).row_at k hk
  have hrws := fun V (hV : Below w.heap.size w V) => rows_ga (h.below hV)
  have hhis := history_ga h
  have hcl := hbd.cells
  have hNr : R.length = past.length + rows.length := by rw [← hR, List.length_append]
  rw [hR] at hrow hcl hsz ⊢
  have hp2 := hbd.p2
  have hl2 := hbd.l2
  have hr2 := hbd.r2
  have c1 := hbd.c1
  have c2 := hbd.c2
  obtain ⟨pl, hpl⟩ : ∃ pl, past.length = pl := ⟨_, rfl⟩
  obtain ⟨rl, hrl⟩ : ∃ rl, rows.length = rl := ⟨_, rfl⟩
  rw [hpl] at hrow hhis hNr hp2
  rw [hrl] at hrws hNr hr2
  have HROW := Lib.hid hrow
  have HRWS := Lib.hid hrws
  have HCL := Lib.hid hcl
  have HNR := Lib.hid hNr
  have HSZ := Lib.hid hsz
  clear h hbd hrow hrws hcl hR hpl hrl hNr hsz
  go_enter Tryd.func26, Tryd.ntmps26
  go_wp2_with fail
  refine hhis.mono ?_
  rintro _ w1 ⟨rfl, rfl⟩
  clear hhis
  go_wp2_with fail
  go_loopw [3, 4] (fun v y wr => ∃ k : Nat, k ≤ pl + rl ∧ y = .int .i64 ((k : Int) - (pl : Int)) ∧ RunAt wr w.heap.size v (visR (R.take k)) ∧ Below w.heap.size w wr) (fun _ y _ => ((rl : Int) - intOf y).toNat)
  case atStart => exact ⟨0, Nat.zero_le _, by simp, RunAt.nil _ _, Below.refl _ _⟩
  case round =>
    obtain ⟨k, hk, rfl, hrun, hb⟩ := hrel
    have hs := hb.size
    by_cases hlt : k < pl + rl
    · have i1 : (k : Int) - (pl : Int) < (rl : Int) := by omega
      have hkR : k < R.length := by rw [HNR.out]; exact hlt
      have hro := HROW.out wr hb k hkR
      have hcr := HCL.out R[k] (List.getElem_mem hkR)
      have htk : visR (R.take (k + 1)) = visR (R.take k) ++ vis R[k].1 := by rw [List.take_succ_eq_append_getElem hkR, visR_app, visR_one]
      have hlen := take_visR R c HCL.out k
      obtain ⟨⟨row, wrp⟩, hrw⟩ : ∃ q, R[k] = q := ⟨_, rfl⟩
      rw [hrw] at hro hcr htk
      obtain ⟨L, hL⟩ : ∃ L, visR (R.take k) = L := ⟨_, rfl⟩
      rw [hL] at hrun htk hlen
      have HTK := Lib.hid htk
      have HCR := Lib.hid hcr
      have hlen' : L.length ≤ 400000 := Nat.le_trans hlen HSZ.out
      have hln := line_ga hro
      simp only at hln
      have HLN := Lib.hid hln
      have HRUN := Lib.hid hrun
      clear hro hcr htk hlen hrw hL hln hrun
      go_wp2_with fail
      refine (HRWS.out _ hb).mono ?_
      rintro _ w2 ⟨rfl, rfl⟩
      go_wp2_with fail
      refine HLN.out.mono ?_
      rintro _ w2 ⟨b, cap, rfl, hC, hbb, hb2⟩
      have hb2' := hb.trans (hb2.mono hs)
      have HRUN2 := Lib.hid (HRUN.out.keep hb2)
      obtain ⟨n, hn⟩ : ∃ n, row.length = n := ⟨_, rfl⟩
      have HN := Lib.hid hn
      have HC := Lib.hid hC
      have hn1 : n ≤ 250 := by
        have h9 : row.length = c := HCR.out
        omega
      rw [hn]
      clear hC HLN HRUN hn hb2
      go_wp2_with fail
      go_loopw [3, 6] (fun v x wz => ∃ j : Nat, j ≤ n ∧ x = .int .i64 (j : Int) ∧ RunAt wz w.heap.size v (L ++ vis (row.take j)) ∧ Below w.heap.size w wz ∧ CellsAt wz b row cap) (fun _ x _ => n - (intOf x).toNat)
      case atStart => exact ⟨0, Nat.zero_le _, rfl, by simpa [vis] using HRUN2.out, hb2', HC.out⟩
      case round =>
        obtain ⟨j, hj, rfl, hrun, hbz, hCz⟩ := hrel
        have hsz := hbz.size
        have j0 : (0 : Int) ≤ (j : Int) := Int.natCast_nonneg _
        by_cases hjn : j < n
        · have hjr : j < row.length := by rw [HN.out]; exact hjn
          have j1 : (j : Int) < (n : Int) := by omega
          have hvs := vis_snoc row hjr
          obtain ⟨e0, e1, _⟩ := hCz.five hjr
          have hvl : (vis (row.take j)).length ≤ 250 := by
            have h1 := vis_len (row.take j)
            rw [List.length_take] at h1
            omega
          obtain ⟨⟨rv, wv, sv⟩, hq⟩ : ∃ q, row[j] = q := ⟨_, rfl⟩
          rw [hq] at e0 e1 hvs
          simp only at e0 e1 hvs
          have HVS := Lib.hid hvs
          have HRUN := Lib.hid hrun
          have HCZ := Lib.hid hCz
          have hll : (L ++ vis (row.take j)).length + 1 ≤ 1000000 := by rw [List.length_append]; omega
          have HLL := Lib.hid hll
          clear hvs hq hrun hCz hvl hll hj
          by_cases hw0 : 0 < wv
          · by_cases hr0 : rv = 32
            · have d2 : (rv == 32) = true := by simp [hr0]
              have d3 : (rv != 32) = false := by simp [hr0]
              have HE : Hid (vis (row.take (j + 1)) = vis (row.take j)) := by
                show _ = _
                rw [HVS.out, if_neg (by simp [visC, hr0]), List.append_nil]
              clear hr0
              go_wp2_with fail
              go_roundw
              case rel => exact ⟨j + 1, by omega, by go_num, by rw [HE.out]; exact HRUN.out, hbz, HCZ.out⟩
              case measure => simp [intOf]; omega
            · have d2 : (rv == 32) = false := by simpa using hr0
              have d3 : (rv != 32) = true := by simpa using hr0
              have HE : Hid (vis (row.take (j + 1)) = vis (row.take j) ++ [rv]) := by
                show _ = _
                rw [HVS.out, if_pos (by simp [visC, hr0, hw0])]
              clear hr0
              go_wp2_with (at_builtin; refine wpList_append_run rfl (.tmp 39) (.tmp 45) rfl w.heap.size _ _ rv 1 rfl HRUN.out rfl HLL.out hsz ?_; intro v' w3 hrun3 hbl3 hkp3 hs3)
              have hbz3 : Below w.heap.size w w3 := hbz.trans hbl3
              have hC3 : CellsAt w3 b row cap := by
                obtain ⟨q1, tail, q2, q3⟩ := HCZ.out
                exact ⟨q1, tail, q2, q3.keep (hkp3 b q3.lt (own_ne HRUN.out q3 (by decide)))⟩
              rw [List.append_assoc, ← HE.out] at hrun3
              have HR3 := Lib.hid hrun3
              clear hrun3 hkp3
              go_wp2_with fail
              go_roundw
              case rel => exact ⟨j + 1, by omega, by go_num, HR3.out, hbz3, hC3⟩
              case measure => simp [intOf]; omega
          · have d1 : wv ≤ 0 := by omega
            have HE : Hid (vis (row.take (j + 1)) = vis (row.take j)) := by
              show _ = _
              rw [HVS.out, if_neg (by simp [visC]; omega), List.append_nil]
            clear hw0
            go_wp2_with fail
            go_roundw
            case rel => exact ⟨j + 1, by omega, by go_num, by rw [HE.out]; exact HRUN.out, hbz, HCZ.out⟩
            case measure => simp [intOf]; omega
        · obtain rfl : j = n := by omega
          have hfull : RunAt wr w.heap.size u3 (visR (R.take (k + 1))) := by
            rw [HTK.out]
            rw [List.take_of_length_le (by rw [HN.out]; exact Nat.le_refl _)] at hrun
            exact hrun
          have HFULL := Lib.hid hfull
          clear hrun hfull
          have i2 : ((k : Int) - (pl : Int)) + 1 = ((k + 1 : Nat) : Int) - (pl : Int) := by omega
          go_wp2_with fail
          go_roundw
          case rel => exact ⟨k + 1, by omega, by first | go_num | (congr 1; omega), HFULL.out, hbz⟩
          case measure => simp [intOf]; omega
    · obtain rfl : k = pl + rl := by omega
      have hrun' := hrun
      rw [List.take_of_length_le (by rw [HNR.out]; exact Nat.le_refl _)] at hrun'
      have HRUN := Lib.hid hrun'
      have i1 : (rl : Int) ≤ ((pl + rl : Nat) : Int) - (pl : Int) := by omega
      clear hrun hrun'
      go_wp2_with fail
      refine (HRWS.out _ hb).mono ?_
      rintro _ w2 ⟨rfl, rfl⟩
      go_wp2_with fail
      go_ret
      exact ⟨_, rfl, HRUN.out, hb⟩
theorem RunAt.cells {w : World} {base : Nat} {v : Value} {l : List Int} (h : RunAt w base v l) : ∃ A c, v = .slice A l.length c ∧ ∀ j (hj : j < l.length), ∃ g, A = some ⟨g, 0, none⟩ ∧ w.cell? ⟨g, j, none⟩ = some (.int .i32 l[j]) ∧ g < w.heap.size := by
  obtain ⟨bs, c, rfl⟩ := own_shape h
  refine ⟨bs, c, rfl, fun j hj => ?_⟩
  have h' := h
  obtain ⟨h1, ⟨e, h2⟩ | ⟨g, cap, cur, e, h3⟩⟩ := h'
  · omega
  · injection e with e1 e2 e3
    subst e1
    subst e3
    obtain ⟨tail, b1, _⟩ := own_bl (cap := c) (g := g) h
    refine ⟨g, rfl, ?_, b1.lt⟩
    rw [b1.cell, List.getElem?_append_left (by simpa using hj), List.getElem?_map, List.getElem?_eq_getElem hj]
    rfl
set_option maxRecDepth 100000 in
set_option maxHeartbeats 1000000 in
theorem sameRunes_any {w : World} {B1 B2 : Nat} {v1 v2 : Value} {l : List Int} (h1 : RunAt w B1 v1 l) (h2 : RunAt w B2 v2 l) (hl : l.length ≤ 400000) :
    Calls Tryd.prog 28 #[v1, v2] w fun e w' => e = .returned (.bool true) ∧ Below w.heap.size w w' := by
  obtain ⟨A1, c1, rfl, r1⟩ := h1.cells
  obtain ⟨A2, c2, rfl, r2⟩ := h2.cells
  obtain ⟨n, hn⟩ : ∃ n, l.length = n := ⟨_, rfl⟩
  have HN := Lib.hid hn
  have HR1 := Lib.hid r1
  have HR2 := Lib.hid r2
  rw [hn] at hl ⊢
  clear hn r1 r2 h1 h2
  go_enter Tryd.func28, Tryd.ntmps28
  go_wp2_with fail
  go_loopw [5] (fun i wr => ∃ k : Nat, k ≤ n ∧ i = .int .i64 (k : Int) ∧ Below w.heap.size w wr) (fun i _ => n - (intOf i).toNat)
  case atStart => exact ⟨0, Nat.zero_le _, rfl, Below.refl _ _⟩
  case round =>
    obtain ⟨k, hk, rfl, hb⟩ := hrel
    by_cases hlt : k < n
    · have hkl : k < l.length := by rw [HN.out]; exact hlt
      obtain ⟨g1, rfl, q1, z1⟩ := HR1.out k hkl
      obtain ⟨g2, rfl, q2, z2⟩ := HR2.out k hkl
      have hbd := hb.drew
      have p1 := (hbd.cell (p := ⟨g1, k, none⟩) z1).trans q1
      have p2 := (hbd.cell (p := ⟨g2, k, none⟩) z2).trans q2
      have i0 : (0 : Int) ≤ (k : Int) := Int.natCast_nonneg _
      have i1 : (k : Int) < (n : Int) := by omega
      generalize l[k] = rv at p1 p2
      clear q1 q2
      go_wp2_with fail
      go_region
      all_goals go_wp2_with fail
      go_roundw
      case rel => exact ⟨k + 1, by omega, by go_num, hbd⟩
      case measure => simp [intOf]; omega
    · have i1 : (n : Int) ≤ (k : Int) := by omega
      clear hlt
      go_wp2_with fail
      go_ret
      exact ⟨rfl, hb⟩
end Go.Proofs.YtgjlohplgpcghaaDoor.Grd
