/- Trees that are alike but for their places say the same. -/
import Derived.Test.YtkanglfpiahecaaDoorPYsk
import Derived.Test.YtkanglfpiahecaaDoorPYat
namespace Go.Proofs.YtkanglfpiahecaaDoor.Lyt
open Go.RowKit

theorem F.vals_bare (a : Int) (g : Int → Int → Int → Int) : ∀ f : F, f.bare.vals a g = f.vals a g
  | .nil => rfl
  | .leaf _ _ _ _ r => by simp [F.bare, F.vals, F.vals_bare a g r]
  | .node _ _ _ _ ks r => by simp [F.bare, F.vals, F.vals_bare a g r, F.vals_bare a g ks, F.bare_len]
theorem F.bxl_bare : ∀ (f : F) (x y : Int), f.bare.bxl x y = f.bxl x y
  | .nil, _, _ => rfl
  | .leaf _ _ _ _ r, x, y => by simp [F.bare, F.bxl, F.bxl_bare r]
  | .node _ _ _ _ ks r, x, y => by simp [F.bare, F.bxl, F.bxl_bare r, F.bxl_bare ks, F.bare_len, F.kx, F.vals_bare]
theorem F.txl_bare : ∀ (f : F) (x y : Int), f.bare.txl x y = f.txl x y
  | .nil, _, _ => rfl
  | .leaf _ _ _ _ r, x, y => by simp [F.bare, F.txl, F.txl_bare r]
  | .node _ _ _ _ ks r, x, y => by simp [F.bare, F.txl, F.txl_bare r, F.txl_bare ks, F.bare_len, F.kx, F.vals_bare, F.valN]
theorem F.pns_bare : ∀ f : F, f.bare.pns = f.pns
  | .nil => rfl
  | .leaf _ _ _ _ r => by simp [F.bare, F.pns, F.pns_bare r]
  | .node _ _ _ _ ks r => by simp [F.bare, F.pns, F.pns_bare r, F.pns_bare ks]
theorem F.cnt_bare : ∀ f : F, f.bare.cnt = f.cnt
  | .nil => rfl
  | .leaf _ _ _ _ r => by simp [F.bare, F.cnt, F.cnt_bare r]
  | .node _ _ _ _ ks r => by simp [F.bare, F.cnt, F.cnt_bare r, F.cnt_bare ks]
theorem F.all_bare {P : Int → Int → Int → Prop} : ∀ {f : F}, f.bare.all P ↔ f.all P
  | .nil => Iff.rfl
  | .leaf _ _ _ _ r => by simp [F.bare, F.all, F.all_bare (f := r)]
  | .node _ _ _ _ ks r => by simp [F.bare, F.all, F.all_bare (f := r), F.all_bare (f := ks)]
theorem F.has1_bare : ∀ {f : F}, f.bare.has1 ↔ f.has1
  | .nil => Iff.rfl
  | .leaf _ _ _ _ r => by simp [F.bare, F.has1, F.has1_bare (f := r)]
  | .node _ _ _ _ ks r => by simp [F.bare, F.has1, F.has1_bare (f := r), F.has1_bare (f := ks), F.bare_len]
theorem F.ways_bare : ∀ {f : F}, f.bare.ways ↔ f.ways
  | .nil => Iff.rfl
  | .leaf _ _ _ _ r => by simp [F.bare, F.ways, F.ways_bare (f := r)]
  | .node _ _ _ _ ks r => by simp [F.bare, F.ways, F.ways_bare (f := r), F.ways_bare (f := ks)]
/-- Each split has two kids at the least, which go the other way; par: the way of the split above. -/
def F.norm (par : Int) : F → Prop
  | .nil => True
  | .leaf _ _ _ _ r => r.norm par
  | .node _ _ _ al ks r => al ≠ par ∧ (al = 0 ∨ al = 1) ∧ 2 ≤ ks.len ∧ ks.norm al ∧ r.norm par
theorem F.norm_bare {par : Int} : ∀ {f : F}, f.bare.norm par ↔ f.norm par
  | .nil => Iff.rfl
  | .leaf _ _ _ _ r => by simp [F.bare, F.norm, F.norm_bare (f := r)]
  | .node _ _ _ al ks r => by simp [F.bare, F.norm, F.norm_bare (par := par) (f := r), F.norm_bare (par := al) (f := ks), F.bare_len]
theorem F.norm_app {par : Int} {g : F} : ∀ {f : F}, (f.app g).norm par ↔ f.norm par ∧ g.norm par
  | .nil => by simp [F.app, F.norm]
  | .leaf _ _ _ _ r => by simp [F.app, F.norm, F.norm_app (f := r)]
  | .node _ _ _ _ _ r => by simp [F.app, F.norm, F.norm_app (f := r), and_assoc]
theorem F.norm_flat {al : Int} : ∀ {f : F}, f.norm al → f.flat al = f
  | .nil, _ => rfl
  | .leaf _ _ _ _ r, h => by simp [F.flat, F.norm_flat (f := r) h]
  | .node _ _ _ _ _ r, h => by
    unfold F.flat
    rw [if_neg h.1, F.norm_flat h.2.2.2.2]
theorem F.norm_has1 {par : Int} : ∀ {f : F}, f.norm par → f.has1
  | .nil, _ => trivial
  | .leaf _ _ _ _ r, h => F.norm_has1 (f := r) h
  | .node _ _ _ _ ks r, h => ⟨by have := h.2.2.1; omega, F.norm_has1 h.2.2.2.1, F.norm_has1 h.2.2.2.2⟩
theorem F.norm_ways {par : Int} : ∀ {f : F}, f.norm par → f.ways
  | .nil, _ => trivial
  | .leaf _ _ _ _ r, h => F.norm_ways (f := r) h
  | .node _ _ _ _ _ _, h => ⟨h.2.1, F.norm_ways h.2.2.2.1, F.norm_ways h.2.2.2.2⟩
/-- Few blocks. -/
theorem F.norm_blks {par : Int} : ∀ {f : F}, f.norm par → f.blks.length + 2 * f.len ≤ 3 * f.cnt
  | .nil, _ => by simp [F.blks, F.len, F.cnt]
  | .leaf _ _ _ _ r, h => by have := F.norm_blks (f := r) h; simp only [F.blks, F.len, F.cnt, List.length_cons]; omega
  | .node _ _ _ _ ks r, h => by
    have h1 := F.norm_blks h.2.2.2.1
    have h2 := F.norm_blks h.2.2.2.2
    have h3 := h.2.2.1
    simp only [F.blks, F.len, F.cnt, List.length_cons, List.length_append]
    omega
end Go.Proofs.YtkanglfpiahecaaDoor.Lyt
/- A text's sum as a text. -/
namespace Go.Proofs.YtkanglfpiahecaaDoor.Lyt
open Go.RowKit

def padP (l : Tx) : Tx := [48, 48, 48] ++ hexT (sumP l).toNat
theorem cut_ext (l : Tx) (a b : Nat) : (bs l).extract a b = bs ((l.take b).drop a) := by
  have h1 : ((bs l).extract a b).data.toList = (l.take b).drop a := by
    rw [ByteArray.data_extract]
    have : (bs l).data = l.toArray := rfl
    rw [this, List.extract_toArray, List.extract_eq_take_drop]
    simp only [List.drop_take]
  rw [bs_of ((bs l).extract a b), h1]
/-- A text's sum, written. -/
def sumX (l : Tx) : Tx := (padP l).drop ((padP l).length - 4)
set_option maxRecDepth 100000 in
set_option maxHeartbeats 4000000 in
theorem sumText_at {B : Nat} (l : Tx) (w : World) (hl : l.length ≤ 1000000000) (ht : Tab B w) (hB : B ≤ w.heap.size) :
    Calls Tryd.prog 22 #[.string (bs l)] w fun e w' => e = .returned (.string (bs (sumX l))) ∧ Below w.heap.size w w' := by
  have hs := Sum_at (bs l) w (by rw [bs_size]; exact hl)
  rw [bs_list] at hs
  have hz := sumP_in l
  have hx := hex_at (sumP l).toNat (by omega) w ht hB
  rw [Int.toNat_of_nonneg hz.1] at hx
  have hlen := hexT_len (sumP l).toNat
  have hsx : sumX l = ([48, 48, 48] ++ hexT (sumP l).toNat).drop (([48, 48, 48] ++ hexT (sumP l).toNat).length - 4) := rfl
  have HS := Lib.hid hs
  have HX := Lib.hid hx
  have HSX := Lib.hid hsx
  clear hs hx hsx ht hB
  generalize sumX l = S at *
  generalize hexT (sumP l).toNat = h at *
  generalize sumP l = z at *
  have j1 : IntKind.i64.wrap z = z := IntWalk.i64_in _ ⟨by omega, by omega⟩
  go_enter Tryd.func22, Tryd.ntmps22
  go_wp2_with fail
  refine HS.out.mono ?_
  rintro _ w1 ⟨rfl, rfl⟩
  go_wp2_with fail
  refine HX.out.mono ?_
  rintro _ w2 ⟨rfl, hb2⟩
  have e3 : ({ data := #[48, 48, 48] } : ByteArray) ++ bs h = bs ([48, 48, 48] ++ h) := bs_app [48, 48, 48] h
  obtain ⟨n, hn⟩ : ∃ n, n = h.length + 3 := ⟨_, rfl⟩
  have hP : (bs ([48, 48, 48] ++ h)).size = n := by rw [bs_size, hn]; simp
  have hxt : (bs ([48, 48, 48] ++ h)).extract (n - 4) n = bs S := by
    rw [cut_ext, HSX.out, List.take_of_length_le (by simp [hn])]
    congr 2
    simp [hn]
  have h3 : (bs h).size = h.length := bs_size h
  have j2 : IntKind.i64.wrap ((n : Int) - 4) = (n : Int) - 4 := IntWalk.i64_in _ ⟨by omega, by omega⟩
  have j3 : ((n : Int) - 4).toNat = n - 4 := by omega
  have j4 : (0 : Int) ≤ (n : Int) - 4 := by omega
  have j5 : (n : Int) - 4 ≤ (n : Int) := by omega
  have j6 : ¬ 9223372036854775807 < 3 + h.length := by omega
  clear HSX hn
  generalize bs ([48, 48, 48] ++ h) = P at *
  generalize bs h = H at *
  go_wp2_with fail
  go_ret
  exact ⟨rfl, hb2⟩
end Go.Proofs.YtkanglfpiahecaaDoor.Lyt
/- A tree's text: a kid's, gathered. -/
namespace Go.Proofs.YtkanglfpiahecaaDoor.Lyt
open Go.RowKit

theorem info_str : (Tryd.prog.info? 9).map (fun i => (i.zero, i.size, i.bytes)) = some (some (.string ⟨#[]⟩), 1, 16) := by kernel_rfl
def strC (l : List Tx) : List Value := l.map fun t => .string (bs t)
section
variable {W : World} {n0 B : Nat} {v u : Value} {x y : Int} {acc : List Tx} {l : Tx}
set_option maxRecDepth 100000 in
set_option maxHeartbeats 4000000 in
theorem body1_at (h0 : BL W n0 85 [u]) (hB : n0 < B) (hBW : B ≤ W.heap.size) (hu : W.ownsRow B 9 1 u acc.length (strC acc)) (hn : acc.length ≤ 1000000)
    (hk : ∀ V, Below W.heap.size W V → Calls Tryd.prog 21 #[v, .agg #[.int .i64 x, .int .i64 y]] V fun e V' => e = .returned (.string (bs l)) ∧ Below V.heap.size V V') :
    Calls Tryd.prog 47 #[v, .agg #[.int .i64 x, .int .i64 y], pV n0] W fun e W' => e = .returned (.tuple #[]) ∧
      ∃ u', BL W' n0 85 [u'] ∧ W'.ownsRow B 9 1 u' (acc ++ [l]).length (strC (acc ++ [l])) ∧ OnlyB B [n0] W W' := by
  have hb0 : Below W.heap.size W (W.alloc (.cells #[.int .i64 x, .int .i64 y] 49)) := (Below.refl _ _).alloc (Nat.le_refl _) _
  have hA := BL.new W 49 [.int .i64 x, .int .i64 y]
  have hone : ∀ q ∈ [Value.string (bs l)], q.oneCell' = true := by
    intro q hq
    rw [List.mem_singleton] at hq
    rw [hq]
    rfl
  have hnlt := h0.lt
  have H0 := Lib.hid h0
  have HU := Lib.hid hu
  have HK := Lib.hid hk
  have HONE := Lib.hid hone
  have hsc : strC (acc ++ [l]) = strC acc ++ [.string (bs l)] := by simp [strC]
  have HSC := Lib.hid hsc
  clear h0 hu hk hone hsc
  unfold pV
  go_enter Tryd.func47, Tryd.ntmps47
  go_upto_region 1 with fail
  generalize W.alloc (.cells #[.int .i64 x, .int .i64 y] 49) = X at *
  have hd : Below W.heap.size W X.drew := hb0.drew
  have d0 : X.drew.cell? ⟨n0, 0, none⟩ = some u := (H0.out.only (F := []) (Only.of_below hd) (by simp)).cell 0
  have a0 : X.drew.cell? ⟨W.heap.size, 0, none⟩ = some (.int .i64 x) := hA.drew.cell 0
  have a1 : X.drew.cell? ⟨W.heap.size, 1, none⟩ = some (.int .i64 y) := hA.drew.cell 1
  have hsX : W.heap.size + 1 ≤ X.drew.heap.size := by have := hA.drew.lt; omega
  have HA := Lib.hid hA.drew
  have HD := Lib.hid hd
  clear hA hb0 hd
  go_region_law
    (first
      | (go_simp; go_at_call 21; refine (HK.out _ HD.out).mono ?_; rintro _ w3 ⟨rfl, hb3⟩; have hbd3 := HD.out.trans (hb3.mono HD.out.size); have z0 := (H0.out.only (F := []) (Only.of_below hbd3) (by simp)).cell 0; have y0 := (HA.out.only (F := []) (Only.of_below hb3) (by simp)).cell 0; have y1 := (HA.out.only (F := []) (Only.of_below hb3) (by simp)).cell 1; have hsw := hbd3.size; have hbe3 : Below W.heap.size W (w3.alloc (.cells #[.string (bs l)] 9)) := hbd3.alloc hsw _; have z0' := (H0.out.only (F := []) (Only.of_below hbe3) (by simp)).cell 0)
      | (refine step_app info_str Tryd.underlying85 rfl (by decide) (by decide) rfl (.tmp 5) (.tmp 9) rfl B u acc.length (strC acc) w3.heap.size 1 1 [.string (bs l)] rfl (own_below HU.out hbe3) rfl rfl (cell_one_new _ _ _) HONE.out (by omega) (by have := hbe3.size; omega) (by omega) ?_; intro g4 c4 w4 hown4 hb4 hw4 _; have h04 := (H0.out.only (F := []) (Only.of_below hbe3) (by simp)).keep (hb4.block n0 (by assumption)); have s2 := h04.cell 0; have s2f := h04.frozen 0; have H04 := Lib.hid h04; clear h04))
  all_goals
    have h2b := H04.out.set_ 0 (.slice (some ⟨g4, 0, none⟩) (acc.length + 1) c4)
    have o2 : OnlyB B [n0] W (w4.setCell ⟨n0, 0, none⟩ (.slice (some ⟨g4, 0, none⟩) (acc.length + 1) c4)) :=
      ((OnlyB.of_below (hbe3.mono (by omega))).trans (OnlyB.of_below hb4)).trans (((Only.refl [n0] w4).setCell (p := ⟨n0, 0, none⟩) (.inl (by simp)) _).toB (by have := hb4.size; have := hbe3.size; omega))
    refine body_end rfl rfl ⟨rfl, _, h2b, ?_, o2⟩
    rw [List.length_append, HSC.out]
    refine own_only (G := [n0]) hown4 ((Only.refl _ _).setCell (p := ⟨n0, 0, none⟩) (.inl (by simp)) _) fun k hk => ?_
    have : g4 = k := Option.some.inj hk
    have := (hown4.lt g4 rfl).1
    simp; omega
end
end Go.Proofs.YtkanglfpiahecaaDoor.Lyt
/- A tree's text: what it begins with; a leaf's. -/
namespace Go.Proofs.YtkanglfpiahecaaDoor.Lyt
open Go.RowKit

/-- A number's text. -/
def IsT (n : Int) (T : ByteArray) : Prop := T = bs (Lib.itoa n) ∧ T.size ≤ 21 ∧ -1000000000000 ≤ n ∧ n ≤ 1000000000000
theorem is_itoa (n : Int) (h : -1000000000000 ≤ n ∧ n ≤ 1000000000000) : IsT n (bs (Lib.itoa n)) := ⟨rfl, by rw [bs_size]; exact Lib.itoa_length_le n (by omega) (by omega), h⟩
set_option maxRecDepth 100000 in
set_option maxHeartbeats 4000000 in
theorem body_leaf {B b : Nat} {p v0 v1 x y : Int} {w : World} (hb : 0 ≤ x ∧ x ≤ 1000000000000 ∧ 0 ≤ y ∧ y ≤ 1000000000000 ∧ 0 ≤ v0 ∧ v0 ≤ 1000000000000 ∧ 0 ≤ v1 ∧ v1 ≤ 1000000000000 ∧ 0 ≤ p ∧ p ≤ 1000000000000)
    (ht : Tab B w) (hB : B ≤ w.heap.size) (hN : BN w b (leafC p v0 v1))
    (h0 : ∀ V, Below w.heap.size w V → Calls Tryd.prog 46 #[pV b, .int .i64 0] V fun e W' => e = .returned (.int .i64 v0) ∧ Below V.heap.size V W')
    (h1 : ∀ V, Below w.heap.size w V → Calls Tryd.prog 46 #[pV b, .int .i64 1] V fun e W' => e = .returned (.int .i64 v1) ∧ Below V.heap.size V W') :
    Calls Tryd.prog 21 #[pV b, .agg #[.int .i64 x, .int .i64 y]] w fun e w' => e = .returned (.string (bs (headP v0 v1 x y ++ [44] ++ Lib.itoa p))) ∧ Below w.heap.size w w' := by
  have hb0 : Below w.heap.size w (w.alloc (.cells #[.int .i64 x, .int .i64 y] 49)) := (Below.refl _ _).alloc (Nat.le_refl _) _
  have hA := BL.new w 49 [.int .i64 x, .int .i64 y]
  obtain ⟨T0, hT0⟩ : ∃ T, IsT v0 T := ⟨_, is_itoa v0 (by omega)⟩
  obtain ⟨T1, hT1⟩ : ∃ T, IsT v1 T := ⟨_, is_itoa v1 (by omega)⟩
  obtain ⟨Tx, hTx⟩ : ∃ T, IsT x T := ⟨_, is_itoa x (by omega)⟩
  obtain ⟨Ty, hTy⟩ : ∃ T, IsT y T := ⟨_, is_itoa y (by omega)⟩
  have hki : ∀ (n : Int) (T : ByteArray), IsT n T → ∀ V, Below w.heap.size w V → Calls Tryd.prog 45 #[.int .i64 n] V fun e w' => e = .returned (.string T) ∧ Below V.heap.size V w' := fun n T hn V hV => by
    rw [hn.1]
    exact itoa_at n (by have := hn.2.2; omega) (by have := hn.2.2; omega) V (ht.on hB hV)
  have hlit : ∀ b : UInt8, ({ data := #[b] } : ByteArray) = bs [b] := fun _ => rfl
  have hsz : ∀ a b : ByteArray, (a ++ b).size = a.size + b.size := fun a b => ByteArray.size_append
  have hs1 : ∀ b : UInt8, ({ data := #[b] } : ByteArray).size = 1 := fun _ => rfl
  obtain ⟨U1, hU1⟩ : ∃ U, T0 ++ ({ data := #[120] } : ByteArray) = U := ⟨_, rfl⟩
  obtain ⟨U2, hU2⟩ : ∃ U, U1 ++ T1 = U := ⟨_, rfl⟩
  obtain ⟨U3, hU3⟩ : ∃ U, U2 ++ ({ data := #[44] } : ByteArray) = U := ⟨_, rfl⟩
  obtain ⟨U4, hU4⟩ : ∃ U, U3 ++ Tx = U := ⟨_, rfl⟩
  obtain ⟨U5, hU5⟩ : ∃ U, U4 ++ ({ data := #[44] } : ByteArray) = U := ⟨_, rfl⟩
  obtain ⟨U6, hU6⟩ : ∃ U, U5 ++ Ty = U := ⟨_, rfl⟩
  have z0 := hT0.2.1
  have z1 := hT1.2.1
  have zx := hTx.2.1
  have zy := hTy.2.1
  have zs1 : U1.size ≤ 22 := by rw [← hU1, hsz, hs1]; omega
  have zs2 : U2.size ≤ 43 := by rw [← hU2, hsz]; omega
  have zs3 : U3.size ≤ 44 := by rw [← hU3, hsz, hs1]; omega
  have zs4 : U4.size ≤ 65 := by rw [← hU4, hsz]; omega
  have zs5 : U5.size ≤ 66 := by rw [← hU5, hsz, hs1]; omega
  have zs6 : U6.size ≤ 87 := by rw [← hU6, hsz]; omega
  have c1 : ¬ 9223372036854775807 < T0.size + 1 := by omega
  have c2 : ¬ 9223372036854775807 < U1.size + T1.size := by omega
  have c3 : ¬ 9223372036854775807 < U2.size + 1 := by omega
  have c4 : ¬ 9223372036854775807 < U3.size + Tx.size := by omega
  have c5 : ¬ 9223372036854775807 < U4.size + 1 := by omega
  have c6 : ¬ 9223372036854775807 < U5.size + Ty.size := by omega
  have hU : U6 = bs (headP v0 v1 x y) := by
    rw [← hU6, ← hU5, ← hU4, ← hU3, ← hU2, ← hU1, hT0.1, hT1.1, hTx.1, hTy.1, hlit, hlit]
    unfold headP
    simp only [bs_app]
  obtain ⟨Tp, hTp⟩ : ∃ T, IsT p T := ⟨_, is_itoa p (by omega)⟩
  have zp := hTp.2.1
  obtain ⟨U7, hU7⟩ : ∃ U, U6 ++ ({ data := #[44] } : ByteArray) = U := ⟨_, rfl⟩
  obtain ⟨R, hU8⟩ : ∃ U, U7 ++ Tp = U := ⟨_, rfl⟩
  have zs7 : U7.size ≤ 88 := by rw [← hU7, hsz, hs1]; omega
  have c7 : ¬ 9223372036854775807 < U6.size + 1 := by omega
  have c8 : ¬ 9223372036854775807 < U7.size + Tp.size := by omega
  have hR : R = bs (headP v0 v1 x y ++ [44] ++ Lib.itoa p) := by
    rw [← hU8, ← hU7, hU, hTp.1, hlit]
    simp only [bs_app]
  clear hlit hsz hs1 zs1 zs2 zs3 zs4 zs5 zs6 zs7 z0 z1 zx zy zp hU
  rw [← hR]
  have HI := Lib.hid hki
  have K0 := Lib.hid h0
  have K1 := Lib.hid h1
  have HN := Lib.hid hN
  clear hki h0 h1 ht hb hN hR
  unfold pV at K0 K1 ⊢
  go_enter Tryd.func21, Tryd.ntmps21
  go_upto_region 1 with fail
  have hs0 : (w.alloc (.cells #[.int .i64 x, .int .i64 y] 49)).heap.size = w.heap.size + 1 := by simp
  generalize w.alloc (.cells #[.int .i64 x, .int .i64 y] 49) = X at *
  have SS : ∀ V, Below w.heap.size w V → Below X.heap.size X V → (V.cell? ⟨w.heap.size, 0, none⟩ = some (.int .i64 x) ∧ V.cell? ⟨w.heap.size, 1, none⟩ = some (.int .i64 y) ∧ Below X.heap.size X V ∧ Below w.heap.size w V) := fun V hV hX => by
    have := hA.only (Only.of_below (F := []) hX) (by simp)
    exact ⟨this.cell 0, this.cell 1, hX, hV⟩
  have hdX : Below X.heap.size X X.drew := (Below.refl _ _).drew
  have hdw : Below w.heap.size w X.drew := hb0.drew
  go_cut [5] (fun s5 wx => s5 = .string U6 ∧ Below w.heap.size w wx ∧ Below X.heap.size X wx)
  case first =>
    go_region_held3 (fun V => V.cell? ⟨w.heap.size, 0, none⟩ = some (.int .i64 x) ∧ V.cell? ⟨w.heap.size, 1, none⟩ = some (.int .i64 y) ∧ Below X.heap.size X V ∧ Below w.heap.size w V)
      (first
        | (refine SS _ ?_ ?_ <;> assumption)
        | fail)
      (first
        | (go_at_call 46; obtain ⟨_, _, kx, kw⟩ := (by assumption : _ ∧ _ ∧ Below X.heap.size X _ ∧ Below w.heap.size w _); first | (refine (K0.out _ kw).mono ?_; rintro _ w2 ⟨rfl, hb2⟩; have hbx := kx.trans (hb2.mono kx.size); have hbw := kw.trans (hb2.mono kw.size)) | (refine (K1.out _ kw).mono ?_; rintro _ w2 ⟨rfl, hb2⟩; have hbx := kx.trans (hb2.mono kx.size); have hbw := kw.trans (hb2.mono kw.size)))
        | (go_at_call 45; obtain ⟨_, _, kx, kw⟩ := (by assumption : _ ∧ _ ∧ Below X.heap.size X _ ∧ Below w.heap.size w _); refine (HI.out _ _ (by assumption) _ kw).mono ?_; rintro _ w2 ⟨rfl, hb2⟩; have hbx := kx.trans (hb2.mono kx.size); have hbw := kw.trans (hb2.mono kw.size))
        | fail)
    all_goals go_wp2_with fail
    all_goals go_meet
    all_goals exact ⟨rfl, hbw, hbx⟩
  case rest =>
    obtain ⟨rfl, hbw, hbx⟩ := hcut
    have hNc := HN.out.only (Only.of_below (F := []) hbw) (by simp)
    have e4 : wc.cell? ⟨b, 4, none⟩ = some (.slice none 0 0) := hNc.cell 4
    have e0 : wc.cell? ⟨b, 0, none⟩ = some (.int .i64 p) := hNc.cell 0
    clear SS hA hNc HN K0 K1
    go_wp2_with fail
    refine (isLeaf_at b 0 0 none _ e4).mono ?_
    rintro _ w9 ⟨rfl, rfl⟩
    go_wp2_with fail
    refine (HI.out _ _ hTp _ hbw).mono ?_
    rintro _ w8 ⟨rfl, hb8⟩
    go_wp2_with fail
    go_ret
    exact ⟨rfl, hbw.trans (hb8.mono hbw.size)⟩
end Go.Proofs.YtkanglfpiahecaaDoor.Lyt
/- A tree's text: all of it. -/
namespace Go.Proofs.YtkanglfpiahecaaDoor.Lyt
open Go.RowKit

theorem strC_get {acc : List Tx} {j : Nat} {x : ByteArray} (h : (acc.map bs)[j]? = some x) : (strC acc)[j]? = some (.string x) := by
  unfold strC
  rw [List.getElem?_map] at h ⊢
  cases hq : acc[j]? with
  | none => rw [hq] at h; cases h
  | some t => rw [hq] at h; obtain rfl := Option.some.inj h; rfl
theorem join_own {w : World} {B : Nat} {u : Value} {acc : List Tx} (h : w.ownsRow B 9 1 u acc.length (strC acc)) (hn : 0 < acc.length) (hl : (Lib.join acc [44]).length ≤ 1000000000) (hn2 : acc.length ≤ 1000000) :
    ∃ g c, u = .slice (some ⟨g, 0, none⟩) acc.length c ∧ Calls Tryd.prog 48 #[.slice (some ⟨g, 0, none⟩) acc.length c, .string ⟨#[44]⟩] w fun e w' => e = .returned (.string (bs (Lib.join acc [44]))) ∧ Below w.heap.size w w' := by
  obtain ⟨g, c, rfl, hg⟩ := own_some h hn
  refine ⟨g, c, rfl, ?_⟩
  have hm : (acc.map bs).map (fun t => t.data.toList) = acc := by
    rw [List.map_map]
    conv => rhs; rw [← List.map_id acc]
    exact List.map_congr_left fun t _ => bs_list t
  have hc : acc.length ≤ c := by
    rcases h.2 with ⟨_, h0⟩ | ⟨g', cap, cur, he, _, _, h3, _⟩
    · omega
    · injection he with _ _ he; omega
  have hk := Tryd.strings_Join g 0 c (acc.map bs) ⟨#[44]⟩ w (fun j x hj => by
    have := h.cells (g := g) rfl j _ (strC_get hj)
    have e2 : (⟨g, 0, none⟩ : Addr).add j = ⟨g, 0 + j, none⟩ := by unfold Addr.add; split <;> simp_all
    rwa [e2] at this) (h.lt g rfl).2 (by simp; omega) (by simpa using hc) (by rw [hm]; exact Nat.le_trans hl (by decide))
  rw [hm, List.length_map] at hk
  exact hk
set_option maxRecDepth 100000 in
set_option maxHeartbeats 8000000 in
theorem body_node {B b kb cap : Nat} {al v0 v1 x y : Int} {ks : F} {w : World} (hb : 0 ≤ x ∧ x ≤ 1000000 ∧ 0 ≤ y ∧ y ≤ 1000000 ∧ 0 ≤ v0 ∧ v0 ≤ 1000000000000 ∧ 0 ≤ v1 ∧ v1 ≤ 1000000000000)
    (hal : al = 0 ∨ al = 1) (hk1 : 1 ≤ ks.len) (ok : ks.Ok) (ht : Tab B w) (hB : B ≤ w.heap.size) (hin : (F.node b kb cap al ks .nil).In w) (g : Nat → Tx)
    (h0 : ∀ V, Below w.heap.size w V → Calls Tryd.prog 46 #[pV b, .int .i64 0] V fun e W' => e = .returned (.int .i64 v0) ∧ Below V.heap.size V W')
    (h1 : ∀ V, Below w.heap.size w V → Calls Tryd.prog 46 #[pV b, .int .i64 1] V fun e W' => e = .returned (.int .i64 v1) ∧ Below V.heap.size V W')
    (hkid : ∀ V, Tab B V → B ≤ V.heap.size → ks.In V → ∀ (i : Nat) v, i < ks.len → ks.ptrs[i]? = some v → Calls Tryd.prog 21 #[v, .agg #[.int .i64 (ks.kx al x y i).1, .int .i64 (ks.kx al x y i).2]] V fun e V' => e = .returned (.string (bs (g i))) ∧ Below V.heap.size V V')
    (hJl : (Lib.join ((List.range ks.len).map g) [44]).length ≤ 1000000000) :
    Calls Tryd.prog 21 #[pV b, .agg #[.int .i64 x, .int .i64 y]] w fun e w' => e = .returned (.string (bs (foldP al (headP v0 v1 x y) (Lib.join ((List.range ks.len).map g) [44])))) ∧ Below w.heap.size w w' := by
  have hb0 : Below w.heap.size w (w.alloc (.cells #[.int .i64 x, .int .i64 y] 49)) := (Below.refl _ _).alloc (Nat.le_refl _) _
  have hA := BL.new w 49 [.int .i64 x, .int .i64 y]
  obtain ⟨T0, hT0⟩ : ∃ T, IsT v0 T := ⟨_, is_itoa v0 (by omega)⟩
  obtain ⟨T1, hT1⟩ : ∃ T, IsT v1 T := ⟨_, is_itoa v1 (by omega)⟩
  obtain ⟨Tx, hTx⟩ : ∃ T, IsT x T := ⟨_, is_itoa x (by omega)⟩
  obtain ⟨Ty, hTy⟩ : ∃ T, IsT y T := ⟨_, is_itoa y (by omega)⟩
  have hki : ∀ (n : Int) (T : ByteArray), IsT n T → ∀ V, Below w.heap.size w V → Calls Tryd.prog 45 #[.int .i64 n] V fun e w' => e = .returned (.string T) ∧ Below V.heap.size V w' := fun n T hn V hV => by
    rw [hn.1]
    exact itoa_at n (by have := hn.2.2; omega) (by have := hn.2.2; omega) V (ht.on hB hV)
  have hlit : ∀ b : UInt8, ({ data := #[b] } : ByteArray) = bs [b] := fun _ => rfl
  have hsz : ∀ a b : ByteArray, (a ++ b).size = a.size + b.size := fun a b => ByteArray.size_append
  have hs1 : ∀ b : UInt8, ({ data := #[b] } : ByteArray).size = 1 := fun _ => rfl
  obtain ⟨U1, hU1⟩ : ∃ U, T0 ++ ({ data := #[120] } : ByteArray) = U := ⟨_, rfl⟩
  obtain ⟨U2, hU2⟩ : ∃ U, U1 ++ T1 = U := ⟨_, rfl⟩
  obtain ⟨U3, hU3⟩ : ∃ U, U2 ++ ({ data := #[44] } : ByteArray) = U := ⟨_, rfl⟩
  obtain ⟨U4, hU4⟩ : ∃ U, U3 ++ Tx = U := ⟨_, rfl⟩
  obtain ⟨U5, hU5⟩ : ∃ U, U4 ++ ({ data := #[44] } : ByteArray) = U := ⟨_, rfl⟩
  obtain ⟨U6, hU6⟩ : ∃ U, U5 ++ Ty = U := ⟨_, rfl⟩
  have z0 := hT0.2.1
  have z1 := hT1.2.1
  have zx := hTx.2.1
  have zy := hTy.2.1
  have zs1 : U1.size ≤ 22 := by rw [← hU1, hsz, hs1]; omega
  have zs2 : U2.size ≤ 43 := by rw [← hU2, hsz]; omega
  have zs3 : U3.size ≤ 44 := by rw [← hU3, hsz, hs1]; omega
  have zs4 : U4.size ≤ 65 := by rw [← hU4, hsz]; omega
  have zs5 : U5.size ≤ 66 := by rw [← hU5, hsz, hs1]; omega
  have zs6 : U6.size ≤ 87 := by rw [← hU6, hsz]; omega
  have c1 : ¬ 9223372036854775807 < T0.size + 1 := by omega
  have c2 : ¬ 9223372036854775807 < U1.size + T1.size := by omega
  have c3 : ¬ 9223372036854775807 < U2.size + 1 := by omega
  have c4 : ¬ 9223372036854775807 < U3.size + Tx.size := by omega
  have c5 : ¬ 9223372036854775807 < U4.size + 1 := by omega
  have c6 : ¬ 9223372036854775807 < U5.size + Ty.size := by omega
  have hU : U6 = bs (headP v0 v1 x y) := by
    rw [← hU6, ← hU5, ← hU4, ← hU3, ← hU2, ← hU1, hT0.1, hT1.1, hTx.1, hTy.1, hlit, hlit]
    unfold headP
    simp only [bs_app]
  obtain ⟨J, hJ⟩ : ∃ U, bs (Lib.join ((List.range ks.len).map g) [44]) = U := ⟨_, rfl⟩
  have zJ : J.size ≤ 1000000000 := by rw [← hJ, bs_size]; exact hJl
  obtain ⟨U7, hU7⟩ : ∃ U, U6 ++ ({ data := #[123] } : ByteArray) = U := ⟨_, rfl⟩
  obtain ⟨U8, hU8⟩ : ∃ U, U7 ++ J = U := ⟨_, rfl⟩
  obtain ⟨U9, hU9⟩ : ∃ U, U8 ++ ({ data := #[125] } : ByteArray) = U := ⟨_, rfl⟩
  obtain ⟨V7, hV7⟩ : ∃ U, U6 ++ ({ data := #[91] } : ByteArray) = U := ⟨_, rfl⟩
  obtain ⟨V8, hV8⟩ : ∃ U, V7 ++ J = U := ⟨_, rfl⟩
  obtain ⟨V9, hV9⟩ : ∃ U, V8 ++ ({ data := #[93] } : ByteArray) = U := ⟨_, rfl⟩
  have zs7 : U7.size ≤ 88 := by rw [← hU7, hsz, hs1]; omega
  have zs8 : U8.size ≤ 1000000088 := by rw [← hU8, hsz]; omega
  have zv7 : V7.size ≤ 88 := by rw [← hV7, hsz, hs1]; omega
  have zv8 : V8.size ≤ 1000000088 := by rw [← hV8, hsz]; omega
  have c7 : ¬ 9223372036854775807 < U6.size + 1 := by omega
  have c8 : ¬ 9223372036854775807 < U7.size + J.size := by omega
  have c9 : ¬ 9223372036854775807 < U8.size + 1 := by omega
  have d8 : ¬ 9223372036854775807 < V7.size + J.size := by omega
  have d9 : ¬ 9223372036854775807 < V8.size + 1 := by omega
  obtain ⟨R, hRd⟩ : ∃ R, bs (foldP al (headP v0 v1 x y) (Lib.join ((List.range ks.len).map g) [44])) = R := ⟨_, rfl⟩
  have hR : (al = 0 → U9 = R) ∧ (al = 1 → V9 = R) := by
    constructor
    · rintro rfl
      rw [← hU9, ← hU8, ← hU7, hU, ← hJ, hlit, hlit, ← hRd]
      simp only [bs_app, foldP, if_true]
    · rintro rfl
      rw [← hV9, ← hV8, ← hV7, hU, ← hJ, hlit, hlit, ← hRd]
      simp only [bs_app, foldP]
      rw [if_neg (by decide)]
  clear hlit hsz hs1 zs1 zs2 zs3 zs4 zs5 zs6 zs7 zs8 zv7 zv8 z0 z1 zx zy zJ hU
  rw [hRd]
  have hpl := F.ptrs_len ks
  have hnf : decide (ks.len = 0) = false := decide_eq_false (by omega)
  have hlenc := F.len_cnt ks ok.one
  have hfew := ok.few
  have HI := Lib.hid hki
  have K0 := Lib.hid h0
  have K1 := Lib.hid h1
  have HIN := Lib.hid hin
  have HKID := Lib.hid hkid
  have HR := Lib.hid hR
  have HOK := Lib.hid ok
  have HJ := Lib.hid hJ
  have HJL := Lib.hid hJl
  have HBD := Lib.hid hb
  have HT := Lib.hid ht
  clear hki h0 h1 ht hb hin hkid hR ok hJ hRd hJl
  unfold pV at K0 K1 ⊢
  go_enter Tryd.func21, Tryd.ntmps21
  go_upto_region 1 with fail
  have hs0 : (w.alloc (.cells #[.int .i64 x, .int .i64 y] 49)).heap.size = w.heap.size + 1 := by simp
  generalize w.alloc (.cells #[.int .i64 x, .int .i64 y] 49) = X at *
  have SS : ∀ V, Below w.heap.size w V → Below X.heap.size X V → (V.cell? ⟨w.heap.size, 0, none⟩ = some (.int .i64 x) ∧ V.cell? ⟨w.heap.size, 1, none⟩ = some (.int .i64 y) ∧ Below X.heap.size X V ∧ Below w.heap.size w V) := fun V hV hX => by
    have := hA.only (Only.of_below (F := []) hX) (by simp)
    exact ⟨this.cell 0, this.cell 1, hX, hV⟩
  have hdX : Below X.heap.size X X.drew := (Below.refl _ _).drew
  have hdw : Below w.heap.size w X.drew := hb0.drew
  go_cut [5] (fun s5 wx => s5 = .string U6 ∧ Below w.heap.size w wx ∧ Below X.heap.size X wx)
  case first =>
    go_region_held3 (fun V => V.cell? ⟨w.heap.size, 0, none⟩ = some (.int .i64 x) ∧ V.cell? ⟨w.heap.size, 1, none⟩ = some (.int .i64 y) ∧ Below X.heap.size X V ∧ Below w.heap.size w V)
      (first
        | (refine SS _ ?_ ?_ <;> assumption)
        | fail)
      (first
        | (go_at_call 46; obtain ⟨_, _, kx, kw⟩ := (by assumption : _ ∧ _ ∧ Below X.heap.size X _ ∧ Below w.heap.size w _); first | (refine (K0.out _ kw).mono ?_; rintro _ w2 ⟨rfl, hb2⟩; have hbx := kx.trans (hb2.mono kx.size); have hbw := kw.trans (hb2.mono kw.size)) | (refine (K1.out _ kw).mono ?_; rintro _ w2 ⟨rfl, hb2⟩; have hbx := kx.trans (hb2.mono kx.size); have hbw := kw.trans (hb2.mono kw.size)))
        | (go_at_call 45; obtain ⟨_, _, kx, kw⟩ := (by assumption : _ ∧ _ ∧ Below X.heap.size X _ ∧ Below w.heap.size w _); refine (HI.out _ _ (by assumption) _ kw).mono ?_; rintro _ w2 ⟨rfl, hb2⟩; have hbx := kx.trans (hb2.mono kx.size); have hbw := kw.trans (hb2.mono kw.size))
        | fail)
    all_goals go_wp2_with fail
    all_goals go_meet
    all_goals exact ⟨rfl, hbw, hbx⟩
  case rest =>
    obtain ⟨rfl, hbw, hbx⟩ := hcut
    have il := isLeaf_at b ks.len cap (some ⟨kb, 0, none⟩) wc ((HIN.out.1.only (Only.of_below (F := []) hbw) (by simp)).cell 4)
    rw [hnf] at il
    have hAc := hA.only (Only.of_below (F := []) hbx) (by simp)
    have hsw := hbw.size
    have hsx := hbx.size
    clear SS hA K0 K1 HI
    go_wp2_with fail
    refine il.mono ?_
    rintro _ w1 ⟨rfl, rfl⟩
    go_upto_region 5 with fail
    have hbY : Below w.heap.size w (wc.alloc (.cells #[.slice none 0 0] 85)) := hbw.alloc (by omega) _
    have hA2 := hAc.alloc (.cells #[.slice none 0 0] 85)
    have hN := BL.new wc 85 [.slice none 0 0]
    have hsY : (wc.alloc (.cells #[.slice none 0 0] 85)).heap.size = wc.heap.size + 1 := by simp
    generalize wc.heap.size = n0 at *
    generalize wc.alloc (.cells #[.slice none 0 0] 85) = Y at *
    have hlt := HIN.out.lt
    have ke := eachAt_at (w := Y) (b := b) (kb := kb) (cap := cap) (kv := 47) (al := al) (x := x) (y := y) (ks := ks) (caps := #[pV n0]) (G := [n0])
      (I := fun i V => ∃ u, BL V n0 85 [u] ∧ V.ownsRow (n0 + 4) 9 1 u ((List.range i).map g).length (strC ((List.range i).map g)))
      (enters_of Tryd.func47 (by kernel_rfl) rfl) hal HOK.out.one HOK.out.siz HOK.out.few
      (HIN.out.1.only (Only.of_below (F := []) hbY) (by simp)) (HIN.out.2.1.only (Only.of_below (F := []) hbY) (by simp)) (HIN.out.2.2.1.below hbY) (fun k hk => by simp at hk; omega)
      (fun k hk hm => by
        have : k < w.heap.size := hlt k (by
          rcases List.mem_cons.1 hk with rfl | hk
          · simp [F.blks]
          · rcases List.mem_cons.1 hk with rfl | hk
            · simp [F.blks]
            · simp [F.blks, hk])
        simp at hm; omega)
      (by have := HBD.out; omega)
      ⟨_, hN, World.ownsRow_nil _ _ _ _⟩
      (fun i V V' ⟨u, q1, q2⟩ ho => ⟨u, q1.only ho (by simp; omega), own_only q2 ho fun k hk => by have := (q2.lt k hk).1; simp; omega⟩)
      (fun i V v hv ⟨u, q1, q2⟩ ho hsv => by
        have hi : i < ks.len := by rw [← hpl]; exact (List.getElem?_eq_some_iff.1 hv).1
        have hrs : (List.range (i + 1)).map g = (List.range i).map g ++ [g i] := by rw [List.range_succ, List.map_append]; rfl
        have k1 := body1_at (v := v) (x := (ks.kx al x y i).1) (y := (ks.kx al x y i).2) (l := g i) (acc := (List.range i).map g) (B := n0 + 4) q1 (by omega) (by omega) q2 (by simp; omega)
          (fun V' hV' => by
            have o2 : OnlyB Y.heap.size [n0] Y V' := ho.trans ((OnlyB.of_below hV').mono (by omega) fun k hk => hk)
            have hb2 : Below w.heap.size w V' := hbY.trans (o2.below (by omega) (by simp; omega))
            exact HKID.out V' (HT.out.on hB hb2) (Nat.le_trans hB hb2.size) (HIN.out.2.2.1.below hb2) i v hi hv)
        refine k1.mono ?_
        rintro e V' ⟨rfl, u', r1, r2, ro⟩
        refine ⟨rfl, ⟨u', r1, ?_⟩, by rw [hsY]; exact ro⟩
        rw [hrs]
        exact r2)
    have KE := Lib.hid ke
    have c0 := hA2.cell 0
    have c1 := hA2.cell 1
    clear ke hA2 hN il hAc
    unfold pV at KE
    go_wp2_with fail
    refine KE.out.mono ?_
    rintro _ w2 ⟨rfl, ⟨u, q1, q2⟩, ro⟩
    have d1 := q1.cell 0
    have hb2 : Below w.heap.size w w2 := hbY.trans (ro.below (B := w.heap.size) (by omega) (by simp; omega))
    obtain ⟨gg, cc, rfl, hjo⟩ := join_own q2 (by simp; omega) HJL.out (by simp; omega)
    rw [HJ.out] at hjo
    generalize ((List.range ks.len).map g).length = m at *
    have e3 : w2.cell? ⟨b, 3, none⟩ = some (.int .i64 al) := (HIN.out.1.only (Only.of_below (F := []) hb2) (by simp)).cell 3
    have HJO := Lib.hid hjo
    clear q1 q2 KE hjo e3
    go_wp2_with fail
    refine HJO.out.mono ?_
    rintro _ w3 ⟨rfl, hb3⟩
    have hb33 : Below w.heap.size w w3 := hb2.trans (hb3.mono hb2.size)
    have e3 : w3.cell? ⟨b, 3, none⟩ = some (.int .i64 al) := (HIN.out.1.only (Only.of_below (F := []) hb33) (by simp)).cell 3
    clear HIN HJO
    rcases hal with rfl | rfl
    · have hRR := HR.out.1 rfl
      clear HR
      subst hRR
      go_wp2_with fail
      go_ret
      exact ⟨rfl, hb33⟩
    · have hRR := HR.out.2 rfl
      clear HR
      subst hRR
      go_wp2_with fail
      go_ret
      exact ⟨rfl, hb33⟩
end Go.Proofs.YtkanglfpiahecaaDoor.Lyt
/- A tree's text, with its sum. -/
namespace Go.Proofs.YtkanglfpiahecaaDoor.Lyt
open Go.RowKit

theorem body_at {B : Nat} (f : F) : f.Ok → ∀ w, Tab B w → B ≤ w.heap.size → f.In w → ∀ (i : Nat) v x y v0 v1 t, f.ptrs[i]? = some v → (f.vals 0 (szA 0))[i]? = some v0 → (f.vals 1 (szA 1))[i]? = some v1 → (f.txl x y)[i]? = some t → Within x y v0 v1 →
    Calls Tryd.prog 21 #[v, .agg #[.int .i64 x, .int .i64 y]] w fun e w' => e = .returned (.string (bs t)) ∧ Below w.heap.size w w' := by
  induction f with
  | nil => intro _ w _ _ _ i v x y v0 v1 t hv; simp [F.ptrs] at hv
  | leaf b p s0 s1 r ih =>
    intro ok w ht hB hin i v x y v0 v1 t hv hv0 hv1 hl hw
    cases i with
    | succ i => exact ih ok.rest w ht hB hin.2 i v x y v0 v1 t hv hv0 hv1 hl hw
    | zero =>
      have k0 := fun V (hV : Below w.heap.size w V) => has_at (a := 0) (.inl rfl) ok.one ok.siz ok.few (hin.below hV) hv hv0
      have k1 := fun V (hV : Below w.heap.size w V) => has_at (a := 1) (.inr rfl) ok.one ok.siz ok.few (hin.below hV) hv hv1
      obtain rfl : pV b = v := by simpa [F.ptrs] using hv
      obtain rfl : headP s0 s1 x y ++ [44] ++ Lib.itoa p = t := by simpa [F.txl] using hl
      obtain rfl : s0 = v0 := by simpa [F.vals, szA] using hv0
      obtain rfl : s1 = v1 := by simpa [F.vals, szA] using hv1
      have hs := ok.siz.1
      have hp := ok.pan.1
      unfold Within at hw
      exact body_leaf (by omega) ht hB hin.1 k0 k1
  | node b kb cap al ks r ihk ihr =>
    intro ok w ht hB hin i v x y v0 v1 t hv hv0 hv1 hl hw
    cases i with
    | succ i => exact ihr ok.rest2 w ht hB hin.2.2.2 i v x y v0 v1 t hv hv0 hv1 hl hw
    | zero =>
      have k0 := fun V (hV : Below w.heap.size w V) => has_at (a := 0) (.inl rfl) ok.one ok.siz ok.few (hin.below hV) hv hv0
      have k1 := fun V (hV : Below w.heap.size w V) => has_at (a := 1) (.inr rfl) ok.one ok.siz ok.few (hin.below hV) hv hv1
      have kok := ok.kids
      have hle := F.txl_le _ ok 0 x y v0 v1 t _ hv0 hv1 hw hl rfl
      have hbig : (100 + ks.szs.sum) ≤ 200000000 := by have := F.szs_sum ks; have := kok.big; omega
      obtain rfl : pV b = v := by simpa [F.ptrs] using hv
      obtain rfl : foldP al (headP (F.valN 0 al ks) (F.valN 1 al ks) x y) (Lib.join ((List.range ks.len).map fun i => (ks.txl (ks.kx al x y i).1 (ks.kx al x y i).2).getD i []) [44]) = t := by simpa [F.txl] using hl
      have hz0 : F.valN 0 al ks = v0 := by simpa [F.vals, F.valN] using hv0
      have hz1 : F.valN 1 al ks = v1 := by simpa [F.vals, F.valN] using hv1
      have hn0 := val_nn kok ok.one.1 0 al
      have hn1 := val_nn kok ok.one.1 1 al
      have hww := hw
      unfold Within at hw
      rw [hz0] at hn0 hle ⊢
      rw [hz1] at hn1 hle ⊢
      refine body_node (g := fun i => (ks.txl (ks.kx al x y i).1 (ks.kx al x y i).2).getD i []) (by omega) ok.way.1 ok.one.1 kok ht hB ⟨hin.1, hin.2.1, hin.2.2.1, trivial⟩ k0 k1 ?_ ?_
      · intro V hT hBV hV i v hi hv
        have q0 : i < (ks.vals 0 (szA 0)).length := by rw [F.vals_len]; exact hi
        have q1 : i < (ks.vals 1 (szA 1)).length := by rw [F.vals_len]; exact hi
        have q2 : i < (ks.txl (ks.kx al x y i).1 (ks.kx al x y i).2).length := by rw [F.txl_len]; exact hi
        have e : (ks.txl (ks.kx al x y i).1 (ks.kx al x y i).2).getD i [] = (ks.txl (ks.kx al x y i).1 (ks.kx al x y i).2)[i] := by
          rw [List.getD_eq_getElem?_getD, List.getElem?_eq_getElem q2]; rfl
        show Calls _ _ _ _ fun e V' => e = .returned (.string (bs ((ks.txl (ks.kx al x y i).1 (ks.kx al x y i).2).getD i []))) ∧ _
        rw [e]
        exact ihk kok V hT hBV hV i v (ks.kx al x y i).1 (ks.kx al x y i).2 _ _ _ hv (List.getElem?_eq_getElem q0) (List.getElem?_eq_getElem q1) (List.getElem?_eq_getElem q2) (kid_within ok.way.1 kok.one kok.siz kok.few hz0 hz1 (List.getElem?_eq_getElem q0) (List.getElem?_eq_getElem q1) hww)
      · generalize Lib.join ((List.range ks.len).map fun i => (ks.txl (ks.kx al x y i).1 (ks.kx al x y i).2).getD i []) [44] = J at *
        have : J.length ≤ (foldP al (headP v0 v1 x y) J).length := by
          unfold foldP
          split <;> (simp only [List.length_append]; omega)
        omega
theorem mem_le_sum {l : List Nat} {x : Nat} (h : x ∈ l) : x ≤ l.sum := by
  induction l with
  | nil => cases h
  | cons y l ih =>
    rw [List.sum_cons]
    rcases List.mem_cons.1 h with rfl | h
    · omega
    · have := ih h; omega
/-- What is printed: the sum, a comma, the text. -/
def printP (t : Tx) : Tx := sumX t ++ [44] ++ t
set_option maxRecDepth 100000 in
set_option maxHeartbeats 4000000 in
theorem Print_at {B tb : Nat} {f : F} {w : World} {v0 v1 : Int} {t : Tx} (ok : f.Ok) (ht : Tab B w) (hB : B ≤ w.heap.size) (hin : f.In w) (hv : f.ptrs[0]? = some (pV tb)) (h0 : (f.vals 0 (szA 0))[0]? = some v0) (h1 : (f.vals 1 (szA 1))[0]? = some v1) (hl : (f.txl 0 0)[0]? = some t) (hw : Within 0 0 v0 v1) :
    Calls Tryd.prog 9 #[pV tb] w fun e w' => e = .returned (.string (bs (printP t))) ∧ Below w.heap.size w w' := by
  have hk := body_at f ok w ht hB hin 0 _ 0 0 v0 v1 t hv h0 h1 hl hw
  have htl : t.length ≤ 200000000 := by
    have hc : 0 < f.szs.length := by
      rw [F.szs_len, ← F.ptrs_len]
      exact (List.getElem?_eq_some_iff.1 hv).1
    have h1 := F.txl_le f ok 0 0 0 v0 v1 t _ h0 h1 hw hl (List.getElem?_eq_getElem hc)
    have h2 := F.szs_sum f
    have h3 := ok.big
    have h4 := mem_le_sum (List.getElem_mem hc)
    omega
  have hs := fun V (hV : Below w.heap.size w V) => sumText_at t V (by omega) (ht.on hB hV) (Nat.le_trans hB hV.size)
  have hx : (sumX t).length ≤ 7 := by
    have := hexT_len (sumP t).toNat
    unfold sumX padP
    rw [List.length_drop]
    simp only [List.length_append, List.length_cons, List.length_nil]
    omega
  have hsz : ∀ a b : ByteArray, (a ++ b).size = a.size + b.size := fun a b => ByteArray.size_append
  obtain ⟨T, hT⟩ : ∃ T, T = bs t := ⟨_, rfl⟩
  obtain ⟨S, hS⟩ : ∃ S, S = bs (sumX t) := ⟨_, rfl⟩
  have z1 : S.size ≤ 7 := by rw [hS, bs_size]; exact hx
  have z2 : T.size ≤ 200000000 := by rw [hT, bs_size]; exact htl
  obtain ⟨U1, hU1⟩ : ∃ U, S ++ ({ data := #[44] } : ByteArray) = U := ⟨_, rfl⟩
  obtain ⟨U2, hU2⟩ : ∃ U, U1 ++ T = U := ⟨_, rfl⟩
  have z3 : U1.size ≤ 8 := by rw [← hU1, hsz]; have : ({ data := #[44] } : ByteArray).size = 1 := rfl; omega
  have c1 : ¬ 9223372036854775807 < S.size + 1 := by omega
  have c2 : ¬ 9223372036854775807 < U1.size + T.size := by omega
  have hR : bs (printP t) = U2 := by
    rw [← hU2, ← hU1, hS, hT, show ({ data := #[44] } : ByteArray) = bs [44] from rfl]
    simp only [bs_app]
    rfl
  rw [hR]
  rw [← hT] at hk
  rw [← hT, ← hS] at hs
  have HK := Lib.hid hk
  have HS := Lib.hid hs
  clear hk hs hR hS hT z1 z2 z3 hx htl hsz ht hin hv h0 h1 hl hw ok
  unfold pV at HK ⊢
  go_enter Tryd.func9, Tryd.ntmps9
  go_wp2_with fail
  refine HK.out.mono ?_
  rintro _ w1 ⟨rfl, hb1⟩
  go_wp2_with fail
  refine (HS.out _ hb1).mono ?_
  rintro _ w2 ⟨rfl, hb2⟩
  go_wp2_with fail
  go_ret
  exact ⟨rfl, hb1.trans (hb2.mono hb1.size)⟩
end Go.Proofs.YtkanglfpiahecaaDoor.Lyt
/- A split made of kids. -/
namespace Go.Proofs.YtkanglfpiahecaaDoor.Lyt
open Go.RowKit

set_option maxRecDepth 100000 in
set_option maxHeartbeats 8000000 in
theorem split_at {al : Int} {kb c : Nat} {K : F} {w : World} (hin : K.In w) (h1 : K.has1) (hcell : ∀ i v, K.ptrs[i]? = some v → w.cell? ⟨kb, i, none⟩ = some v) (hcnt : K.cnt ≤ 1000000) :
    Calls Tryd.prog 29 #[.int .i64 al, .slice (some ⟨kb, 0, none⟩) K.len c] w fun e w' => ∃ u, w'.ownsRow (w.heap.size + 1) 63 1 u (K.flat al).len (K.flat al).ptrs ∧ BL w' w.heap.size 53 [.int .i64 0, .int .i64 0, .int .i64 0, .int .i64 al, u] ∧ Below w.heap.size w w' ∧
      (((K.flat al).len = 1 ∧ ∃ v, (K.flat al).ptrs = [v] ∧ e = .returned v) ∨ ((K.flat al).len ≠ 1 ∧ e = .returned (pV w.heap.size))) := by
  have hpl := F.ptrs_len K
  have hfl := F.flatP_len al K
  have hfp := F.flat_ptrs al K
  have hfn : (K.flatP al).flatten.length = (K.flat al).len := by rw [← hfp, F.ptrs_len]
  have hflc : (K.flat al).len ≤ 1000000 := by
    have := F.len_cnt (K.flat al) (F.flat_has1 al h1)
    rw [F.flat_cnt] at this
    omega
  have hK : K.len ≤ 1000000 := by have := F.len_cnt K h1; omega
  have hptr : ∀ q ∈ (K.flatP al).flatten, q.oneCell' = true := by
    rw [← hfp]
    have : ∀ f : F, ∀ q ∈ f.ptrs, q.oneCell' = true := by
      intro f
      induction f with
      | nil => intro q hq; cases hq
      | leaf b p s0 s1 r ih => intro q hq; rcases List.mem_cons.1 hq with rfl | hq; rfl; exact ih q hq
      | node b kb cap a ks r _ ih => intro q hq; rcases List.mem_cons.1 hq with rfl | hq; rfl; exact ih q hq
    exact this _
  have hlook := fun V (hV : Below w.heap.size w V) i v ps => F.look al K (hin.below hV) h1 i v ps
  have HLOOK := Lib.hid hlook
  have HPTR := Lib.hid hptr
  have hcell2 : ∀ V, Below w.heap.size w V → ∀ i, i < K.len → V.cell? ⟨kb, i, none⟩ = some (K.ptrs.getD i undef) := fun V hV i hi => by
    have h0 := hcell i _ (getD_some (by omega))
    exact (hV.cell (p := ⟨kb, i, none⟩) (World.block_lt_of_cell? w _ h0)).trans h0
  have HC := Lib.hid hcell2
  have HFP := Lib.hid (And.intro hfp hfn)
  have hle : ∀ i, ((K.flatP al).take i).flatten.length ≤ 1000000 := fun i => by
    have e : (K.flatP al).flatten = ((K.flatP al).take i).flatten ++ ((K.flatP al).drop i).flatten := by rw [← List.flatten_append, List.take_append_drop]
    rw [e, List.length_append] at hfn
    omega
  have HLE := Lib.hid hle
  have hA := BL.new w 53 [.int .i64 0, .int .i64 0, .int .i64 0, .int .i64 al, .slice none 0 0]
  clear hlook hptr hcell2 hcell hin h1 hcnt hfp hfn hle
  generalize K.flatP al = P at *
  generalize K.flat al = KF at *
  go_enter Tryd.func29, Tryd.ntmps29
  go_wp2_with fail
  go_loopw [13] (fun i wr => ∃ j : Nat, j ≤ K.len ∧ i = .int .i64 (j : Int) ∧ ∃ u, BL wr w.heap.size 53 [.int .i64 0, .int .i64 0, .int .i64 0, .int .i64 al, u] ∧ wr.ownsRow (w.heap.size + 1) 63 1 u (P.take j).flatten.length (P.take j).flatten ∧ Below w.heap.size w wr) (fun i _ => K.len - (intOf i).toNat)
  case atStart => exact ⟨0, Nat.zero_le _, rfl, _, hA, World.ownsRow_nil _ _ _ _, (Below.refl _ _).alloc (Nat.le_refl _) _⟩
  case round =>
    obtain ⟨j, hj, rfl, u, hS, hu, hb⟩ := hrel
    by_cases hlt : j < K.len
    · have j1 : (j : Int) < (K.len : Int) := by omega
      have hc := HC.out wr hb j hlt
      have hpj : j < P.length := by omega
      have htk : P.take (j + 1) = P.take j ++ [P[j]] := List.take_succ_eq_append_getElem hpj
      have hfl2 : (P.take (j + 1)).flatten = (P.take j).flatten ++ P[j] := by rw [htk, List.flatten_append]; simp
      have hle2 := HLE.out (j + 1)
      rw [hfl2, List.length_append] at hle2
      obtain ⟨b, hvb, hcase⟩ := HLOOK.out wr hb j _ _ (getD_some (by omega)) (List.getElem?_eq_getElem hpj)
      rw [hvb] at hc
      have hpt1 : ∀ q ∈ P[j], q.oneCell' = true := fun q hq => HPTR.out q (List.mem_flatten.2 ⟨_, List.getElem_mem hpj, hq⟩)
      have HF2 := Lib.hid hfl2
      have HPT1 := Lib.hid hpt1
      clear htk hfl2 hvb hpt1
      generalize P[j] = ps at *
      generalize hacc : (P.take j).flatten = acc at *
      clear hacc
      have hsw := hS.lt
      have s4 : wr.cell? ⟨w.heap.size, 4, none⟩ = some u := hS.cell 4
      rcases hcase with ⟨p, s0, s1, hN, rfl⟩ | ⟨kb2, n2, cap2, a2, hN, hn2, ⟨hne, rfl⟩ | ⟨rfl, hps, hpc⟩⟩
      · have kg := goes_at b 0 0 none 0 al wr (hN.cell 4) (hN.cell 3)
        have e : decide ((0 : Nat) ≠ 0 ∧ (0 : Int) = al) = false := by simp
        rw [e] at kg
        have hS2 := hS.alloc (.cells #[pV b] 63)
        have s4' := hS2.cell 4
        have KG := Lib.hid kg
        have HU := Lib.hid hu
        have HB := Lib.hid hb
        have HS := Lib.hid hS
        clear kg hu hN hb hS hS2
        unfold pV at KG s4' HF2
        go_wp2_with (first
          | (go_at_call 54; refine KG.out.mono ?_; rintro _ w2 ⟨rfl, rfl⟩)
          | (at_builtin; refine wpList_app_ptr rfl (.tmp 36) (.tmp 38) rfl (w.heap.size + 1) u acc.length acc (.pointer (some ⟨b, 0, none⟩)) 1 rfl HU.out rfl rfl (by omega) (by omega) ?_; intro v' w3 hown3 hb3 hg3 hw3 hne3; obtain ⟨g2, c2, rfl, hg2⟩ := own_some hown3 (by omega); have hS3 := HS.out.keep (hb3.block _ (Nat.lt_succ_self _)); have t4 := hS3.cell 4; have t4f := hS3.frozen 4; have HS3 := Lib.hid hS3; have HO3 := Lib.hid hown3; clear hS3 hown3))
        go_roundw
        case rel =>
          refine ⟨j + 1, by omega, by go_num, _, HS3.out.set_ 4 _, ?_, (HB.out.trans (hb3.mono (by omega))).setCell (p := ⟨w.heap.size, 4, none⟩) (Nat.le_refl _) _⟩
          rw [HF2.out, List.length_append]
          refine own_only (G := [w.heap.size]) HO3.out ((Only.refl _ _).setCell (p := ⟨w.heap.size, 4, none⟩) (.inl (by simp)) _) fun k hk => ?_
          have := (HO3.out.lt k hk).1
          simp; omega
        case measure => simp [intOf]; omega
      · have kg := goes_at b n2 cap2 (some ⟨kb2, 0, none⟩) a2 al wr (hN.cell 4) (hN.cell 3)
        have e : decide (n2 ≠ 0 ∧ a2 = al) = false := by simp [hne]
        rw [e] at kg
        have hS2 := hS.alloc (.cells #[pV b] 63)
        have s4' := hS2.cell 4
        have KG := Lib.hid kg
        have HU := Lib.hid hu
        have HB := Lib.hid hb
        have HS := Lib.hid hS
        clear kg hu hN hb hS hS2
        unfold pV at KG s4' HF2
        go_wp2_with (first
          | (go_at_call 54; refine KG.out.mono ?_; rintro _ w2 ⟨rfl, rfl⟩)
          | (at_builtin; refine wpList_app_ptr rfl (.tmp 36) (.tmp 38) rfl (w.heap.size + 1) u acc.length acc (.pointer (some ⟨b, 0, none⟩)) 1 rfl HU.out rfl rfl (by omega) (by omega) ?_; intro v' w3 hown3 hb3 hg3 hw3 hne3; obtain ⟨g2, c2, rfl, hg2⟩ := own_some hown3 (by omega); have hS3 := HS.out.keep (hb3.block _ (Nat.lt_succ_self _)); have t4 := hS3.cell 4; have t4f := hS3.frozen 4; have HS3 := Lib.hid hS3; have HO3 := Lib.hid hown3; clear hS3 hown3))
        go_roundw
        case rel =>
          refine ⟨j + 1, by omega, by go_num, _, HS3.out.set_ 4 _, ?_, (HB.out.trans (hb3.mono (by omega))).setCell (p := ⟨w.heap.size, 4, none⟩) (Nat.le_refl _) _⟩
          rw [HF2.out, List.length_append]
          refine own_only (G := [w.heap.size]) HO3.out ((Only.refl _ _).setCell (p := ⟨w.heap.size, 4, none⟩) (.inl (by simp)) _) fun k hk => ?_
          have := (HO3.out.lt k hk).1
          simp; omega
        case measure => simp [intOf]; omega
      · have kg := goes_at b n2 cap2 (some ⟨kb2, 0, none⟩) a2 a2 wr (hN.cell 4) (hN.cell 3)
        have e : decide (n2 ≠ 0 ∧ a2 = a2) = true := by simp; omega
        rw [e] at kg
        have n4 : wr.drew.cell? ⟨b, 4, none⟩ = some (.slice (some ⟨kb2, 0, none⟩) n2 cap2) := hN.cell 4
        have s4d : wr.drew.cell? ⟨w.heap.size, 4, none⟩ = some u := s4
        have hud : wr.drew.ownsRow (w.heap.size + 1) 63 1 u acc.length acc := own_below hu ((Below.refl _ _).drew)
        have hnews : ∀ (j : Nat) u, ps[j]? = some u → wr.drew.cell? ((⟨kb2, 0, none⟩ : Addr).add j) = some u := fun j u hu => by
          have e2 : (⟨kb2, 0, none⟩ : Addr).add j = ⟨kb2, 0 + j, none⟩ := by unfold Addr.add; split <;> simp_all
          rw [e2, Nat.zero_add]
          exact hpc j u hu
        have KG := Lib.hid kg
        have HU := Lib.hid hud
        have HB := Lib.hid hb
        have HS := Lib.hid hS.drew
        have HNW := Lib.hid hnews
        have HBX := Lib.hid hb.size
        clear kg hu hud hN hb hS hnews hpc
        unfold pV at KG
        go_wp2_with (first
          | (go_at_call 54; refine KG.out.mono ?_; rintro _ w2 ⟨rfl, rfl⟩))
        go_region_law
          (first
            | (refine step_app info_ptr Tryd.underlying51 rfl (by decide) (by decide) rfl (.tmp 24) (.tmp 28) rfl (w.heap.size + 1) u acc.length acc kb2 n2 cap2 ps rfl HU.out rfl (by omega) HNW.out HPT1.out (by omega) (by exact Nat.le_trans hsw (Nat.le_refl _)) (by omega) ?_; intro g2 c2 w3 hown3 hb3 hw3 _; have hS3 := HS.out.keep (hb3.block _ (Nat.lt_succ_self _)); have t4 := hS3.cell 4; have t4f := hS3.frozen 4; have HS3 := Lib.hid hS3; have HO3 := Lib.hid hown3; clear hS3 hown3))
        all_goals go_wp2_with fail
        all_goals
          have hrel2 : (w3.setCell ⟨w.heap.size, 4, none⟩ (.slice (some ⟨g2, 0, none⟩) (acc.length + n2) c2)).ownsRow (w.heap.size + 1) 63 1 (.slice (some ⟨g2, 0, none⟩) (acc.length + n2) c2) (P.take (j + 1)).flatten.length (P.take (j + 1)).flatten := by
            rw [HF2.out, List.length_append, hps]
            refine own_only (G := [w.heap.size]) HO3.out ((Only.refl _ _).setCell (p := ⟨w.heap.size, 4, none⟩) (.inl (by simp)) _) fun k hk => ?_
            have := (HO3.out.lt k hk).1
            simp; omega
          have HR2 := Lib.hid hrel2
          clear hrel2
          go_roundw
        all_goals first
          | exact ⟨j + 1, by omega, by go_num, _, HS3.out.set_ 4 _, HR2.out, ((HB.out.drew).trans (hb3.mono (by omega))).setCell (p := ⟨w.heap.size, 4, none⟩) (Nat.le_refl _) _⟩
          | (simp [intOf]; omega)
    · obtain rfl : j = K.len := by omega
      rw [← hfl, List.take_length, HFP.out.2, ← HFP.out.1] at hu
      have s4 : wr.cell? ⟨w.heap.size, 4, none⟩ = some u := hS.cell 4
      obtain ⟨A, cc, rfl⟩ := own_slice hu
      by_cases hone : KF.len = 1
      · obtain ⟨g, c2, he, hg⟩ := own_some hu (by omega)
        obtain ⟨v, hv⟩ : ∃ v, KF.ptrs = [v] := List.length_eq_one_iff.1 (by rw [F.ptrs_len]; exact hone)
        injection he with e1 _ e2
        subst e1
        have c0 : wr.cell? ⟨g, 0, none⟩ = some v := by
          have := hu.cells (g := g) rfl 0 v (by rw [hv]; rfl)
          simpa [Addr.add] using this
        rw [hone] at s4
        have HU := Lib.hid hu
        have HS := Lib.hid hS
        have HB := Lib.hid hb
        have HV := Lib.hid hv
        have HONE := Lib.hid hone
        clear hu hS hb hv hone HFP hflc
        go_wp2_with fail
        go_ret
        exact ⟨_, HU.out, HS.out, HB.out, .inl ⟨HONE.out, v, HV.out, rfl⟩⟩
      · have hnn : ¬ (KF.len : Int) = 1 := by omega
        have HU := Lib.hid hu
        have HS := Lib.hid hS
        have HB := Lib.hid hb
        clear hu hS hb HFP
        go_wp2_with fail
        go_ret
        exact ⟨_, HU.out, HS.out, HB.out, .inr ⟨hone, rfl⟩⟩
end Go.Proofs.YtkanglfpiahecaaDoor.Lyt
/- A split made anew: what lies there then. -/
namespace Go.Proofs.YtkanglfpiahecaaDoor.Lyt
open Go.RowKit

theorem remk_blks {b kb cap : Nat} {al : Int} {K : F} : ∀ x ∈ (F.remk b kb cap al K).blks, x = b ∨ x = kb ∨ x ∈ K.blks := by
  intro x hx
  have hs := F.flat_sub al K
  unfold F.remk at hx
  split at hx
  · generalize K.flat al = L at *
    cases L with
    | nil => simp [F.move, F.blks] at hx
    | leaf c p s0 s1 r =>
      rcases List.mem_cons.1 hx with rfl | hx
      · exact .inl rfl
      · exact .inr (.inr (hs.subset (by simp [F.blks, hx])))
    | node c kb2 cap2 a ks r =>
      rcases List.mem_cons.1 hx with rfl | hx
      · exact .inl rfl
      · exact .inr (.inr (hs.subset (List.mem_cons_of_mem _ hx)))
  · simp only [F.blks, List.mem_cons, List.append_nil] at hx
    rcases hx with rfl | rfl | hx
    · exact .inl rfl
    · exact .inr (.inl rfl)
    · exact .inr (.inr (hs.subset hx))
theorem remk_nodup {b kb cap : Nat} {al : Int} {K : F} (h : K.blks.Nodup) (hb : b ∉ K.blks) (hk : kb ∉ K.blks) (hne : b ≠ kb) : (F.remk b kb cap al K).blks.Nodup := by
  have hs := F.flat_sub al K
  have hn := h.sublist hs
  have hb' : b ∉ (K.flat al).blks := fun hx => hb (hs.subset hx)
  have hk' : kb ∉ (K.flat al).blks := fun hx => hk (hs.subset hx)
  unfold F.remk
  split
  · generalize K.flat al = L at *
    cases L with
    | nil => exact List.nodup_nil
    | leaf c p s0 s1 r => exact List.nodup_cons.2 ⟨fun hx => hb' (List.mem_cons_of_mem _ hx), (List.nodup_cons.1 hn).2⟩
    | node c kb2 cap2 a ks r => exact List.nodup_cons.2 ⟨fun hx => hb' (List.mem_cons_of_mem _ hx), (List.nodup_cons.1 hn).2⟩
  · simp only [F.blks, List.append_nil]
    exact List.nodup_cons.2 ⟨fun hx => by rcases List.mem_cons.1 hx with e | hx; exact hne e; exact hb' hx, List.nodup_cons.2 ⟨hk', hn⟩⟩
theorem remk_cnt {b kb cap : Nat} {al : Int} {K : F} : (F.remk b kb cap al K).cnt = K.cnt := by
  unfold F.remk
  split
  · rw [← F.flat_cnt al K]
    generalize K.flat al = L at *
    cases L <;> rfl
  · simp [F.cnt, F.flat_cnt]
theorem remk_has1 {b kb cap : Nat} {al : Int} {K : F} (h : K.has1) (hl : 1 ≤ K.len) : (F.remk b kb cap al K).has1 := by
  have h1 := F.flat_has1 al h
  have h2 := F.flat_ge al K h
  unfold F.remk
  split
  · generalize K.flat al = L at *
    cases L <;> exact h1
  · exact ⟨by omega, h1, trivial⟩
theorem remk_ptrs {b kb cap : Nat} {al : Int} {K : F} : (F.remk b kb cap al K).ptrs = [pV b] := by
  unfold F.remk
  split
  next h =>
    generalize K.flat al = L at *
    cases L with
    | nil => simp [F.len] at h
    | leaf c p s0 s1 r =>
      cases r with
      | nil => rfl
      | leaf _ _ _ _ _ => simp [F.len] at h
      | node _ _ _ _ _ _ => simp [F.len] at h
    | node c kb2 cap2 a ks r =>
      cases r with
      | nil => rfl
      | leaf _ _ _ _ _ => simp [F.len] at h
      | node _ _ _ _ _ _ => simp [F.len] at h
  · rfl
theorem remk_len {b kb cap : Nat} {al : Int} {K : F} : (F.remk b kb cap al K).len = 1 := by
  rw [← F.ptrs_len, remk_ptrs]
  rfl
/-- The five cells of what is made, and what lies there when they are stored in place. -/
theorem res5 {b s : Nat} {al : Int} {K : F} {w3 : World} {u : Value} {e : Ending} {V : World} (hs : s = V.heap.size) (hin : K.In V) (hb3 : Below V.heap.size V w3) (h1 : K.has1) (hl : 1 ≤ K.len) (hown : w3.ownsRow (s + 1) 63 1 u (K.flat al).len (K.flat al).ptrs) (hbl : BL w3 s 53 [.int .i64 0, .int .i64 0, .int .i64 0, .int .i64 al, u])
    (hor : ((K.flat al).len = 1 ∧ ∃ v, (K.flat al).ptrs = [v] ∧ e = .returned v) ∨ ((K.flat al).len ≠ 1 ∧ e = .returned (pV s))) (hb : b ∉ K.blks) (hbs : b < s) :
    ∃ b1 x0 x1 x2 x3 A n c, e = .returned (pV b1) ∧ BN w3 b1 [.int .i64 x0, .int .i64 x1, .int .i64 x2, .int .i64 x3, .slice A n c] ∧
      ∀ w4, BN w4 b [.int .i64 x0, .int .i64 x1, .int .i64 x2, .int .i64 x3, .slice A n c] → Only [b] w3 w4 → ∃ kb2 cap2, s ≤ kb2 ∧ kb2 < w4.heap.size ∧ (F.remk b kb2 cap2 al K).In w4 := by
  have hin3 := F.flat_in al (hin.below hb3)
  have hsub := (F.flat_sub al K).subset
  have hge := F.flat_ge al K h1
  have hb' : ∀ x ∈ (K.flat al).blks, x ∉ [b] := fun x hx hm => by
    rw [List.mem_singleton] at hm
    subst hm
    exact hb (hsub hx)
  have hsl := hbl.lt
  rcases hor with ⟨hone, v, hv, rfl⟩ | ⟨hne, rfl⟩
  · have hrk : ∀ kb2 cap2, F.remk b kb2 cap2 al K = (K.flat al).move b := fun kb2 cap2 => by unfold F.remk; rw [if_pos hone]
    generalize K.flat al = L at *
    cases L with
    | nil => simp [F.len] at hone
    | leaf c p s0 s1 r =>
      obtain rfl : pV c = v := by simp [F.ptrs] at hv; exact hv.1
      refine ⟨c, p, s0, s1, 0, none, 0, 0, rfl, hin3.1, fun w4 h4 ho => ⟨s, 0, Nat.le_refl _, Nat.lt_of_lt_of_le hsl ho.size, ?_⟩⟩
      rw [hrk]
      exact ⟨h4, hin3.2.only ho fun x hx => hb' x (by simp [F.blks, hx])⟩
    | node c kb cap a ks r =>
      obtain rfl : pV c = v := by simp [F.ptrs] at hv; exact hv.1
      refine ⟨c, 0, 0, 0, a, _, _, _, rfl, hin3.1, fun w4 h4 ho => ⟨s, 0, Nat.le_refl _, Nat.lt_of_lt_of_le hsl ho.size, ?_⟩⟩
      rw [hrk]
      exact ⟨h4, hin3.2.1.only ho (hb' _ (by simp [F.blks])), hin3.2.2.1.only ho fun x hx => hb' x (by simp [F.blks, hx]), hin3.2.2.2.only ho fun x hx => hb' x (by simp [F.blks, hx])⟩
  · obtain ⟨g, c, rfl, hg⟩ := own_some hown (by omega)
    have hgl := (hown.lt g rfl).2
    refine ⟨s, 0, 0, 0, al, some ⟨g, 0, none⟩, (K.flat al).len, c, rfl, ⟨_, hbl⟩, fun w4 h4 ho => ⟨g, c, by omega, Nat.lt_of_lt_of_le hgl ho.size, ?_⟩⟩
    unfold F.remk
    rw [if_neg hne]
    exact ⟨h4, (RowAt.of_own hown).only ho (by simp; omega), hin3.only ho hb', trivial⟩
end Go.Proofs.YtkanglfpiahecaaDoor.Lyt
