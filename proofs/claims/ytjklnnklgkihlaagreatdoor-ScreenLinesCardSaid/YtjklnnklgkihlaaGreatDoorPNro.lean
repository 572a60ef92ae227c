/- A screen's rows as texts. -/
import Derived.Test.YtjklnnklgkihlaaGreatDoorPNno
namespace Go.Proofs.YtjklnnklgkihlaaGreatDoor.Scr
open Go.RowKit Cel Sty Grd

theorem info_text : (Tryz.prog.info? 9).map (fun i => (i.zero, i.size, i.bytes)) = some (some (.string { data := #[] }), 1, 16) := by kernel_rfl
section
variable {ops : Array Oper} {rest : List Oper} {op : Oper} {a : Act} {w : World} {Q : Exit → Act → World → Prop}
/-- One text appended to a row of the call's own, or to nil. -/
theorem wpList_app_text (hgd : op.guard = none) (s x : Operand) (ho : op.op = .call { callee := .builtin .append, args := #[s, x], argTypes := #[49, 49] })
    (base : Nat) (v : Value) (n : Nat) (xs : List Value) (b : ByteArray) (c : Nat) (hs : a.eval s = v) (hown : w.ownsRow base 9 1 v n xs) (hx : a.eval x = .slice (some ⟨w.heap.size, 0, none⟩) 1 c) (hbase : base ≤ w.heap.size) (hn : n + 1 ≤ 8796093022208)
    (h : ∀ v' w', w'.ownsRow base 9 1 v' (n + 1) (xs ++ [.string b]) → Below base w w' → wpList Tryz.prog ops Q rest (a.put op.dst v') w') :
    wpList Tryz.prog ops Q (op :: rest) a (w.alloc (.cells #[.string b] 9)) := by
  obtain ⟨i0, hi0, hz0, hz1, hz2⟩ := info_parts info_text
  have hal := hown.alloc (.cells #[.string b] 9)
  refine wpList_append_own_at _ hgd s x 49 ho base 9 i0 (.string { data := #[] }) 1 16 Tryz.underlying49 hi0 hz0 hz1 hz2 rfl (by decide) v n xs hs hal ⟨w.heap.size, 0, none⟩ 1 c [.string b] hx rfl (cell_one_new _ _ _)
    (by intro u hu; simp at hu; subst hu; rfl) (by unfold maxLen; omega) (by omega) (by simp; omega) ?_
  intro v' w' hown' hgr _ hwh
  exact h v' w' hown' (((Below.refl base w).alloc hbase _).grown hgr (by simp; omega) (fun k hk => (hown.lt k hk).1))
end
/-- A row's text. -/
def rowT (r : Ro) : ByteArray := ⟨(Lib.trimRightB (lettersL r.1) 32).toArray⟩
def rowTs (rows : List Ro) : List Value := rows.map fun r => .string (rowT r)
theorem rowTs_succ {rows : List Ro} {k : Nat} (h : k < rows.length) : rowTs (rows.take k) ++ [.string (rowT rows[k])] = rowTs (rows.take (k + 1)) := by
  unfold rowTs
  rw [List.take_succ_eq_append_getElem h, List.map_append]
  rfl
section
variable {w : World} {sb g : Nat} {F : List Nat} {c lim : Nat} {past rows : List Ro} {pp tv : Value} {S : ScP}
set_option maxRecDepth 100000 in
set_option maxHeartbeats 2000000 in
theorem rows_at (h : SG w sb g F c lim past rows pp tv S) (ha : ∀ r ∈ rows, ∀ x ∈ r.1, x.2.1 ≠ 0 → 0 ≤ x.1 ∧ x.1 < 128) :
    Calls Tryz.prog 22 #[ptrV sb] w fun e w' => ∃ v, e = .returned v ∧ w'.ownsRow w.heap.size 9 1 v rows.length (rowTs rows) ∧ Below w.heap.size w w' := by
  have hr2 := h.grd.bd.r2
  have ks : ∀ V, Below w.heap.size w V → Calls Tryz.prog 29 #[.pointer (some ⟨sb, 0, none⟩)] V fun e w' => e = .returned (.pointer (some ⟨g, 0, none⟩)) ∧ V = w' := fun V hb => shown_at (h.below hb).blk
  have kr : ∀ V, Below w.heap.size w V → Calls Tryz.prog 15 #[.pointer (some ⟨g, 0, none⟩)] V fun e w' => e = .returned (.int .i64 (rows.length : Int)) ∧ V = w' := fun V hb => rows_ga (h.below hb).grd
  obtain ⟨tf, htf⟩ : ∃ tf : Nat → ByteArray, ∀ k (hk : k < rows.length), rowT rows[k] = tf k := ⟨fun k => rowT (rows.getD k ([], false)), fun k hk => by simp [List.getD, hk]⟩
  have kt : ∀ V k, k < rows.length → Below w.heap.size w V → Calls Tryz.prog 18 #[.pointer (some ⟨g, 0, none⟩), .int .i64 (k : Int)] V fun e w' => e = .returned (.string (tf k)) ∧ Below V.heap.size V w' := fun V k hk hb => by
    rw [← htf k hk]
    exact text_ga ((h.below hb).grd.scr_row k hk) (ha _ (List.getElem_mem hk))
  have hts : ∀ k, k < rows.length → rowTs (rows.take k) ++ [.string (tf k)] = rowTs (rows.take (k + 1)) := fun k hk => by
    rw [← htf k hk]
    exact rowTs_succ hk
  have hall : rowTs (rows.take rows.length) = rowTs rows := by rw [List.take_length]
  obtain ⟨n, hn⟩ : ∃ n, rows.length = n := ⟨_, rfl⟩
  rw [hn] at kr kt hts hall hr2 ⊢
  have HS := Lib.hid ks
  have HR := Lib.hid kr
  have HK := Lib.hid kt
  have HT := Lib.hid hts
  have HA := Lib.hid hall
  clear h ha ks kr kt hts hall htf
  unfold ptrV
  go_enter Tryz.func22, Tryz.ntmps22
  go_wp2_with (first
    | (go_at_call 29; refine (HS.out _ (Below.refl _ _)).mono ?_; rintro _ _ ⟨rfl, rfl⟩)
    | (go_at_call 15; refine (HR.out _ (Below.refl _ _)).mono ?_; rintro _ _ ⟨rfl, rfl⟩))
  go_loopw [3, 8] (fun v i wr => ∃ k : Nat, k ≤ n ∧ i = .int .i64 (k : Int) ∧ wr.ownsRow w.heap.size 9 1 v k (rowTs (rows.take k)) ∧ Below w.heap.size w wr) (fun _ i _ => n - (intOf i).toNat)
  case atStart => exact ⟨0, Nat.zero_le _, rfl, World.ownsRow_nil _ _ _ _, Below.refl _ _⟩
  case round =>
    obtain ⟨k, hk, rfl, hO, hb⟩ := hrel
    by_cases hlt : k < n
    · have k1 : (k : Int) < (n : Int) := by omega
      have k0 : (0 : Int) ≤ (k : Int) := Int.natCast_nonneg _
      have HO := Lib.hid hO
      have HB := Lib.hid hb
      have hT := Lib.hid (HT.out k (by omega))
      have hX := Lib.hid (HK.out wr k (by omega) hb)
      generalize tf k = tx at *
      clear hO hb
      go_wp2_with (first
        | (go_at_call 29; refine (HS.out _ HB.out).mono ?_; rintro _ _ ⟨rfl, rfl⟩)
        | fail)
      refine hX.out.mono ?_
      rintro _ w2 ⟨rfl, hb2⟩
      have hO2 := (Cel.below_kept hb2 fun _ => False).owns HO.out (fun _ _ h => h)
      have hs2 := Nat.le_trans HB.out.size hb2.size
      go_wp2_with (first
        | (at_builtin; refine wpList_app_text rfl (.tmp 11) (.tmp 16) rfl w.heap.size _ k _ tx 1 rfl hO2 rfl hs2 (by omega) ?_; intro v' w3 hO3 hb3))
      go_roundw
      case rel => exact ⟨k + 1, by omega, by go_num, hT.out ▸ hO3, (HB.out.trans (hb2.mono HB.out.size)).trans hb3⟩
      case measure => simp [intOf]; omega
    · have e : k = n := by omega
      subst e
      go_wp2_with fail
      go_ret
      exact ⟨_, rfl, HA.out ▸ hO, hb⟩
end
end Go.Proofs.YtjklnnklgkihlaaGreatDoor.Scr
