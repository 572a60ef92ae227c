/- The document's answer to layer 3: a text with its letters made small. -/
import Derived.Test.YtajnlbfhcbkopaaDoorLow
namespace Go.Proofs.YtajnlbfhcbkopaaDoor.Sty
open Go.RowKit

theorem info_byte : (Tryd.prog.info? 5).map (fun i => (i.zero, i.size, i.bytes)) = some (some (.int .u8 0), 1, 1) := by kernel_rfl
theorem text_nil (w : World) : (convert 67 9 (.slice none 0 0)).run Tryd.prog w = .ok (.string (bs [])) w := by kernel_rfl
theorem own_text {w : World} {base : Nat} {v : Value} {l : Tx} (h : w.ownsRow base 5 1 v l.length (u8s l)) : (convert 67 9 v).run Tryd.prog w = .ok (.string (bs l)) w := by
  obtain ⟨h1, h2⟩ := h
  rcases h2 with ⟨rfl, h0⟩ | ⟨g, cap, cur, rfl, k1, k2, k3, k4, k5, k6⟩
  · have : l = [] := List.eq_nil_of_length_eq_zero (by omega)
    subst this
    exact text_nil w
  · refine run_convert_bytes_back (P := Tryd.prog) w 67 9 5 ⟨g, 0, none⟩ cap l Tryd.underlying67 Tryd.underlying5 Tryd.underlying9 fun j hj => ?_
    have e2 : (⟨g, 0, none⟩ : Addr).add j = ⟨g, j, none⟩ := by unfold Addr.add; split <;> simp_all
    rw [e2, cell_of_row w g j cur _ _ k2, ← Array.getElem?_toList]
    have h8 : (cur.toList.take (l.length * 1))[j]? = (u8s l)[j]? := by rw [k6]
    rw [List.getElem?_take, if_pos (by omega)] at h8
    rw [h8]
    simp [u8s, List.getElem?_eq_getElem hj]
theorem lw_yes2 {c : UInt8} (h1 : 65 ≤ c.toNat) (h2 : c.toNat ≤ 90) : ((lw c).toNat : Int) = (c.toNat : Int) + 32 := by
  have := lw_yes h1 h2
  omega
theorem low_snoc (l : Tx) (k : Nat) (h : k < l.length) : u8s (low (l.take k)) ++ [Value.int .u8 ((lw l[k]).toNat : Int)] = u8s (low (l.take (k + 1))) := by
  rw [List.take_succ_eq_append_getElem h]
  unfold low u8s
  rw [List.map_append, List.map_append]
  rfl
theorem low_len (l : Tx) (k : Nat) (h : k ≤ l.length) : (low (l.take k)).length = k := by
  simp [low]; omega
section
variable {ops : Array Oper} {rest : List Oper} {op : Oper} {a : Act} {w : World} {Q : Exit → Act → World → Prop}
/-- One byte appended to a row of the call's own, or to nil. -/
theorem wpList_app_byte (hgd : op.guard = none) (s x : Operand) (ho : op.op = .call { callee := .builtin .append, args := #[s, x], argTypes := #[67, 67] })
    (base : Nat) (v : Value) (n : Nat) (xs : List Value) (b : Int) (c : Nat) (hs : a.eval s = v) (hown : w.ownsRow base 5 1 v n xs) (hx : a.eval x = .slice (some ⟨w.heap.size, 0, none⟩) 1 c) (hbase : base ≤ w.heap.size) (hn : n + 1 ≤ 140737488355328)
    (h : ∀ v' w', w'.ownsRow base 5 1 v' (n + 1) (xs ++ [.int .u8 b]) → Below base w w' → wpList Tryd.prog ops Q rest (a.put op.dst v') w') :
    wpList Tryd.prog ops Q (op :: rest) a (w.alloc (.cells #[.int .u8 b] 5)) := by
  obtain ⟨i0, hi0, hz0, hz1, hz2⟩ := info_parts info_byte
  have hal := hown.alloc (.cells #[.int .u8 b] 5)
  refine wpList_append_own _ hgd s x 67 ho base 5 i0 (.int .u8 0) 1 1 Tryd.underlying67 hi0 hz0 hz1 hz2 rfl (by decide) v n xs hs hal ⟨w.heap.size, 0, none⟩ 1 c [.int .u8 b] hx rfl (cell_one_new _ _ _)
    (by intro u hu; simp at hu; subst hu; rfl) (by unfold maxLen; omega) (by omega) (by simp; omega) ?_
  intro v' w' hown' hgr _
  exact h v' w' hown' (((Below.refl base w).alloc hbase _).grown hgr (by simp; omega) (fun k hk => (hown.lt k hk).1))
end
set_option maxRecDepth 100000 in
set_option maxHeartbeats 400000 in
theorem lowRef_any (l : Tx) (w : World) (hs : l.length ≤ 140737488351232) :
    Calls Tryd.prog 31 #[.string (bs l)] w fun e w' => e = .returned (.string (bs (low l))) ∧ Below w.heap.size w w' := by
  obtain ⟨S, hS⟩ : ∃ S, S = bs l := ⟨_, rfl⟩
  rw [← hS]
  have hsz : S.size = l.length := by rw [hS, bs_size]
  have HL : Hid (∀ k (h : k < l.length) (h2 : k < S.size), S[k]'h2 = l[k]) := by
    show ∀ k (h : k < l.length) (h2 : k < S.size), S[k]'h2 = l[k]
    intro k h h2
    subst hS
    rfl
  clear hS
  go_enter Tryd.func31, Tryd.ntmps31
  go_wp2
  go_loopw [3, 4] (fun v i wr => ∃ k : Nat, k ≤ l.length ∧ i = .int .i64 (k : Int) ∧ wr.ownsRow w.heap.size 5 1 v k (u8s (low (l.take k))) ∧ Below w.heap.size w wr) (fun _ i _ => l.length - (intOf i).toNat)
  case atStart => exact ⟨0, Nat.zero_le _, rfl, World.ownsRow_nil _ _ _ _, Below.refl _ _⟩
  case round =>
    obtain ⟨k, hk, rfl, hown, hb⟩ := hrel
    have hbs := hb.size
    by_cases hlt : k < l.length
    · have hS : k < S.size := by omega
      have hch := HL.out k hlt hS
      have HSN := Lib.hid (low_snoc l k hlt)
      have h3 : l[k].toNat < 256 := UInt8.toNat_lt _
      by_cases h1 : 65 ≤ l[k].toNat ∧ l[k].toNat ≤ 90
      · have hlw := lw_yes2 h1.1 h1.2
        have h2 : ((l[k].toNat : Int)) ≤ 90 := by omega
        have h4 : 65 ≤ ((l[k].toNat : Int)) := by omega
        clear h1
        go_wp2_with (at_builtin; refine wpList_app_byte rfl (.tmp 23) (.tmp 25) rfl w.heap.size _ k _ _ 1 rfl hown rfl hbs (by omega) ?_; intro v' w3 hown3 hb3)
        rw [← hlw] at hown3
        go_roundw
        case rel => exact ⟨k + 1, by omega, by go_num, by rw [HSN.out] at hown3; exact hown3, hb.trans hb3⟩
        case measure => simp [intOf]; omega
      · have hlw := lw_no h1
        rw [hlw] at HSN
        clear hlw
        by_cases h4 : 65 ≤ l[k].toNat
        · have h5 : 90 < l[k].toNat := by omega
          clear h1
          go_wp2_with (at_builtin; refine wpList_app_byte rfl (.tmp 23) (.tmp 25) rfl w.heap.size _ k _ _ 1 rfl hown rfl hbs (by omega) ?_; intro v' w3 hown3 hb3)
          go_roundw
          case rel => exact ⟨k + 1, by omega, by go_num, by rw [HSN.out] at hown3; exact hown3, hb.trans hb3⟩
          case measure => simp [intOf]; omega
        · clear h1
          go_wp2_with (at_builtin; refine wpList_app_byte rfl (.tmp 23) (.tmp 25) rfl w.heap.size _ k _ _ 1 rfl hown rfl hbs (by omega) ?_; intro v' w3 hown3 hb3)
          go_roundw
          case rel => exact ⟨k + 1, by omega, by go_num, by rw [HSN.out] at hown3; exact hown3, hb.trans hb3⟩
          case measure => simp [intOf]; omega
    · obtain rfl : k = l.length := by omega
      have e : u8s (low (l.take l.length)) = u8s (low l) := by rw [List.take_length]
      rw [e] at hown
      have hll : (low l).length = l.length := by simp [low]
      rw [← hll] at hown
      have hcv := own_text hown
      clear hll e
      go_wp2
      go_ret
      exact ⟨rfl, hb⟩
end Go.Proofs.YtajnlbfhcbkopaaDoor.Sty
