/- The walk of the program's text of a given width: cut, or filled with blanks. -/
import Derived.Test.YtmnembhfbboljaaDoorCut
import Derived.Test.YtmnembhfbboljaaDoorShelf
import Derived.Deep.DeepFit
namespace Go.Proofs.YtmnembhfbboljaaDoor.Cel
open Go.RowKit

def blanks (k : Int) : List UInt8 := List.replicate k.toNat 32
/-- The bytes of a text of just so many columns. -/
def fit (ns : List Int) (n : Int) : List UInt8 := bytes (cut ns (min n 10000)) ++ blanks (min n 10000 - cols (cut ns (min n 10000)))

theorem repeat_any (m : Int) (w : World) (h0 : 0 ≤ m) (h1 : m ≤ 10000) :
    Calls Tryd.prog 36 #[.string { data := #[32] }, .int .i64 m] w fun e w' => e = .returned (.string ⟨(blanks m).toArray⟩) ∧ Below w.heap.size w w' := by
  obtain ⟨c, rfl⟩ : ∃ c : Nat, m = (c : Int) := ⟨m.toNat, by omega⟩
  have h := Tryd.strings_Repeat { data := #[32] } c w (by omega) (by show 1 * c ≤ _; omega)
  refine h.mono fun e w' ⟨he, hb⟩ => ⟨?_, hb⟩
  rw [he]
  have e : Lib.repeatL ({ data := #[32] } : ByteArray).data.toList c = blanks (c : Int) := by
    have := Lib.repeatL_replicate 32 1 c
    simpa [blanks] using this
  rw [e]

theorem append_mk (l k : List UInt8) : (⟨l.toArray⟩ : ByteArray) ++ ⟨k.toArray⟩ = ⟨(l ++ k).toArray⟩ := by
  apply ByteArray.ext
  rw [ByteArray.data_append]
  simp

set_option maxRecDepth 100000 in
set_option maxHeartbeats 400000 in
theorem fit_any (s : ByteArray) (n : Int) (w : World) (ht : Tabs w) (hlow : low ≤ w.heap.size) (hs : s.size ≤ 268435456) (hn0 : -9223372036854775808 ≤ n) (hn1 : n ≤ 9223372036854775807) :
    Calls Tryd.prog 26 #[.string s, .int .i64 n] w fun e w' => e = .returned (.string ⟨(fit (runes s.data.toList) n).toArray⟩) ∧ Below w.heap.size w w' := by
  have hcut := cut_any s (min n 10000) w ht hlow hs
  have hgood := runes_good s.data.toList
  have hlen := runes_length s.data.toList
  have hsz : s.data.toList.length = s.size := by rw [Array.length_toList]; rfl
  rw [hsz] at hlen
  clear hsz
  generalize runes s.data.toList = ns at *
  obtain ⟨k, hk⟩ := cut_prefix ns (min n 10000)
  have hgc : ∀ r ∈ cut ns (min n 10000), good r := fun r hr => hgood r (by rw [hk]; exact List.mem_append_left _ hr)
  have hcl : (cut ns (min n 10000)).length ≤ ns.length := by conv => rhs; rw [hk]
                                                             simp
  have hcc := cut_cols ns (min n 10000)
  have hcb := cols_bd (cut ns (min n 10000))
  have hfit : fit ns n = bytes (cut ns (min n 10000)) ++ blanks (min n 10000 - cols (cut ns (min n 10000))) := rfl
  generalize hm : min n 10000 = m at *
  generalize cut ns m = c at *
  have hm1 : m ≤ 10000 := by omega
  have hm0 : -9223372036854775808 ≤ m := by omega
  have hbl : blanks (m - cols c) = blanks (max (m - cols c) 0) := by unfold blanks; congr 1; omega
  rw [hbl] at hfit
  have HF := Lib.hid hfit
  clear hfit hbl hk
  have hcols : ∀ w1 : World, Below w.heap.size w w1 → Calls Tryd.prog 20 #[.string (runesBytes c)] w1 fun e w' => e = .returned (.int .i64 (cols c)) ∧ Below w1.heap.size w1 w' := fun w1 hb1 => by
    have h := columns_any (runesBytes c) w1 (ht.below hb1 hlow) (Nat.le_trans hlow hb1.size) (by have := (bytes_length c hgc).2; rw [runesBytes_size]; omega)
    rw [runesBytes_list, runes_bytes c hgc] at h
    exact h
  have HCO := Lib.hid hcols
  clear hcols hgood hgc
  have hcols0 : 0 ≤ cols c := hcb.1
  have hcols1 : cols c ≤ 2 * (c.length : Int) := hcb.2
  have hlo : -9223372036854775808 ≤ m - cols c := by
    by_cases h : 0 ≤ m
    · omega
    · rw [hcc.2 (by omega)]
      show _ ≤ m - 0
      omega
  clear hcb hcc
  obtain ⟨x, hx⟩ : ∃ x, max (m - cols c) 0 = x := ⟨_, rfl⟩
  rw [hx] at HF
  have hx0 : 0 ≤ x := by omega
  have hx1 : x ≤ 10000 := by omega
  have hrep : ∃ B : ByteArray, B = ⟨(blanks x).toArray⟩ ∧ B.size ≤ 10000 ∧ ∀ w2 : World, Calls Tryd.prog 36 #[.string { data := #[32] }, .int .i64 x] w2 fun e w' => e = .returned (.string B) ∧ Below w2.heap.size w2 w' :=
    ⟨_, rfl, by rw [size_mk]; unfold blanks; rw [List.length_replicate]; omega, fun w2 => repeat_any x w2 hx0 hx1⟩
  obtain ⟨B, hB, hBs, hrep⟩ := hrep
  have HB := Lib.hid hB
  have HR := Lib.hid hrep
  clear hB hrep
  have hts : (runesBytes c).size ≤ 4 * c.length := runesBytes_size_le c
  go_enter Tryd.func26, Tryd.ntmps26
  go_wp2_with (first
    | (go_at_call 22; refine hcut.mono ?_; rintro e w1 ⟨rfl, hb1⟩)
    | (go_at_call 20; refine (HCO.out w1 hb1).mono ?_; rintro e w2 ⟨rfl, hb12⟩)
    | (go_at_call 36; refine (HR.out w2).mono ?_; rintro e w3 ⟨rfl, hb23⟩))
  go_ret
  refine ⟨ret_str ?_, (hb1.trans (hb12.mono hb1.size)).trans (hb23.mono (Nat.le_trans hb1.size hb12.size))⟩
  rw [HF.out, ← append_mk, ← runesBytes_eq, HB.out]
end Go.Proofs.YtmnembhfbboljaaDoor.Cel
