/- Levels, and what the nearest one says of a name. -/
import Derived.Test.YtgnlfikkmomghaaGreatDoorOnw
import Derived.Maps.OwnSet
import Derived.Maps.OwnOps
import Derived.Maps.Views
import Derived.StringKeys
import Derived.Deep.LoopGhost
namespace Go.Proofs.YtgnlfikkmomghaaGreatDoor.Opt
open Go.RowKit Go.Maps

theorem cell_lt {w : World} {b i : Nat} {v : Value} (h : w.cell? ⟨b, i, none⟩ = some v) : b < w.heap.size := by
  rcases Nat.lt_or_ge b w.heap.size with hlt | hge
  · exact hlt
  · simp [World.cell?, Array.getElem?_eq_none hge] at h
def zeroH : Value := .agg #[.string ⟨#[]⟩, .slice none 0 0]
/-- How what is held reads: a text and a slice. -/
def heldR (v : Value) : Option (DataW Value × List MemPlace) := match v with
  | .agg cs => (match cs.toList with | [.string _, .slice _ _ _] => some (.held v, []) | _ => none)
  | _ => none
theorem heldR_mk (s : ByteArray) (A : Option Addr) (n c : Nat) : heldR (.agg #[.string s, .slice A n c]) = some (.held (.agg #[.string s, .slice A n c]), []) := rfl
theorem held_one (s : ByteArray) (A : Option Addr) (n c : Nat) : ([.string s, .slice A n c] : List Value).toArray.all (·.oneCell') = true := by simp [Value.oneCell']
theorem heldR_inv {v : Value} {z : DataW Value × List MemPlace} (h : heldR v = some z) : ∃ s A n c, v = .agg #[.string s, .slice A n c] ∧ z = (.held v, []) := by
  unfold heldR at h
  cases v with
  | agg cs =>
    obtain ⟨l⟩ := cs
    dsimp only at h
    split at h
    · exact ⟨_, _, _, _, rfl, by cases h; rfl⟩
    · cases h
  | _ => cases h
def unheld : DataW Value → Value
  | .held v => v
  | _ => zeroH
def valP (D : DataW Value) (nm : Tx) : Value := unheld (D.atKey (.string nm) (.held zeroH))
def hasP (D : DataW Value) (nm : Tx) : Bool := Maps.has D (.string nm)
theorem lawK : Keyed Tryz.prog 9 := string_keyed Tryz.underlying9
theorem keyS (nm : Tx) (h : nm.length ≤ maxLen) : keyOf Tryz.prog 9 (.string (bs nm)) = some (.string nm) := by
  have := Go.WideMaps.keyOf_string_mk (P := Tryz.prog) Tryz.underlying9 (s := bs nm) (by rw [bs_size]; exact h)
  rwa [bs_list] at this
theorem zeroHr (w : World) : (zeroValue 78).run Tryz.prog w = .ok zeroH w := by kernel_rfl
/-- The map of a level: nil, or a block. -/
def OwnAt (w : World) (own : Value) (D : DataW Value) (n : Nat) : Prop := (own = .map none ∧ D = .map []) ∨ ∃ m, own = .map (some m) ∧ w.ownsMap Tryz.prog 9 heldR m n D
section
variable {ops : Array Oper} {rest : List Oper} {o : Oper} {a : Act} {w : World} {Q : Exit → Act → World → Prop}
/-- A name looked up in a level's map. -/
theorem wpList_look (hg : o.guard = none) (m x : Operand) (hop : o.op = Op.lookup 63 m x true) (own : Value) (D : DataW Value) (n : Nat) (hm : a.eval m = own) (hown : OwnAt w own D n) (nm : Tx) (hl : nm.length ≤ maxLen) (hx : a.eval x = .string (bs nm))
    (hK : ∀ s A k c, valP D nm = .agg #[.string s, .slice A k c] → wpList Tryz.prog ops Q rest (a.put o.dst (.tuple #[.agg #[.string s, .slice A k c], .bool (hasP D nm)])) w) :
    wpList Tryz.prog ops Q (o :: rest) a w := by
  rcases hown with ⟨rfl, rfl⟩ | ⟨b, rfl, hown⟩
  · refine wpList_plain hg fun K' hK' => ?_
    have hrun := Maps.look_nil (t := 63) (w := w) true lawK Tryz.underlying63 (zeroHr w) (keyS nm hl)
    unfold Oper.wp
    simp [execOp, hop, hm, hx, hrun, Result.andThen]
    exact hK' _ _ (hK ⟨#[]⟩ none 0 0 rfl)
  · refine wpList_lookup_own_ok w hg m x 63 hop 9 78 lawK Tryz.underlying63 heldR (zeroHr w) (.held zeroH) [] rfl b n D hm hown _ (.string nm) hx (keyS nm hl) ?_
    intro v ps hv
    obtain ⟨s, A, k, c, rfl, hz⟩ := heldR_inv hv
    refine hK s A k c ?_
    have h1 : D.atKey (.string nm) (.held zeroH) = .held (.agg #[.string s, .slice A k c]) := congrArg Prod.fst hz
    unfold valP
    rw [h1]; rfl
end
/-- Levels over one another. -/
def LvAt (w : World) : Option Addr → List (DataW Value) → Prop
  | p, [] => p = none
  | p, D :: r => ∃ b own q n, p = some ⟨b, 1, none⟩ ∧ w.cell? ⟨b, 1, none⟩ = some own ∧ w.cell? ⟨b, 2, none⟩ = some (.pointer q) ∧ OwnAt w own D n ∧ LvAt w q r
def lookP : List (DataW Value) → Tx → Option Value
  | [], _ => none
  | D :: r, nm => if hasP D nm = true then some (valP D nm) else lookP r nm
theorem OwnAt.below {B : Nat} {w w' : World} {own : Value} {D : DataW Value} {n : Nat} (h : OwnAt w own D n) (hb : Below B w w') (hB : ∀ m, own = .map (some m) → m < B) : OwnAt w' own D n := by
  rcases h with h | ⟨m, rfl, h⟩
  · exact .inl h
  · obtain ⟨es, clock, hh, h2⟩ := h
    exact .inr ⟨m, rfl, es, clock, (hb.block m (hB m rfl)).trans hh, h2⟩
theorem OwnAt.lt {w : World} {own : Value} {D : DataW Value} {n : Nat} (h : OwnAt w own D n) : ∀ m, own = .map (some m) → m < w.heap.size := fun m e => by
  rcases h with ⟨h, _⟩ | ⟨m2, h, h3⟩
  · rw [h] at e; cases e
  · rw [h] at e; cases e; exact h3.lt
theorem LvAt.later {w w' : World} (hb : Below w.heap.size w w') : ∀ {p : Option Addr} {ls : List (DataW Value)}, LvAt w p ls → LvAt w' p ls
  | _, [], h => h
  | _, _ :: _, ⟨b, own, q, n, e, h1, h2, h3, h4⟩ => ⟨b, own, q, n, e, (hb.cell (p := ⟨b, 1, none⟩) (cell_lt h1)).trans h1, (hb.cell (p := ⟨b, 2, none⟩) (cell_lt h2)).trans h2, h3.below hb h3.lt, LvAt.later hb h4⟩
/-- Two results, the first in memory. -/
theorem results_ct {P : Program} {fn : Func} {p u : Tmp} {ty : TypeId} (h : fn.results = #[.cell p ty, .tmp u]) (tmps : Array Value) (w : World) (g : Nat) (t : TypeId) (cs : List Value) (d : TypeDesc)
    (hp : tmps.getD p undef = .pointer (some ⟨g, 0, none⟩)) (hg : BL w g t cs) (hu : P.underlying ty = some d) (hd : d.isRow = true) (hi : (P.info? ty).map (·.size) = some cs.length) :
    (results fn tmps).run P w = .ok (.tuple #[.agg cs.toArray, tmps.getD u undef]) w := by
  have hp' : tmps[p]?.getD undef = .pointer (some ⟨g, 0, none⟩) := by simpa using hp
  simp [results, h, hp', asAddr, run_loadVar_mid w g 0 ty cs d (hg.range (fun j v hj => by simpa using hj)) hu hd hi]
/-- What lookUp hands back. -/
def lookV (r : Option Value) : Value := match r with
  | some v => .tuple #[v, .bool true]
  | none => .tuple #[zeroH, .bool false]

set_option maxRecDepth 100000 in
set_option maxHeartbeats 4000000 in
theorem lookUp_any (p : Option Addr) (ls : List (DataW Value)) (nm : Tx) (hl : nm.length ≤ maxLen) (w : World) (h : LvAt w p ls) :
    Calls Tryz.prog 112 #[.pointer p, .string (bs nm)] w fun e w' => e = .returned (lookV (lookP ls nm)) ∧ Below w.heap.size w w' := by
  have HH := Lib.hid h
  clear h
  obtain ⟨R, hR⟩ : ∃ R, R = lookV (lookP ls nm) := ⟨_, rfl⟩
  rw [← hR]
  have HR := Lib.hid hR
  clear hR
  have HZ := Lib.hid (BL.new w 78 [.string ⟨#[]⟩, .slice none 0 0])
  go_enter Tryz.func112, Tryz.ntmps112
  go_wp2_with fail
  go_loopg [6] ls.length (fun k p wr => ∃ q rest, p = .pointer q ∧ rest.length = k ∧ LvAt wr q rest ∧ R = lookV (lookP rest nm) ∧ Below w.heap.size w wr ∧ BL wr w.heap.size 78 [.string ⟨#[]⟩, .slice none 0 0] ∧ w.heap.size + 1 ≤ wr.heap.size)
  case atStart => exact ⟨p, ls, rfl, rfl, HH.out.later ((Below.refl _ w).alloc (Nat.le_refl _) _), HR.out, (Below.refl _ w).alloc (Nat.le_refl _) _, HZ.out, by simp⟩
  case round =>
    obtain ⟨q, rest, rfl, hk, hlv, hRr, hb, hz, hs⟩ := hrel
    cases rest with
    | nil =>
      obtain rfl : q = none := hlv
      have HV := Lib.hid (show R = .tuple #[zeroH, .bool false] from hRr)
      have HB := Lib.hid hb
      have HZ1 := Lib.hid (hz.alloc (.cells #[.string ⟨#[]⟩, .slice none 0 0] 78))
      have HN := Lib.hid ((BL.new wr 78 [.string ⟨#[]⟩, .slice none 0 0]).range (o := 0) (vs := [.string ⟨#[]⟩, .slice none 0 0]) (fun j v hj => by rw [Nat.zero_add]; exact hj))
      clear hRr hb hz HR HH HZ hk
      go_wp2_with (first
        | (refine wpList_load_mid rfl 78 _ rfl wr.heap.size 0 rfl [.string ⟨#[]⟩, .slice none 0 0] _ HN.out Tryz.underlying78 rfl (by kernel_rfl) ?_)
        | (refine wpList_store_all rfl 78 _ _ rfl w.heap.size [.string ⟨#[]⟩, .slice none 0 0] rfl rfl 78 _ HZ1.out rfl (by kernel_rfl) (held_one _ _ _ _) ?_; intro w4 h0 ho hs4; have H0 := Lib.hid h0; have HO := Lib.hid ho; clear h0 ho))
      refine bodyPost_ret (results_ct (p := 4) (u := 5) (by kernel_rfl) _ _ w.heap.size _ _ _ rfl H0.out Tryz.underlying78 rfl (by kernel_rfl)) rfl ⟨by rw [HV.out]; rfl, ?_⟩
      exact (HB.out.alloc (by omega) _).trans (HO.out.below (by simp; omega) (by simp))
    | cons D rest =>
      obtain ⟨b, own, q2, n, rfl, c1, c2, how, hr⟩ := hlv
      have HB := Lib.hid hb
      have HOW := Lib.hid how
      have HLR := Lib.hid hr
      have HRr := Lib.hid hRr
      have HZ0 := Lib.hid hz
      clear hb hz HR HH HZ how hr hRr
      have hne : ¬ b = wr.heap.size := by have := cell_lt c1; omega
      cases hh : hasP D nm with
      | false =>
        have HV := Lib.hid (show R = lookV (lookP rest nm) by rw [HRr.out, lookP, if_neg (by rw [hh]; simp)])
        clear HRr
        go_wp2_with (at_lookup; refine wpList_look rfl _ _ rfl own D n rfl HOW.out nm hl rfl ?_; intro s A k c hv; rw [hh]; clear hv; have c2' := (((Below.refl _ wr).alloc (Nat.le_refl _) (.cells #[.string s, .slice A k c] 78)).cell (p := ⟨b, 2, none⟩) (cell_lt c1)).trans c2)
        go_roundg rest.length
        case measure => simp only [List.length_cons] at hk; omega
        case rel => exact ⟨q2, rest, rfl, rfl, HLR.out.later ((Below.refl _ wr).alloc (Nat.le_refl _) _), HV.out, HB.out.alloc (by omega) _, HZ0.out.alloc _, by simp; omega⟩
      | true =>
        go_wp2_with (first
          | (at_lookup; refine wpList_look rfl _ _ rfl own D n rfl HOW.out nm hl rfl ?_; intro s A k c hv; rw [hh]; have HVV := Lib.hid hv; clear hv; have HZ1 := Lib.hid (HZ0.out.alloc (.cells #[.string s, .slice A k c] 78)))
          | (refine wpList_store_all rfl 78 _ _ rfl w.heap.size [.string _, .slice _ _ _] rfl rfl 78 _ HZ1.out rfl (by kernel_rfl) (held_one _ _ _ _) ?_; intro w4 h0 ho hs4; have H0 := Lib.hid h0; have HO := Lib.hid ho; clear h0 ho))
        have HV := Lib.hid (show R = .tuple #[.agg #[.string s, .slice A k c], .bool true] by rw [HRr.out, lookP, if_pos hh, ← HVV.out]; rfl)
        refine bodyPost_ret (results_ct (p := 4) (u := 5) (by kernel_rfl) _ _ w.heap.size _ _ _ rfl H0.out Tryz.underlying78 rfl (by kernel_rfl)) rfl ⟨by rw [HV.out]; rfl, ?_⟩
        exact (HB.out.alloc (by omega) _).trans (HO.out.below (by simp; omega) (by simp))
end Go.Proofs.YtgnlfikkmomghaaGreatDoor.Opt
