/- lex: names and their values: pairs in memory, the map of places. -/
import Derived.Test.YtplikjbajejciaaDoorQtk
import Derived.Maps.OwnSet
import Derived.Maps.OwnOps
import Derived.Maps.Views
import Derived.StringKeys
import Derived.Deep.LoopGhost
namespace Go.Proofs.YtplikjbajejciaaDoor.Lex
open Go.RowKit Go.Maps
/-! ### In plain words -/
/-- The place of the last pair that has the name. -/
def lastF (nm : Tx) (a : Nat × Option Nat) (p : Tx × Tx) : Nat × Option Nat := (a.1 + 1, if p.1 = nm then some a.1 else a.2)
def lastI (env : Env) (nm : Tx) : Option Nat := (env.foldl (lastF nm) (0, none)).2
theorem lastF_fst (nm : Tx) : ∀ (env : Env) (a : Nat × Option Nat), (env.foldl (lastF nm) a).1 = a.1 + env.length
  | [], a => rfl
  | p :: r, a => by rw [List.foldl_cons, lastF_fst nm r]; simp [lastF]; omega
theorem lastI_app (env : Env) (p : Tx × Tx) (nm : Tx) : lastI (env ++ [p]) nm = if p.1 = nm then some env.length else lastI env nm := by
  unfold lastI
  rw [List.foldl_append]
  show (if p.1 = nm then some (env.foldl (lastF nm) (0, none)).1 else _) = _
  rw [lastF_fst]
  simp
theorem snoc_ind {P : Env → Prop} (h0 : P []) (h1 : ∀ l p, P l → P (l ++ [p])) (l : Env) : P l := by
  rw [← List.reverse_reverse l]
  induction l.reverse with
  | nil => exact h0
  | cons p r ih => rw [List.reverse_cons]; exact h1 _ _ ih
theorem lastI_val (env : Env) (nm : Tx) : (∀ k, lastI env nm = some k → ∃ h : k < env.length, env[k].2 = valP env nm) ∧ (lastI env nm = none → valP env nm = []) := by
  refine snoc_ind (P := fun env => (∀ k, lastI env nm = some k → ∃ h : k < env.length, env[k].2 = valP env nm) ∧ (lastI env nm = none → valP env nm = [])) ⟨fun k h => (by cases h), fun _ => rfl⟩ ?_ env
  intro l p ⟨ih1, ih2⟩
  have hv : valP (l ++ [p]) nm = if p.1 = nm then p.2 else valP l nm := by unfold valP; rw [List.foldl_append]; rfl
  rw [lastI_app, hv]
  by_cases hp : p.1 = nm
  · rw [if_pos hp, if_pos hp]
    refine ⟨fun k h => ?_, fun h => by cases h⟩
    injection h with h
    subst h
    exact ⟨by simp, by simp⟩
  · rw [if_neg hp, if_neg hp]
    refine ⟨fun k h => ?_, ih2⟩
    obtain ⟨h1, h2⟩ := ih1 k h
    exact ⟨by simp; omega, by rw [List.getElem_append_left h1]; exact h2⟩
/-! ### Pairs in memory -/
def PrAt (B : Nat) (w : World) (A : Option Addr) (env : Env) : Prop :=
  ∀ k (hk : k < env.length), ∃ g o, A = some ⟨g, o, none⟩ ∧ g < B ∧ w.cell? ⟨g, o + k * 2, none⟩ = some (.string (bs env[k].1)) ∧ w.cell? ⟨g, o + k * 2 + 1, none⟩ = some (.string (bs env[k].2))
theorem PrAt.below {B : Nat} {w w' : World} {A : Option Addr} {env : Env} (h : PrAt B w A env) (hb : Below B w w') : PrAt B w' A env := fun k hk => by
  obtain ⟨g, o, e, hg, h1, h2⟩ := h k hk
  exact ⟨g, o, e, hg, (hb.cell (p := ⟨g, o + k * 2, none⟩) hg).trans h1, (hb.cell (p := ⟨g, o + k * 2 + 1, none⟩) hg).trans h2⟩
/-- How long names and values may be. -/
def EnvOk (env : Env) : Prop := env.length ≤ 140737488355328 ∧ ∀ p ∈ env, p.1.length ≤ 140737488355328 ∧ p.2.length ≤ 140737488355328
/-! ### The map of places -/
def posR (v : Value) : Option (DataW Value × List MemPlace) := match v with
  | .int .i64 _ => some (.held v, [])
  | _ => none
theorem posR_mk (a : Int) : posR (.int .i64 a) = some (.held (.int .i64 a), []) := rfl
theorem posR_inv {v : Value} {z : DataW Value × List MemPlace} (h : posR v = some z) : ∃ a, v = .int .i64 a ∧ z = (.held v, []) := by
  unfold posR at h
  split at h
  · exact ⟨_, rfl, by cases h; rfl⟩
  · cases h
def unheld : DataW Value → Value
  | .held v => v
  | _ => .int .i64 0
def hasD (D : DataW Value) (nm : Tx) : Bool := Maps.has D (.string nm)
def valD (D : DataW Value) (nm : Tx) : Value := unheld (D.atKey (.string nm) (.held (.int .i64 0)))
def putD (D : DataW Value) (nm : Tx) (a : Int) : DataW Value := D.put (.string nm) (.held (.int .i64 a))
theorem lawK : Keyed Tryd.prog 9 := string_keyed Tryd.underlying9
theorem keyS (nm : Tx) (h : nm.length ≤ maxLen) : keyOf Tryd.prog 9 (.string (bs nm)) = some (.string nm) := by
  have := Go.WideMaps.keyOf_string_mk (P := Tryd.prog) Tryd.underlying9 (s := bs nm) (by rw [bs_size]; exact h)
  rwa [bs_list] at this
theorem isKey (nm : Tx) : WideAt.IsKeyLit (.string nm) := by trivial
theorem zeroR (w : World) : (zeroValue 3).run Tryd.prog w = .ok (.int .i64 0) w := by kernel_rfl
/-- The map says where each name stands last. -/
def Says (D : DataW Value) (env : Env) : Prop := IsMap D ∧ ∀ nm, (hasD D nm = true ∧ ∃ k, lastI env nm = some k ∧ valD D nm = .int .i64 (k : Int)) ∨ (hasD D nm = false ∧ lastI env nm = none)
theorem Says.put {D : DataW Value} {env : Env} (h : Says D env) (p : Tx × Tx) : Says (putD D p.1 (env.length : Int)) (env ++ [p]) := by
  refine ⟨?_, fun nm => ?_⟩
  · exact h.1.put _ _
  · rw [lastI_app]
    by_cases hp : p.1 = nm
    · subst hp
      refine .inl ⟨Maps.has_put_same h.1 (isKey _) _, env.length, by rw [if_pos rfl], ?_⟩
      show unheld ((D.put (.string p.1) (.held (.int .i64 (env.length : Int)))).atKey (.string p.1) (.held (.int .i64 0))) = _
      rw [Maps.atKey_put_same h.1 (isKey _)]
      rfl
    · rw [if_neg hp]
      have hne : Lit.string nm ≠ Lit.string p.1 := fun e => hp (by injection e with e; exact e.symm)
      have e1 : hasD (putD D p.1 (env.length : Int)) nm = hasD D nm := Maps.has_put_other hne _
      have e2 : valD (putD D p.1 (env.length : Int)) nm = valD D nm := by
        show unheld ((D.put (.string p.1) (.held (.int .i64 (env.length : Int)))).atKey (.string nm) (.held (.int .i64 0))) = _
        rw [Maps.atKey_put_other hne]
        rfl
      rw [e1, e2]
      exact h.2 nm
theorem Says.nil : Says (.map []) [] := ⟨isMap_empty, fun _ => .inr ⟨rfl, rfl⟩⟩
section
variable {ops : Array Oper} {rest : List Oper} {o : Oper} {a : Act} {w : World} {Q : Exit → Act → World → Prop}
theorem wpList_look (hg : o.guard = none) (m x : Operand) (hop : o.op = Op.lookup 45 m x true) (b : Nat) (D : DataW Value) (n : Nat) (hm : a.eval m = .map (some b)) (hown : w.ownsMap Tryd.prog 9 posR b n D) (nm : Tx) (hl : nm.length ≤ maxLen) (hx : a.eval x = .string (bs nm))
    (hK : ∀ z, valD D nm = .int .i64 z → wpList Tryd.prog ops Q rest (a.put o.dst (.tuple #[.int .i64 z, .bool (hasD D nm)])) w) :
    wpList Tryd.prog ops Q (o :: rest) a w := by
  refine wpList_lookup_own_ok w hg m x 45 hop 9 3 lawK Tryd.underlying45 posR (zeroR w) (.held (.int .i64 0)) [] rfl b n D hm hown _ (.string nm) hx (keyS nm hl) ?_
  intro v ps hv
  obtain ⟨z, rfl, hz⟩ := posR_inv hv
  refine hK z ?_
  have h1 : D.atKey (.string nm) (.held (.int .i64 0)) = .held (.int .i64 z) := congrArg Prod.fst hz
  unfold valD
  rw [h1]; rfl
end
theorem map_ne (m : Nat) (w : World) : (binOp .eql 45 (.map (some m)) (.map none)).run Tryd.prog w = .ok (.bool false) w := by kernel_rfl
theorem map_eq (w : World) : (binOp .eql 45 (.map none) (.map none)).run Tryd.prog w = .ok (.bool true) w := by kernel_rfl
/-- The map of places, if there is one. -/
def MpAt (B : Nat) (w : World) (mv : Value) (env : Env) : Prop :=
  mv = .map none ∨ ∃ m D n, B ≤ m ∧ mv = .map (some m) ∧ w.ownsMap Tryd.prog 9 posR m n D ∧ Says D env
theorem own_lt {w : World} {b i : Nat} {v : Value} (h : w.cell? ⟨b, i, none⟩ = some v) : b < w.heap.size := by
  rcases Nat.lt_or_ge b w.heap.size with hlt | hge
  · exact hlt
  · simp [World.cell?, Array.getElem?_eq_none hge] at h
set_option maxRecDepth 100000 in
set_option maxHeartbeats 4000000 in
/-- A value, where the places are known. -/
theorem value_map {B : Nat} {w : World} {rb : Nat} {R : Rd} {env : Env} {A : Option Addr} {c m n : Nat} {D : DataW Value} (h : RAt w rb R) (hp : R.pv = .slice A env.length c) (hpr : PrAt B w A env) (he : EnvOk env)
    (hm : R.mv = .map (some m)) (hown : w.ownsMap Tryd.prog 9 posR m n D) (hD : Says D env) (nm : Tx) (hl : nm.length ≤ maxLen) :
    Calls Tryd.prog 58 #[.pointer (some ⟨rb, 3, none⟩), .string (bs nm)] w fun e w' => e = .returned (.string (bs (valP env nm))) ∧ w' = w := by
  have c3 : w.cell? ⟨rb, 3, none⟩ = some (.slice A env.length c) := (BL.cell h 3).trans (congrArg some hp)
  have c4 : w.cell? ⟨rb, 4, none⟩ = some (.map (some m)) := (BL.cell h 4).trans (congrArg some hm)
  have hmn := map_ne m w
  have hen := he.1
  rcases hD.2 nm with ⟨h1, k, h2, h3⟩ | ⟨h1, h2⟩
  · obtain ⟨hk, hv⟩ := (lastI_val env nm).1 k h2
    obtain ⟨g, o, rfl, hg, hc1, hc2⟩ := hpr k hk
    rw [hv] at hc2
    have HV := Lib.hid h3
    have HH := Lib.hid h1
    have HO := Lib.hid hown
    have k0 : (0 : Int) ≤ (k : Int) := by omega
    have k1 : (k : Int) < (env.length : Int) := by omega
    clear h hp hpr he hm hown hD h1 h2 h3 hv hc1
    generalize env.length = N at *
    generalize bs (valP env nm) = X at *
    go_enter Tryd.func58, Tryd.ntmps58
    go_wp2_with (refine wpList_look rfl (.tmp 40) (.tmp 41) rfl m D n rfl HO.out nm hl rfl ?_; intro z hz; rw [HV.out] at hz; injection hz with _ hz; subst hz; rw [HH.out])
    go_ret
    exact ⟨rfl, rfl⟩
  · have hv := (lastI_val env nm).2 h2
    have HH := Lib.hid h1
    have HO := Lib.hid hown
    rw [hv]
    have e0 : bs [] = { data := #[] } := rfl
    rw [e0]
    clear h hp hpr he hm hown hD h1 h2 hv e0
    generalize env.length = N at *
    go_enter Tryd.func58, Tryd.ntmps58
    go_wp2_with (refine wpList_look rfl (.tmp 40) (.tmp 41) rfl m D n rfl HO.out nm hl rfl ?_; intro z _; rw [HH.out])
    go_ret
    exact ⟨rfl, rfl⟩
theorem Only.cell {F : List Nat} {w w' : World} (h : Only F w w') {b : Nat} (hb : b < w.heap.size) (hn : b ∉ F) (i : Nat) : w'.cell? ⟨b, i, none⟩ = w.cell? ⟨b, i, none⟩ := by
  unfold World.cell?
  rw [h.block b hb hn]
theorem grownBy_set (w : World) (b i : Nat) (u : Value) : w.grownBy (w.setCell ⟨b, i, none⟩ u) (some b) :=
  ⟨rfl, rfl, rfl, by simp [World.setCell], fun k _ hn => Below.heap_setCell w ⟨b, i, none⟩ u k (fun e => hn (by rw [e]))⟩
theorem grown_only {w w' : World} {b : Nat} (h : w.grownBy w' (some b)) : Only [b] w w' :=
  ⟨h.os, h.tape, h.output, h.size, fun k hk hn => h.block k hk (fun e => hn (by cases e; simp))⟩
/-- A value is told, and the places are known behind it. -/
def VPost (rb : Nat) (R : Rd) (env : Env) (nm : Tx) (w : World) (e : Ending) (w' : World) : Prop :=
  e = .returned (.string (bs (valP env nm))) ∧ ∃ m D n, w.heap.size ≤ m ∧ RAt w' rb { R with mv := .map (some m) } ∧ w'.ownsMap Tryd.prog 9 posR m n D ∧ Says D env ∧ Only [rb] w w'
set_option maxRecDepth 100000 in
set_option maxHeartbeats 4000000 in
/-- A value, where the places are not known yet. -/
theorem value_none {B : Nat} {w : World} {rb : Nat} {R : Rd} {env : Env} {A : Option Addr} {c : Nat} (h : RAt w rb R) (hp : R.pv = .slice A env.length c) (hpr : PrAt B w A env) (he : EnvOk env) (hrb : B ≤ rb)
    (hm : R.mv = .map none) (nm : Tx) (hl : nm.length ≤ maxLen) :
    Calls Tryd.prog 58 #[.pointer (some ⟨rb, 3, none⟩), .string (bs nm)] w (VPost rb R env nm w) := by
  have hel := he.1
  have c3 : w.cell? ⟨rb, 3, none⟩ = some (.slice A env.length c) := (BL.cell h 3).trans (congrArg some hp)
  have c4 : w.cell? ⟨rb, 4, none⟩ = some (.map none) := (BL.cell h 4).trans (congrArg some hm)
  have f4 : w.frozen? ⟨rb, 4, none⟩ = false := BL.frozen h 4
  have hmn := map_eq w
  have hmm := @run_makeMap Tryd.prog
  have hlt : rb < w.heap.size := BL.lt h
  have f5 : (w.alloc (Obj.map #[] 0)).frozen? ⟨rb, 4, none⟩ = false := BL.frozen (BL.alloc h _) 4
  have h2 : RAt ((w.alloc (Obj.map #[] 0)).setCell ⟨rb, 4, none⟩ (.map (some w.heap.size))) rb { R with mv := .map (some w.heap.size) } := BL.set_ (BL.alloc h (Obj.map #[] 0)) 4 (.map (some w.heap.size))
  have hOw : ((w.alloc (Obj.map #[] 0)).setCell ⟨rb, 4, none⟩ (.map (some w.heap.size))).ownsMap Tryd.prog 9 posR w.heap.size 0 (.map []) :=
    (World.ownsMap_made w Tryd.prog 9 posR).kept (grownBy_set _ rb 4 _) (fun e => by have := Option.some.inj e; omega)
  have hO2 : Only [rb] w ((w.alloc (Obj.map #[] 0)).setCell ⟨rb, 4, none⟩ (.map (some w.heap.size))) := ((Only.refl [rb] w).alloc _).setCell (.inl (by simp)) _
  have c3' : ((w.alloc (Obj.map #[] 0)).setCell ⟨rb, 4, none⟩ (.map (some w.heap.size))).cell? ⟨rb, 3, none⟩ = some (.slice A env.length c) := (BL.cell h2 3).trans (congrArg some hp)
  have H2 := Lib.hid h2
  have HOW := Lib.hid hOw
  have HO2 := Lib.hid hO2
  have H0 := Lib.hid h
  clear h2 hOw hO2 h
  generalize hX : (w.alloc (Obj.map #[] 0)).setCell ⟨rb, 4, none⟩ (.map (some w.heap.size)) = X at *
  go_enter Tryd.func58, Tryd.ntmps58
  go_wp2_with fail
  go_loopw [23] (fun v wr => ∃ (k n : Nat) (D : DataW Value), k ≤ env.length ∧ v = .int .i64 (k : Int) ∧ n ≤ k ∧ RAt wr rb { R with mv := .map (some w.heap.size) } ∧ wr.ownsMap Tryd.prog 9 posR w.heap.size n D ∧ Says D (env.take k) ∧ Only [rb] w wr) (fun v _ => env.length - (intOf v).toNat)
  case atStart => exact ⟨0, 0, .map [], by omega, rfl, by omega, H2.out, HOW.out, Says.nil, HO2.out⟩
  case round =>
    obtain ⟨k, n, D, hk, rfl, hn, hR, hM, hS, hO⟩ := hrel
    have d3 : wr.cell? ⟨rb, 3, none⟩ = some (.slice A env.length c) := (BL.cell hR 3).trans (congrArg some hp)
    have d4 : wr.cell? ⟨rb, 4, none⟩ = some (.map (some w.heap.size)) := BL.cell hR 4
    have hX2 := Only.trans (F := [rb]) (Only.refl [rb] w) hO
    have hsz := hO.size
    by_cases hlt : k < env.length
    · obtain ⟨g, o, rfl, hg, hc1, hc2⟩ := hpr k hlt
      have hgs : g < w.heap.size := by omega
      have g1 : wr.cell? ⟨g, o + k * 2, none⟩ = some (.string (bs env[k].1)) := (hO.cell hgs (by simp; omega) _).trans hc1
      have g2 : wr.cell? ⟨g, o + k * 2 + 1, none⟩ = some (.string (bs env[k].2)) := (hO.cell hgs (by simp; omega) _).trans hc2
      have hki : (k : Int) < (env.length : Int) := by omega
      have hmk := he.2 env[k] (List.getElem_mem hlt)
      have hO3 : Only [rb] w (wr.alloc (.cells #[.string (bs env[k].1), .string (bs env[k].2)] 39)).drew := (hO.alloc _).drew
      have hR3 : RAt (wr.alloc (.cells #[.string (bs env[k].1), .string (bs env[k].2)] 39)).drew rb { R with mv := .map (some w.heap.size) } := BL.alloc hR _
      obtain ⟨w5, hrun, how5, hg5⟩ := ((hM.alloc (.cells #[.string (bs env[k].1), .string (bs env[k].2)] 39)).drew).update lawK Tryd.underlying45 (by unfold maxLen; omega) (keyS env[k].1 (by unfold maxLen; omega)) (posR_mk (k : Int))
      have hS5 : Says (putD D env[k].1 (k : Int)) (env.take (k + 1)) := by
        have := hS.put env[k]
        rw [List.length_take, Nat.min_eq_left (by omega)] at this
        rw [List.take_succ_eq_append_getElem hlt]
        exact this
      have hmr : w.heap.size ≠ rb := by omega
      have H5 := Lib.hid (And.intro how5 hS5)
      have HO5 := Lib.hid (hO3.trans2 (grown_only hg5) (fun x hx => .inr (by simp at hx; omega)))
      have HR5 := Lib.hid (show RAt w5 rb { R with mv := .map (some w.heap.size) } from BL.only hR3 (grown_only hg5) (by simp; omega))
      have k2 : (wr.alloc (.cells #[.string (bs env[k].1), .string (bs env[k].2)] 39)).cell? ⟨wr.heap.size, 0, none⟩ = some (.string (bs env[k].1)) := (BL.new wr 39 [.string (bs env[k].1), .string (bs env[k].2)]).cell 0
      have k4 : (wr.alloc (.cells #[.string (bs env[k].1), .string (bs env[k].2)] 39)).cell? ⟨rb, 4, none⟩ = some (.map (some w.heap.size)) := BL.cell hR3 4
      clear hc1 hc2 hmk hO3 hR3 how5 hg5 hS5 hR hM hS hO hX2 H2 HOW HO2 hmr hsz
      generalize bs env[k].1 = P1 at *
      generalize bs env[k].2 = P2 at *
      go_wp2_with fail
      go_region
      go_wp2_with fail
      go_roundw
      case measure => simp [intOf]; omega
      case rel => exact ⟨k + 1, n + 1, _, by omega, by go_num, by omega, HR5.out, H5.out.1, H5.out.2, HO5.out⟩
    · have hke : k = env.length := by omega
      subst hke
      rw [List.take_length] at hS
      have HR := Lib.hid hR
      have HM := Lib.hid hM
      have HS := Lib.hid hS
      have HO := Lib.hid hO
      rcases hS.2 nm with ⟨h1, k, h2, h3⟩ | ⟨h1, h2⟩
      · obtain ⟨hk, hv⟩ := (lastI_val env nm).1 k h2
        obtain ⟨g, o, rfl, hg, hc1, hc2⟩ := hpr k hk
        have hgs : g < w.heap.size := by omega
        have g2 : wr.cell? ⟨g, o + k * 2 + 1, none⟩ = some (.string (bs env[k].2)) := (hO.cell hgs (by simp; omega) _).trans hc2
        rw [hv] at g2
        have HV := Lib.hid h3
        have HH := Lib.hid h1
        have k0 : (0 : Int) ≤ (k : Int) := by omega
        have k1 : (k : Int) < (env.length : Int) := by omega
        clear hR hM hS hO hX2 H2 HOW HO2 hsz h1 h2 h3 hv hc1 hc2
        go_wp2_with (refine wpList_look rfl (.tmp 40) (.tmp 41) rfl w.heap.size D n rfl HM.out nm hl rfl ?_; intro z hz; rw [HV.out] at hz; injection hz with _ hz; subst hz; rw [HH.out])
        go_ret
        exact ⟨rfl, _, _, _, Nat.le_refl _, HR.out, HM.out, HS.out, HO.out⟩
      · have hv := (lastI_val env nm).2 h2
        have HH := Lib.hid h1
        have HV0 : Hid (bs (valP env nm) = { data := #[] }) := by show _ = _; rw [hv]; rfl
        clear hR hM hS hO hX2 H2 HOW HO2 hsz h1 h2 hv
        go_wp2_with (refine wpList_look rfl (.tmp 40) (.tmp 41) rfl w.heap.size D n rfl HM.out nm hl rfl ?_; intro z _; rw [HH.out])
        go_ret
        exact ⟨by rw [HV0.out]; rfl, _, _, _, Nat.le_refl _, HR.out, HM.out, HS.out, HO.out⟩
end Go.Proofs.YtplikjbajejciaaDoor.Lex
