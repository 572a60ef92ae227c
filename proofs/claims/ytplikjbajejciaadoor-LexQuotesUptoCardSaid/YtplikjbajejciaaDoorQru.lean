/- lex: a run; what is wrong is caught. -/
import Derived.Test.YtplikjbajejciaaDoorQrx
import Derived.Defers
import Derived.Recover
namespace Go.Proofs.YtplikjbajejciaaDoor.Lex
open Go.RowKit Go.Maps
set_option maxRecDepth 100000 in
theorem catch_idle (p q : Addr) (w : World) :
    CallsD Tryd.prog 23 #[.pointer (some p), .pointer (some q)] .returning w fun e u' w' => e = .returned (.tuple #[]) ∧ u' = .returning ∧ w' = w := by
  refine callsD_of_wpS Tryd.func23 rfl fun c₀ cs hu => ?_
  apply wpS_seq
  apply wpS_region
  simp [wpOpsS, go_sem, recoverD, hu, Tryd.ntmps23, Exit.thenS]
  refine wpS_of_wp ?_
  go_wp2
  cases c₀
  simp_all [bodyPostS, results, Tryd.results23]
/-- What the catching leaves. -/
def Caught (eb lb : Nat) (e l : Nat) (older : List PanicEntry) (w : World) (x : Ending) (u' : FrameMode) (w' : World) : Prop :=
  x = .returned (.tuple #[]) ∧ u' = .panicking ({ v := ftV e l, recovered := true } :: older) ∧ BL w' eb 29 [.int .i64 (e : Int)] ∧ BL w' lb 3 [.int .i64 (l : Int)] ∧ Only [eb, lb] w w'
set_option maxRecDepth 100000 in
set_option maxHeartbeats 2000000 in
theorem catch_panicking (eb lb : Nat) (hne : eb ≠ lb) (x y e l : Nat) (older : List PanicEntry) (w : World) (he : BL w eb 29 [.int .i64 (x : Int)]) (hl : BL w lb 3 [.int .i64 (y : Int)]) :
    CallsD Tryd.prog 23 #[.pointer (some ⟨eb, 0, none⟩), .pointer (some ⟨lb, 0, none⟩)] (.panicking ({ v := ftV e l, recovered := false } :: older)) w (Caught eb lb e l older w) := by
  have hta : ∀ (w : World), (Instr.typeAssert (.iface 65 (.agg #[.int .i64 (e : Int), .int .i64 (l : Int)])) 20 65 true).run Tryd.prog w = .ok (.tuple #[.agg #[.int .i64 (e : Int), .int .i64 (l : Int)], .bool true]) w := fun w => by kernel_rfl
  have hrep : (Array.replicate 13 undef : Array Value) = #[undef, undef, undef, undef, undef, undef, undef, undef, undef, undef, undef, undef, undef] := rfl
  have hce : w.cell? ⟨eb, 0, none⟩ = some (.int .i64 (x : Int)) := he.cell 0
  have hcl : w.cell? ⟨lb, 0, none⟩ = some (.int .i64 (y : Int)) := hl.cell 0
  unfold ftV
  refine callsD_of_wpS Tryd.func23 rfl fun c₀ cs hu => ?_
  apply wpS_seq
  apply wpS_region
  simp [wpOpsS, go_sem, recoverD, hu, Tryd.ntmps23, Exit.thenS, hrep]
  refine wpS_of_wp ?_
  go_wp2_with fail
  have hle := he.lt
  have hll := hl.lt
  have heX := BL.alloc he (.cells #[.int .i64 (e : Int), .int .i64 (l : Int)] 65)
  have hlX := BL.alloc hl (.cells #[.int .i64 (e : Int), .int .i64 (l : Int)] 65)
  have hN := BL.new w 65 [.int .i64 (e : Int), .int .i64 (l : Int)]
  have hO := (Only.refl [eb, lb] w).alloc (.cells #[.int .i64 (e : Int), .int .i64 (l : Int)] 65)
  have x1 := heX.cell 0
  have x2 := hlX.cell 0
  have x3 := hN.cell 0
  have x4 := hN.cell 1
  have x5 := heX.frozen 0
  have x6 := hlX.frozen 0
  have hne1 : ¬ eb = lb := hne
  have hne2 : ¬ lb = eb := fun h => hne h.symm
  have hne3 : ¬ eb = w.heap.size := by omega
  have hne4 : ¬ lb = w.heap.size := by omega
  have hne5 : ¬ w.heap.size = eb := by omega
  have hne6 : ¬ w.heap.size = lb := by omega
  have HX := Lib.hid (And.intro heX (And.intro hlX hO))
  clear heX hlX hN hO he hl
  generalize hXw : w.alloc (.cells #[.int .i64 (e : Int), .int .i64 (l : Int)] 65) = X at *
  have HXW := Lib.hid hXw
  clear hXw
  go_region
  go_wp2_with fail
  have hC : Caught eb lb e l older w (.returned (.tuple #[])) (.panicking ({ v := ftV e l, recovered := true } :: older)) (((X.setCell ⟨eb, 0, none⟩ (.int .i64 (e : Int))).setCell ⟨lb, 0, none⟩ (.int .i64 (l : Int))).drew) := by
    have b1 := BL.set_ HX.out.1 0 (.int .i64 (e : Int))
    have b2 := BL.only b1 (one_set (X.setCell ⟨eb, 0, none⟩ (.int .i64 (e : Int))) lb 0 (.int .i64 (l : Int))) (by simp; exact hne)
    have b3 := BL.only HX.out.2.1 (one_set X eb 0 (.int .i64 (e : Int))) (by simp; exact fun h => hne h.symm)
    have b4 := BL.set_ b3 0 (.int .i64 (l : Int))
    refine ⟨rfl, rfl, b2, b4, ?_⟩
    exact (((HX.out.2.2).setCell (p := ⟨eb, 0, none⟩) (.inl (by simp)) _).setCell (p := ⟨lb, 0, none⟩) (.inl (by simp)) _).drew
  simp [bodyPostS, results, Tryd.results23]
  exact hC
/-- Commands that are told, where they lie. -/
def LsAt (G : Nat) (w : World) (v : Value) (ls : List LV) : Prop :=
  w.ownsRow G 34 2 v ls.length (lnsC ls) ∧ ∀ p ∈ ls, w.ownsRow G 36 3 p.1 p.2.words.length (wdsC p.2.words)
/-- What a run tells. -/
def SP (G rb : Nat) (w : World) (R : RR) (e : Ending) (w' : World) : Prop :=
  match R with
  | .bad k l => e = .returned (.tuple #[.slice none 0 0, .int .i64 (k : Int), .int .i64 (l : Int)]) ∧ Only [rb] w w'
  | .done L => ∃ v ls, ls.map (·.2) = L ∧ e = .returned (.tuple #[v, .int .i64 0, .int .i64 0]) ∧ LsAt G w' v ls ∧ Only [rb] w w'
theorem own_low_base {w : World} {B B' e size n : Nat} {v : Value} {xs : List Value} (h : w.ownsRow B e size v n xs) (hB : B' ≤ B) : w.ownsRow B' e size v n xs := by
  refine ⟨h.1, ?_⟩
  rcases h.2 with h2 | ⟨g, cap, cur, h1, h3, h4⟩
  · exact .inl h2
  · exact .inr ⟨g, cap, cur, h1, Nat.le_trans hB h3, h4⟩
section
variable {B rb n : Nat} {w : World} {K : Kp} {env : Env} {s : Tx}
theorem Cx.fresh (h : Cx B w rb K env s n) (hl : K.lv = .slice none 0 0) (hw : K.wv = .slice none 0 0) (hg : K.g = 1) : RH B w.heap.size rb w K env [] [] s n := by
  have hlt := h.lt
  have hlo := h.low
  have hlen := h.len
  exact ⟨h, by rw [hw]; exact ⟨rfl, .inl ⟨rfl, rfl⟩⟩, by rw [hl]; exact ⟨rfl, .inl ⟨rfl, rfl⟩⟩, fun p hp => (by cases hp), (by simp; omega), ⟨by simp, by rw [hg]; simp⟩, fun p hp => (by cases hp), (by omega), Nat.le_refl _⟩
set_option maxRecDepth 100000 in
set_option maxHeartbeats 4000000 in
theorem run_any (h : Cx B w rb K env s n) (hl : K.lv = .slice none 0 0) (hw : K.wv = .slice none 0 0) (hg : K.g = 1) :
    Calls Tryd.prog 15 #[ptrV rb] w (SP w.heap.size rb w (readF env (s.length + 1) [] [] 1 s n)) := by
  have hmf : ∀ (fn : Fn) (first cap : Array Value) (w : World), (Instr.makeFunc fn first cap).run Tryd.prog w = .ok (.func fn first cap) w := fun _ _ _ _ => rfl
  obtain ⟨R, hR⟩ : ∃ R, readF env (s.length + 1) [] [] 1 s n = R := ⟨_, rfl⟩
  rw [hR]
  have hlt := h.lt
  have hO2 : Only [] w ((w.alloc (.cells #[.int .i64 0] 29)).alloc (.cells #[.int .i64 0] 3)) := ((Only.refl [] w).alloc _).alloc _
  have hc2 := h.same hO2
  have HRD := Lib.hid (read_any (hc2.fresh hl hw hg) hg)
  rw [hR] at HRD
  have hE := (BL.new w 29 [.int .i64 0]).alloc (.cells #[.int .i64 0] 3)
  have hL : BL ((w.alloc (.cells #[.int .i64 0] 29)).alloc (.cells #[.int .i64 0] 3)) (w.heap.size + 1) 3 [.int .i64 0] := by
    have := BL.new (w.alloc (.cells #[.int .i64 0] 29)) 3 [.int .i64 0]
    rw [size_alloc] at this
    exact this
  have HEL := Lib.hid (And.intro hE hL)
  have HO2 := Lib.hid hO2
  have HSZ := Lib.hid (show ((w.alloc (.cells #[.int .i64 0] 29)).alloc (.cells #[.int .i64 0] 3)).heap.size = w.heap.size + 2 by rw [size_alloc, size_alloc])
  clear h hl hw hg hR hO2 hc2 hE hL
  unfold ptrV at *
  go_enter_defers Tryd.func15, Tryd.ntmps15
  go_wp2_with fail
  refine HRD.out.mono ?_
  intro e w3 he
  unfold RP at he
  cases R with
  | bad k l =>
    obtain ⟨rfl, ho3⟩ := he
    have hE3 := BL.only HEL.out.1 ho3 (by simp; omega)
    have hL3 := BL.only HEL.out.2 ho3 (by simp; omega)
    have HO3 := Lib.hid ho3
    have HE3 := Lib.hid (And.intro hE3 hL3)
    clear ho3 hE3 hL3
    simp only []
    refine leaves_cons (f := 23) (args := #[.pointer (some ⟨w.heap.size, 0, none⟩), .pointer (some ⟨w.heap.size + 1, 0, none⟩)]) (by simp) (by simp [go_sem]) ?_
    refine (catch_panicking w.heap.size (w.heap.size + 1) (by omega) 0 0 k l [] _ HE3.out.1 HE3.out.2).mono ?_
    rintro e u' w'' ⟨rfl, rfl, hb1, hb2, ho4⟩
    have c1 : w''.cell? ⟨w.heap.size, 0, none⟩ = some (.int .i64 (k : Int)) := hb1.cell 0
    have c2 : w''.cell? ⟨w.heap.size + 1, 0, none⟩ = some (.int .i64 (l : Int)) := hb2.cell 0
    have HEND : Hid (Only [rb] w w'') := ((HO2.out.mono (by simp)).trans HO3.out).trans2 ho4 (fun x hx => by
      simp at hx
      exact .inr (by omega))
    simp [Leaves, settle, results, Tryd.results15, go_sem, c1, c2]
    exact ⟨rfl, HEND.out⟩
  | done L =>
    obtain ⟨rfl, ⟨K3, ls, n3, hm, h3⟩, ho3⟩ := he
    have hE3 := BL.only HEL.out.1 ho3 (by simp; omega)
    have hL3 := BL.only HEL.out.2 ho3 (by simp; omega)
    obtain ⟨mv, hR3, _⟩ := h3.cx.place
    obtain ⟨A2, k2, hlv⟩ := own_slice h3.lown
    have c5 : w3.cell? ⟨rb, 5, none⟩ = some (.slice A2 ls.length k2) := (BL.cell hR3 5).trans (congrArg some hlv)
    have c1 : w3.cell? ⟨w.heap.size, 0, none⟩ = some (.int .i64 0) := hE3.cell 0
    have f1 := hE3.frozen 0
    have c2 : (w3.setCell ⟨w.heap.size, 0, none⟩ (.int .i64 0)).cell? ⟨w.heap.size + 1, 0, none⟩ = some (.int .i64 0) := (BL.only hL3 (one_set w3 w.heap.size 0 (.int .i64 0)) (by simp)).cell 0
    have f2 := (BL.only hL3 (one_set w3 w.heap.size 0 (.int .i64 0)) (by simp)).frozen 0
    have hset := (one_set w3 w.heap.size 0 (.int .i64 0)).mono (G := [w.heap.size, w.heap.size + 1]) (by simp)
    have hset2 := hset.setCell (p := ⟨w.heap.size + 1, 0, none⟩) (.inl (by simp)) (.int .i64 0)
    have e1 : ((w3.setCell ⟨w.heap.size, 0, none⟩ (.int .i64 0)).setCell ⟨w.heap.size + 1, 0, none⟩ (.int .i64 0)).cell? ⟨w.heap.size, 0, none⟩ = some (.int .i64 0) := (BL.only (BL.set_ hE3 0 (.int .i64 0)) (one_set _ (w.heap.size + 1) 0 (.int .i64 0)) (by simp)).cell 0
    have e2 : ((w3.setCell ⟨w.heap.size, 0, none⟩ (.int .i64 0)).setCell ⟨w.heap.size + 1, 0, none⟩ (.int .i64 0)).cell? ⟨w.heap.size + 1, 0, none⟩ = some (.int .i64 0) := (BL.set_ (BL.only hL3 (one_set w3 w.heap.size 0 (.int .i64 0)) (by simp)) 0 (.int .i64 0)).cell 0
    have far : ∀ {t : TypeId} {size m : Nat} {v : Value} {xs : List Value}, w3.ownsRow ((w.alloc (.cells #[.int .i64 0] 29)).alloc (.cells #[.int .i64 0] 3)).heap.size t size v m xs → ((w3.setCell ⟨w.heap.size, 0, none⟩ (.int .i64 0)).setCell ⟨w.heap.size + 1, 0, none⟩ (.int .i64 0)).ownsRow w.heap.size t size v m xs := fun ho => by
      refine own_low_base (own_only ho hset2 (fun k hk => ?_)) (by rw [HSZ.out]; omega)
      have := (own_low ho k hk).1
      rw [HSZ.out] at this
      simp
      omega
    have HEND : Hid (Only [rb] w ((w3.setCell ⟨w.heap.size, 0, none⟩ (.int .i64 0)).setCell ⟨w.heap.size + 1, 0, none⟩ (.int .i64 0)) ∧ LsAt w.heap.size ((w3.setCell ⟨w.heap.size, 0, none⟩ (.int .i64 0)).setCell ⟨w.heap.size + 1, 0, none⟩ (.int .i64 0)) (.slice A2 ls.length k2) ls) := by
      refine ⟨((HO2.out.mono (by simp)).trans ho3).trans2 hset2 (fun x hx => by simp at hx; exact .inr (by omega)), ?_, fun p hp => far (h3.lns p hp).1⟩
      rw [← hlv]
      exact far h3.lown
    have HM := Lib.hid hm
    clear hE3 hL3 hR3 hlv ho3 h3 hset hset2 far hm
    simp only []
    go_wp2_with fail
    refine leaves_cons (f := 23) (args := #[.pointer (some ⟨w.heap.size, 0, none⟩), .pointer (some ⟨w.heap.size + 1, 0, none⟩)]) (by simp) (by simp [go_sem]) ?_
    refine (catch_idle ⟨w.heap.size, 0, none⟩ ⟨w.heap.size + 1, 0, none⟩ _).mono ?_
    rintro e u' w'' ⟨rfl, rfl, rfl⟩
    simp [Leaves, settle, results, Tryd.results15, go_sem, e1, e2]
    exact ⟨_, ls, HM.out, rfl, HEND.out.2, HEND.out.1⟩
end
end Go.Proofs.YtplikjbajejciaaDoor.Lex
