/- lex: Split; words held against one another. -/
import Derived.Test.YtplikjbajejciaaDoorQru
namespace Go.Proofs.YtplikjbajejciaaDoor.Lex
open Go.RowKit Go.Maps
/-- What Split tells. -/
def XP (w : World) (R : RR) (e : Ending) (w' : World) : Prop :=
  match R with
  | .bad k l => e = .returned (.tuple #[.slice none 0 0, .int .i64 (k : Int), .int .i64 (l : Int)]) ∧ Below w.heap.size w w'
  | .done L => ∃ v ls, ls.map (·.2) = L ∧ e = .returned (.tuple #[v, .int .i64 0, .int .i64 0]) ∧ LsAt w.heap.size w' v ls ∧ Below w.heap.size w w'
theorem PrAt.mono {B B' : Nat} {w : World} {A : Option Addr} {env : Env} (h : PrAt B w A env) (hB : B ≤ B') : PrAt B' w A env := fun k hk => by
  obtain ⟨g, o, e, hg, h1, h2⟩ := h k hk
  exact ⟨g, o, e, Nat.lt_of_lt_of_le hg hB, h1, h2⟩
set_option maxRecDepth 100000 in
set_option maxHeartbeats 4000000 in
theorem Split_any (env : Env) (s : Tx) (A : Option Addr) (c : Nat) (w : World) (hp : PrAt w.heap.size w A env) (he : EnvOk env) (hl : s.length ≤ 140737488355328) :
    Calls Tryd.prog 10 #[.string (bs s), .slice A env.length c] w (XP w (splitP env s)) := by
  have hsz : (bs s).size = s.length := bs_size s
  by_cases hlong : s.length > 65536
  · have HW : Hid (XP w (splitP env s) (.returned (.tuple #[.slice none 0 0, .int .i64 2, .int .i64 0])) w) := by
      have : splitP env s = .bad 2 0 := by unfold splitP; rw [if_pos hlong]
      show XP _ _ _ _
      rw [this]
      exact ⟨rfl, Below.refl _ _⟩
    have z1 : (65536 : Int) < ((bs s).size : Int) := by omega
    clear hp he hlong hsz
    generalize bs s = S at *
    go_enter Tryd.func10, Tryd.ntmps10
    go_wp2_with fail
    go_ret3
    exact HW.out
  · have hW : splitP env s = readF env (s.length + 1) [] [] 1 s 1 := by unfold splitP; rw [if_neg hlong]
    rw [hW]
    have z1 : ((bs s).size : Int) ≤ 65536 := by omega
    have hO : Only [] w (w.alloc (.cells #[.string (bs s), .int .i64 0, .int .i64 1, .slice A env.length c, .map none, .slice none 0 0, .slice none 0 0, .int .i64 1, .int .i64 0, .slice none 0 0] 49)) := (Only.refl [] w).alloc _
    have hCx : Cx w.heap.size (w.alloc (.cells #[.string (bs s), .int .i64 0, .int .i64 1, .slice A env.length c, .map none, .slice none 0 0, .slice none 0 0, .int .i64 1, .int .i64 0, .slice none 0 0] 49)) w.heap.size ⟨s, .slice A env.length c, .slice none 0 0, .slice none 0 0, 1, 0, .slice none 0 0⟩ env s 1 := by
      refine ⟨⟨.map none, ?_, .inl rfl⟩, List.suffix_refl _, by show s.length ≤ 65536; omega, by show 1 + s.length ≤ s.length + 1; omega, ⟨A, c, rfl, hp.below (hO.below (Nat.le_refl _) (by simp))⟩, he, Nat.le_refl _⟩
      have := BL.new w 49 [.string (bs s), .int .i64 0, .int .i64 1, .slice A env.length c, .map none, .slice none 0 0, .slice none 0 0, .int .i64 1, .int .i64 0, .slice none 0 0]
      show BL _ _ _ [.string (bs s), .int .i64 ((s.length - s.length : Nat) : Int), .int .i64 1, .slice A env.length c, .map none, .slice none 0 0, .slice none 0 0, .int .i64 1, .int .i64 0, .slice none 0 0]
      rw [Nat.sub_self]
      exact this
    have HRUN := Lib.hid (run_any hCx rfl rfl rfl)
    have HO := Lib.hid hO
    obtain ⟨R, hR⟩ : ∃ R, R = readF env (s.length + 1) [] [] 1 s 1 := ⟨_, rfl⟩
    rw [← hR] at HRUN ⊢
    clear hR hW hp he hlong hO hCx hsz
    generalize bs s = S at *
    go_enter Tryd.func10, Tryd.ntmps10
    go_wp2_with fail
    refine HRUN.out.mono ?_
    intro e w2 hx
    unfold SP at hx
    cases R with
    | bad k l =>
      obtain ⟨rfl, ho⟩ := hx
      have HE : Hid (XP w (.bad k l) (.returned (.tuple #[.slice none 0 0, .int .i64 (k : Int), .int .i64 (l : Int)])) w2) :=
        ⟨rfl, ((HO.out.mono (by simp)).trans ho).below (Nat.le_refl _) (by simp)⟩
      clear ho
      go_wp2_with fail
      go_ret3
      exact HE.out
    | done L =>
      obtain ⟨v, ls, hm, rfl, hls, ho⟩ := hx
      have hlow : ∀ {t : TypeId} {size m : Nat} {v : Value} {xs : List Value} {B : Nat}, w2.ownsRow B t size v m xs → w.heap.size ≤ B → w2.ownsRow w.heap.size t size v m xs := fun ho hB => own_low_base ho hB
      have hszX := HO.out.size
      have HE : Hid (XP w (.done L) (.returned (.tuple #[v, .int .i64 0, .int .i64 0])) w2) :=
        ⟨v, ls, hm, rfl, ⟨own_low_base hls.1 hszX, fun p hp => own_low_base (hls.2 p hp) hszX⟩, ((HO.out.mono (by simp)).trans ho).below (Nat.le_refl _) (by simp)⟩
      clear ho hls hm hlow
      go_wp2_with fail
      go_ret3
      exact HE.out
end Go.Proofs.YtplikjbajejciaaDoor.Lex
