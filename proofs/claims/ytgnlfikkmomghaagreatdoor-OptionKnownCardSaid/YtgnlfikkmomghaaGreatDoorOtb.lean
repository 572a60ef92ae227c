/- The table whole. -/
import Derived.Test.YtgnlfikkmomghaaGreatDoorOof
import Derived.Test.YtgnlfikkmomghaaGreatDoorOul
namespace Go.Proofs.YtgnlfikkmomghaaGreatDoor.Opt
open Go.RowKit Go.Shelf

def TabEnd (J Jx : List Op8 → World → Prop) (W' : World) : Prop := (∃ xs, xs = tabL ∧ J xs W') ∨ (∃ pre, pre <+: tabL ∧ Jx pre W')

set_option maxRecDepth 100000 in
set_option maxHeartbeats 2000000 in
theorem table_at (l B0 : Nat) (J Jx : List Op8 → World → Prop) (hJ : AbidesFrom B0 J) (hY : Rounds l 63 J Jx) (W : World) (h0 : J [] W) :
    Calls Tryz.prog 88 #[.func (.yield l) #[] #[]] W fun e W' => (∃ v, e = .returned v) ∧ TabEnd J Jx W' := by
  have HJ := Lib.hid hJ
  have HY := Lib.hid hY
  have H0 := Lib.hid h0
  clear hJ hY h0
  go_enter Tryz.func88, Tryz.ntmps88
  go_wp2_with fail
  refine (ofServer_at l 63 B0 J Jx HJ.out HY.out [] _ H0.out (by decide)).mono ?_
  rintro e W1 (⟨rfl, h1⟩ | ⟨rfl, q, hq, hx⟩)
  · have H1 := Lib.hid h1
    clear h1
    go_wp2_with fail
    refine (ofSession_at l 63 B0 J Jx HJ.out HY.out _ _ H1.out (by decide)).mono ?_
    rintro e W2 (⟨rfl, h2⟩ | ⟨rfl, q, hq, hx⟩)
    · have H2 := Lib.hid h2
      clear h2
      go_wp2_with fail
      refine (ofWindow_at l 63 B0 J Jx HJ.out HY.out _ _ H2.out (by decide)).mono ?_
      rintro e W3 (⟨rfl, h3⟩ | ⟨rfl, q, hq, hx⟩)
      · have H3 := Lib.hid h3
        clear h3
        go_wp2_with fail
        refine (ofPane_at l 63 B0 J Jx HJ.out HY.out _ _ H3.out (by decide)).mono ?_
        rintro e W4 (⟨rfl, h4⟩ | ⟨rfl, q, hq, hx⟩)
        · have H4 := Lib.hid (show TabEnd J Jx W4 from .inl ⟨_, by simp [tabL], h4⟩)
          clear h4
          go_wp2_with fail
          exact body_end rfl rfl ⟨⟨_, rfl⟩, H4.out⟩
        · have H4 := Lib.hid (show TabEnd J Jx W4 from .inr ⟨_, (by simpa [tabL] using hq), hx⟩)
          clear hq hx
          go_wp2_with fail
          exact body_end rfl rfl ⟨⟨_, rfl⟩, H4.out⟩
      · have H4 := Lib.hid (show TabEnd J Jx W3 from .inr ⟨_, (by simpa [tabL] using hq.trans (List.prefix_append winL panL)), hx⟩)
        clear hq hx
        go_wp2_with fail
        exact body_end rfl rfl ⟨⟨_, rfl⟩, H4.out⟩
    · have H4 := Lib.hid (show TabEnd J Jx W2 from .inr ⟨_, (by simpa [tabL] using hq.trans (List.prefix_append sesL (winL ++ panL))), hx⟩)
      clear hq hx
      go_wp2_with fail
      exact body_end rfl rfl ⟨⟨_, rfl⟩, H4.out⟩
  · have H4 := Lib.hid (show TabEnd J Jx W1 from .inr ⟨_, (by simpa [tabL] using hq.trans (List.prefix_append srvL (sesL ++ (winL ++ panL)))), hx⟩)
    clear hq hx
    go_wp2_with fail
    exact body_end rfl rfl ⟨⟨_, rfl⟩, H4.out⟩

/-- The table as an iterator's contract. -/
theorem table_stops (n : Nat) (w : World) :
    SeqStopsK Fence.wide n Tryz.prog 88 #[] (fun x : Op8 => #[optV x]) KT (fun xs => xs = tabL) (fun pre => pre <+: tabL) 63 w := fun l J Jx W _ hJ _ hY h0 =>
  callsIn_wide.2 (table_at l W.heap.size J Jx hJ (fun m pre x W1 _ hj hl => YieldAt.anyDepth rfl m (hY pre x W1 hj hl)) W h0)
/-- An option whose scope is no nought. -/
abbrev OpS := { o : Op8 // o.scope ≠ 0 }
/-- The same, the body being told that no option's scope is nought. -/
theorem table_stopsS (n : Nat) (w : World) :
    SeqStopsK Fence.wide n Tryz.prog 88 #[] (fun x : OpS => #[optV x.1]) KT (fun xs => xs.map (·.1) = tabL) (fun pre => pre.map (·.1) <+: tabL) 63 w := fun l J Jx W _ hJ _ hY h0 => by
  have h := table_at l W.heap.size (fun pre W => ∃ p : List OpS, p.map (·.1) = pre ∧ J p W) (fun pre W => ∃ p : List OpS, p.map (·.1) = pre ∧ Jx p W)
    (fun s A B row ⟨p, hp, hj⟩ hg hr => ⟨p, hp, hJ p A B row hj hg hr⟩)
    (fun m pre x W1 hx ⟨p, hp, hj⟩ hl => by
      have hy := YieldAt.anyDepth (m' := m) rfl (hY p ⟨x, hx⟩ W1 hj (by rw [← List.length_map (f := (·.1)), hp]; exact hl))
      refine YieldAt.mono hy fun e W' h => ?_
      rcases h with ⟨he, h1, h2⟩ | ⟨he, h1⟩
      · exact .inl ⟨he, ⟨_, by rw [List.map_append, hp]; rfl, h1⟩, h2⟩
      · exact .inr ⟨he, ⟨_, by rw [List.map_append, hp]; rfl, h1⟩⟩) W ⟨[], rfl, h0⟩
  refine callsIn_wide.2 (h.mono fun e W' hh => ?_)
  obtain ⟨hv, hh⟩ := hh
  refine ⟨hv, ?_⟩
  rcases hh with ⟨xs, hx, p, hp, hj⟩ | ⟨pre, hpre, p, hp, hj⟩
  · exact .inl ⟨p, hp.trans hx, hj⟩
  · exact .inr ⟨p, (by show List.map (fun x : OpS => x.1) p <+: tabL; rw [hp]; exact hpre), hj⟩
end Go.Proofs.YtgnlfikkmomghaaGreatDoor.Opt
