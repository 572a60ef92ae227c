/- errors.Is between two of the project's error numbers. -/
import Derived.Test.YtbiinghmopgjnaaGreatDoorPrs
import Derived.LaidEql
import Derived.Stop.Asserts
import Derived.Stop.IfaceNil
import Derived.Lib.IfaceEq
namespace Go.Proofs.YtbiinghmopgjnaaGreatDoor.Cal
open Go.RowKit Go.Extern

theorem typeOf_run (v : Value) (w : World) : (callFunc 79 #[.iface 28 v]).run Tryz.prog w = .ok (.value (.iface 146 (.agg #[.pointer (some ⟨19, 28, none⟩)]))) w := by kernel_rfl
theorem comparable_run (w : World) : (callFunc 255 #[.agg #[.pointer (some ⟨19, 28, none⟩)]]).run Tryz.prog w = .ok (.value (.bool true)) w := by kernel_rfl
theorem isMethod (n : Nat) (v : Value) (w : World) : (Go.method (n + 1) 146 v "Comparable").run Tryz.prog w = .ok (255, v) w := by kernel_rfl
set_option maxRecDepth 100000 in
theorem is_ok (w : World) :
    Calls Tryz.prog 54 #[.iface 28 (.int .i64 0), .iface 28 (.int .i64 0)] w fun e w' => e = .returned (.bool true) ∧ w = w' := by
  have h8 := typeOf_run
  have h32 := comparable_run
  have mR := isMethod
  have heq := Lib.run_eql_iface_int (P := Tryz.prog) (t := 113) (tx := 28) (k := .i64) w 0 0 Tryz.underlying113 (by kernel_rfl) Tryz.underlying28
  go_enter Tryz.func54, Tryz.ntmps54
  go_wp2
  refine wp_loop_rounds 1 ?_
  rw [rounds_succ]
  go_wp2
  go_ret
  exact ⟨rfl, rfl⟩
end Go.Proofs.YtbiinghmopgjnaaGreatDoor.Cal
