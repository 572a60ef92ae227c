/- errors.Is between two of the project's error numbers. -/
import Derived.Test.YtdknjfcelpihpaaGreatDoorPrs
import Derived.LaidEql
import Derived.Stop.Asserts
import Derived.Stop.IfaceNil
import Derived.Lib.IfaceEq
namespace Go.Proofs.YtdknjfcelpihpaaGreatDoor.Cal
open Go.RowKit Go.Extern

theorem typeOf_run (v : Value) (w : World) : (callFunc 92 #[.iface 30 v]).run Tryz.prog w = .ok (.value (.iface 153 (.agg #[.pointer (some ⟨19, 30, none⟩)]))) w := by kernel_rfl
theorem comparable_run (w : World) : (callFunc 264 #[.agg #[.pointer (some ⟨19, 30, none⟩)]]).run Tryz.prog w = .ok (.value (.bool true)) w := by kernel_rfl
theorem isMethod (n : Nat) (v : Value) (w : World) : (Go.method (n + 1) 153 v "Comparable").run Tryz.prog w = .ok (264, v) w := by kernel_rfl
set_option maxRecDepth 100000 in
theorem is_ok (w : World) :
    Calls Tryz.prog 70 #[.iface 30 (.int .i64 0), .iface 30 (.int .i64 0)] w fun e w' => e = .returned (.bool true) ∧ w = w' := by
  have h8 := typeOf_run
  have h32 := comparable_run
  have mR := isMethod
  have heq := Lib.run_eql_iface_int (P := Tryz.prog) (t := 125) (tx := 30) (k := .i64) w 0 0 Tryz.underlying125 (by kernel_rfl) Tryz.underlying30
  go_enter Tryz.func70, Tryz.ntmps70
  go_wp2
  refine wp_loop_rounds 1 ?_
  rw [rounds_succ]
  go_wp2
  go_ret
  exact ⟨rfl, rfl⟩
end Go.Proofs.YtdknjfcelpihpaaGreatDoor.Cal
