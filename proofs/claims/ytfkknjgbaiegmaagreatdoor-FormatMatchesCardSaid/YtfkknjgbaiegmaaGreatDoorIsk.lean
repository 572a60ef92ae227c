/- errors.Is between two of the project's error numbers. -/
import Derived.Test.YtfkknjgbaiegmaaGreatDoorPrs
import Derived.LaidEql
import Derived.Stop.Asserts
import Derived.Stop.IfaceNil
import Derived.Lib.IfaceEq
namespace Go.Proofs.YtfkknjgbaiegmaaGreatDoor.Cal
open Go.RowKit Go.Extern

theorem typeOf_run (v : Value) (w : World) : (callFunc 87 #[.iface 25 v]).run Tryz.prog w = .ok (.value (.iface 151 (.agg #[.pointer (some ⟨19, 25, none⟩)]))) w := by kernel_rfl
theorem comparable_run (w : World) : (callFunc 259 #[.agg #[.pointer (some ⟨19, 25, none⟩)]]).run Tryz.prog w = .ok (.value (.bool true)) w := by kernel_rfl
theorem isMethod (n : Nat) (v : Value) (w : World) : (Go.method (n + 1) 151 v "Comparable").run Tryz.prog w = .ok (259, v) w := by kernel_rfl
set_option maxRecDepth 100000 in
theorem is_ok (w : World) :
    Calls Tryz.prog 65 #[.iface 25 (.int .i64 0), .iface 25 (.int .i64 0)] w fun e w' => e = .returned (.bool true) ∧ w = w' := by
  have h8 := typeOf_run
  have h32 := comparable_run
  have mR := isMethod
  have heq := Lib.run_eql_iface_int (P := Tryz.prog) (t := 123) (tx := 25) (k := .i64) w 0 0 Tryz.underlying123 (by kernel_rfl) Tryz.underlying25
  go_enter Tryz.func65, Tryz.ntmps65
  go_wp2
  refine wp_loop_rounds 1 ?_
  rw [rounds_succ]
  go_wp2
  go_ret
  exact ⟨rfl, rfl⟩
end Go.Proofs.YtfkknjgbaiegmaaGreatDoor.Cal
