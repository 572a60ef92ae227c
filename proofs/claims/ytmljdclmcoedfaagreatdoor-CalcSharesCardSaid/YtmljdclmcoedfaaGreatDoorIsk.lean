/- errors.Is between two of the project's error numbers. -/
import Derived.Test.YtmljdclmcoedfaaGreatDoorPrs
import Derived.LaidEql
import Derived.Stop.Asserts
import Derived.Stop.IfaceNil
import Derived.Lib.IfaceEq
namespace Go.Proofs.YtmljdclmcoedfaaGreatDoor.Cal
open Go.RowKit Go.Extern

theorem typeOf_run (v : Value) (w : World) : (callFunc 77 #[.iface 24 v]).run Tryz.prog w = .ok (.value (.iface 108 (.agg #[.pointer (some ⟨17, 24, none⟩)]))) w := by kernel_rfl
theorem comparable_run (w : World) : (callFunc 211 #[.agg #[.pointer (some ⟨17, 24, none⟩)]]).run Tryz.prog w = .ok (.value (.bool true)) w := by kernel_rfl
theorem isMethod (n : Nat) (v : Value) (w : World) : (Go.method (n + 1) 108 v "Comparable").run Tryz.prog w = .ok (211, v) w := by kernel_rfl
set_option maxRecDepth 100000 in
theorem is_ok (w : World) :
    Calls Tryz.prog 52 #[.iface 24 (.int .i64 0), .iface 24 (.int .i64 0)] w fun e w' => e = .returned (.bool true) ∧ w = w' := by
  have h8 := typeOf_run
  have h32 := comparable_run
  have mR := isMethod
  have heq := Lib.run_eql_iface_int (P := Tryz.prog) (t := 44) (tx := 24) (k := .i64) w 0 0 Tryz.underlying44 (by kernel_rfl) Tryz.underlying24
  go_enter Tryz.func52, Tryz.ntmps52
  go_wp2
  refine wp_loop_rounds 1 ?_
  rw [rounds_succ]
  go_wp2
  go_ret
  exact ⟨rfl, rfl⟩
end Go.Proofs.YtmljdclmcoedfaaGreatDoor.Cal
