/- Two looks held against each other. -/
import Derived.Test.YtajnlbfhcbkopaaDoorSgp
namespace Go.Proofs.YtajnlbfhcbkopaaDoor.Sty
open Go.RowKit
theorem eq_run (f1 f2 f3 t1 t2 t3 : Int) (b : Bool) (h : decide ((f1, f2, f3) = (t1, t2, t3)) = b) (w : World) :
    (binOp .eql 31 (.agg #[.int .i64 f1, .int .i64 f2, .int .i64 f3]) (.agg #[.int .i64 t1, .int .i64 t2, .int .i64 t3])).run Tryd.prog w = .ok (.bool b) w := by
  subst h
  by_cases h1 : f1 = t1
  · by_cases h2 : f2 = t2
    · by_cases h3 : f3 = t3
      · go_simp
      · go_simp
    · go_simp
  · go_simp
end Go.Proofs.YtajnlbfhcbkopaaDoor.Sty
