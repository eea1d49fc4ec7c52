/- Slices of intervals that a function grows. -/
import Derived.Test.YtflplliiamodhaaGapD
import Derived.Test.YtflplliiamodhaaPairL
namespace Go.Proofs.Ytflplliiamodhaa
open Go.RowKit
set_option linter.unusedVariables false

theorem info_gap : (Try.prog.info? 39).map (fun i => (i.zero, i.size, i.bytes)) = some (some (.agg #[.int .i64 0, .int .i64 0]), 2, 16) := by kernel_rfl
end Go.Proofs.Ytflplliiamodhaa
