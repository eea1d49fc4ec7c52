/- cmp.Compare, cmp.Or, wide.Cmp: for every input. -/
import Derived.Test.YtpmoidpncpfnlaaWideB
import Derived.Test.YtpmoidpncpfnlaaLimC
namespace Go.Proofs.Ytpmoidpncpfnlaa
open Go.RowKit
set_option linter.unusedVariables false

def OrRel (x y : Int) (i : Value) : Prop := i = .int .i64 0 ∨ (i = .int .i64 1 ∧ x = 0) ∨ (i = .int .i64 2 ∧ x = 0 ∧ y = 0)
theorem ord_words (h l g m : Int) (hl : 0 ≤ l ∧ l ≤ 18446744073709551615) (hm : 0 ≤ m ∧ m ≤ 18446744073709551615) : (if ordI h g = 0 then ordI l m else ordI h g) = ordI (wz h l) (wz g m) := by
  unfold ordI wz
  (repeat' split) <;> omega
end Go.Proofs.Ytpmoidpncpfnlaa
