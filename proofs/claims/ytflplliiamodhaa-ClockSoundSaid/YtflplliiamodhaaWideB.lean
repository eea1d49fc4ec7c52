/- wide.size, Long, Add, Sub: for every input. -/
import Derived.Test.YtflplliiamodhaaWideA
namespace Go.Proofs.Ytflplliiamodhaa
open Go.RowKit
set_option linter.unusedVariables false

theorem wI_zero : wI 0 = .agg #[.int .i64 0, .int .u64 0] := by
  have e1 : hiW 0 = 0 := by unfold hiW wrap64; omega
  have e2 : loW 0 = 0 := by unfold loW; omega
  unfold wI
  rw [e1, e2]
def vW (z : Int) : Int := if InW z then z else 0
def eW (z : Int) : Int := if InW z then 0 else 12
theorem vW_in {z : Int} (h : InW z) : vW z = z := if_pos h
theorem eW_in {z : Int} (h : InW z) : eW z = 0 := if_pos h
theorem vW_out {z : Int} (h : ¬ InW z) : vW z = 0 := if_neg h
theorem eW_out {z : Int} (h : ¬ InW z) : eW z = 12 := if_neg h
theorem over_add {a b : Int} (ha : InW a) (hb : InW b) : ((decide (hiW a < 0) == decide (hiW b < 0)) && (decide (hiW (a + b) < 0) != decide (hiW a < 0))) = decide (¬ InW (a + b)) := by
  have h1 := hiW_neg ha
  have h2 := hiW_neg hb
  rw [show decide (hiW a < 0) = decide (a < 0) from decide_eq_decide.2 h1, show decide (hiW b < 0) = decide (b < 0) from decide_eq_decide.2 h2]
  unfold InW at *
  rw [Bool.eq_iff_iff]
  simp only [Bool.and_eq_true, beq_iff_eq, bne_iff_ne, ne_eq, decide_eq_true_eq, decide_eq_decide]
  unfold hiW wrap64
  omega
theorem over_sub {a b : Int} (ha : InW a) (hb : InW b) : ((decide (hiW a < 0) != decide (hiW b < 0)) && (decide (hiW (a - b) < 0) != decide (hiW a < 0))) = decide (¬ InW (a - b)) := by
  have h1 := hiW_neg ha
  have h2 := hiW_neg hb
  rw [show decide (hiW a < 0) = decide (a < 0) from decide_eq_decide.2 h1, show decide (hiW b < 0) = decide (b < 0) from decide_eq_decide.2 h2]
  unfold InW at *
  rw [Bool.eq_iff_iff]
  simp only [Bool.and_eq_true, bne_iff_ne, ne_eq, decide_eq_true_eq, decide_eq_decide]
  unfold hiW wrap64
  omega
end Go.Proofs.Ytflplliiamodhaa
