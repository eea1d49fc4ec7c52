/- safe.Add, Mul and what it calls, for every input. -/
import Derived.Test.YtflplliiamodhaaKeep
import Derived.Test.YtflplliiamodhaaShelf
namespace Go.Proofs.Ytflplliiamodhaa
open Go.RowKit
set_option linter.unusedVariables false

theorem size_any (a : Int) (w : World) (ha : -9223372036854775808 ≤ a ∧ a ≤ 9223372036854775807) :
    Calls Try.prog 89 #[.int .i64 a] w fun e w' => e = .returned (.int .u64 (a.natAbs : Int)) ∧ w = w' := by
  go_enter Try.func89, Try.ntmps89
  go_wp2
  all_goals
    go_ret
    exact ⟨ret_int (by first | omega | (simp only [IntKind.wrap_u64]; omega)), rfl⟩
theorem signed_any (n : Int) (h : 0 ≤ n ∧ n ≤ 18446744073709551615) (neg : Bool) (w : World) :
    Calls Try.prog 91 #[.int .u64 n, .bool neg] w fun e w' => e = .returned (.tuple #[.int .i64 (vI (sg n neg)), .int .i64 (eI (sg n neg))]) ∧ w = w' := by
  cases neg
  all_goals
    go_enter Try.func91, Try.ntmps91
    go_wp2
    all_goals
      go_ret2
      refine ⟨ret2 ?_ ?_, rfl⟩
      all_goals
        simp only [sg, vI, eI, InI, wrap64, IntKind.wrap_u64, if_true, Bool.false_eq_true, if_false]
        split <;> omega
theorem mul_abs (a b : Int) : a * b = sg ((a.natAbs * b.natAbs : Nat) : Int) ((decide (a < 0)) != decide (b < 0)) := by
  rw [← Int.natAbs_mul]
  unfold sg
  rcases Int.lt_trichotomy a 0 with h | h | h <;> rcases Int.lt_trichotomy b 0 with k | k | k
  case inl.inl => have := Int.mul_pos_of_neg_of_neg h k; simp [h, k]; omega
  case inl.inr.inr => have := Int.mul_neg_of_neg_of_pos h k; simp [h, show ¬ b < 0 by omega]; omega
  case inr.inr.inl => have := Int.mul_neg_of_pos_of_neg h k; simp [k, show ¬ a < 0 by omega]; omega
  case inr.inr.inr.inr => have := Int.mul_pos h k; simp [show ¬ a < 0 by omega, show ¬ b < 0 by omega]; omega
  all_goals (subst_vars; simp)
theorem sg_out {n : Int} {neg : Bool} (h : 18446744073709551616 ≤ n) : ¬ InI (sg n neg) := by unfold InI sg; cases neg <;> simp <;> omega

end Go.Proofs.Ytflplliiamodhaa
