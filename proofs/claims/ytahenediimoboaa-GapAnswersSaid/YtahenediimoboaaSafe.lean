/- safe.Add, safe.Sub, for every input. -/
import Derived.Test.YtahenediimoboaaBase
namespace Go.Proofs.Ytahenediimoboaa
open Go.RowKit
set_option linter.unusedVariables false

theorem add_any (a b : Int) (w : World) (ha : -9223372036854775808 ≤ a ∧ a ≤ 9223372036854775807) (hb : -9223372036854775808 ≤ b ∧ b ≤ 9223372036854775807) :
    Calls Try.prog 26 #[.int .i64 a, .int .i64 b] w fun e w' => e = .returned (.tuple #[.int .i64 (vI (a + b)), .int .i64 (eI (a + b))]) ∧ w = w' := by
  go_enter Try.func26, Try.ntmps26
  go_wp2
  all_goals
    go_ret2
    first
    | (have h : ¬ InI (a + b) := by
        simp only [wrap64, Bool.beq_eq_decide_eq, InI] at *
        (try simp at *)
        omega
       exact ⟨ret2 (vI_out h).symm (eI_out h).symm, rfl⟩)
    | (have h : InI (a + b) := by
        simp only [wrap64, Bool.beq_eq_decide_eq, InI] at *
        (try simp at *)
        omega
       exact ⟨ret2 (by rw [vI_in h]; exact IntWalk.wrap64_in _ h) (eI_in h).symm, rfl⟩)

theorem sub_any (a b : Int) (w : World) (ha : -9223372036854775808 ≤ a ∧ a ≤ 9223372036854775807) (hb : -9223372036854775808 ≤ b ∧ b ≤ 9223372036854775807) :
    Calls Try.prog 29 #[.int .i64 a, .int .i64 b] w fun e w' => e = .returned (.tuple #[.int .i64 (vI (a - b)), .int .i64 (eI (a - b))]) ∧ w = w' := by
  go_enter Try.func29, Try.ntmps29
  go_wp2
  all_goals
    go_ret2
    first
    | (have h : ¬ InI (a - b) := by
        simp only [wrap64, Bool.beq_eq_decide_eq, InI] at *
        (try simp at *)
        omega
       exact ⟨ret2 (vI_out h).symm (eI_out h).symm, rfl⟩)
    | (have h : InI (a - b) := by
        simp only [wrap64, Bool.beq_eq_decide_eq, InI] at *
        (try simp at *)
        omega
       exact ⟨ret2 (by rw [vI_in h]; exact IntWalk.wrap64_in _ h) (eI_in h).symm, rfl⟩)
end Go.Proofs.Ytahenediimoboaa
