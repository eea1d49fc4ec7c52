/- grid: right, New, Window; the statements' own of and Right: for every input. -/
import Derived.Test.YthipeefhkaanbaaGapA
namespace Go.Proofs.Ythipeefhkaanbaa
open Go.RowKit
set_option linter.unusedVariables false

/-- are a grid's numbers within their bounds? -/
def rgB (w p m : Int) : Bool := decide (1 ≤ w ∧ w ≤ 1099511627776 ∧ 0 ≤ p ∧ p ≤ 3 ∧ 0 ≤ m ∧ m ≤ 4611686018427387903)
theorem rgB_yes {w p m : Int} (h : rgB w p m = true) : 1 ≤ w ∧ w ≤ 1099511627776 ∧ 0 ≤ p ∧ p ≤ 3 ∧ 0 ≤ m ∧ m ≤ 4611686018427387903 := of_decide_eq_true h
theorem rgB_no {w p m : Int} (h : rgB w p m = false) : ¬ (1 ≤ w ∧ w ≤ 1099511627776 ∧ 0 ≤ p ∧ p ≤ 3 ∧ 0 ≤ m ∧ m ≤ 4611686018427387903) := of_decide_eq_false h
theorem gright_any (w p m : Int) (r : Bool) (hr : rgB w p m = r) (W : World) : Calls Try.prog 23 #[.agg #[.int .i64 w, .int .i64 p, .int .i64 m]] W (Gives (.bool r) W) := by
  have HR := Lib.hid hr
  clear hr
  go_enter Try.func23, Try.ntmps23
  go_wp2
  all_goals
    go_ret
    exact gives_bool (by rw [← HR.out, Bool.eq_iff_iff]; simp [rgB]; omega) (one_alloc _ _)
theorem rright_any (w p m : Int) (r : Bool) (hr : rgB w p m = r) (W : World) : Calls Try.prog 9 #[.agg #[.int .i64 w, .int .i64 p, .int .i64 m]] W (Gives (.bool r) W) := by
  have HR := Lib.hid hr
  clear hr
  go_enter Try.func9, Try.ntmps9
  go_wp2
  all_goals
    go_ret
    exact gives_bool (by rw [← HR.out, Bool.eq_iff_iff]; simp [rgB]; omega) (one_alloc _ _)
theorem tdiv_down {t w : Int} (hw : 1 ≤ w) (h : t.tmod w < 0) : t.tdiv w - 1 = t / w := by
  rw [Int.tmod_eq_emod] at h
  rw [Int.tdiv_eq_ediv]
  have h1 := Int.emod_nonneg t (show w ≠ 0 by omega)
  by_cases c : 0 ≤ t ∨ w ∣ t
  · rw [if_pos c] at h; omega
  · rw [if_neg c, Int.sign_eq_one_of_pos (by omega)]; omega
theorem tdiv_up {t w : Int} (hw : 1 ≤ w) (h : ¬ t.tmod w < 0) : t.tdiv w = t / w := by
  rw [Int.tmod_eq_emod] at h
  rw [Int.tdiv_eq_ediv]
  have h1 := Int.emod_lt_of_pos t (show 0 < w by omega)
  by_cases c : 0 ≤ t ∨ w ∣ t
  · rw [if_pos c]; omega
  · rw [if_neg c] at h; omega
theorem ediv_in {t w : Int} (ht : InI t) (hw : 1 ≤ w) : InI (t / w) := by
  unfold InI at *
  have h := Int.mul_ediv_add_emod t w
  have h1 := Int.emod_nonneg t (show w ≠ 0 by omega)
  have h2 := Int.emod_lt_of_pos t (show 0 < w by omega)
  constructor
  · rcases Int.lt_or_le t 0 with c | c
    · have := Int.ediv_le_ediv (c := w) (by omega) ht.1
      have h3 : -9223372036854775808 ≤ -9223372036854775808 / w := Int.le_ediv_of_mul_le (by omega) (by have := Int.mul_le_mul_of_nonpos_left (a := -9223372036854775808) (b := w) (c := 1) (by omega) hw; omega)
      omega
    · have := Int.ediv_nonneg c (show 0 ≤ w by omega); omega
  · rcases Int.lt_or_le t 0 with c | c
    · have := Int.ediv_neg_of_neg_of_pos c (show 0 < w by omega); omega
    · have := Int.ediv_le_self w c; omega
end Go.Proofs.Ythipeefhkaanbaa
