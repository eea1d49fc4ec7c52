import Derived.Test.YtflplliiamodhaaZClkM
/- clock.isTime, Sample.Right, Trip: for every sample. -/
namespace Go.Proofs.Ytflplliiamodhaa
open Go.RowKit
set_option linter.unusedVariables false

theorem ctime_any (t : Int) (w : World) : Calls Try.prog 46 #[.int .i64 t] w fun e w' => e = .returned (.bool (tmI t)) ∧ w' = w := by
  obtain ⟨r, hr⟩ : ∃ r, tmI t = r := ⟨_, rfl⟩
  have HR := Lib.hid hr
  rw [hr]
  clear hr
  go_enter Try.func46, Try.ntmps46
  go_wp2
  all_goals
    go_ret
    exact ⟨ret_bool (by rw [← HR.out, Bool.eq_iff_iff]; unfold tmI; simp only [decide_eq_true_eq, Bool.false_eq_true, false_iff]; omega), rfl⟩
theorem srgt_any (a g s c : Int) (w : World) : Calls Try.prog 23 #[.agg #[.int .i64 a, .int .i64 g, .int .i64 s, .int .i64 c]] w (Gives (.bool (rgtS (a, g, s, c))) w) := by
  have B0 := Lib.hid (one_alloc w (.cells #[.int .i64 a, .int .i64 g, .int .i64 s, .int .i64 c] 33))
  obtain ⟨r, hr⟩ : ∃ r, rgtS (a, g, s, c) = r := ⟨_, rfl⟩
  have HR : Hid (decide (RgtS a g s c) = r) := Lib.hid (by rw [← hr]; unfold rgtS; rfl)
  rw [hr]
  clear hr
  go_enter Try.func23, Try.ntmps23
  go_wp2
  all_goals
    go_ret
    exact gives_bool (by rw [← HR.out, Bool.eq_iff_iff, rgt_iff]; simp only [decide_eq_true_eq, Bool.false_eq_true, false_iff]; omega) B0.out
theorem trip_any (a g s c : Int) (w : World) : Calls Try.prog 31 #[.agg #[.int .i64 a, .int .i64 g, .int .i64 s, .int .i64 c]] w (Gives (.int .i64 (tripS (a, g, s, c))) w) := by
  obtain ⟨W, hW⟩ : ∃ W, w.alloc (.cells #[.int .i64 a, .int .i64 g, .int .i64 s, .int .i64 c] 33) = W := ⟨_, rfl⟩
  have K0 : Hid (Kept W w.heap.size #[.int .i64 a, .int .i64 g, .int .i64 s, .int .i64 c] 33) := Lib.hid (by rw [← hW]; exact Kept.new rfl)
  have B0 : Hid (Below w.heap.size w W) := Lib.hid (by rw [← hW]; exact one_alloc _ _)
  have HW := Lib.hid hW
  have CR := Lib.hid (srgt_any a g s c W)
  obtain ⟨x1, x2, x3, x4, -⟩ := K0.out.four
  cases hr : rgtS (a, g, s, c)
  · have F : Hid (tripS (a, g, s, c) = 0) := Lib.hid (if_neg (by rw [hr]; exact Bool.false_ne_true))
    rw [hr] at CR
    clear hW hr
    go_enter Try.func31, Try.ntmps31
    go_wp2_with fail
    rw [HW.out]
    refine CR.out.mono ?_
    rintro _ w1 ⟨rfl, b1⟩
    have B1 := Lib.hid (bnext B0.out B0.out.size b1)
    clear b1
    go_wp2
    go_ret
    exact gives_int F.out.symm B1.out
  · have hg := rgt_yes hr
    unfold RgtS at hg
    have F : Hid (tripS (a, g, s, c) = wrap64 (wrap64 (c - a) - wrap64 (s - g))) := Lib.hid (by
      rw [IntWalk.wrap64_in (c - a) (by omega), IntWalk.wrap64_in (s - g) (by omega), IntWalk.wrap64_in _ (by omega)]
      exact if_pos hr)
    rw [hr] at CR
    clear hW hr hg
    go_enter Try.func31, Try.ntmps31
    go_wp2_with fail
    rw [HW.out]
    refine CR.out.mono ?_
    rintro _ w1 ⟨rfl, b1⟩
    have B1 := Lib.hid (bnext B0.out B0.out.size b1)
    obtain ⟨y1, y2, y3, y4, -⟩ := (K0.out.next b1).four
    clear b1
    go_wp2
    go_ret
    exact gives_int F.out.symm B1.out
end Go.Proofs.Ytflplliiamodhaa
