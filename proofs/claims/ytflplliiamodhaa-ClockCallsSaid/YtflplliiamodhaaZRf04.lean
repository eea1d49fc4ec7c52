import Derived.Test.YtflplliiamodhaaZRfN
import Derived.Test.YtflplliiamodhaaZClkM
/- noonmarkref04: Rate, far, Low, High, of what a sample asks. -/
namespace Go.Proofs.Ytflplliiamodhaa
open Go.RowKit
set_option linter.unusedVariables false

theorem rrate_any (r : Int) (w : World) : Calls Try.prog 35 #[.int .i64 r] w fun e w' => e = .returned (.bool (rateB r)) ∧ w' = w := by
  obtain ⟨q, hq⟩ : ∃ q, rateB r = q := ⟨_, rfl⟩
  have HQ := Lib.hid hq
  rw [hq]
  clear hq
  go_enter Try.func35, Try.ntmps35
  go_wp2
  all_goals
    go_ret
    exact ⟨ret_bool (by rw [← HQ.out, Bool.eq_iff_iff]; unfold rateB; simp only [decide_eq_true_eq, Bool.false_eq_true, false_iff]; omega), rfl⟩
theorem rfar_no (x : Int) (w : World) (h1 : -4611686018427387904 ≤ x) (h2 : x ≤ 4611686018427387904) : Calls Try.prog 93 #[.int .i64 x] w fun e w' => e = .returned (.bool false) ∧ w' = w := by
  have d1 : decide (x < -4611686018427387904) = false := decide_eq_false (by omega)
  have d2 : decide (4611686018427387904 < x) = false := decide_eq_false (by omega)
  clear h1 h2
  go_enter Try.func93, Try.ntmps93
  go_wp2
  go_ret
  exact ⟨rfl, rfl⟩
set_option maxHeartbeats 1000000 in
theorem rlow_ok (x r : Int) (w : World) (h1 : -4611686018427387904 ≤ x) (h2 : x ≤ 4611686018427387904) (h3 : 0 ≤ r) (h4 : r ≤ 100000) :
    Calls Try.prog 67 #[.int .i64 x, .int .i64 r] w (Gives (.tuple #[.int .i64 (lowI x r), .int .i64 0]) w) := by
  have CF := Lib.hid (fun W => rfar_no x W h1 h2)
  have CR := Lib.hid (fun W => rrate_any r W)
  rw [show rateB r = true from decide_eq_true ⟨h3, h4⟩] at CR
  have hlr := low_range h1 h2 h3 h4
  by_cases hx : 0 < x
  · obtain ⟨q, hq, a1, a2⟩ := low_pos hx h3
    have hq' : ratM ((x - 1) * 1000000) (1000000 + r) true = q := by
      have h := hq
      unfold lowI at h
      have hu := up_spec (p := (x - 1) * 1000000) (c := 1000000 + r) (by omega)
      have k1 := le_of_mul (a := ratM ((x - 1) * 1000000) (1000000 + r) true) (b := q) (c := 1000000 + r) (by omega) (by omega)
      have k2 := le_of_mul (a := q) (b := ratM ((x - 1) * 1000000) (1000000 + r) true) (c := 1000000 + r) (by omega) (by omega)
      omega
    have hq0 : 0 ≤ q := by
      have := lt_of_mul (a := 0) (b := q + 1) (c := 1000000 + r) (by omega) (by rw [Int.add_mul, Int.one_mul]; omega)
      omega
    have hI : InI q := by rw [hq] at hlr; unfold InI; omega
    have CT := Lib.hid (fun W => rratio_any (x - 1) 1000000 (1000000 + r) true W (by unfold InI; omega) (by unfold InI; omega) (by unfold InI; omega) (by omega))
    have hz : divZ ((x - 1) * 1000000) (1000000 + r) true = q := hq'
    rw [hz, vI_in hI, eI_in hI] at CT
    have d1 : decide (0 < x) = true := decide_eq_true hx
    have w1 : wrap64 (x - 1) = x - 1 := IntWalk.wrap64_in _ (by omega)
    have w2 : wrap64 (1000000 + r) = 1000000 + r := IntWalk.wrap64_in _ (by omega)
    have F : Hid (lowI x r = max 1 q) := Lib.hid hq
    clear h1 h2 h3 h4 hlr hq hq' hq0 hI hz a1 a2
    go_enter Try.func67, Try.ntmps67
    go_wp2_with fail
    refine (CF.out _).mono ?_
    rintro _ _ ⟨rfl, rfl⟩
    go_wp2_with fail
    refine (CR.out _).mono ?_
    rintro _ _ ⟨rfl, rfl⟩
    go_wp2_with fail
    refine (CT.out _).mono ?_
    rintro _ w3 ⟨rfl, b3⟩
    have B3 := Lib.hid b3
    clear b3
    go_wp2
    go_ret2
    refine ⟨?_, B3.out⟩
    rw [F.out]
    first
      | rfl
      | (congr 4; done)
      | (simp; omega)
      | (simp; (repeat' split) <;> omega)
  · obtain ⟨q, hq, a1, a2⟩ := low_neg hx h4
    have hq' : ratM ((1 - x) * 1000000) (1000000 - r) false = q := by
      have hu := down_spec (p := (1 - x) * 1000000) (c := 1000000 - r) (by omega)
      have k1 := le_of_mul (a := ratM ((1 - x) * 1000000) (1000000 - r) false) (b := q) (c := 1000000 - r) (by omega) (by omega)
      have k2 := le_of_mul (a := q) (b := ratM ((1 - x) * 1000000) (1000000 - r) false) (c := 1000000 - r) (by omega) (by omega)
      omega
    have hI : InI q := by rw [hq] at hlr; unfold InI; omega
    have CT := Lib.hid (fun W => rratio_any (1 - x) 1000000 (1000000 - r) false W (by unfold InI; omega) (by unfold InI; omega) (by unfold InI; omega) (by omega))
    have hz : divZ ((1 - x) * 1000000) (1000000 - r) false = q := hq'
    rw [hz, vI_in hI, eI_in hI] at CT
    have d1 : decide (0 < x) = false := decide_eq_false hx
    have w1 : wrap64 (1 - x) = 1 - x := IntWalk.wrap64_in _ (by omega)
    have w2 : wrap64 (1000000 - r) = 1000000 - r := IntWalk.wrap64_in _ (by omega)
    have wq : wrap64 (-q) = -q := IntWalk.wrap64_in _ (by rw [hq] at hlr; omega)
    have F : Hid (lowI x r = -q) := Lib.hid hq
    clear h1 h2 h3 h4 hlr hq hq' hI hz a1 a2 hx
    go_enter Try.func67, Try.ntmps67
    go_wp2_with fail
    refine (CF.out _).mono ?_
    rintro _ _ ⟨rfl, rfl⟩
    go_wp2_with fail
    refine (CR.out _).mono ?_
    rintro _ _ ⟨rfl, rfl⟩
    go_wp2_with fail
    refine (CT.out _).mono ?_
    rintro _ w3 ⟨rfl, b3⟩
    have B3 := Lib.hid b3
    clear b3
    go_wp2
    go_ret2
    exact ⟨ret2 (by rw [F.out]; exact wq) rfl, B3.out⟩
theorem rhigh_ok (x r : Int) (w : World) (h1 : -4611686018427387904 ≤ x) (h2 : x ≤ 4611686018427387904) (h3 : 0 ≤ r) (h4 : r ≤ 100000) :
    Calls Try.prog 68 #[.int .i64 x, .int .i64 r] w (Gives (.tuple #[.int .i64 (highI x r), .int .i64 0]) w) := by
  have CF := Lib.hid (fun W => rfar_no x W h1 h2)
  have CL := Lib.hid (fun W => rlow_ok (-x) r W (by omega) (by omega) h3 h4)
  have hl := low_range (x := -x) (r := r) (by omega) (by omega) h3 h4
  have F : Hid (highI x r = -(lowI (-x) r)) := Lib.hid rfl
  generalize lowI (-x) r = q at *
  have w1 : wrap64 (-x) = -x := IntWalk.wrap64_in _ (by omega)
  have wq : wrap64 (-q) = -q := IntWalk.wrap64_in _ (by omega)
  clear h1 h2 h3 h4 hl
  go_enter Try.func68, Try.ntmps68
  go_wp2_with fail
  refine (CF.out _).mono ?_
  rintro _ _ ⟨rfl, rfl⟩
  go_wp2_with fail
  refine (CL.out _).mono ?_
  rintro _ w3 ⟨rfl, b3⟩
  have B3 := Lib.hid b3
  clear b3
  go_wp2
  go_ret2
  exact ⟨ret2 (by rw [F.out]; exact wq) rfl, B3.out⟩
end Go.Proofs.Ytflplliiamodhaa
