/- DriftRises, walked. -/
import Derived.Test.YtodjlnfpigmegaaAlive
namespace Go.Proofs.Ytodjlnfpigmegaa
open Go.RowKit
set_option linter.unusedVariables false

theorem rises_out (x y r a b e : Int) (w : World) (C1 : Hid (∀ W, Calls Try.prog 7 #[.int .i64 x, .int .i64 r] W (Gives (.tuple #[.int .i64 a, .int .i64 e]) W))) (C2 : Hid (∀ W, Calls Try.prog 8 #[.int .i64 x, .int .i64 r] W (Gives (.tuple #[.int .i64 b, .int .i64 e]) W))) (he : (e != 0) = true) :
    Calls Try.prog 3 #[.int .i64 x, .int .i64 y, .int .i64 r] w fun e w' => e = .returned (.bool true) ∧ Below w.heap.size w w' := by
  go_enter Try.func3, Try.ntmps3
  go_wp2_with fail
  refine (alive_any _).mono ?_
  rintro _ w1 ⟨rfl, hb1⟩
  have B1 := Lib.hid hb1
  go_wp2_with fail
  refine (C1.out _).mono ?_
  rintro _ w2 ⟨rfl, hb2⟩
  have B2 := Lib.hid (bnext B1.out B1.out.size hb2)
  go_wp2_with fail
  refine (C2.out _).mono ?_
  rintro _ w3 ⟨rfl, hb3⟩
  have B3 := Lib.hid (bnext B2.out B2.out.size hb3)
  clear hb1 hb2 hb3 B1 B2
  go_wp2
  go_ret
  exact ⟨by simp, B3.out⟩
set_option maxHeartbeats 2000000 in
theorem rises_yout (x y r a b s c d e : Int) (w : World) (C1 : Hid (∀ W, Calls Try.prog 7 #[.int .i64 x, .int .i64 r] W (Gives (.tuple #[.int .i64 a, .int .i64 0]) W))) (C2 : Hid (∀ W, Calls Try.prog 8 #[.int .i64 x, .int .i64 r] W (Gives (.tuple #[.int .i64 b, .int .i64 0]) W)))
    (C3 : Hid (∀ W, Calls Try.prog 9 #[.int .i64 (max x (wrap64 (-x))), .int .i64 r] W (Gives (.tuple #[.int .i64 s, .int .i64 0]) W))) 
    (C4 : Hid (∀ W, Calls Try.prog 7 #[.int .i64 y, .int .i64 r] W (Gives (.tuple #[.int .i64 c, .int .i64 e]) W))) (C5 : Hid (∀ W, Calls Try.prog 8 #[.int .i64 y, .int .i64 r] W (Gives (.tuple #[.int .i64 d, .int .i64 e]) W)))
    (d1 : decide (b < a) = false) (d2 : decide (wrap64 (s + 2) < wrap64 (x - a)) = false) (d3 : decide (wrap64 (s + 2) < wrap64 (b - x)) = false) (d4 : decide (wrap64 (x + 1) < a) = false) (d5 : decide (b < wrap64 (x - 1)) = false)
    (he : (e != 0) = true) :
    Calls Try.prog 3 #[.int .i64 x, .int .i64 y, .int .i64 r] w fun e w' => e = .returned (.bool true) ∧ Below w.heap.size w w' := by
  go_enter Try.func3, Try.ntmps3
  go_wp2_with fail
  refine (alive_any _).mono ?_
  rintro _ w1 ⟨rfl, hb1⟩
  have B1 := Lib.hid hb1
  go_wp2_with fail
  refine (C1.out _).mono ?_
  rintro _ w2 ⟨rfl, hb2⟩
  have B2 := Lib.hid (bnext B1.out B1.out.size hb2)
  go_wp2_with fail
  refine (C2.out _).mono ?_
  rintro _ w3 ⟨rfl, hb3⟩
  have B3 := Lib.hid (bnext B2.out B2.out.size hb3)
  clear hb1 hb2 hb3 B1 B2
  go_wp2_with fail
  refine (C3.out _).mono ?_
  rintro _ w4 ⟨rfl, hb4⟩
  have B4 := Lib.hid (bnext B3.out B3.out.size hb4)
  go_wp2_with fail
  refine (C4.out _).mono ?_
  rintro _ w5 ⟨rfl, hb5⟩
  have B5 := Lib.hid (bnext B4.out B4.out.size hb5)
  go_wp2_with fail
  refine (C5.out _).mono ?_
  rintro _ w6 ⟨rfl, hb6⟩
  have B6 := Lib.hid (bnext B5.out B5.out.size hb6)
  clear hb4 hb5 hb6 B3 B4 B5
  go_wp2
  go_ret
  exact ⟨by simp, B6.out⟩
set_option maxHeartbeats 2000000 in
theorem rises_less (x y r a b s c d : Int) (w : World) (C1 : Hid (∀ W, Calls Try.prog 7 #[.int .i64 x, .int .i64 r] W (Gives (.tuple #[.int .i64 a, .int .i64 0]) W))) (C2 : Hid (∀ W, Calls Try.prog 8 #[.int .i64 x, .int .i64 r] W (Gives (.tuple #[.int .i64 b, .int .i64 0]) W)))
    (C3 : Hid (∀ W, Calls Try.prog 9 #[.int .i64 (max x (wrap64 (-x))), .int .i64 r] W (Gives (.tuple #[.int .i64 s, .int .i64 0]) W))) 
    (C4 : Hid (∀ W, Calls Try.prog 7 #[.int .i64 y, .int .i64 r] W (Gives (.tuple #[.int .i64 c, .int .i64 0]) W))) (C5 : Hid (∀ W, Calls Try.prog 8 #[.int .i64 y, .int .i64 r] W (Gives (.tuple #[.int .i64 d, .int .i64 0]) W)))
    (d1 : decide (b < a) = false) (d2 : decide (wrap64 (s + 2) < wrap64 (x - a)) = false) (d3 : decide (wrap64 (s + 2) < wrap64 (b - x)) = false) (d4 : decide (wrap64 (x + 1) < a) = false) (d5 : decide (b < wrap64 (x - 1)) = false)
    (d6 : decide (y < x) = true) :
    Calls Try.prog 3 #[.int .i64 x, .int .i64 y, .int .i64 r] w fun e w' => e = .returned (.bool true) ∧ Below w.heap.size w w' := by
  go_enter Try.func3, Try.ntmps3
  go_wp2_with fail
  refine (alive_any _).mono ?_
  rintro _ w1 ⟨rfl, hb1⟩
  have B1 := Lib.hid hb1
  go_wp2_with fail
  refine (C1.out _).mono ?_
  rintro _ w2 ⟨rfl, hb2⟩
  have B2 := Lib.hid (bnext B1.out B1.out.size hb2)
  go_wp2_with fail
  refine (C2.out _).mono ?_
  rintro _ w3 ⟨rfl, hb3⟩
  have B3 := Lib.hid (bnext B2.out B2.out.size hb3)
  clear hb1 hb2 hb3 B1 B2
  go_wp2_with fail
  refine (C3.out _).mono ?_
  rintro _ w4 ⟨rfl, hb4⟩
  have B4 := Lib.hid (bnext B3.out B3.out.size hb4)
  go_wp2_with fail
  refine (C4.out _).mono ?_
  rintro _ w5 ⟨rfl, hb5⟩
  have B5 := Lib.hid (bnext B4.out B4.out.size hb5)
  go_wp2_with fail
  refine (C5.out _).mono ?_
  rintro _ w6 ⟨rfl, hb6⟩
  have B6 := Lib.hid (bnext B5.out B5.out.size hb6)
  clear hb4 hb5 hb6 B3 B4 B5
  go_wp2
  go_ret
  exact ⟨by simp, B6.out⟩
set_option maxHeartbeats 2000000 in
theorem rises_more (x y r a b s c d : Int) (w : World) (C1 : Hid (∀ W, Calls Try.prog 7 #[.int .i64 x, .int .i64 r] W (Gives (.tuple #[.int .i64 a, .int .i64 0]) W))) (C2 : Hid (∀ W, Calls Try.prog 8 #[.int .i64 x, .int .i64 r] W (Gives (.tuple #[.int .i64 b, .int .i64 0]) W)))
    (C3 : Hid (∀ W, Calls Try.prog 9 #[.int .i64 (max x (wrap64 (-x))), .int .i64 r] W (Gives (.tuple #[.int .i64 s, .int .i64 0]) W))) 
    (C4 : Hid (∀ W, Calls Try.prog 7 #[.int .i64 y, .int .i64 r] W (Gives (.tuple #[.int .i64 c, .int .i64 0]) W))) (C5 : Hid (∀ W, Calls Try.prog 8 #[.int .i64 y, .int .i64 r] W (Gives (.tuple #[.int .i64 d, .int .i64 0]) W)))
    (d1 : decide (b < a) = false) (d2 : decide (wrap64 (s + 2) < wrap64 (x - a)) = false) (d3 : decide (wrap64 (s + 2) < wrap64 (b - x)) = false) (d4 : decide (wrap64 (x + 1) < a) = false) (d5 : decide (b < wrap64 (x - 1)) = false)
    (d6 : decide (y < x) = false) (d7 : decide (a ≤ c) = true) (d8 : decide (b ≤ d) = true) :
    Calls Try.prog 3 #[.int .i64 x, .int .i64 y, .int .i64 r] w fun e w' => e = .returned (.bool true) ∧ Below w.heap.size w w' := by
  go_enter Try.func3, Try.ntmps3
  go_wp2_with fail
  refine (alive_any _).mono ?_
  rintro _ w1 ⟨rfl, hb1⟩
  have B1 := Lib.hid hb1
  go_wp2_with fail
  refine (C1.out _).mono ?_
  rintro _ w2 ⟨rfl, hb2⟩
  have B2 := Lib.hid (bnext B1.out B1.out.size hb2)
  go_wp2_with fail
  refine (C2.out _).mono ?_
  rintro _ w3 ⟨rfl, hb3⟩
  have B3 := Lib.hid (bnext B2.out B2.out.size hb3)
  clear hb1 hb2 hb3 B1 B2
  go_wp2_with fail
  refine (C3.out _).mono ?_
  rintro _ w4 ⟨rfl, hb4⟩
  have B4 := Lib.hid (bnext B3.out B3.out.size hb4)
  go_wp2_with fail
  refine (C4.out _).mono ?_
  rintro _ w5 ⟨rfl, hb5⟩
  have B5 := Lib.hid (bnext B4.out B4.out.size hb5)
  go_wp2_with fail
  refine (C5.out _).mono ?_
  rintro _ w6 ⟨rfl, hb6⟩
  have B6 := Lib.hid (bnext B5.out B5.out.size hb6)
  clear hb4 hb5 hb6 B3 B4 B5
  go_wp2
  go_ret
  exact ⟨by simp, B6.out⟩
theorem slack_of {a r : Int} (h1 : 0 ≤ r) (h2 : r ≤ 100000) (ha : 0 ≤ a) (hb : a ≤ 4611686018427387904) : a * r ≤ slackI a r * (1000000 - r) ∧ 0 ≤ slackI a r ∧ slackI a r ≤ 4611686018427387904 := by
  have hu := up_spec (p := a * r) (c := 1000000 - r) (by omega)
  have hxr : 0 ≤ a * r := Int.mul_nonneg ha h1
  have hxr2 : a * r ≤ a * 100000 := Int.mul_le_mul_of_nonneg_left h2 ha
  unfold slackI
  have hq0 : -1 < ratM (a * r) (1000000 - r) true := lt_of_mul (c := 1000000 - r) (by omega) (by omega)
  have hq1 : ratM (a * r) (1000000 - r) true ≤ 4611686018427387904 := le_of_mul (c := 1000000 - r) (by omega) (by omega)
  exact ⟨hu.1, by omega, hq1⟩
theorem rises_any (x y r : Int) (w : World) (hx : InI x) (hy : InI y) :
    Calls Try.prog 3 #[.int .i64 x, .int .i64 y, .int .i64 r] w fun e w' => e = .returned (.bool true) ∧ Below w.heap.size w w' := by
  have C1 := Lib.hid fun W => low_any x r W
  have C2 := Lib.hid fun W => high_any x r W hx
  rcases lowE_cases x r with ⟨e, a1, a2, h1, h2⟩ | ⟨e, -⟩
  · rw [e, show lowV x r = lowI x r from if_pos e] at C1
    rw [e, show highV x r = highI x r from if_pos e] at C2
    have hm : max x (wrap64 (-x)) = if x < 0 then -x else x := by
      rw [show wrap64 (-x) = -x from IntWalk.wrap64_in _ (by omega)]
      split <;> omega
    have em : slackE (if x < 0 then -x else x) r = 0 := if_pos (by split <;> omega)
    have C3 := Lib.hid fun W => slack_any (if x < 0 then -x else x) r W
    rw [em, show slackV (if x < 0 then -x else x) r = slackI (if x < 0 then -x else x) r from if_pos em, ← hm] at C3
    have hs := slack_of (a := if x < 0 then -x else x) h1 h2 (by split <;> omega) (by split <;> omega)
    rw [← hm] at hs
    obtain ⟨n1, n2⟩ := low_near (x := x) h1 h2
    obtain ⟨n3, n4⟩ := low_near (x := -x) h1 h2
    rw [← hm] at n2
    have hm2 : (if -x < 0 then -(-x) else -x) = max x (wrap64 (-x)) := by rw [hm]; split <;> split <;> omega
    rw [hm2] at n4
    have k1 := n2 _ hs.1
    have k2 := n4 _ hs.1
    have k3 := low_high (x := x) h1 h2
    have k4 := low_small ⟨a1, a2⟩ h1 h2
    have k5 := low_small (x := -x) ⟨by omega, by omega⟩ h1 h2
    have eh : highI x r = -(lowI (-x) r) := rfl
    generalize slackI (max x (wrap64 (-x))) r = s at *
    have w1 : wrap64 (s + 2) = s + 2 := IntWalk.wrap64_in _ (by omega)
    have w2 : wrap64 (x - lowI x r) = x - lowI x r := IntWalk.wrap64_in _ (by omega)
    have w3 : wrap64 (highI x r - x) = highI x r - x := IntWalk.wrap64_in _ (by omega)
    have w4 : wrap64 (x + 1) = x + 1 := IntWalk.wrap64_in _ (by omega)
    have w5 : wrap64 (x - 1) = x - 1 := IntWalk.wrap64_in _ (by omega)
    have d1 : decide (highI x r < lowI x r) = false := decide_eq_false (by omega)
    have d2 : decide (wrap64 (s + 2) < wrap64 (x - lowI x r)) = false := decide_eq_false (by omega)
    have d3 : decide (wrap64 (s + 2) < wrap64 (highI x r - x)) = false := decide_eq_false (by omega)
    have d4 : decide (wrap64 (x + 1) < lowI x r) = false := decide_eq_false (by omega)
    have d5 : decide (highI x r < wrap64 (x - 1)) = false := decide_eq_false (by omega)
    have C4 := Lib.hid fun W => low_any y r W
    have C5 := Lib.hid fun W => high_any y r W hy
    rcases lowE_cases y r with ⟨f, b1, b2, -, -⟩ | ⟨f, -⟩
    · rw [f, show lowV y r = lowI y r from if_pos f] at C4
      rw [f, show highV y r = highI y r from if_pos f] at C5
      by_cases hyx : y < x
      · exact rises_less x y r _ _ s _ _ w C1 C2 C3 C4 C5 d1 d2 d3 d4 d5 (decide_eq_true hyx)
      · exact rises_more x y r _ _ s _ _ w C1 C2 C3 C4 C5 d1 d2 d3 d4 d5 (decide_eq_false hyx) (decide_eq_true (low_mono (by omega) h1 h2)) (decide_eq_true (high_mono (by omega) h1 h2))
    · rw [f] at C4 C5
      exact rises_yout x y r _ _ s _ _ 11 w C1 C2 C3 C4 C5 d1 d2 d3 d4 d5 (by decide)
  · rw [e] at C1 C2
    exact rises_out x y r _ _ 11 w C1 C2 (by decide)
end Go.Proofs.Ytodjlnfpigmegaa
