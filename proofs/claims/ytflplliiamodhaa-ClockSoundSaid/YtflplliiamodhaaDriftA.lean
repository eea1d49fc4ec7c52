/- drift.Low, High, Slack, isRate, isTime: for every input. -/
import Derived.Test.YtflplliiamodhaaDriftN
import Derived.Test.YtflplliiamodhaaSafeC
namespace Go.Proofs.Ytflplliiamodhaa
open Go.RowKit
set_option linter.unusedVariables false

theorem rat_ratM (p c : Int) (up : Bool) : rat p c up = ratM p c up := rfl
theorem ratio_gives (a b c Z : Int) (up : Bool) (w : World) (ha : InI a) (hb : InI b) (hc : 1 ≤ c ∧ c ≤ 9223372036854775807) (hz : InI (ratM (a * b) c up)) (hZ : ratM (a * b) c up = Z) :
    Calls Try.prog 60 #[.int .i64 a, .int .i64 b, .int .i64 c, .bool up] w (Gives (.tuple #[.int .i64 Z, .int .i64 0]) w) := by
  refine (ratio_any a b c up w ha hb hc).mono fun e w' ⟨he, n, hw⟩ => ?_
  subst hZ
  rw [rat_ratM, vI_in hz, eI_in hz] at he
  subst hw
  exact ⟨he, below_drewN (Below.refl _ _) n⟩
theorem israte_any (r : Int) (b : Bool) (hb : rateB r = b) (w : World) : Calls Try.prog 55 #[.int .i64 r] w (Gives (.bool b) w) := by
  have HB := Lib.hid hb
  clear hb
  go_enter Try.func55, Try.ntmps55
  go_wp2
  all_goals
    go_ret
    exact ⟨ret_bool (by rw [← HB.out]; unfold rateB; rw [Bool.eq_iff_iff]; simp; try omega), Below.refl _ _⟩
theorem istime_any (t : Int) (b : Bool) (hb : timeB t = b) (w : World) : Calls Try.prog 78 #[.int .i64 t] w (Gives (.bool b) w) := by
  have HB := Lib.hid hb
  clear hb
  go_enter Try.func78, Try.ntmps78
  go_wp2
  all_goals
    go_ret
    exact ⟨ret_bool (by rw [← HB.out]; unfold timeB; rw [Bool.eq_iff_iff]; simp; try omega), Below.refl _ _⟩
theorem low_far1 (x r : Int) (w : World) (d1 : decide (x < -4611686018427387904) = true) :
    Calls Try.prog 61 #[.int .i64 x, .int .i64 r] w (Gives (.tuple #[.int .i64 0, .int .i64 11]) w) := by
  go_enter Try.func61, Try.ntmps61
  go_wp2
  go_ret2
  exact ⟨rfl, Below.refl _ _⟩
theorem low_far2 (x r : Int) (w : World) (d1 : decide (x < -4611686018427387904) = false) (d2 : decide (4611686018427387904 < x) = true) :
    Calls Try.prog 61 #[.int .i64 x, .int .i64 r] w (Gives (.tuple #[.int .i64 0, .int .i64 11]) w) := by
  go_enter Try.func61, Try.ntmps61
  go_wp2
  go_ret2
  exact ⟨rfl, Below.refl _ _⟩
theorem low_norate (x r : Int) (w : World) (d1 : decide (x < -4611686018427387904) = false) (d2 : decide (4611686018427387904 < x) = false) (hr : rateB r = false) :
    Calls Try.prog 61 #[.int .i64 x, .int .i64 r] w (Gives (.tuple #[.int .i64 0, .int .i64 11]) w) := by
  have C := Lib.hid fun W => israte_any r false hr W
  clear hr
  go_enter Try.func61, Try.ntmps61
  go_wp2_with fail
  refine (C.out _).mono ?_
  rintro _ w1 ⟨rfl, hb1⟩
  go_wp2
  go_ret2
  exact ⟨rfl, hb1⟩
theorem low_up (x r y c q z : Int) (w : World) (d1 : decide (x < -4611686018427387904) = false) (d2 : decide (4611686018427387904 < x) = false) (hr : rateB r = true) (d3 : decide (0 < x) = true)
    (e1 : wrap64 (x - 1) = y) (e2 : wrap64 (1000000 + r) = c)
    (Cr : Hid (∀ W, Calls Try.prog 60 #[.int .i64 y, .int .i64 1000000, .int .i64 c, .bool true] W (Gives (.tuple #[.int .i64 q, .int .i64 0]) W))) (hz : max 1 q = z) :
    Calls Try.prog 61 #[.int .i64 x, .int .i64 r] w (Gives (.tuple #[.int .i64 z, .int .i64 0]) w) := by
  have C := Lib.hid fun W => israte_any r true hr W
  have HZ := Lib.hid hz
  have E1 := Lib.hid e1
  have E2 := Lib.hid e2
  clear hr hz e1 e2
  go_enter Try.func61, Try.ntmps61
  go_wp2_with fail
  refine (C.out _).mono ?_
  rintro _ w1 ⟨rfl, hb1⟩
  go_wp2_with fail
  rw [E1.out, E2.out]
  refine (Cr.out _).mono ?_
  rintro _ w2 ⟨rfl, hb2⟩
  have B := Lib.hid (bnext hb1 hb1.size hb2)
  clear hb1 hb2
  go_wp2
  go_ret2
  exact ⟨ret2 (by first | exact HZ.out | (rw [← HZ.out]; simp)) rfl, B.out⟩
theorem low_down (x r y c q z : Int) (w : World) (d1 : decide (x < -4611686018427387904) = false) (d2 : decide (4611686018427387904 < x) = false) (hr : rateB r = true) (d3 : decide (0 < x) = false)
    (e1 : wrap64 (1 - x) = y) (e2 : wrap64 (1000000 - r) = c)
    (Cr : Hid (∀ W, Calls Try.prog 60 #[.int .i64 y, .int .i64 1000000, .int .i64 c, .bool false] W (Gives (.tuple #[.int .i64 q, .int .i64 0]) W))) (hz : wrap64 (-q) = z) :
    Calls Try.prog 61 #[.int .i64 x, .int .i64 r] w (Gives (.tuple #[.int .i64 z, .int .i64 0]) w) := by
  have C := Lib.hid fun W => israte_any r true hr W
  have HZ := Lib.hid hz
  have E1 := Lib.hid e1
  have E2 := Lib.hid e2
  clear hr hz e1 e2
  go_enter Try.func61, Try.ntmps61
  go_wp2_with fail
  refine (C.out _).mono ?_
  rintro _ w1 ⟨rfl, hb1⟩
  go_wp2_with fail
  rw [E1.out, E2.out]
  refine (Cr.out _).mono ?_
  rintro _ w2 ⟨rfl, hb2⟩
  have B := Lib.hid (bnext hb1 hb1.size hb2)
  clear hb1 hb2
  go_wp2
  go_ret2
  exact ⟨ret2 HZ.out rfl, B.out⟩
theorem low_small {x r : Int} (hx : -4611686018427387904 ≤ x ∧ x ≤ 4611686018427387904) (h1 : 0 ≤ r) (h2 : r ≤ 100000) : -6000000000000000000 ≤ lowI x r ∧ lowI x r ≤ 6000000000000000000 := by
  obtain ⟨a, -⟩ := low_near (x := x) h1 h2
  refine ⟨?_, by omega⟩
  by_cases h : 0 < x
  · obtain ⟨q, e, -⟩ := low_pos h h1
    rw [e]; omega
  · obtain ⟨q, e, a1, a2⟩ := low_neg h h2
    have : q ≤ 6000000000000000000 := by
      refine le_of_mul (c := 1000000 - r) (by omega) ?_
      omega
    rw [e]; omega
theorem low_any (x r : Int) (w : World) : Calls Try.prog 61 #[.int .i64 x, .int .i64 r] w (Gives (.tuple #[.int .i64 (lowV x r), .int .i64 (lowE x r)]) w) := by
  rcases lowE_cases x r with ⟨e, a1, a2, h1, h2⟩ | ⟨e, h⟩
  · rw [show lowV x r = lowI x r from if_pos e, e]
    have d1 : decide (x < -4611686018427387904) = false := decide_eq_false (by omega)
    have d2 : decide (4611686018427387904 < x) = false := decide_eq_false (by omega)
    have hr : rateB r = true := decide_eq_true ⟨h1, h2⟩
    have hs := low_small ⟨a1, a2⟩ h1 h2
    by_cases h : 0 < x
    · have hl : lowI x r = max 1 (ratM ((x - 1) * 1000000) (1000000 + r) true) := if_pos h
      have hu := up_spec (p := (x - 1) * 1000000) (c := 1000000 + r) (by omega)
      obtain ⟨q, hq⟩ : ∃ q, ratM ((x - 1) * 1000000) (1000000 + r) true = q := ⟨_, rfl⟩
      rw [hq] at hl hu
      have hq0 : 0 ≤ q := by
        have := lt_of_mul (a := 0) (b := q + 1) (c := 1000000 + r) (by omega) (by rw [Int.add_mul, Int.one_mul]; omega)
        omega
      refine low_up x r (x - 1) (1000000 + r) q _ w d1 d2 hr (decide_eq_true h) (IntWalk.wrap64_in _ (by omega)) (IntWalk.wrap64_in _ (by omega)) (Lib.hid fun W => ?_) hl.symm
      exact ratio_gives (x - 1) 1000000 (1000000 + r) q true W (by unfold InI; omega) (by unfold InI; omega) (by omega) (by rw [hq]; unfold InI; omega) hq
    · have hl : lowI x r = -(ratM ((1 - x) * 1000000) (1000000 - r) false) := if_neg h
      obtain ⟨q, hq⟩ : ∃ q, ratM ((1 - x) * 1000000) (1000000 - r) false = q := ⟨_, rfl⟩
      rw [hq] at hl
      refine low_down x r (1 - x) (1000000 - r) q _ w d1 d2 hr (decide_eq_false h) (IntWalk.wrap64_in _ (by omega)) (IntWalk.wrap64_in _ (by omega)) (Lib.hid fun W => ?_) (by rw [hl]; exact IntWalk.wrap64_in _ (by omega))
      exact ratio_gives (1 - x) 1000000 (1000000 - r) q false W (by unfold InI; omega) (by unfold InI; omega) (by omega) (by rw [hq]; unfold InI; omega) hq
  · rw [show lowV x r = 0 from if_neg (by rw [e]; decide), e]
    by_cases a1 : x < -4611686018427387904
    · exact low_far1 x r w (decide_eq_true a1)
    · by_cases a2 : 4611686018427387904 < x
      · exact low_far2 x r w (decide_eq_false a1) (decide_eq_true a2)
      · exact low_norate x r w (decide_eq_false a1) (decide_eq_false a2) (decide_eq_false (by omega))
theorem high_walk (x r y v e z : Int) (w : World) (e1 : wrap64 (-x) = y) (C : Hid (∀ W, Calls Try.prog 61 #[.int .i64 y, .int .i64 r] W (Gives (.tuple #[.int .i64 v, .int .i64 e]) W))) (hz : wrap64 (-v) = z) :
    Calls Try.prog 62 #[.int .i64 x, .int .i64 r] w (Gives (.tuple #[.int .i64 z, .int .i64 e]) w) := by
  have HZ := Lib.hid hz
  have E1 := Lib.hid e1
  clear hz e1
  go_enter Try.func62, Try.ntmps62
  go_wp2_with fail
  rw [E1.out]
  refine (C.out _).mono ?_
  rintro _ w1 ⟨rfl, hb1⟩
  go_wp2
  go_ret2
  exact ⟨ret2 HZ.out rfl, hb1⟩
theorem high_any (x r : Int) (w : World) (hx : InI x) : Calls Try.prog 62 #[.int .i64 x, .int .i64 r] w (Gives (.tuple #[.int .i64 (highV x r), .int .i64 (lowE x r)]) w) := by
  by_cases hm : x = -9223372036854775808
  · subst hm
    have e : lowE (-9223372036854775808) r = 11 := by unfold lowE; rw [if_neg (by omega)]
    have v : lowV (-9223372036854775808) r = 0 := if_neg (by rw [e]; decide)
    rw [show highV (-9223372036854775808) r = 0 from if_neg (by rw [e]; decide)]
    refine high_walk _ r (-9223372036854775808) (lowV (-9223372036854775808) r) _ 0 w (by decide +kernel) (Lib.hid fun W => low_any _ r W) (by rw [v]; decide +kernel)
  · have h2 : wrap64 (-x) = -x := IntWalk.wrap64_in _ (by unfold InI at hx; omega)
    refine high_walk x r (-x) (lowV (-x) r) _ _ w h2 (Lib.hid fun W => by have h := low_any (-x) r W; rwa [lowE_neg] at h) ?_
    unfold highV highI lowV
    rw [lowE_neg]
    rcases lowE_cases x r with ⟨e, a1, a2, h1, h2⟩ | ⟨e, h⟩
    · have hs := low_small (x := -x) ⟨by omega, by omega⟩ h1 h2
      rw [if_pos e, if_pos e]
      exact IntWalk.wrap64_in _ (by omega)
    · rw [if_neg (by rw [e]; decide), if_neg (by rw [e]; decide)]
      decide +kernel
theorem slack_far1 (x r : Int) (w : World) (d1 : decide (x < 0) = true) :
    Calls Try.prog 28 #[.int .i64 x, .int .i64 r] w (Gives (.tuple #[.int .i64 0, .int .i64 11]) w) := by
  go_enter Try.func28, Try.ntmps28
  go_wp2
  go_ret2
  exact ⟨rfl, Below.refl _ _⟩
theorem slack_far2 (x r : Int) (w : World) (d1 : decide (x < 0) = false) (d2 : decide (4611686018427387904 < x) = true) :
    Calls Try.prog 28 #[.int .i64 x, .int .i64 r] w (Gives (.tuple #[.int .i64 0, .int .i64 11]) w) := by
  go_enter Try.func28, Try.ntmps28
  go_wp2
  go_ret2
  exact ⟨rfl, Below.refl _ _⟩
theorem slack_norate (x r : Int) (w : World) (d1 : decide (x < 0) = false) (d2 : decide (4611686018427387904 < x) = false) (hr : rateB r = false) :
    Calls Try.prog 28 #[.int .i64 x, .int .i64 r] w (Gives (.tuple #[.int .i64 0, .int .i64 11]) w) := by
  have C := Lib.hid fun W => israte_any r false hr W
  clear hr
  go_enter Try.func28, Try.ntmps28
  go_wp2_with fail
  refine (C.out _).mono ?_
  rintro _ w1 ⟨rfl, hb1⟩
  go_wp2
  go_ret2
  exact ⟨rfl, hb1⟩
theorem slack_in (x r c q : Int) (w : World) (d1 : decide (x < 0) = false) (d2 : decide (4611686018427387904 < x) = false) (hr : rateB r = true)
    (e2 : wrap64 (1000000 - r) = c) (Cr : Hid (∀ W, Calls Try.prog 60 #[.int .i64 x, .int .i64 r, .int .i64 c, .bool true] W (Gives (.tuple #[.int .i64 q, .int .i64 0]) W))) :
    Calls Try.prog 28 #[.int .i64 x, .int .i64 r] w (Gives (.tuple #[.int .i64 q, .int .i64 0]) w) := by
  have C := Lib.hid fun W => israte_any r true hr W
  have E2 := Lib.hid e2
  clear hr e2
  go_enter Try.func28, Try.ntmps28
  go_wp2_with fail
  refine (C.out _).mono ?_
  rintro _ w1 ⟨rfl, hb1⟩
  go_wp2_with fail
  rw [E2.out]
  refine (Cr.out _).mono ?_
  rintro _ w2 ⟨rfl, hb2⟩
  have B := Lib.hid (bnext hb1 hb1.size hb2)
  clear hb1 hb2
  go_wp2
  go_ret2
  exact ⟨rfl, B.out⟩
theorem slackE_cases (x r : Int) : (slackE x r = 0 ∧ (0 ≤ x ∧ x ≤ 4611686018427387904 ∧ 0 ≤ r ∧ r ≤ 100000)) ∨ (slackE x r = 11 ∧ ¬ (0 ≤ x ∧ x ≤ 4611686018427387904 ∧ 0 ≤ r ∧ r ≤ 100000)) := by
  unfold slackE
  split
  · exact .inl ⟨rfl, by assumption⟩
  · exact .inr ⟨rfl, by assumption⟩
theorem slack_any (x r : Int) (w : World) : Calls Try.prog 28 #[.int .i64 x, .int .i64 r] w (Gives (.tuple #[.int .i64 (slackV x r), .int .i64 (slackE x r)]) w) := by
  rcases slackE_cases x r with ⟨e, a1, a2, h1, h2⟩ | ⟨e, h⟩
  · rw [show slackV x r = slackI x r from if_pos e, e]
    have hu := up_spec (p := x * r) (c := 1000000 - r) (by omega)
    have hxr : 0 ≤ x * r := Int.mul_nonneg a1 h1
    have hxr2 : x * r ≤ x * 100000 := Int.mul_le_mul_of_nonneg_left h2 a1
    obtain ⟨q, hq⟩ : ∃ q, ratM (x * r) (1000000 - r) true = q := ⟨_, rfl⟩
    have hq0 : -1 < q := lt_of_mul (c := 1000000 - r) (by omega) (by rw [hq] at hu; omega)
    have hq1 : q ≤ 4611686018427387904 := by
      refine le_of_mul (c := 1000000 - r) (by omega) ?_
      rw [hq] at hu
      omega
    rw [show slackI x r = q from hq]
    refine slack_in x r (1000000 - r) q w (decide_eq_false (by omega)) (decide_eq_false (by omega)) (decide_eq_true ⟨h1, h2⟩) (IntWalk.wrap64_in _ (by omega)) (Lib.hid fun W => ?_)
    exact ratio_gives x r (1000000 - r) q true W (by unfold InI; omega) (by unfold InI; omega) (by omega) (by rw [hq]; unfold InI; omega) hq
  · rw [show slackV x r = 0 from if_neg (by rw [e]; decide), e]
    by_cases a1 : x < 0
    · exact slack_far1 x r w (decide_eq_true a1)
    · by_cases a2 : 4611686018427387904 < x
      · exact slack_far2 x r w (decide_eq_false a1) (decide_eq_true a2)
      · exact slack_norate x r w (decide_eq_false a1) (decide_eq_false a2) (decide_eq_false (by omega))
end Go.Proofs.Ytflplliiamodhaa
