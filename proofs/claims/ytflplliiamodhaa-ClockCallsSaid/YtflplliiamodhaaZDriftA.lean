import Derived.Test.YtflplliiamodhaaZDivMath
import Derived.Test.YtflplliiamodhaaZDiv64
/- safe.Ratio, for every input. -/
namespace Go.Proofs.Ytflplliiamodhaa
open Go.RowKit
set_option linter.unusedVariables false

/-- a * b / c, rounded up or down -/
def rat (p c : Int) (up : Bool) : Int := if up then -((-p) / c) else p / c
theorem ediv_of {N c q r : Int} (h : 0 ≤ r ∧ r < c) (e : N = q * c + r) : N / c = q := by
  rw [e, Int.add_comm, Int.add_mul_ediv_right _ _ (by omega), Int.ediv_eq_zero_of_lt h.1 h.2]; omega
theorem rat_sg (m c : Nat) (hc : 1 ≤ c) (neg up : Bool) : rat (sg (m : Int) neg) c up = sg (((if (m % c == 0 || up == neg) then m / c else m / c + 1 : Nat) : Int)) neg := by
  have e := Nat.div_add_mod m c
  have l := Nat.mod_lt m (show c > 0 by omega)
  have E : (m : Int) = ((m / c : Nat) : Int) * (c : Int) + ((m % c : Nat) : Int) := by rw [← Int.natCast_mul, ← Int.natCast_add, Nat.mul_comm]; exact congrArg _ e.symm
  have key : ∀ z : Bool, (m % c == 0) = z → ((m : Int) / c = ((m / c : Nat) : Int)) ∧ ((-(m : Int)) / c = -(((if z then m / c else m / c + 1 : Nat) : Int))) := by
    intro z hz
    refine ⟨ediv_of (r := ((m % c : Nat) : Int)) (by omega) E, ?_⟩
    cases z
    · have hr : m % c ≠ 0 := by simpa using hz
      refine ediv_of (r := (c : Int) - ((m % c : Nat) : Int)) (by omega) ?_
      rw [if_neg (by simp), Int.neg_mul, Int.natCast_add, Int.add_mul]
      omega
    · have hr : m % c = 0 := by simpa using hz
      refine ediv_of (r := 0) (by omega) ?_
      rw [if_pos rfl, Int.neg_mul]
      omega
  obtain ⟨k1, k2⟩ := key _ rfl
  unfold rat sg
  cases hz : (m % c == 0) <;> cases neg <;> cases up <;> simp [hz] at k2 ⊢ <;> omega

set_option maxHeartbeats 1000000 in
theorem ratio_small (a b c : Int) (up : Bool) (w : World) (hc : c < 1) :
    Calls Try.prog 60 #[.int .i64 a, .int .i64 b, .int .i64 c, .bool up] w fun e w' => e = .returned (.tuple #[.int .i64 0, .int .i64 11]) ∧ w = w' := by
  go_enter Try.func60, Try.ntmps60
  go_wp2
  go_ret2
  exact ⟨rfl, rfl⟩
set_option maxHeartbeats 1000000 in
theorem ratio_over (a b c : Int) (up : Bool) (w : World) (x y hi lo : Nat) (hc : 1 ≤ c ∧ c ≤ 9223372036854775807) (hh : c ≤ (hi : Int)) (h0 : hi < 18446744073709551616)
    (Ca : Hid (∀ w, Calls Try.prog 89 #[.int .i64 a] w fun e w' => e = .returned (.int .u64 (x : Int)) ∧ w = w'))
    (Cb : Hid (∀ w, Calls Try.prog 89 #[.int .i64 b] w fun e w' => e = .returned (.int .u64 (y : Int)) ∧ w = w'))
    (Cm : Hid (∀ w, Calls Try.prog 88 #[.int .u64 (x : Int), .int .u64 (y : Int)] w fun e w' => e = .returned (.tuple #[.int .u64 (hi : Int), .int .u64 (lo : Int)]) ∧ w' = w)) :
    Calls Try.prog 60 #[.int .i64 a, .int .i64 b, .int .i64 c, .bool up] w fun e w' => e = .returned (.tuple #[.int .i64 0, .int .i64 12]) ∧ w = w' := by
  go_enter Try.func60, Try.ntmps60
  go_wp2_with (first | (go_at_call_of 89 (Value.int IntKind.i64 a); refine (Ca.out _).mono ?_; rintro e w' ⟨rfl, rfl⟩) | (go_at_call_of 89 (Value.int IntKind.i64 b); refine (Cb.out _).mono ?_; rintro e w' ⟨rfl, rfl⟩) | (go_at_call 88; refine (Cm.out _).mono ?_; rintro e w' ⟨rfl, hw⟩; subst hw))
  go_ret2
  exact ⟨rfl, rfl⟩
/-- what stands behind the division -/
def ratEnd (q r : Nat) (neg up : Bool) : Nat := if (r == 0 || up == neg) then q else q + 1
theorem sg_over {n : Int} {neg : Bool} (h : n = 18446744073709551616) : ¬ InI (sg n neg) := sg_out (by omega)
def RatPost (v : Nat) (neg : Bool) (w : World) (e : Ending) (w' : World) : Prop := e = .returned (.tuple #[.int .i64 (vI (sg (v : Int) neg)), .int .i64 (eI (sg (v : Int) neg))]) ∧ ∃ n, w' = w.drewN n
set_option maxHeartbeats 2000000 in
theorem ratio_walk (a b c : Int) (up : Bool) (w : World) (x y hi lo q r : Nat) (hc : 1 ≤ c ∧ c ≤ 9223372036854775807) (hh : (hi : Int) < c)
    (Ca : Hid (∀ w, Calls Try.prog 89 #[.int .i64 a] w fun e w' => e = .returned (.int .u64 (x : Int)) ∧ w = w'))
    (Cb : Hid (∀ w, Calls Try.prog 89 #[.int .i64 b] w fun e w' => e = .returned (.int .u64 (y : Int)) ∧ w = w'))
    (Cm : Hid (∀ w, Calls Try.prog 88 #[.int .u64 (x : Int), .int .u64 (y : Int)] w fun e w' => e = .returned (.tuple #[.int .u64 (hi : Int), .int .u64 (lo : Int)]) ∧ w' = w))
    (Cd : Hid (∀ w, Calls Try.prog 90 #[.int .u64 (hi : Int), .int .u64 (lo : Int), .int .u64 c] w fun e w' => e = .returned (.tuple #[.int .u64 (q : Int), .int .u64 (r : Int)]) ∧ ∃ n, w' = w.drewN n))
    (hq : q < 18446744073709551616) (neg : Bool) (hneg : (decide (a < 0) != decide (b < 0)) = neg) :
    Calls Try.prog 60 #[.int .i64 a, .int .i64 b, .int .i64 c, .bool up] w fun e w' => RatPost (ratEnd q r neg up) neg w e w' := by
  have Cs := Lib.hid (fun n h neg w => signed_any n h neg w)
  by_cases hr : r = 0
  · subst hr
    have fin : ∀ n, RatPost (ratEnd q 0 neg up) neg w (.returned (.tuple #[.int .i64 (vI (sg (q : Int) neg)), .int .i64 (eI (sg (q : Int) neg))])) (w.drewN n) := fun n => ⟨rfl, n, rfl⟩
    have Fin := Lib.hid fin
    clear fin
    cases ha : decide (a < 0) <;> cases hb : decide (b < 0) <;> cases neg <;> simp only [ha, hb] at hneg <;> simp at hneg
    all_goals
      go_enter Try.func60, Try.ntmps60
      go_wp2_with (first | (go_at_call_of 89 (Value.int IntKind.i64 a); refine (Ca.out _).mono ?_; rintro e w' ⟨rfl, rfl⟩) | (go_at_call_of 89 (Value.int IntKind.i64 b); refine (Cb.out _).mono ?_; rintro e w' ⟨rfl, rfl⟩) | (go_at_call 88; refine (Cm.out _).mono ?_; rintro e w' ⟨rfl, hw⟩; subst hw) | (go_at_call 90; refine (Cd.out _).mono ?_; rintro e w' ⟨rfl, n, hw⟩; subst hw) | (go_at_call 91; refine (Cs.out _ (by omega) _ _).mono ?_; rintro e w' ⟨rfl, rfl⟩))
      go_ret2
      exact Fin.out _
  · have hr0 : ((r : Int) == 0) = false := by simp; omega
    by_cases hun : up = neg
    · subst hun
      have fin : ∀ n, RatPost (ratEnd q r up up) up w (.returned (.tuple #[.int .i64 (vI (sg (q : Int) up)), .int .i64 (eI (sg (q : Int) up))])) (w.drewN n) := fun n => ⟨by simp [ratEnd], n, rfl⟩
      have Fin := Lib.hid fin
      clear fin
      cases ha : decide (a < 0) <;> cases hb : decide (b < 0) <;> cases up <;> simp only [ha, hb] at hneg <;> simp at hneg
      all_goals
        go_enter Try.func60, Try.ntmps60
        go_wp2_with (first | (go_at_call_of 89 (Value.int IntKind.i64 a); refine (Ca.out _).mono ?_; rintro e w' ⟨rfl, rfl⟩) | (go_at_call_of 89 (Value.int IntKind.i64 b); refine (Cb.out _).mono ?_; rintro e w' ⟨rfl, rfl⟩) | (go_at_call 88; refine (Cm.out _).mono ?_; rintro e w' ⟨rfl, hw⟩; subst hw) | (go_at_call 90; refine (Cd.out _).mono ?_; rintro e w' ⟨rfl, n, hw⟩; subst hw) | (go_at_call 91; refine (Cs.out _ (by omega) _ _).mono ?_; rintro e w' ⟨rfl, rfl⟩))
        go_ret2
        exact Fin.out _
    · have HN : Hid (ratEnd q r neg up = q + 1) := Lib.hid (by unfold ratEnd; rw [if_neg]; simp [hr, hun])
      have fin1 : ∀ n, ((q : Int) == 18446744073709551615) = true → RatPost (ratEnd q r neg up) neg w (.returned (.tuple #[.int .i64 0, .int .i64 12])) (w.drewN n) := fun n hm => by
        have hm := WalkArith.int_eq hm
        have ho : ¬ InI (sg ((q + 1 : Nat) : Int) neg) := sg_over (by omega)
        rw [HN.out]
        exact ⟨by rw [vI_out ho, eI_out ho], n, rfl⟩
      have fin2 : ∀ n, ((q : Int) == 18446744073709551615) = false → RatPost (ratEnd q r neg up) neg w (.returned (.tuple #[.int .i64 (vI (sg (IntKind.u64.wrap ((q : Int) + 1)) neg)), .int .i64 (eI (sg (IntKind.u64.wrap ((q : Int) + 1)) neg))])) (w.drewN n) := fun n hm => by
        have hm := WalkArith.int_ne hm
        rw [HN.out, IntWalk.u64_in _ (by omega)]
        exact ⟨rfl, n, rfl⟩
      have Fin1 := Lib.hid fin1
      have Fin2 := Lib.hid fin2
      have wb : 0 ≤ IntKind.u64.wrap ((q : Int) + 1) ∧ IntKind.u64.wrap ((q : Int) + 1) ≤ 18446744073709551615 := by rw [IntKind.wrap_u64]; omega
      have Cs2 := Lib.hid (fun neg w => signed_any _ wb neg w)
      clear fin1 fin2 wb hq Cs HN hr
      cases ha : decide (a < 0) <;> cases hb : decide (b < 0) <;> cases neg <;> cases up <;> simp only [ha, hb] at hneg hun <;> simp at hneg hun
      all_goals
        go_enter Try.func60, Try.ntmps60
        go_wp2_with (first | (go_at_call_of 89 (Value.int IntKind.i64 a); refine (Ca.out _).mono ?_; rintro e w' ⟨rfl, rfl⟩) | (go_at_call_of 89 (Value.int IntKind.i64 b); refine (Cb.out _).mono ?_; rintro e w' ⟨rfl, rfl⟩) | (go_at_call 88; refine (Cm.out _).mono ?_; rintro e w' ⟨rfl, hw⟩; subst hw) | (go_at_call 90; refine (Cd.out _).mono ?_; rintro e w' ⟨rfl, n, hw⟩; subst hw) | (go_at_call 91; refine (Cs2.out _ _).mono ?_; rintro e w' ⟨rfl, rfl⟩))
        all_goals go_ret2
        · exact Fin1.out _ (by assumption)
        · exact Fin2.out _ (by assumption)

theorem ratio_any (a b c : Int) (up : Bool) (w : World) (ha : -9223372036854775808 ≤ a ∧ a ≤ 9223372036854775807) (hb : -9223372036854775808 ≤ b ∧ b ≤ 9223372036854775807) (hc : 1 ≤ c ∧ c ≤ 9223372036854775807) :
    Calls Try.prog 60 #[.int .i64 a, .int .i64 b, .int .i64 c, .bool up] w fun e w' =>
      e = .returned (.tuple #[.int .i64 (vI (rat (a * b) c up)), .int .i64 (eI (rat (a * b) c up))]) ∧ ∃ n, w' = w.drewN n := by
  obtain ⟨C, rfl⟩ := Int.eq_ofNat_of_zero_le (show 0 ≤ c by omega)
  rw [mul_abs a b, rat_sg _ C (by omega)]
  have bx : a.natAbs < 18446744073709551616 := by omega
  have by' : b.natAbs < 18446744073709551616 := by omega
  have Ca := Lib.hid (fun w => size_any a w ha)
  have Cb := Lib.hid (fun w => size_any b w hb)
  have Cm := Lib.hid (fun w => Try.bits_Mul64 a.natAbs b.natAbs bx by' w)
  have hm : a.natAbs * b.natAbs < 18446744073709551616 * 18446744073709551616 := by
    have h1 : a.natAbs * b.natAbs ≤ 9223372036854775808 * b.natAbs := Nat.mul_le_mul_right _ (by omega)
    omega
  generalize a.natAbs * b.natAbs = m at *
  have e1 := Nat.div_add_mod m 18446744073709551616
  have e2 := Nat.mod_lt m (show 18446744073709551616 > 0 by omega)
  by_cases h1 : (C : Int) ≤ ((m / 18446744073709551616 : Nat) : Int)
  · refine (ratio_over a b C up w _ _ _ _ hc h1 (by omega) Ca Cb Cm).mono fun e w' ⟨he, hw⟩ => ⟨he.trans ?_, 0, hw.symm⟩
    have h2 : 18446744073709551616 ≤ m / C := by
      rw [Nat.le_div_iff_mul_le (by omega)]
      have : 18446744073709551616 * C ≤ 18446744073709551616 * (m / 18446744073709551616) := Nat.mul_le_mul_left _ (by omega)
      omega
    have ho : ¬ InI (sg (((if (m % C == 0 || up == (decide (a < 0) != decide (b < 0))) then m / C else m / C + 1 : Nat) : Int)) (decide (a < 0) != decide (b < 0))) := sg_out (by split <;> omega)
    exact ret2 (vI_out ho).symm (eI_out ho).symm
  · have hq : m / C < 18446744073709551616 := by
      rw [Nat.div_lt_iff_lt_mul (by omega)]
      have : 18446744073709551616 * (m / 18446744073709551616 + 1) ≤ 18446744073709551616 * C := Nat.mul_le_mul_left _ (by omega)
      omega
    have Cd : Hid (∀ w, Calls Try.prog 90 #[.int .u64 ((m / 18446744073709551616 : Nat) : Int), .int .u64 ((m % 18446744073709551616 : Nat) : Int), .int .u64 (C : Int)] w fun e w' => e = .returned (.tuple #[.int .u64 ((m / C : Nat) : Int), .int .u64 ((m % C : Nat) : Int)]) ∧ ∃ n, w' = w.drewN n) := Lib.hid fun w => by
      by_cases hz : m / 18446744073709551616 = 0
      · rw [hz]
        refine (div64_zero ((m % 18446744073709551616 : Nat) : Int) C w (by omega) (by omega)).mono fun e w' ⟨he, hw⟩ => ⟨he.trans ?_, hw⟩
        rw [show m % 18446744073709551616 = m from by omega, Int.natCast_ediv, Int.natCast_emod]
      · refine (div64_any (m / 18446744073709551616) (m % 18446744073709551616) C w (by omega) (by omega) e2 (by omega)).mono fun e w' ⟨he, hw⟩ => ⟨he.trans ?_, 0, hw.symm⟩
        rw [show m / 18446744073709551616 * 18446744073709551616 + m % 18446744073709551616 = m from by omega]
    exact ratio_walk a b C up w _ _ _ _ _ _ hc (by omega) Ca Cb Cm Cd hq _ rfl
end Go.Proofs.Ytflplliiamodhaa

/- drift.Low, High, Slack, isRate, isTime: for every input. -/
namespace Go.Proofs.Ytflplliiamodhaa
open Go.RowKit
set_option linter.unusedVariables false

theorem rat_ratM (p c : Int) (up : Bool) : rat p c up = ratM p c up := rfl
theorem ratio_gives (a b c Z : Int) (up : Bool) (w : World) (ha : InI a) (hb : InI b) (hc : 1 ≤ c ∧ c ≤ 9223372036854775807) (hz : InI (ratM (a * b) c up)) (hZ : ratM (a * b) c up = Z) :
    Calls Try.prog 60 #[.int .i64 a, .int .i64 b, .int .i64 c, .bool up] w (Gives (.tuple #[.int .i64 Z, .int .i64 0]) w) := by
  refine (ratio_any a b c up w ha hb hc).mono fun e w' ⟨he, n, hw⟩ => ?_
  subst hZ
  rw [rat_ratM, vI_in hz, eI_in hz] at he
  subst hw
  exact ⟨he, below_drewN (Below.refl _ _) n⟩
theorem israte_any (r : Int) (b : Bool) (hb : rateB r = b) (w : World) : Calls Try.prog 55 #[.int .i64 r] w (Gives (.bool b) w) := by
  have HB := Lib.hid hb
  clear hb
  go_enter Try.func55, Try.ntmps55
  go_wp2
  all_goals
    go_ret
    exact ⟨ret_bool (by rw [← HB.out]; unfold rateB; rw [Bool.eq_iff_iff]; simp; try omega), Below.refl _ _⟩
theorem istime_any (t : Int) (b : Bool) (hb : timeB t = b) (w : World) : Calls Try.prog 78 #[.int .i64 t] w (Gives (.bool b) w) := by
  have HB := Lib.hid hb
  clear hb
  go_enter Try.func78, Try.ntmps78
  go_wp2
  all_goals
    go_ret
    exact ⟨ret_bool (by rw [← HB.out]; unfold timeB; rw [Bool.eq_iff_iff]; simp; try omega), Below.refl _ _⟩
theorem low_far1 (x r : Int) (w : World) (d1 : decide (x < -4611686018427387904) = true) :
    Calls Try.prog 61 #[.int .i64 x, .int .i64 r] w (Gives (.tuple #[.int .i64 0, .int .i64 11]) w) := by
  go_enter Try.func61, Try.ntmps61
  go_wp2
  go_ret2
  exact ⟨rfl, Below.refl _ _⟩
theorem low_far2 (x r : Int) (w : World) (d1 : decide (x < -4611686018427387904) = false) (d2 : decide (4611686018427387904 < x) = true) :
    Calls Try.prog 61 #[.int .i64 x, .int .i64 r] w (Gives (.tuple #[.int .i64 0, .int .i64 11]) w) := by
  go_enter Try.func61, Try.ntmps61
  go_wp2
  go_ret2
  exact ⟨rfl, Below.refl _ _⟩
theorem low_norate (x r : Int) (w : World) (d1 : decide (x < -4611686018427387904) = false) (d2 : decide (4611686018427387904 < x) = false) (hr : rateB r = false) :
    Calls Try.prog 61 #[.int .i64 x, .int .i64 r] w (Gives (.tuple #[.int .i64 0, .int .i64 11]) w) := by
  have C := Lib.hid fun W => israte_any r false hr W
  clear hr
  go_enter Try.func61, Try.ntmps61
  go_wp2_with fail
  refine (C.out _).mono ?_
  rintro _ w1 ⟨rfl, hb1⟩
  go_wp2
  go_ret2
  exact ⟨rfl, hb1⟩
theorem low_up (x r y c q z : Int) (w : World) (d1 : decide (x < -4611686018427387904) = false) (d2 : decide (4611686018427387904 < x) = false) (hr : rateB r = true) (d3 : decide (0 < x) = true)
    (e1 : wrap64 (x - 1) = y) (e2 : wrap64 (1000000 + r) = c)
    (Cr : Hid (∀ W, Calls Try.prog 60 #[.int .i64 y, .int .i64 1000000, .int .i64 c, .bool true] W (Gives (.tuple #[.int .i64 q, .int .i64 0]) W))) (hz : max 1 q = z) :
    Calls Try.prog 61 #[.int .i64 x, .int .i64 r] w (Gives (.tuple #[.int .i64 z, .int .i64 0]) w) := by
  have C := Lib.hid fun W => israte_any r true hr W
  have HZ := Lib.hid hz
  have E1 := Lib.hid e1
  have E2 := Lib.hid e2
  clear hr hz e1 e2
  go_enter Try.func61, Try.ntmps61
  go_wp2_with fail
  refine (C.out _).mono ?_
  rintro _ w1 ⟨rfl, hb1⟩
  go_wp2_with fail
  rw [E1.out, E2.out]
  refine (Cr.out _).mono ?_
  rintro _ w2 ⟨rfl, hb2⟩
  have B := Lib.hid (bnext hb1 hb1.size hb2)
  clear hb1 hb2
  go_wp2
  go_ret2
  exact ⟨ret2 (by first | exact HZ.out | (rw [← HZ.out]; simp)) rfl, B.out⟩
theorem low_down (x r y c q z : Int) (w : World) (d1 : decide (x < -4611686018427387904) = false) (d2 : decide (4611686018427387904 < x) = false) (hr : rateB r = true) (d3 : decide (0 < x) = false)
    (e1 : wrap64 (1 - x) = y) (e2 : wrap64 (1000000 - r) = c)
    (Cr : Hid (∀ W, Calls Try.prog 60 #[.int .i64 y, .int .i64 1000000, .int .i64 c, .bool false] W (Gives (.tuple #[.int .i64 q, .int .i64 0]) W))) (hz : wrap64 (-q) = z) :
    Calls Try.prog 61 #[.int .i64 x, .int .i64 r] w (Gives (.tuple #[.int .i64 z, .int .i64 0]) w) := by
  have C := Lib.hid fun W => israte_any r true hr W
  have HZ := Lib.hid hz
  have E1 := Lib.hid e1
  have E2 := Lib.hid e2
  clear hr hz e1 e2
  go_enter Try.func61, Try.ntmps61
  go_wp2_with fail
  refine (C.out _).mono ?_
  rintro _ w1 ⟨rfl, hb1⟩
  go_wp2_with fail
  rw [E1.out, E2.out]
  refine (Cr.out _).mono ?_
  rintro _ w2 ⟨rfl, hb2⟩
  have B := Lib.hid (bnext hb1 hb1.size hb2)
  clear hb1 hb2
  go_wp2
  go_ret2
  exact ⟨ret2 HZ.out rfl, B.out⟩
theorem low_small {x r : Int} (hx : -4611686018427387904 ≤ x ∧ x ≤ 4611686018427387904) (h1 : 0 ≤ r) (h2 : r ≤ 100000) : -6000000000000000000 ≤ lowI x r ∧ lowI x r ≤ 6000000000000000000 := by
  obtain ⟨a, -⟩ := low_near (x := x) h1 h2
  refine ⟨?_, by omega⟩
  by_cases h : 0 < x
  · obtain ⟨q, e, -⟩ := low_pos h h1
    rw [e]; omega
  · obtain ⟨q, e, a1, a2⟩ := low_neg h h2
    have : q ≤ 6000000000000000000 := by
      refine le_of_mul (c := 1000000 - r) (by omega) ?_
      omega
    rw [e]; omega
theorem low_any (x r : Int) (w : World) : Calls Try.prog 61 #[.int .i64 x, .int .i64 r] w (Gives (.tuple #[.int .i64 (lowV x r), .int .i64 (lowE x r)]) w) := by
  rcases lowE_cases x r with ⟨e, a1, a2, h1, h2⟩ | ⟨e, h⟩
  · rw [show lowV x r = lowI x r from if_pos e, e]
    have d1 : decide (x < -4611686018427387904) = false := decide_eq_false (by omega)
    have d2 : decide (4611686018427387904 < x) = false := decide_eq_false (by omega)
    have hr : rateB r = true := decide_eq_true ⟨h1, h2⟩
    have hs := low_small ⟨a1, a2⟩ h1 h2
    by_cases h : 0 < x
    · have hl : lowI x r = max 1 (ratM ((x - 1) * 1000000) (1000000 + r) true) := if_pos h
      have hu := up_spec (p := (x - 1) * 1000000) (c := 1000000 + r) (by omega)
      obtain ⟨q, hq⟩ : ∃ q, ratM ((x - 1) * 1000000) (1000000 + r) true = q := ⟨_, rfl⟩
      rw [hq] at hl hu
      have hq0 : 0 ≤ q := by
        have := lt_of_mul (a := 0) (b := q + 1) (c := 1000000 + r) (by omega) (by rw [Int.add_mul, Int.one_mul]; omega)
        omega
      refine low_up x r (x - 1) (1000000 + r) q _ w d1 d2 hr (decide_eq_true h) (IntWalk.wrap64_in _ (by omega)) (IntWalk.wrap64_in _ (by omega)) (Lib.hid fun W => ?_) hl.symm
      exact ratio_gives (x - 1) 1000000 (1000000 + r) q true W (by unfold InI; omega) (by unfold InI; omega) (by omega) (by rw [hq]; unfold InI; omega) hq
    · have hl : lowI x r = -(ratM ((1 - x) * 1000000) (1000000 - r) false) := if_neg h
      obtain ⟨q, hq⟩ : ∃ q, ratM ((1 - x) * 1000000) (1000000 - r) false = q := ⟨_, rfl⟩
      rw [hq] at hl
      refine low_down x r (1 - x) (1000000 - r) q _ w d1 d2 hr (decide_eq_false h) (IntWalk.wrap64_in _ (by omega)) (IntWalk.wrap64_in _ (by omega)) (Lib.hid fun W => ?_) (by rw [hl]; exact IntWalk.wrap64_in _ (by omega))
      exact ratio_gives (1 - x) 1000000 (1000000 - r) q false W (by unfold InI; omega) (by unfold InI; omega) (by omega) (by rw [hq]; unfold InI; omega) hq
  · rw [show lowV x r = 0 from if_neg (by rw [e]; decide), e]
    by_cases a1 : x < -4611686018427387904
    · exact low_far1 x r w (decide_eq_true a1)
    · by_cases a2 : 4611686018427387904 < x
      · exact low_far2 x r w (decide_eq_false a1) (decide_eq_true a2)
      · exact low_norate x r w (decide_eq_false a1) (decide_eq_false a2) (decide_eq_false (by omega))
theorem high_walk (x r y v e z : Int) (w : World) (e1 : wrap64 (-x) = y) (C : Hid (∀ W, Calls Try.prog 61 #[.int .i64 y, .int .i64 r] W (Gives (.tuple #[.int .i64 v, .int .i64 e]) W))) (hz : wrap64 (-v) = z) :
    Calls Try.prog 62 #[.int .i64 x, .int .i64 r] w (Gives (.tuple #[.int .i64 z, .int .i64 e]) w) := by
  have HZ := Lib.hid hz
  have E1 := Lib.hid e1
  clear hz e1
  go_enter Try.func62, Try.ntmps62
  go_wp2_with fail
  rw [E1.out]
  refine (C.out _).mono ?_
  rintro _ w1 ⟨rfl, hb1⟩
  go_wp2
  go_ret2
  exact ⟨ret2 HZ.out rfl, hb1⟩
theorem high_any (x r : Int) (w : World) (hx : InI x) : Calls Try.prog 62 #[.int .i64 x, .int .i64 r] w (Gives (.tuple #[.int .i64 (highV x r), .int .i64 (lowE x r)]) w) := by
  by_cases hm : x = -9223372036854775808
  · subst hm
    have e : lowE (-9223372036854775808) r = 11 := by unfold lowE; rw [if_neg (by omega)]
    have v : lowV (-9223372036854775808) r = 0 := if_neg (by rw [e]; decide)
    rw [show highV (-9223372036854775808) r = 0 from if_neg (by rw [e]; decide)]
    refine high_walk _ r (-9223372036854775808) (lowV (-9223372036854775808) r) _ 0 w (by decide +kernel) (Lib.hid fun W => low_any _ r W) (by rw [v]; decide +kernel)
  · have h2 : wrap64 (-x) = -x := IntWalk.wrap64_in _ (by unfold InI at hx; omega)
    refine high_walk x r (-x) (lowV (-x) r) _ _ w h2 (Lib.hid fun W => by have h := low_any (-x) r W; rwa [lowE_neg] at h) ?_
    unfold highV highI lowV
    rw [lowE_neg]
    rcases lowE_cases x r with ⟨e, a1, a2, h1, h2⟩ | ⟨e, h⟩
    · have hs := low_small (x := -x) ⟨by omega, by omega⟩ h1 h2
      rw [if_pos e, if_pos e]
      exact IntWalk.wrap64_in _ (by omega)
    · rw [if_neg (by rw [e]; decide), if_neg (by rw [e]; decide)]
      decide +kernel
theorem slack_far1 (x r : Int) (w : World) (d1 : decide (x < 0) = true) :
    Calls Try.prog 28 #[.int .i64 x, .int .i64 r] w (Gives (.tuple #[.int .i64 0, .int .i64 11]) w) := by
  go_enter Try.func28, Try.ntmps28
  go_wp2
  go_ret2
  exact ⟨rfl, Below.refl _ _⟩
theorem slack_far2 (x r : Int) (w : World) (d1 : decide (x < 0) = false) (d2 : decide (4611686018427387904 < x) = true) :
    Calls Try.prog 28 #[.int .i64 x, .int .i64 r] w (Gives (.tuple #[.int .i64 0, .int .i64 11]) w) := by
  go_enter Try.func28, Try.ntmps28
  go_wp2
  go_ret2
  exact ⟨rfl, Below.refl _ _⟩
theorem slack_norate (x r : Int) (w : World) (d1 : decide (x < 0) = false) (d2 : decide (4611686018427387904 < x) = false) (hr : rateB r = false) :
    Calls Try.prog 28 #[.int .i64 x, .int .i64 r] w (Gives (.tuple #[.int .i64 0, .int .i64 11]) w) := by
  have C := Lib.hid fun W => israte_any r false hr W
  clear hr
  go_enter Try.func28, Try.ntmps28
  go_wp2_with fail
  refine (C.out _).mono ?_
  rintro _ w1 ⟨rfl, hb1⟩
  go_wp2
  go_ret2
  exact ⟨rfl, hb1⟩
theorem slack_in (x r c q : Int) (w : World) (d1 : decide (x < 0) = false) (d2 : decide (4611686018427387904 < x) = false) (hr : rateB r = true)
    (e2 : wrap64 (1000000 - r) = c) (Cr : Hid (∀ W, Calls Try.prog 60 #[.int .i64 x, .int .i64 r, .int .i64 c, .bool true] W (Gives (.tuple #[.int .i64 q, .int .i64 0]) W))) :
    Calls Try.prog 28 #[.int .i64 x, .int .i64 r] w (Gives (.tuple #[.int .i64 q, .int .i64 0]) w) := by
  have C := Lib.hid fun W => israte_any r true hr W
  have E2 := Lib.hid e2
  clear hr e2
  go_enter Try.func28, Try.ntmps28
  go_wp2_with fail
  refine (C.out _).mono ?_
  rintro _ w1 ⟨rfl, hb1⟩
  go_wp2_with fail
  rw [E2.out]
  refine (Cr.out _).mono ?_
  rintro _ w2 ⟨rfl, hb2⟩
  have B := Lib.hid (bnext hb1 hb1.size hb2)
  clear hb1 hb2
  go_wp2
  go_ret2
  exact ⟨rfl, B.out⟩
theorem slackE_cases (x r : Int) : (slackE x r = 0 ∧ (0 ≤ x ∧ x ≤ 4611686018427387904 ∧ 0 ≤ r ∧ r ≤ 100000)) ∨ (slackE x r = 11 ∧ ¬ (0 ≤ x ∧ x ≤ 4611686018427387904 ∧ 0 ≤ r ∧ r ≤ 100000)) := by
  unfold slackE
  split
  · exact .inl ⟨rfl, by assumption⟩
  · exact .inr ⟨rfl, by assumption⟩
theorem slack_any (x r : Int) (w : World) : Calls Try.prog 28 #[.int .i64 x, .int .i64 r] w (Gives (.tuple #[.int .i64 (slackV x r), .int .i64 (slackE x r)]) w) := by
  rcases slackE_cases x r with ⟨e, a1, a2, h1, h2⟩ | ⟨e, h⟩
  · rw [show slackV x r = slackI x r from if_pos e, e]
    have hu := up_spec (p := x * r) (c := 1000000 - r) (by omega)
    have hxr : 0 ≤ x * r := Int.mul_nonneg a1 h1
    have hxr2 : x * r ≤ x * 100000 := Int.mul_le_mul_of_nonneg_left h2 a1
    obtain ⟨q, hq⟩ : ∃ q, ratM (x * r) (1000000 - r) true = q := ⟨_, rfl⟩
    have hq0 : -1 < q := lt_of_mul (c := 1000000 - r) (by omega) (by rw [hq] at hu; omega)
    have hq1 : q ≤ 4611686018427387904 := by
      refine le_of_mul (c := 1000000 - r) (by omega) ?_
      rw [hq] at hu
      omega
    rw [show slackI x r = q from hq]
    refine slack_in x r (1000000 - r) q w (decide_eq_false (by omega)) (decide_eq_false (by omega)) (decide_eq_true ⟨h1, h2⟩) (IntWalk.wrap64_in _ (by omega)) (Lib.hid fun W => ?_)
    exact ratio_gives x r (1000000 - r) q true W (by unfold InI; omega) (by unfold InI; omega) (by omega) (by rw [hq]; unfold InI; omega) hq
  · rw [show slackV x r = 0 from if_neg (by rw [e]; decide), e]
    by_cases a1 : x < 0
    · exact slack_far1 x r w (decide_eq_true a1)
    · by_cases a2 : 4611686018427387904 < x
      · exact slack_far2 x r w (decide_eq_false a1) (decide_eq_true a2)
      · exact slack_norate x r w (decide_eq_false a1) (decide_eq_false a2) (decide_eq_false (by omega))
end Go.Proofs.Ytflplliiamodhaa
