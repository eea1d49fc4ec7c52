/- safe.Ratio, for every input. -/
import Derived.Test.YtflplliiamodhaaSafe
import Derived.Test.YtflplliiamodhaaDiv64
namespace Go.Proofs.Ytflplliiamodhaa
open Go.RowKit
set_option linter.unusedVariables false

/-- a * b / c, rounded up or down -/
def rat (p c : Int) (up : Bool) : Int := if up then -((-p) / c) else p / c
theorem ediv_of {N c q r : Int} (h : 0 ≤ r ∧ r < c) (e : N = q * c + r) : N / c = q := by
  rw [e, Int.add_comm, Int.add_mul_ediv_right _ _ (by omega), Int.ediv_eq_zero_of_lt h.1 h.2]; omega
theorem rat_sg (m c : Nat) (hc : 1 ≤ c) (neg up : Bool) : rat (sg (m : Int) neg) c up = sg (((if (m % c == 0 || up == neg) then m / c else m / c + 1 : Nat) : Int)) neg := by
  have e := Nat.div_add_mod m c
  have l := Nat.mod_lt m (show c > 0 by omega)
  have E : (m : Int) = ((m / c : Nat) : Int) * (c : Int) + ((m % c : Nat) : Int) := by rw [← Int.natCast_mul, ← Int.natCast_add, Nat.mul_comm]; exact congrArg _ e.symm
  have key : ∀ z : Bool, (m % c == 0) = z → ((m : Int) / c = ((m / c : Nat) : Int)) ∧ ((-(m : Int)) / c = -(((if z then m / c else m / c + 1 : Nat) : Int))) := by
    intro z hz
    refine ⟨ediv_of (r := ((m % c : Nat) : Int)) (by omega) E, ?_⟩
    cases z
    · have hr : m % c ≠ 0 := by simpa using hz
      refine ediv_of (r := (c : Int) - ((m % c : Nat) : Int)) (by omega) ?_
      rw [if_neg (by simp), Int.neg_mul, Int.natCast_add, Int.add_mul]
      omega
    · have hr : m % c = 0 := by simpa using hz
      refine ediv_of (r := 0) (by omega) ?_
      rw [if_pos rfl, Int.neg_mul]
      omega
  obtain ⟨k1, k2⟩ := key _ rfl
  unfold rat sg
  cases hz : (m % c == 0) <;> cases neg <;> cases up <;> simp [hz] at k2 ⊢ <;> omega

set_option maxHeartbeats 1000000 in
theorem ratio_small (a b c : Int) (up : Bool) (w : World) (hc : c < 1) :
    Calls Try.prog 60 #[.int .i64 a, .int .i64 b, .int .i64 c, .bool up] w fun e w' => e = .returned (.tuple #[.int .i64 0, .int .i64 11]) ∧ w = w' := by
  go_enter Try.func60, Try.ntmps60
  go_wp2
  go_ret2
  exact ⟨rfl, rfl⟩
set_option maxHeartbeats 1000000 in
theorem ratio_over (a b c : Int) (up : Bool) (w : World) (x y hi lo : Nat) (hc : 1 ≤ c ∧ c ≤ 9223372036854775807) (hh : c ≤ (hi : Int)) (h0 : hi < 18446744073709551616)
    (Ca : Hid (∀ w, Calls Try.prog 89 #[.int .i64 a] w fun e w' => e = .returned (.int .u64 (x : Int)) ∧ w = w'))
    (Cb : Hid (∀ w, Calls Try.prog 89 #[.int .i64 b] w fun e w' => e = .returned (.int .u64 (y : Int)) ∧ w = w'))
    (Cm : Hid (∀ w, Calls Try.prog 88 #[.int .u64 (x : Int), .int .u64 (y : Int)] w fun e w' => e = .returned (.tuple #[.int .u64 (hi : Int), .int .u64 (lo : Int)]) ∧ w' = w)) :
    Calls Try.prog 60 #[.int .i64 a, .int .i64 b, .int .i64 c, .bool up] w fun e w' => e = .returned (.tuple #[.int .i64 0, .int .i64 12]) ∧ w = w' := by
  go_enter Try.func60, Try.ntmps60
  go_wp2_with (first | (go_at_call_of 89 (Value.int IntKind.i64 a); refine (Ca.out _).mono ?_; rintro e w' ⟨rfl, rfl⟩) | (go_at_call_of 89 (Value.int IntKind.i64 b); refine (Cb.out _).mono ?_; rintro e w' ⟨rfl, rfl⟩) | (go_at_call 88; refine (Cm.out _).mono ?_; rintro e w' ⟨rfl, hw⟩; subst hw))
  go_ret2
  exact ⟨rfl, rfl⟩
/-- what stands behind the division -/
def ratEnd (q r : Nat) (neg up : Bool) : Nat := if (r == 0 || up == neg) then q else q + 1
theorem sg_over {n : Int} {neg : Bool} (h : n = 18446744073709551616) : ¬ InI (sg n neg) := sg_out (by omega)
def RatPost (v : Nat) (neg : Bool) (w : World) (e : Ending) (w' : World) : Prop := e = .returned (.tuple #[.int .i64 (vI (sg (v : Int) neg)), .int .i64 (eI (sg (v : Int) neg))]) ∧ ∃ n, w' = w.drewN n
set_option maxHeartbeats 2000000 in
theorem ratio_walk (a b c : Int) (up : Bool) (w : World) (x y hi lo q r : Nat) (hc : 1 ≤ c ∧ c ≤ 9223372036854775807) (hh : (hi : Int) < c)
    (Ca : Hid (∀ w, Calls Try.prog 89 #[.int .i64 a] w fun e w' => e = .returned (.int .u64 (x : Int)) ∧ w = w'))
    (Cb : Hid (∀ w, Calls Try.prog 89 #[.int .i64 b] w fun e w' => e = .returned (.int .u64 (y : Int)) ∧ w = w'))
    (Cm : Hid (∀ w, Calls Try.prog 88 #[.int .u64 (x : Int), .int .u64 (y : Int)] w fun e w' => e = .returned (.tuple #[.int .u64 (hi : Int), .int .u64 (lo : Int)]) ∧ w' = w))
    (Cd : Hid (∀ w, Calls Try.prog 90 #[.int .u64 (hi : Int), .int .u64 (lo : Int), .int .u64 c] w fun e w' => e = .returned (.tuple #[.int .u64 (q : Int), .int .u64 (r : Int)]) ∧ ∃ n, w' = w.drewN n))
    (hq : q < 18446744073709551616) (neg : Bool) (hneg : (decide (a < 0) != decide (b < 0)) = neg) :
    Calls Try.prog 60 #[.int .i64 a, .int .i64 b, .int .i64 c, .bool up] w fun e w' => RatPost (ratEnd q r neg up) neg w e w' := by
  have Cs := Lib.hid (fun n h neg w => signed_any n h neg w)
  by_cases hr : r = 0
  · subst hr
    have fin : ∀ n, RatPost (ratEnd q 0 neg up) neg w (.returned (.tuple #[.int .i64 (vI (sg (q : Int) neg)), .int .i64 (eI (sg (q : Int) neg))])) (w.drewN n) := fun n => ⟨rfl, n, rfl⟩
    have Fin := Lib.hid fin
    clear fin
    cases ha : decide (a < 0) <;> cases hb : decide (b < 0) <;> cases neg <;> simp only [ha, hb] at hneg <;> simp at hneg
    all_goals
      go_enter Try.func60, Try.ntmps60
      go_wp2_with (first | (go_at_call_of 89 (Value.int IntKind.i64 a); refine (Ca.out _).mono ?_; rintro e w' ⟨rfl, rfl⟩) | (go_at_call_of 89 (Value.int IntKind.i64 b); refine (Cb.out _).mono ?_; rintro e w' ⟨rfl, rfl⟩) | (go_at_call 88; refine (Cm.out _).mono ?_; rintro e w' ⟨rfl, hw⟩; subst hw) | (go_at_call 90; refine (Cd.out _).mono ?_; rintro e w' ⟨rfl, n, hw⟩; subst hw) | (go_at_call 91; refine (Cs.out _ (by omega) _ _).mono ?_; rintro e w' ⟨rfl, rfl⟩))
      go_ret2
      exact Fin.out _
  · have hr0 : ((r : Int) == 0) = false := by simp; omega
    by_cases hun : up = neg
    · subst hun
      have fin : ∀ n, RatPost (ratEnd q r up up) up w (.returned (.tuple #[.int .i64 (vI (sg (q : Int) up)), .int .i64 (eI (sg (q : Int) up))])) (w.drewN n) := fun n => ⟨by simp [ratEnd], n, rfl⟩
      have Fin := Lib.hid fin
      clear fin
      cases ha : decide (a < 0) <;> cases hb : decide (b < 0) <;> cases up <;> simp only [ha, hb] at hneg <;> simp at hneg
      all_goals
        go_enter Try.func60, Try.ntmps60
        go_wp2_with (first | (go_at_call_of 89 (Value.int IntKind.i64 a); refine (Ca.out _).mono ?_; rintro e w' ⟨rfl, rfl⟩) | (go_at_call_of 89 (Value.int IntKind.i64 b); refine (Cb.out _).mono ?_; rintro e w' ⟨rfl, rfl⟩) | (go_at_call 88; refine (Cm.out _).mono ?_; rintro e w' ⟨rfl, hw⟩; subst hw) | (go_at_call 90; refine (Cd.out _).mono ?_; rintro e w' ⟨rfl, n, hw⟩; subst hw) | (go_at_call 91; refine (Cs.out _ (by omega) _ _).mono ?_; rintro e w' ⟨rfl, rfl⟩))
        go_ret2
        exact Fin.out _
    · have HN : Hid (ratEnd q r neg up = q + 1) := Lib.hid (by unfold ratEnd; rw [if_neg]; simp [hr, hun])
      have fin1 : ∀ n, ((q : Int) == 18446744073709551615) = true → RatPost (ratEnd q r neg up) neg w (.returned (.tuple #[.int .i64 0, .int .i64 12])) (w.drewN n) := fun n hm => by
        have hm := WalkArith.int_eq hm
        have ho : ¬ InI (sg ((q + 1 : Nat) : Int) neg) := sg_over (by omega)
        rw [HN.out]
        exact ⟨by rw [vI_out ho, eI_out ho], n, rfl⟩
      have fin2 : ∀ n, ((q : Int) == 18446744073709551615) = false → RatPost (ratEnd q r neg up) neg w (.returned (.tuple #[.int .i64 (vI (sg (IntKind.u64.wrap ((q : Int) + 1)) neg)), .int .i64 (eI (sg (IntKind.u64.wrap ((q : Int) + 1)) neg))])) (w.drewN n) := fun n hm => by
        have hm := WalkArith.int_ne hm
        rw [HN.out, IntWalk.u64_in _ (by omega)]
        exact ⟨rfl, n, rfl⟩
      have Fin1 := Lib.hid fin1
      have Fin2 := Lib.hid fin2
      have wb : 0 ≤ IntKind.u64.wrap ((q : Int) + 1) ∧ IntKind.u64.wrap ((q : Int) + 1) ≤ 18446744073709551615 := by rw [IntKind.wrap_u64]; omega
      have Cs2 := Lib.hid (fun neg w => signed_any _ wb neg w)
      clear fin1 fin2 wb hq Cs HN hr
      cases ha : decide (a < 0) <;> cases hb : decide (b < 0) <;> cases neg <;> cases up <;> simp only [ha, hb] at hneg hun <;> simp at hneg hun
      all_goals
        go_enter Try.func60, Try.ntmps60
        go_wp2_with (first | (go_at_call_of 89 (Value.int IntKind.i64 a); refine (Ca.out _).mono ?_; rintro e w' ⟨rfl, rfl⟩) | (go_at_call_of 89 (Value.int IntKind.i64 b); refine (Cb.out _).mono ?_; rintro e w' ⟨rfl, rfl⟩) | (go_at_call 88; refine (Cm.out _).mono ?_; rintro e w' ⟨rfl, hw⟩; subst hw) | (go_at_call 90; refine (Cd.out _).mono ?_; rintro e w' ⟨rfl, n, hw⟩; subst hw) | (go_at_call 91; refine (Cs2.out _ _).mono ?_; rintro e w' ⟨rfl, rfl⟩))
        all_goals go_ret2
        · exact Fin1.out _ (by assumption)
        · exact Fin2.out _ (by assumption)

theorem ratio_any (a b c : Int) (up : Bool) (w : World) (ha : -9223372036854775808 ≤ a ∧ a ≤ 9223372036854775807) (hb : -9223372036854775808 ≤ b ∧ b ≤ 9223372036854775807) (hc : 1 ≤ c ∧ c ≤ 9223372036854775807) :
    Calls Try.prog 60 #[.int .i64 a, .int .i64 b, .int .i64 c, .bool up] w fun e w' =>
      e = .returned (.tuple #[.int .i64 (vI (rat (a * b) c up)), .int .i64 (eI (rat (a * b) c up))]) ∧ ∃ n, w' = w.drewN n := by
  obtain ⟨C, rfl⟩ := Int.eq_ofNat_of_zero_le (show 0 ≤ c by omega)
  rw [mul_abs a b, rat_sg _ C (by omega)]
  have bx : a.natAbs < 18446744073709551616 := by omega
  have by' : b.natAbs < 18446744073709551616 := by omega
  have Ca := Lib.hid (fun w => size_any a w ha)
  have Cb := Lib.hid (fun w => size_any b w hb)
  have Cm := Lib.hid (fun w => Try.bits_Mul64 a.natAbs b.natAbs bx by' w)
  have hm : a.natAbs * b.natAbs < 18446744073709551616 * 18446744073709551616 := by
    have h1 : a.natAbs * b.natAbs ≤ 9223372036854775808 * b.natAbs := Nat.mul_le_mul_right _ (by omega)
    omega
  generalize a.natAbs * b.natAbs = m at *
  have e1 := Nat.div_add_mod m 18446744073709551616
  have e2 := Nat.mod_lt m (show 18446744073709551616 > 0 by omega)
  by_cases h1 : (C : Int) ≤ ((m / 18446744073709551616 : Nat) : Int)
  · refine (ratio_over a b C up w _ _ _ _ hc h1 (by omega) Ca Cb Cm).mono fun e w' ⟨he, hw⟩ => ⟨he.trans ?_, 0, hw.symm⟩
    have h2 : 18446744073709551616 ≤ m / C := by
      rw [Nat.le_div_iff_mul_le (by omega)]
      have : 18446744073709551616 * C ≤ 18446744073709551616 * (m / 18446744073709551616) := Nat.mul_le_mul_left _ (by omega)
      omega
    have ho : ¬ InI (sg (((if (m % C == 0 || up == (decide (a < 0) != decide (b < 0))) then m / C else m / C + 1 : Nat) : Int)) (decide (a < 0) != decide (b < 0))) := sg_out (by split <;> omega)
    exact ret2 (vI_out ho).symm (eI_out ho).symm
  · have hq : m / C < 18446744073709551616 := by
      rw [Nat.div_lt_iff_lt_mul (by omega)]
      have : 18446744073709551616 * (m / 18446744073709551616 + 1) ≤ 18446744073709551616 * C := Nat.mul_le_mul_left _ (by omega)
      omega
    have Cd : Hid (∀ w, Calls Try.prog 90 #[.int .u64 ((m / 18446744073709551616 : Nat) : Int), .int .u64 ((m % 18446744073709551616 : Nat) : Int), .int .u64 (C : Int)] w fun e w' => e = .returned (.tuple #[.int .u64 ((m / C : Nat) : Int), .int .u64 ((m % C : Nat) : Int)]) ∧ ∃ n, w' = w.drewN n) := Lib.hid fun w => by
      by_cases hz : m / 18446744073709551616 = 0
      · rw [hz]
        refine (div64_zero ((m % 18446744073709551616 : Nat) : Int) C w (by omega) (by omega)).mono fun e w' ⟨he, hw⟩ => ⟨he.trans ?_, hw⟩
        rw [show m % 18446744073709551616 = m from by omega, Int.natCast_ediv, Int.natCast_emod]
      · refine (div64_any (m / 18446744073709551616) (m % 18446744073709551616) C w (by omega) (by omega) e2 (by omega)).mono fun e w' ⟨he, hw⟩ => ⟨he.trans ?_, 0, hw.symm⟩
        rw [show m / 18446744073709551616 * 18446744073709551616 + m % 18446744073709551616 = m from by omega]
    exact ratio_walk a b C up w _ _ _ _ _ _ hc (by omega) Ca Cb Cm Cd hq _ rfl
end Go.Proofs.Ytflplliiamodhaa
