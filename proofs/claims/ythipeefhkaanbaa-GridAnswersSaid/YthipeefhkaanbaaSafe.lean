/- safe.Add, Mul and what it calls, for every input. -/
import Derived.Test.YthipeefhkaanbaaKeep
import Derived.Test.YthipeefhkaanbaaShelf
namespace Go.Proofs.Ythipeefhkaanbaa
open Go.RowKit
set_option linter.unusedVariables false

theorem add_any (a b : Int) (w : World) (ha : -9223372036854775808 ≤ a ∧ a ≤ 9223372036854775807) (hb : -9223372036854775808 ≤ b ∧ b ≤ 9223372036854775807) :
    Calls Try.prog 25 #[.int .i64 a, .int .i64 b] w fun e w' => e = .returned (.tuple #[.int .i64 (vI (a + b)), .int .i64 (eI (a + b))]) ∧ w = w' := by
  go_enter Try.func25, Try.ntmps25
  go_wp2
  all_goals
    go_ret2
    first
    | (have h : ¬ InI (a + b) := by
        simp only [wrap64, Bool.beq_eq_decide_eq, InI] at *
        (try simp at *)
        omega
       exact ⟨ret2 (vI_out h).symm (eI_out h).symm, rfl⟩)
    | (have h : InI (a + b) := by
        simp only [wrap64, Bool.beq_eq_decide_eq, InI] at *
        (try simp at *)
        omega
       exact ⟨ret2 (by rw [vI_in h]; exact IntWalk.wrap64_in _ h) (eI_in h).symm, rfl⟩)
theorem size_any (a : Int) (w : World) (ha : -9223372036854775808 ≤ a ∧ a ≤ 9223372036854775807) :
    Calls Try.prog 39 #[.int .i64 a] w fun e w' => e = .returned (.int .u64 (a.natAbs : Int)) ∧ w = w' := by
  go_enter Try.func39, Try.ntmps39
  go_wp2
  all_goals
    go_ret
    exact ⟨ret_int (by first | omega | (simp only [IntKind.wrap_u64]; omega)), rfl⟩
theorem signed_any (n : Int) (h : 0 ≤ n ∧ n ≤ 18446744073709551615) (neg : Bool) (w : World) :
    Calls Try.prog 40 #[.int .u64 n, .bool neg] w fun e w' => e = .returned (.tuple #[.int .i64 (vI (sg n neg)), .int .i64 (eI (sg n neg))]) ∧ w = w' := by
  cases neg
  all_goals
    go_enter Try.func40, Try.ntmps40
    go_wp2
    all_goals
      go_ret2
      refine ⟨ret2 ?_ ?_, rfl⟩
      all_goals
        simp only [sg, vI, eI, InI, wrap64, IntKind.wrap_u64, if_true, Bool.false_eq_true, if_false]
        split <;> omega
theorem mul_abs (a b : Int) : a * b = sg ((a.natAbs * b.natAbs : Nat) : Int) ((decide (a < 0)) != decide (b < 0)) := by
  rw [← Int.natAbs_mul]
  unfold sg
  rcases Int.lt_trichotomy a 0 with h | h | h <;> rcases Int.lt_trichotomy b 0 with k | k | k
  case inl.inl => have := Int.mul_pos_of_neg_of_neg h k; simp [h, k]; omega
  case inl.inr.inr => have := Int.mul_neg_of_neg_of_pos h k; simp [h, show ¬ b < 0 by omega]; omega
  case inr.inr.inl => have := Int.mul_neg_of_pos_of_neg h k; simp [k, show ¬ a < 0 by omega]; omega
  case inr.inr.inr.inr => have := Int.mul_pos h k; simp [show ¬ a < 0 by omega, show ¬ b < 0 by omega]; omega
  all_goals (subst_vars; simp)
theorem sg_out {n : Int} {neg : Bool} (h : 18446744073709551616 ≤ n) : ¬ InI (sg n neg) := by unfold InI sg; cases neg <;> simp <;> omega

set_option maxHeartbeats 400000 in
theorem mul_any (a b : Int) (w : World) (ha : -9223372036854775808 ≤ a ∧ a ≤ 9223372036854775807) (hb : -9223372036854775808 ≤ b ∧ b ≤ 9223372036854775807) :
    Calls Try.prog 24 #[.int .i64 a, .int .i64 b] w fun e w' => e = .returned (.tuple #[.int .i64 (vI (a * b)), .int .i64 (eI (a * b))]) ∧ w = w' := by
  have hm := mul_abs a b
  generalize a * b = p at *
  subst hm
  obtain ⟨x, ex⟩ : ∃ x, a.natAbs = x := ⟨_, rfl⟩
  obtain ⟨y, ey⟩ : ∃ x, b.natAbs = x := ⟨_, rfl⟩
  have bx : x < 18446744073709551616 := by omega
  have by' : y < 18446744073709551616 := by omega
  have ca := fun w => size_any a w ha
  have cb := fun w => size_any b w hb
  rw [ex] at ca ⊢
  rw [ey] at cb ⊢
  have cm := fun w => Try.bits_Mul64 x y bx by' w
  obtain ⟨hi, ehi⟩ : ∃ h, x * y / 18446744073709551616 = h := ⟨_, rfl⟩
  obtain ⟨lo, elo⟩ : ∃ h, x * y % 18446744073709551616 = h := ⟨_, rfl⟩
  rw [ehi, elo] at cm
  have Ca := Lib.hid ca
  have Cb := Lib.hid cb
  have Cm := Lib.hid cm
  have hxy : x * y = hi * 18446744073709551616 + lo ∧ lo < 18446744073709551616 := by omega
  generalize x * y = m at *
  obtain ⟨Em, hlo⟩ := hxy
  have EM := Lib.hid Em
  clear ca cb cm ehi elo ex ey Em
  by_cases h0 : hi = 0
  · subst h0
    obtain rfl : m = lo := by have := EM.out; omega
    clear EM
    have cs := fun neg w => signed_any (m : Int) (by omega) neg w
    have Cs := Lib.hid cs
    clear cs
    go_enter Try.func24, Try.ntmps24
    go_wp2_with (first | (go_at_call_of 39 (Value.int IntKind.i64 a); refine (Ca.out _).mono ?_; rintro e w' ⟨rfl, rfl⟩) | (go_at_call_of 39 (Value.int IntKind.i64 b); refine (Cb.out _).mono ?_; rintro e w' ⟨rfl, rfl⟩) | (go_at_call 38; refine (Cm.out _).mono ?_; rintro e w' ⟨rfl, hw⟩; subst hw) | (go_at_call 40; refine (Cs.out _ _).mono ?_; rintro e w' ⟨rfl, rfl⟩))
    go_ret2
    exact ⟨rfl, rfl⟩
  · have hne : ((hi : Int) != 0) = true := by rw [bne_iff_ne]; omega
    have hout : ¬ InI (sg (m : Int) (decide (a < 0) != decide (b < 0))) := sg_out (by have := EM.out; omega)
    have HO := Lib.hid hout
    clear hout EM h0
    go_enter Try.func24, Try.ntmps24
    go_wp2_with (first | (go_at_call_of 39 (Value.int IntKind.i64 a); refine (Ca.out _).mono ?_; rintro e w' ⟨rfl, rfl⟩) | (go_at_call_of 39 (Value.int IntKind.i64 b); refine (Cb.out _).mono ?_; rintro e w' ⟨rfl, rfl⟩) | (go_at_call 38; refine (Cm.out _).mono ?_; rintro e w' ⟨rfl, hw⟩; subst hw))
    go_ret2
    exact ⟨ret2 (vI_out HO.out).symm (eI_out HO.out).symm, rfl⟩
end Go.Proofs.Ythipeefhkaanbaa
