/- safe.Mul and safe.Ratio, for every input. -/
import Derived.Test.YtjglpgicboocmaaDiv64
namespace Go.Proofs.Ytjglpgicboocmaa
open Go.RowKit
set_option linter.unusedVariables false

theorem mul_abs (a b : Int) : a * b = sg ((a.natAbs * b.natAbs : Nat) : Int) ((decide (a < 0)) != decide (b < 0)) := by
  rw [← Int.natAbs_mul]
  unfold sg
  rcases Int.lt_trichotomy a 0 with h | h | h <;> rcases Int.lt_trichotomy b 0 with k | k | k
  case inl.inl => have := Int.mul_pos_of_neg_of_neg h k; simp [h, k]; omega
  case inl.inr.inr => have := Int.mul_neg_of_neg_of_pos h k; simp [h, show ¬ b < 0 by omega]; omega
  case inr.inr.inl => have := Int.mul_neg_of_pos_of_neg h k; simp [k, show ¬ a < 0 by omega]; omega
  case inr.inr.inr.inr => have := Int.mul_pos h k; simp [show ¬ a < 0 by omega, show ¬ b < 0 by omega]; omega
  all_goals (subst_vars; simp)
theorem sg_out {n : Int} {neg : Bool} (h : 18446744073709551616 ≤ n) : ¬ InI (sg n neg) := by unfold InI sg; cases neg <;> simp <;> omega

set_option maxHeartbeats 400000 in
theorem mul_any (a b : Int) (w : World) (ha : -9223372036854775808 ≤ a ∧ a ≤ 9223372036854775807) (hb : -9223372036854775808 ≤ b ∧ b ≤ 9223372036854775807) :
    Calls Try.prog 13 #[.int .i64 a, .int .i64 b] w fun e w' => e = .returned (.tuple #[.int .i64 (vI (a * b)), .int .i64 (eI (a * b))]) ∧ w = w' := by
  have hm := mul_abs a b
  generalize a * b = p at *
  subst hm
  obtain ⟨x, ex⟩ : ∃ x, a.natAbs = x := ⟨_, rfl⟩
  obtain ⟨y, ey⟩ : ∃ x, b.natAbs = x := ⟨_, rfl⟩
  have bx : x < 18446744073709551616 := by omega
  have by' : y < 18446744073709551616 := by omega
  have ca := fun w => size_any a w ha
  have cb := fun w => size_any b w hb
  rw [ex] at ca ⊢
  rw [ey] at cb ⊢
  have cm := fun w => Try.bits_Mul64 x y bx by' w
  obtain ⟨hi, ehi⟩ : ∃ h, x * y / 18446744073709551616 = h := ⟨_, rfl⟩
  obtain ⟨lo, elo⟩ : ∃ h, x * y % 18446744073709551616 = h := ⟨_, rfl⟩
  rw [ehi, elo] at cm
  have Ca := Lib.hid ca
  have Cb := Lib.hid cb
  have Cm := Lib.hid cm
  have hxy : x * y = hi * 18446744073709551616 + lo ∧ lo < 18446744073709551616 := by omega
  generalize x * y = m at *
  obtain ⟨Em, hlo⟩ := hxy
  have EM := Lib.hid Em
  clear ca cb cm ehi elo ex ey Em
  by_cases h0 : hi = 0
  · subst h0
    obtain rfl : m = lo := by have := EM.out; omega
    clear EM
    have cs := fun neg w => signed_any (m : Int) (by omega) neg w
    have Cs := Lib.hid cs
    clear cs
    go_enter Try.func13, Try.ntmps13
    go_wp2_with (first | (go_at_call_of 20 (Value.int IntKind.i64 a); refine (Ca.out _).mono ?_; rintro e w' ⟨rfl, rfl⟩) | (go_at_call_of 20 (Value.int IntKind.i64 b); refine (Cb.out _).mono ?_; rintro e w' ⟨rfl, rfl⟩) | (go_at_call 19; refine (Cm.out _).mono ?_; rintro e w' ⟨rfl, hw⟩; subst hw) | (go_at_call 21; refine (Cs.out _ _).mono ?_; rintro e w' ⟨rfl, rfl⟩))
    go_ret2
    exact ⟨rfl, rfl⟩
  · have hne : ((hi : Int) != 0) = true := by rw [bne_iff_ne]; omega
    have hout : ¬ InI (sg (m : Int) (decide (a < 0) != decide (b < 0))) := sg_out (by have := EM.out; omega)
    have HO := Lib.hid hout
    clear hout EM h0
    go_enter Try.func13, Try.ntmps13
    go_wp2_with (first | (go_at_call_of 20 (Value.int IntKind.i64 a); refine (Ca.out _).mono ?_; rintro e w' ⟨rfl, rfl⟩) | (go_at_call_of 20 (Value.int IntKind.i64 b); refine (Cb.out _).mono ?_; rintro e w' ⟨rfl, rfl⟩) | (go_at_call 19; refine (Cm.out _).mono ?_; rintro e w' ⟨rfl, hw⟩; subst hw))
    go_ret2
    exact ⟨ret2 (vI_out HO.out).symm (eI_out HO.out).symm, rfl⟩
end Go.Proofs.Ytjglpgicboocmaa
