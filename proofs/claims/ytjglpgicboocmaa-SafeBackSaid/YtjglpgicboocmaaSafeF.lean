/- The walks of SafeBack and SafeRises. -/
import Derived.Test.YtjglpgicboocmaaSafeE
namespace Go.Proofs.Ytjglpgicboocmaa
open Go.RowKit
set_option linter.unusedVariables false

theorem rat_one (a b : Int) (hb : 0 < b) (up : Bool) : rat (a * b * 1) b up = a := by
  unfold rat
  rw [Int.mul_one, ← Int.neg_mul, Int.mul_ediv_cancel _ (by omega), Int.mul_ediv_cancel _ (by omega)]
  cases up <;> simp
set_option maxHeartbeats 2000000 in
theorem back_any (a b c : Int) (w : World) (ha : InI a) (hb : InI b) (hc : InI c) :
    Calls Try.prog 4 #[.int .i64 a, .int .i64 b, .int .i64 c] w fun e w' => e = .returned (.bool true) ∧ Grown w w' := by
  have ha' : -9223372036854775808 ≤ a ∧ a ≤ 9223372036854775807 := ha
  have hb' : -9223372036854775808 ≤ b ∧ b ≤ 9223372036854775807 := hb
  have cAdd : ∃ x e, (∀ w, Calls Try.prog 11 #[.int .i64 a, .int .i64 b] w fun e' w' => e' = .returned (.tuple #[.int .i64 x, .int .i64 e]) ∧ w = w') ∧
      (((e == 0) = false) ∨ ((e == 0) = true ∧ Hid (∀ w, Calls Try.prog 12 #[.int .i64 x, .int .i64 b] w fun e' w' => e' = .returned (.tuple #[.int .i64 a, .int .i64 0]) ∧ w = w'))) := by
    refine ⟨vI (a + b), eI (a + b), fun w => add_any a b w ha hb, ?_⟩
    by_cases h : InI (a + b)
    · refine .inr ⟨by rw [eI_in h]; rfl, Lib.hid fun w => ?_⟩
      rw [vI_in h]
      have e1 : a + b - b = a := by omega
      refine (sub_any (a + b) b w h hb).mono fun e' w' ⟨he, hw⟩ => ⟨tup_of he ?_ ?_, hw⟩
      · rw [e1]; exact vI_in ha
      · rw [e1]; exact eI_in ha
    · exact .inl (by rw [eI_out h]; rfl)
  have cMul : ∃ z g, (∀ w, Calls Try.prog 13 #[.int .i64 a, .int .i64 b] w fun e' w' => e' = .returned (.tuple #[.int .i64 z, .int .i64 g]) ∧ w = w') ∧
      (((g == 0) = false) ∨ ((g == 0) = true ∧ ¬ 0 < b) ∨ ((g == 0) = true ∧ 0 < b ∧ Hid (∀ up w, Calls Try.prog 14 #[.int .i64 z, .int .i64 1, .int .i64 b, .bool up] w fun e' w' => e' = .returned (.tuple #[.int .i64 a, .int .i64 0]) ∧ ∃ n, w' = w.drewN n))) := by
    refine ⟨vI (a * b), eI (a * b), fun w => mul_any a b w ha hb, ?_⟩
    by_cases h : InI (a * b)
    · by_cases h0 : 0 < b
      · refine .inr (.inr ⟨by rw [eI_in h]; rfl, h0, Lib.hid fun up w => ?_⟩)
        rw [vI_in h]
        have e1 := rat_one a b h0 up
        refine (ratio_any (a * b) 1 b up w h (by omega) (by omega)).mono fun e' w' ⟨he, hw⟩ => ⟨tup_of he ?_ ?_, hw⟩
        · rw [e1]; exact vI_in ha
        · rw [e1]; exact eI_in ha
      · exact .inr (.inl ⟨by rw [eI_in h]; rfl, h0⟩)
    · exact .inl (by rw [eI_out h]; rfl)
  obtain ⟨x, e, ca, h1⟩ := cAdd
  obtain ⟨z, g, cm, h2⟩ := cMul
  obtain ⟨r, hr⟩ : ∃ r, min (max a b) c = r := ⟨_, rfl⟩
  have cc : ∀ w, Calls Try.prog 15 #[.int .i64 a, .int .i64 b, .int .i64 c] w fun e w' => e = .returned (.int .i64 r) ∧ w = w' := fun w => by rw [← hr]; exact clamp_any a b c w
  have Ca := Lib.hid ca
  have Cm := Lib.hid cm
  have Cc := Lib.hid cc
  have h3 : (a < b ∧ c < b ∧ r = c) ∨ (a < b ∧ ¬ c < b ∧ r = b) ∨ (¬ a < b ∧ c < a ∧ r = c) ∨ (¬ a < b ∧ ¬ c < a ∧ r = a) := by omega
  clear ca cm cc hr ha hb hc
  rcases h1 with h1 | ⟨h1, cs⟩ <;> rcases h2 with h2 | ⟨h2, h4⟩ | ⟨h2, h4, cr⟩ <;> rcases h3 with ⟨k1, k2, rfl⟩ | ⟨k1, k2, rfl⟩ | ⟨k1, k2, rfl⟩ | ⟨k1, k2, rfl⟩
  all_goals
    go_enter Try.func4, Try.ntmps4
    go_wp2_with (first | (go_at_call 6; refine (alive_any _).mono ?_; rintro e w1 ⟨rfl, hg1⟩) | (go_at_call 11; refine (Ca.out _).mono ?_; rintro e w2 ⟨rfl, rfl⟩) | (go_at_call 12; refine (cs.out _).mono ?_; rintro e w2 ⟨rfl, rfl⟩) | (go_at_call 13; refine (Cm.out _).mono ?_; rintro e w2 ⟨rfl, rfl⟩) | (go_at_call 14; refine (cr.out _ _).mono ?_; rintro e w2 ⟨rfl, n, hw⟩; subst hw) | (go_at_call 15; refine (Cc.out _).mono ?_; rintro e w2 ⟨rfl, rfl⟩))
    go_ret
    exact ⟨rfl, by assumption⟩
end Go.Proofs.Ytjglpgicboocmaa
