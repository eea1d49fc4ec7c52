/- The walk of SafeRises. -/
import Derived.Test.YtjglpgicboocmaaSafeE
namespace Go.Proofs.Ytjglpgicboocmaa
open Go.RowKit
set_option linter.unusedVariables false

theorem ret_bool {a b : Bool} (h : a = b) : Ending.returned (.bool a) = .returned (.bool b) := by rw [h]
/-- two answers of one call: one of them failed, or the first is not greater -/
def Rise (x e y f : Int) : Prop := ((e == 0) = false ∧ (e != 0) = true) ∨ ((e == 0) = true ∧ (e != 0) = false ∧ (f == 0) = false ∧ (f != 0) = true) ∨ ((e == 0) = true ∧ (e != 0) = false ∧ (f == 0) = true ∧ (f != 0) = false ∧ x ≤ y)
theorem rise_of {p q : Int} (h : p ≤ q) : Rise (vI p) (eI p) (vI q) (eI q) := by
  by_cases hp : InI p <;> by_cases hq : InI q
  · exact .inr (.inr ⟨by rw [eI_in hp]; rfl, by rw [eI_in hp]; rfl, by rw [eI_in hq]; rfl, by rw [eI_in hq]; rfl, by rw [vI_in hp, vI_in hq]; exact h⟩)
  · exact .inr (.inl ⟨by rw [eI_in hp]; rfl, by rw [eI_in hp]; rfl, by rw [eI_out hq]; rfl, by rw [eI_out hq]; rfl⟩)
  · exact .inl ⟨by rw [eI_out hp]; rfl, by rw [eI_out hp]; rfl⟩
  · exact .inl ⟨by rw [eI_out hp]; rfl, by rw [eI_out hp]; rfl⟩
theorem rat_mono {p q c : Int} (h : p ≤ q) (hc : 1 ≤ c) : rat p c true ≤ rat q c true := by
  unfold rat
  simp only [if_true]
  have := Int.ediv_le_ediv (show 0 < c by omega) (show -q ≤ -p by omega)
  omega
set_option maxHeartbeats 4000000 in
theorem rises_any (a b c d : Int) (w : World) (ha : InI a) (hb : InI b) (hc : InI c) (hd : InI d) :
    Calls Try.prog 5 #[.int .i64 a, .int .i64 b, .int .i64 c, .int .i64 d] w fun e w' => e = .returned (.bool true) ∧ Grown w w' := by
  by_cases hab : b < a
  · go_enter Try.func5, Try.ntmps5
    go_wp2_with (first | (go_at_call 6; refine (alive_any _).mono ?_; rintro e w1 ⟨rfl, hg1⟩))
    go_ret
    exact ⟨rfl, by assumption⟩
  · have A1 := Lib.hid (fun w => add_any a c w ha hc)
    have A2 := Lib.hid (fun w => add_any b c w hb hc)
    have S1 := Lib.hid (fun w => sub_any a c w ha hc)
    have S2 := Lib.hid (fun w => sub_any b c w hb hc)
    have C1 := Lib.hid (fun w => clamp_any a c d w)
    have C2 := Lib.hid (fun w => clamp_any b c d w)
    have hA := rise_of (show a + c ≤ b + c by omega)
    have hS := rise_of (show a - c ≤ b - c by omega)
    have hC : min (max a c) d ≤ min (max b c) d := by omega
    generalize min (max a c) d = m1 at *
    generalize min (max b c) d = m2 at *
    generalize vI (a + c) = x1 at *
    generalize eI (a + c) = e1 at *
    generalize vI (b + c) = x2 at *
    generalize eI (b + c) = e2 at *
    generalize vI (a - c) = y1 at *
    generalize eI (a - c) = f1 at *
    generalize vI (b - c) = y2 at *
    generalize eI (b - c) = f2 at *
    have hR : c < 0 ∨ (¬ c < 0 ∧ ∃ z1 g1 z2 g2, Rise z1 g1 z2 g2 ∧ Hid (∀ w, Calls Try.prog 14 #[.int .i64 a, .int .i64 c, .int .i64 d, .bool true] w fun e w' => e = .returned (.tuple #[.int .i64 z1, .int .i64 g1]) ∧ ∃ n, w' = w.drewN n) ∧ Hid (∀ w, Calls Try.prog 14 #[.int .i64 b, .int .i64 c, .int .i64 d, .bool true] w fun e w' => e = .returned (.tuple #[.int .i64 z2, .int .i64 g2]) ∧ ∃ n, w' = w.drewN n)) := by
      by_cases h0 : c < 0
      · exact .inl h0
      · refine .inr ⟨h0, ?_⟩
        by_cases hd1 : d < 1
        · exact ⟨0, 11, 0, 11, .inl ⟨rfl, rfl⟩, Lib.hid fun w => (ratio_small a c d true w hd1).mono fun e w' ⟨he, hw⟩ => ⟨he, 0, hw.symm⟩, Lib.hid fun w => (ratio_small b c d true w hd1).mono fun e w' ⟨he, hw⟩ => ⟨he, 0, hw.symm⟩⟩
        · have hd' : 1 ≤ d ∧ d ≤ 9223372036854775807 := by unfold InI at hd; omega
          exact ⟨_, _, _, _, rise_of (rat_mono (Int.mul_le_mul_of_nonneg_right (by omega) (by omega)) hd'.1), Lib.hid fun w => ratio_any a c d true w ha hc hd', Lib.hid fun w => ratio_any b c d true w hb hc hd'⟩
    clear ha hb hc hd
    rcases hA with ⟨h1, -⟩ | ⟨h1, -, h2, -⟩ | ⟨h1, -, h2, -, h3⟩ <;> rcases hS with ⟨k1, -⟩ | ⟨k1, -, k2, -⟩ | ⟨k1, -, k2, -, k3⟩
    all_goals
      rcases hR with h0 | ⟨h0, z1, g1, z2, g2, ⟨l0, l1⟩ | ⟨l0, l1, l4, l2⟩ | ⟨l0, l1, l4, l2, l3⟩, R1, R2⟩
      all_goals
        go_enter Try.func5, Try.ntmps5
        go_wp2_with (first | (go_at_call 6; refine (alive_any _).mono ?_; rintro e w1 ⟨rfl, hg1⟩) | (go_at_call_of 11 (Value.int IntKind.i64 a); refine (A1.out _).mono ?_; rintro e w2 ⟨rfl, rfl⟩) | (go_at_call_of 11 (Value.int IntKind.i64 b); refine (A2.out _).mono ?_; rintro e w2 ⟨rfl, rfl⟩) | (go_at_call_of 12 (Value.int IntKind.i64 a); refine (S1.out _).mono ?_; rintro e w2 ⟨rfl, rfl⟩) | (go_at_call_of 12 (Value.int IntKind.i64 b); refine (S2.out _).mono ?_; rintro e w2 ⟨rfl, rfl⟩) | (go_at_call_of 15 (Value.int IntKind.i64 a); refine (C1.out _).mono ?_; rintro e w2 ⟨rfl, rfl⟩) | (go_at_call_of 15 (Value.int IntKind.i64 b); refine (C2.out _).mono ?_; rintro e w2 ⟨rfl, rfl⟩) | (go_at_call_of 14 (Value.int IntKind.i64 a); refine (R1.out _).mono ?_; rintro e w2 ⟨rfl, n, hw⟩; subst hw) | (go_at_call_of 14 (Value.int IntKind.i64 b); refine (R2.out _).mono ?_; rintro e w2 ⟨rfl, n, hw⟩; subst hw))
        go_ret
        exact ⟨ret_bool (by first | rfl | exact decide_eq_true l3 | exact decide_eq_true hC), by assumption⟩
end Go.Proofs.Ytjglpgicboocmaa
