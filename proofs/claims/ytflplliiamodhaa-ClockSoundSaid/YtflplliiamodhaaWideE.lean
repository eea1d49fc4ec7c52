/- wide.Times: for every input. -/
import Derived.Test.YtflplliiamodhaaWideB
import Derived.Test.YtflplliiamodhaaShelf
namespace Go.Proofs.Ytflplliiamodhaa
open Go.RowKit
set_option linter.unusedVariables false

theorem wz_mul (a b U V X : Int) (ha : U = a ∨ U = a + 18446744073709551616 ∧ a < 0) (hX : X = U * V) (hb : V = b ∨ V = b + 18446744073709551616 ∧ b < 0) (d e : Int) (hd : d = if a < 0 then V else 0) (he : e = if b < 0 then U else 0) (ha2 : U = a → 0 ≤ a) (hb2 : V = b → 0 ≤ b) :
    (X - (d + e) * 18446744073709551616 - a * b) % 340282366920938463463374607431768211456 = 0 := by
  subst hX hd he
  rcases ha with rfl | ⟨rfl, ha⟩ <;> rcases hb with rfl | ⟨rfl, hb⟩
  · rw [if_neg (by have := ha2 rfl; omega), if_neg (by have := hb2 rfl; omega)]; omega
  · rw [if_neg (by have := ha2 rfl; omega), if_pos hb, Int.mul_add]; generalize U * b = z; omega
  · rw [if_pos ha, if_neg (by have := hb2 rfl; omega), Int.add_mul]; generalize a * V = z; omega
  · rw [if_pos ha, if_pos hb, Int.add_mul, Int.mul_add, Int.mul_add]; generalize a * b = z; omega
set_option maxHeartbeats 2000000 in
theorem wtimes_any (a b : Int) (w : World) (ha : InI a) (hb : InI b) : Calls Try.prog 99 #[.int .i64 a, .int .i64 b] w (Gives (wI (a * b)) w) := by
  have ha' : -9223372036854775808 ≤ a ∧ a ≤ 9223372036854775807 := ha
  have hb' : -9223372036854775808 ≤ b ∧ b ≤ 9223372036854775807 := hb
  obtain ⟨U, eU⟩ : ∃ U, IntKind.u64.wrap a = U := ⟨_, rfl⟩
  obtain ⟨V, eV⟩ : ∃ T, IntKind.u64.wrap b = T := ⟨_, rfl⟩
  have bU : 0 ≤ U ∧ U < 18446744073709551616 ∧ (U = a ∧ 0 ≤ a ∨ U = a + 18446744073709551616 ∧ a < 0) := by rw [IntKind.wrap_u64] at eU; omega
  have bV : 0 ≤ V ∧ V < 18446744073709551616 ∧ (V = b ∧ 0 ≤ b ∨ V = b + 18446744073709551616 ∧ b < 0) := by rw [IntKind.wrap_u64] at eV; omega
  obtain ⟨x, hx⟩ := Int.eq_ofNat_of_zero_le bU.1
  obtain ⟨y, hy⟩ := Int.eq_ofNat_of_zero_le bV.1
  have cm := fun w => Try.bits_Mul64 x y (by omega) (by omega) w
  rw [← hx, ← hy] at cm
  obtain ⟨X, hX⟩ : ∃ X : Nat, x * y = X := ⟨_, rfl⟩
  have hXi : (X : Int) = U * V := by rw [hx, hy, ← hX]; simp
  have hXb : X < 340282366920938463463374607431768211456 := by
    rw [← hX]
    have : x * y < 18446744073709551616 * 18446744073709551616 := Nat.mul_lt_mul_of_lt_of_lt (by omega) (by omega)
    omega
  rw [hX] at cm
  obtain ⟨P, hP⟩ : ∃ P : Int, ((X / 18446744073709551616 : Nat) : Int) = P := ⟨_, rfl⟩
  obtain ⟨L, hL⟩ : ∃ P : Int, ((X % 18446744073709551616 : Nat) : Int) = P := ⟨_, rfl⟩
  rw [hP, hL] at cm
  have bP : 0 ≤ P ∧ P < 18446744073709551616 := by omega
  have bL : 0 ≤ L ∧ L < 18446744073709551616 := by omega
  have hm := wz_mul a b U V X (by omega) hXi (by omega) _ _ rfl rfl (by omega) (by omega)
  have hPX : P * 18446744073709551616 + L = X := by omega
  have fin : ∀ w' H, H = wrap64 (P - ((if a < 0 then V else 0) + (if b < 0 then U else 0))) → Below w.heap.size w w' → Gives (wI (a * b)) w (.returned (.agg #[.int .i64 H, .int .u64 L])) w' := fun w' H hH hw => by
    generalize (if a < 0 then V else 0) + (if b < 0 then U else 0) = d at *
    generalize a * b = z at *
    exact gives_wI (by rw [hH]; unfold hiW wrap64; omega) (by unfold loW; omega) hw
  have Fin := Lib.hid fin
  have Cm := Lib.hid cm
  have e0 : ∀ (p : Int), IntKind.u64.wrap p = p % 18446744073709551616 := fun p => by rw [IntKind.wrap_u64]
  obtain ⟨W, hW⟩ : ∃ W, w.alloc (.cells #[.int .i64 0, .int .u64 0] 121) = W := ⟨_, rfl⟩
  have R0 : Hid (Kept W w.heap.size #[.int .i64 0, .int .u64 0] 121) := Lib.hid (by rw [← hW]; exact Kept.new (by simp))
  have B0 : Hid (Below w.heap.size w W) := Lib.hid (by rw [← hW]; exact one_alloc _ _)
  have E0 := Lib.hid e0
  have HW := Lib.hid hW
  clear fin cm hx hy hX hXi hXb hP hL hm hPX ha hb e0 bU bV hW
  by_cases h1 : a < 0 <;> by_cases h2 : b < 0
  · rw [if_pos h1, if_pos h2] at Fin
    have d1 : decide (a < 0) = true := decide_eq_true h1
    have d2 : decide (b < 0) = true := decide_eq_true h2
    clear h1 h2
    go_enter Try.func99, Try.ntmps99
    obtain ⟨c1, c2, c3, c4, c5⟩ := R0.out.two
    go_wp2_with fail
    try rw [HW.out]
    refine (Cm.out _).mono ?_
    rintro _ w1 ⟨rfl, hw⟩
    cases hw
    go_wp2
    obtain ⟨s1, s2⟩ := R0.out.read2 (.int .i64 (wrap64 (IntKind.u64.wrap (IntKind.u64.wrap (P - V) - U)))) (.int .u64 L)
    refine bodyPost_ret (v := .agg #[.int .i64 (wrap64 (IntKind.u64.wrap (IntKind.u64.wrap (P - V) - U))), .int .u64 L]) (by simp [results, Try.results99, go_sem, s1, s2]) rfl ?_
    exact Fin.out _ _ (by (try simp only [IntKind.wrap_u64]); unfold wrap64; omega) (bset2 B0.out (Nat.le_refl _) _ _)
  · rw [if_pos h1, if_neg h2] at Fin
    have d1 : decide (a < 0) = true := decide_eq_true h1
    have d2 : decide (b < 0) = false := decide_eq_false h2
    clear h1 h2
    go_enter Try.func99, Try.ntmps99
    obtain ⟨c1, c2, c3, c4, c5⟩ := R0.out.two
    go_wp2_with fail
    try rw [HW.out]
    refine (Cm.out _).mono ?_
    rintro _ w1 ⟨rfl, hw⟩
    cases hw
    go_wp2
    obtain ⟨s1, s2⟩ := R0.out.read2 (.int .i64 (wrap64 (IntKind.u64.wrap (P - V)))) (.int .u64 L)
    refine bodyPost_ret (v := .agg #[.int .i64 (wrap64 (IntKind.u64.wrap (P - V))), .int .u64 L]) (by simp [results, Try.results99, go_sem, s1, s2]) rfl ?_
    exact Fin.out _ _ (by (try simp only [IntKind.wrap_u64]); unfold wrap64; omega) (bset2 B0.out (Nat.le_refl _) _ _)
  · rw [if_neg h1, if_pos h2] at Fin
    have d1 : decide (a < 0) = false := decide_eq_false h1
    have d2 : decide (b < 0) = true := decide_eq_true h2
    clear h1 h2
    go_enter Try.func99, Try.ntmps99
    obtain ⟨c1, c2, c3, c4, c5⟩ := R0.out.two
    go_wp2_with fail
    try rw [HW.out]
    refine (Cm.out _).mono ?_
    rintro _ w1 ⟨rfl, hw⟩
    cases hw
    go_wp2
    obtain ⟨s1, s2⟩ := R0.out.read2 (.int .i64 (wrap64 (IntKind.u64.wrap (P - U)))) (.int .u64 L)
    refine bodyPost_ret (v := .agg #[.int .i64 (wrap64 (IntKind.u64.wrap (P - U))), .int .u64 L]) (by simp [results, Try.results99, go_sem, s1, s2]) rfl ?_
    exact Fin.out _ _ (by (try simp only [IntKind.wrap_u64]); unfold wrap64; omega) (bset2 B0.out (Nat.le_refl _) _ _)
  · rw [if_neg h1, if_neg h2] at Fin
    have d1 : decide (a < 0) = false := decide_eq_false h1
    have d2 : decide (b < 0) = false := decide_eq_false h2
    clear h1 h2
    go_enter Try.func99, Try.ntmps99
    obtain ⟨c1, c2, c3, c4, c5⟩ := R0.out.two
    go_wp2_with fail
    try rw [HW.out]
    refine (Cm.out _).mono ?_
    rintro _ w1 ⟨rfl, hw⟩
    cases hw
    go_wp2
    obtain ⟨s1, s2⟩ := R0.out.read2 (.int .i64 (wrap64 P)) (.int .u64 L)
    refine bodyPost_ret (v := .agg #[.int .i64 (wrap64 P), .int .u64 L]) (by simp [results, Try.results99, go_sem, s1, s2]) rfl ?_
    exact Fin.out _ _ (by (try simp only [IntKind.wrap_u64]); unfold wrap64; omega) (bset2 B0.out (Nat.le_refl _) _ _)
end Go.Proofs.Ytflplliiamodhaa
