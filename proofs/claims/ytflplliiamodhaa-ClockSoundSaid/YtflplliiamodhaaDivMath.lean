/- The arithmetic of a division of two words by one, digit by digit; nothing of any program. -/
namespace Go.Proofs.Ytflplliiamodhaa.DivMath
set_option linter.unusedVariables false

/-- one digit: the estimate from above is at most one too large twice -/
theorem start (V1 V0 U u : Int) (h1 : 2147483648 ≤ V1) (h0 : 0 ≤ V0 ∧ V0 < 4294967296) (hU : 0 ≤ U ∧ U < V1 * 4294967296 + V0) (hu : 0 ≤ u ∧ u < 4294967296) :
    0 ≤ U / V1 ∧ U / V1 ≤ 4294967297 ∧ (U * 4294967296 + u) / (V1 * 4294967296 + V0) ≤ U / V1 ∧ U / V1 * V1 ≤ U ∧ U - U / V1 * V1 < V1 := by
  have hp : 0 < V1 := by omega
  have e := Int.mul_ediv_add_emod U V1
  have m0 := Int.emod_nonneg U (by omega : V1 ≠ 0)
  have m1 := Int.emod_lt_of_pos U hp
  rw [Int.mul_comm] at e
  refine ⟨Int.ediv_nonneg hU.1 (by omega), ?_, ?_, by omega, by omega⟩
  · apply Int.le_of_lt_add_one
    apply Int.ediv_lt_of_lt_mul hp
    omega
  · apply Int.le_of_lt_add_one
    apply Int.ediv_lt_of_lt_mul (by omega)
    have h2 : U < (U / V1 + 1) * V1 := by rw [Int.add_mul]; omega
    have h3 : (U + 1) * 4294967296 ≤ ((U / V1 + 1) * V1) * 4294967296 := by omega
    have h4 : 0 ≤ (U / V1 + 1) * V0 := Int.mul_nonneg (by have := Int.ediv_nonneg hU.1 (by omega : (0:Int) ≤ V1); omega) h0.1
    have e2 : (U / V1 + 1) * (V1 * 4294967296 + V0) = ((U / V1 + 1) * V1) * 4294967296 + (U / V1 + 1) * V0 := by rw [Int.mul_add, Int.mul_assoc]
    omega

theorem small (Y U u : Int) (hU : 0 ≤ U ∧ U < Y) (hu : 0 ≤ u ∧ u < 4294967296) : 0 ≤ (U * 4294967296 + u) / Y ∧ (U * 4294967296 + u) / Y < 4294967296 :=
  ⟨Int.ediv_nonneg (by omega) (by omega), Int.ediv_lt_of_lt_mul (by omega) (by omega)⟩

theorem prod (V1 V0 U q r : Int) (hr : q * V1 + r = U) : q * (V1 * 4294967296 + V0) = (U - r) * 4294967296 + q * V0 := by
  rw [Int.mul_add, ← Int.mul_assoc]
  omega

/-- the product is too large: so is the digit -/
theorem over (V1 V0 U u q r : Int) (hp : 0 < V1 * 4294967296 + V0) (hr : q * V1 + r = U) (h : r * 4294967296 + u < q * V0) :
    (U * 4294967296 + u) / (V1 * 4294967296 + V0) ≤ q - 1 := by
  apply Int.le_of_lt_add_one
  apply Int.ediv_lt_of_lt_mul hp
  have := prod V1 V0 U q r hr
  rw [show q - 1 + 1 = q from by omega]
  omega

/-- it is not: then the digit is right -/
theorem right (V1 V0 U u q r : Int) (hp : 0 < V1 * 4294967296 + V0) (hr : q * V1 + r = U) (hq : (U * 4294967296 + u) / (V1 * 4294967296 + V0) ≤ q) (h : q * V0 ≤ r * 4294967296 + u) :
    (U * 4294967296 + u) / (V1 * 4294967296 + V0) = q := by
  apply Int.le_antisymm hq
  apply Int.le_ediv_of_mul_le hp
  have := prod V1 V0 U q r hr
  omega

/-- the rest is past a word: then the digit is right -/
theorem past (V1 V0 U u q r : Int) (hp : 0 < V1 * 4294967296 + V0) (h0 : 0 ≤ V0 ∧ V0 < 4294967296) (hu : 0 ≤ u) (hr : q * V1 + r = U) (hq : (U * 4294967296 + u) / (V1 * 4294967296 + V0) ≤ q) (h0q : 0 ≤ q) (hq2 : q ≤ 4294967296) (h : 4294967296 ≤ r) :
    (U * 4294967296 + u) / (V1 * 4294967296 + V0) = q := by
  apply right V1 V0 U u q r hp hr hq
  have h1 : q * V0 ≤ 4294967296 * V0 := Int.mul_le_mul_of_nonneg_right hq2 h0.1
  omega

theorem rest (Y N q : Int) (hp : 0 < Y) (h : N / Y = q) : 0 ≤ N - q * Y ∧ N - q * Y < Y := by
  have e := Int.mul_ediv_add_emod N Y
  have m0 := Int.emod_nonneg N (by omega : Y ≠ 0)
  have m1 := Int.emod_lt_of_pos N hp
  rw [h, Int.mul_comm] at e
  omega
theorem mul_lt (q v : Int) (hq : 0 ≤ q ∧ q ≤ 4294967296) (hv : 0 ≤ v ∧ v < 4294967296) : 0 ≤ q * v ∧ q * v < 18446744073709551616 := by
  refine ⟨Int.mul_nonneg hq.1 hv.1, ?_⟩
  have h1 : q * v ≤ 4294967296 * v := Int.mul_le_mul_of_nonneg_right hq.2 hv.1
  omega
theorem mul_lt' (q v : Int) (hq : 0 ≤ q ∧ q ≤ 4294967297) (hv : 0 ≤ v ∧ v < 4294967296) : 0 ≤ q * v ∧ q * v ≤ 18446744073709551615 := by
  refine ⟨Int.mul_nonneg hq.1 hv.1, ?_⟩
  have h1 : q * v ≤ 4294967297 * v := Int.mul_le_mul_of_nonneg_right hq.2 hv.1
  omega

/-- two digits make the quotient; the rest, moved back -/
theorem two (Y hi32 u1 u0 q1 q0 : Int) (hY : 0 < Y) (h1 : (hi32 * 4294967296 + u1) / Y = q1) (h0 : ((hi32 * 4294967296 + u1 - q1 * Y) * 4294967296 + u0) / Y = q0) :
    (hi32 * 18446744073709551616 + u1 * 4294967296 + u0) / Y = q1 * 4294967296 + q0 ∧
    (hi32 * 18446744073709551616 + u1 * 4294967296 + u0) % Y = (hi32 * 4294967296 + u1 - q1 * Y) * 4294967296 + u0 - q0 * Y := by
  have r0 := rest Y _ q0 hY h0
  have e : (hi32 * 18446744073709551616 + u1 * 4294967296 + u0) = ((hi32 * 4294967296 + u1 - q1 * Y) * 4294967296 + u0 - q0 * Y) + (q1 * 4294967296 + q0) * Y := by
    rw [Int.add_mul, Int.mul_assoc q1 4294967296 Y, Int.mul_comm 4294967296 Y, ← Int.mul_assoc]
    omega
  constructor
  · rw [e, Int.add_mul_ediv_right _ _ (by omega), Int.ediv_eq_zero_of_lt r0.1 r0.2]
    omega
  · rw [e, Int.add_mul_emod_self_right, Int.emod_eq_of_lt r0.1 r0.2]

/-- a division of both by one power: the quotient is the same, the rest is moved -/
theorem scaled (N Y s : Int) (hY : 0 < Y) (hs : 0 < s) : N * s / (Y * s) = N / Y ∧ N * s % (Y * s) / s = N % Y := by
  constructor
  · rw [Int.mul_ediv_mul_of_pos_left _ _ hs]
  · rw [Int.mul_comm N s, Int.mul_comm Y s, Int.mul_emod_mul_of_pos _ _ hs, Int.mul_ediv_cancel_left _ (by omega)]
end Go.Proofs.Ytflplliiamodhaa.DivMath
