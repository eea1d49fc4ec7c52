/- math/bits.Div64: the quotient of two words by one. -/
import Derived.Test.YtflplliiamodhaaDivCore
import Derived.Test.YtflplliiamodhaaShelf
import Derived.Lib.BitFns
import Derived.Lib.ItoaNum
namespace Go.Proofs.Ytflplliiamodhaa
open Go.RowKit
set_option linter.unusedVariables false

theorem norm_facts (hi lo y s : Nat) (hy2 : y * 2 ^ s < 18446744073709551616) (hh : hi < y) (hl : lo < 18446744073709551616) (hs : s ≤ 62) :
    hi * 2 ^ s < 18446744073709551616 ∧ lo / 2 ^ (64 - s) < 2 ^ s ∧ (hi * 2 ^ s ||| lo / 2 ^ (64 - s)) = hi * 2 ^ s + lo / 2 ^ (64 - s) ∧
    (hi * 2 ^ s + lo / 2 ^ (64 - s)) * 18446744073709551616 + lo * 2 ^ s % 18446744073709551616 = (hi * 18446744073709551616 + lo) * 2 ^ s ∧ hi * 2 ^ s + lo / 2 ^ (64 - s) < y * 2 ^ s := by
  have e64 : 2 ^ (64 - s) * 2 ^ s = 18446744073709551616 := by rw [← Nat.pow_add, Nat.sub_add_cancel (by omega)]
  have pS : 0 < 2 ^ s := Nat.two_pow_pos s
  have pT : 0 < 2 ^ (64 - s) := Nat.two_pow_pos _
  have h1 : hi * 2 ^ s < y * 2 ^ s := Nat.mul_lt_mul_of_pos_right hh pS
  have h2 : lo / 2 ^ (64 - s) < 2 ^ s := Nat.div_lt_of_lt_mul (by rw [e64]; exact hl)
  have e := Nat.div_add_mod lo (2 ^ (64 - s))
  have hm := Nat.mod_lt lo pT
  have e3 : lo * 2 ^ s = (lo / 2 ^ (64 - s)) * 18446744073709551616 + lo % 2 ^ (64 - s) * 2 ^ s := by
    conv => lhs; rw [← e]
    rw [Nat.add_mul, Nat.mul_comm (2 ^ (64 - s)) (lo / 2 ^ (64 - s)), Nat.mul_assoc, e64]
  have h3 : lo % 2 ^ (64 - s) * 2 ^ s < 18446744073709551616 := by rw [← e64]; exact Nat.mul_lt_mul_of_pos_right hm pS
  refine ⟨by omega, h2, ?_, ?_, ?_⟩
  · rw [Nat.mul_comm hi, Nat.two_pow_add_eq_or_of_lt h2]
  · rw [Nat.add_mul (hi * 18446744073709551616), Nat.mul_right_comm hi]
    omega
  · have h4 : (hi + 1) * 2 ^ s ≤ y * 2 ^ s := Nat.mul_le_mul_right _ hh
    rw [Nat.add_mul, Nat.one_mul] at h4
    omega
theorem cast_mul_pow (a s : Nat) : (a : Int) * 2 ^ s = ((a * 2 ^ s : Nat) : Int) := by rw [Int.natCast_mul, Int.natCast_pow]; rfl
theorem cast_div_pow (a s : Nat) : (a : Int) / 2 ^ s = ((a / 2 ^ s : Nat) : Int) := by rw [Int.natCast_ediv, Int.natCast_pow]; rfl
theorem wrapM (a : Nat) : IntKind.u64.wrap (a : Int) = ((a % 18446744073709551616 : Nat) : Int) := by rw [IntKind.wrap_u64]; omega
theorem maskN (a : Nat) (ha : a < 18446744073709551616) : bits .and .u64 (a : Int) 4294967295 = ((a % 4294967296 : Nat) : Int) := by
  have h := bits_and_u64_nat a 4294967295 ha (by omega)
  have e : a &&& 4294967295 = a % 4294967296 := Nat.and_two_pow_sub_one_eq_mod a 32
  rw [e] at h
  exact h

theorem div64_any (hi lo y : Nat) (w : World) (h1 : 1 ≤ hi) (hh : hi < y) (hl : lo < 18446744073709551616) (hy : y < 18446744073709551616) :
    Calls Try.prog 90 #[.int .u64 hi, .int .u64 lo, .int .u64 y] w fun e w' =>
      e = .returned (.tuple #[.int .u64 (((hi * 18446744073709551616 + lo) / y : Nat) : Int), .int .u64 (((hi * 18446744073709551616 + lo) % y : Nat) : Int)]) ∧ w = w' := by
  obtain ⟨k1, k2, k3⟩ := Lib.bitLenAux_bounds 64 y (by omega) (by omega)
  have k4 : Lib.bitLenAux 64 y ≤ 64 := Lib.bitLenAux_le 64 y 64 (by omega)
  have k5 : 2 ≤ Lib.bitLenAux 64 y := by
    refine Nat.le_of_not_lt fun hc => ?_
    have : Lib.bitLenAux 64 y = 1 := by omega
    rw [this] at k3
    omega
  obtain ⟨s, hs⟩ : ∃ s, s = 64 - Lib.bitLenAux 64 y := ⟨_, rfl⟩
  have pS : 0 < 2 ^ s := Nat.two_pow_pos s
  have hY2 : y * 2 ^ s < 18446744073709551616 := by
    have : y * 2 ^ s < 2 ^ Lib.bitLenAux 64 y * 2 ^ s := Nat.mul_lt_mul_of_pos_right k3 pS
    rw [← Nat.pow_add, hs, Nat.add_sub_cancel' k4] at this
    rw [hs]
    exact this
  have hY1 : 9223372036854775808 ≤ y * 2 ^ s := by
    have : 2 ^ (Lib.bitLenAux 64 y - 1) * 2 ^ s ≤ y * 2 ^ s := Nat.mul_le_mul_right _ k2
    rw [← Nat.pow_add, show Lib.bitLenAux 64 y - 1 + s = 63 from by omega] at this
    exact this
  obtain ⟨f1, f2, f3, f4, f5⟩ := norm_facts hi lo y s hY2 hh hl (by omega)
  have hSi : (0 : Int) < 2 ^ s := by
    have := cast_mul_pow 1 s
    rw [Int.natCast_one, Int.one_mul, Nat.one_mul] at this
    omega
  have c1 := cast_mul_pow y s
  have c4 : ((hi * 18446744073709551616 + lo : Nat) : Int) * 2 ^ s = (((hi * 18446744073709551616 + lo) * 2 ^ s : Nat) : Int) := cast_mul_pow _ s
  have eU : bits BinOp.or IntKind.u64 (IntKind.u64.wrap ((hi : Int) * 2 ^ s)) ((lo : Int) / 2 ^ (64 - s)) = ((hi * 2 ^ s + lo / 2 ^ (64 - s) : Nat) : Int) := by
    rw [cast_mul_pow, wrapM, Nat.mod_eq_of_lt f1, cast_div_pow, bits_or_u64_nat _ _ f1 (by omega), f3]
  have eL : IntKind.u64.wrap ((lo : Int) * 2 ^ s) = ((lo * 2 ^ s % 18446744073709551616 : Nat) : Int) := by rw [cast_mul_pow, wrapM]
  have eY : IntKind.u64.wrap ((y : Int) * 2 ^ s) = ((y * 2 ^ s : Nat) : Int) := by rw [cast_mul_pow, wrapM, Nat.mod_eq_of_lt hY2]
  have sc := DivMath.scaled ((hi * 18446744073709551616 + lo : Nat) : Int) y (2 ^ s) (by omega) hSi
  rw [c1, c4, ← f4] at sc
  have lz : Hid (∀ w : World, Calls Try.prog 106 #[.int .u64 (y : Int)] w fun e w' => e = .returned (.int .i64 (s : Int)) ∧ w = w') := Lib.hid fun w =>
    (Try.bits_LeadingZeros64 (y : Int) w (by omega) (by omega)).mono fun e w' ⟨he, hw⟩ => ⟨he.trans (ret_int (by
      rw [Int.toNat_natCast]
      show (64 : Int) - (Lib.bitLenAux 64 y : Int) = s
      omega)), hw.symm⟩
  have hL : lo * 2 ^ s % 18446744073709551616 < 18446744073709551616 := Nat.mod_lt _ (by omega)
  generalize hi * 2 ^ s + lo / 2 ^ (64 - s) = U at *
  generalize lo * 2 ^ s % 18446744073709551616 = L at *
  generalize y * 2 ^ s = Y at *
  have s1 := DivMath.small (Y : Int) U ((L / 4294967296 : Nat) : Int) (by omega) (by omega)
  have r1 := DivMath.rest (Y : Int) _ _ (by omega) (rfl : ((U : Int) * 4294967296 + ((L / 4294967296 : Nat) : Int)) / Y = _)
  generalize hQ1 : ((U : Int) * 4294967296 + ((L / 4294967296 : Nat) : Int)) / Y = Q1 at *
  obtain ⟨R1, hR1⟩ : ∃ R, R = (U : Int) * 4294967296 + ((L / 4294967296 : Nat) : Int) - Q1 * Y := ⟨_, rfl⟩
  rw [← hR1] at r1
  have s0 := DivMath.small (Y : Int) R1 ((L % 4294967296 : Nat) : Int) r1 (by omega)
  have r0 := DivMath.rest (Y : Int) _ _ (by omega) (rfl : (R1 * 4294967296 + ((L % 4294967296 : Nat) : Int)) / Y = _)
  generalize hQ0 : (R1 * 4294967296 + ((L % 4294967296 : Nat) : Int)) / Y = Q0 at *
  obtain ⟨R0, hR0⟩ : ∃ R, R = R1 * 4294967296 + ((L % 4294967296 : Nat) : Int) - Q0 * Y := ⟨_, rfl⟩
  rw [← hR0] at r0
  have t := DivMath.two (Y : Int) U ((L / 4294967296 : Nat) : Int) ((L % 4294967296 : Nat) : Int) Q1 Q0 (by omega) hQ1 (by rw [← hR1]; exact hQ0)
  rw [← hR1, ← hR0, show (U : Int) * 18446744073709551616 + ((L / 4294967296 : Nat) : Int) * 4294967296 + ((L % 4294967296 : Nat) : Int) = ((U * 18446744073709551616 + L : Nat) : Int) from by omega] at t
  rw [t.1, t.2] at sc
  have core := div64_core hi lo y w (by omega) (by omega) (by omega) s (by omega) lz Y ((Y / 4294967296 : Nat) : Int) ((Y % 4294967296 : Nat) : Int) U L ((L / 4294967296 : Nat) : Int) ((L % 4294967296 : Nat) : Int) Q1 R1 Q0 R0
    eY (by omega) (maskN Y (by omega)) eU eL (by omega) (maskN L hL) (by omega) (by omega) (Lib.hid (by omega)) (by omega) (by omega) (by omega) (by omega) (Lib.hid hQ1) s1 r1
    (by simp only [IntKind.wrap_u64]; omega) (Lib.hid hQ0) s0 (by simp only [IntKind.wrap_u64]; omega)
  refine core.mono fun e w' ⟨he, hw⟩ => ⟨he.trans ?_, hw⟩
  rw [sc.1, sc.2, Int.natCast_ediv, Int.natCast_emod]
end Go.Proofs.Ytflplliiamodhaa
