import Derived.Test.YtflplliiamodhaaZDriftM
import Derived.Test.YtflplliiamodhaaZDivMath
import Derived.Lib.BitFns
import Derived.Lib.ItoaNum
/- math/bits.Div64 for a divisor above the high word. -/
namespace Go.Proofs.Ytflplliiamodhaa
open Go.RowKit
set_option linter.unusedVariables false

set_option maxHeartbeats 400000 in
theorem div64_zero (lo y : Int) (w : World) (hl : 0 ≤ lo ∧ lo ≤ 18446744073709551615) (hy : 1 ≤ y ∧ y ≤ 18446744073709551615) :
    Calls Try.prog 90 #[.int .u64 0, .int .u64 lo, .int .u64 y] w fun e w' => e = .returned (.tuple #[.int .u64 (lo / y), .int .u64 (lo % y)]) ∧ ∃ n, w' = w.drewN n := by
  have hy0 : (y == 0) = false := by simp; omega
  go_enter Try.func90, Try.ntmps90
  go_wp2
  go_quiet (fail)
  go_wp2
  go_ret2
  exact ⟨rfl, _, rfl⟩

def DivRel (V1 U Q : Int) (a b : Value) : Prop := ∃ q r : Int, a = .int .u64 q ∧ b = .int .u64 r ∧ 0 ≤ q ∧ q ≤ 4294967297 ∧ 0 ≤ r ∧ r < 4294967296 ∧ Q ≤ q ∧ Hid (q * V1 + r = U)
set_option maxHeartbeats 1000000 in
theorem div64_core (hi lo y : Int) (w : World) (hh : 1 ≤ hi ∧ hi < y) (hl : 0 ≤ lo ∧ lo ≤ 18446744073709551615) (hy : 1 ≤ y ∧ y ≤ 18446744073709551615) (s : Nat) (hs2 : s ≤ 62)
    (lz : Hid (∀ w : World, Calls Try.prog 106 #[.int .u64 y] w fun e w' => e = .returned (.int .i64 (s : Int)) ∧ w = w'))
    (Y V1 V0 U L u1 u0 Q1 R1 Q0 R0 : Int)
    (eY : IntKind.u64.wrap (y * 2 ^ s) = Y) (eV1 : Y / 4294967296 = V1) (eV0 : bits BinOp.and IntKind.u64 Y 4294967295 = V0)
    (eU : bits BinOp.or IntKind.u64 (IntKind.u64.wrap (hi * 2 ^ s)) (lo / 2 ^ (64 - s)) = U) (eL : IntKind.u64.wrap (lo * 2 ^ s) = L)
    (eu1 : L / 4294967296 = u1) (eu0 : bits BinOp.and IntKind.u64 L 4294967295 = u0)
    (b1 : 2147483648 ≤ V1 ∧ V1 < 4294967296) (b0 : 0 ≤ V0 ∧ V0 < 4294967296) (HY : Hid (Y = V1 * 4294967296 + V0)) (bY : 0 < Y ∧ Y < 18446744073709551616)
    (bU : 0 ≤ U ∧ U < Y) (c1 : 0 ≤ u1 ∧ u1 < 4294967296) (c0 : 0 ≤ u0 ∧ u0 < 4294967296)
    (HQ1 : Hid ((U * 4294967296 + u1) / Y = Q1)) (bQ1 : 0 ≤ Q1 ∧ Q1 < 4294967296) (bR1 : 0 ≤ R1 ∧ R1 < Y)
    (eR1 : IntKind.u64.wrap (IntKind.u64.wrap (IntKind.u64.wrap (U * 4294967296) + u1) - IntKind.u64.wrap (Q1 * Y)) = R1)
    (HQ0 : Hid ((R1 * 4294967296 + u0) / Y = Q0)) (bQ0 : 0 ≤ Q0 ∧ Q0 < 4294967296)
    (eR0 : IntKind.u64.wrap (IntKind.u64.wrap (IntKind.u64.wrap (R1 * 4294967296) + u0) - IntKind.u64.wrap (Q0 * Y)) = R0) :
    Calls Try.prog 90 #[.int .u64 hi, .int .u64 lo, .int .u64 y] w fun e w' => e = .returned (.tuple #[.int .u64 (Q1 * 4294967296 + Q0), .int .u64 (R0 / 2 ^ s)]) ∧ w = w' := by
  have hy0 : (y == 0) = false := by simp; omega
  have hh0 : (hi == 0) = false := by simp; omega
  have hv0 : (V1 == 0) = false := by simp; omega
  have st := DivMath.start V1 V0 U u1 b1.1 b0 (by have := HY.out; omega) c1
  rw [← HY.out, HQ1.out] at st
  have st0 := DivMath.start V1 V0 R1 u0 b1.1 b0 (by have := HY.out; omega) c0
  rw [← HY.out, HQ0.out] at st0
  obtain ⟨q0, e15⟩ : ∃ q, U / V1 = q := ⟨_, rfl⟩
  obtain ⟨q2, e18⟩ : ∃ q, R1 / V1 = q := ⟨_, rfl⟩
  rw [e15] at st
  rw [e18] at st0
  obtain ⟨s1, s2, s3, s4, s5⟩ := st
  obtain ⟨z1, z2, z3, z4, z5⟩ := st0
  obtain ⟨r0, E16⟩ : ∃ r, r = U - q0 * V1 := ⟨_, rfl⟩
  obtain ⟨r2, E19⟩ : ∃ r, r = R1 - q2 * V1 := ⟨_, rfl⟩
  have p1 := Int.mul_nonneg s1 (by omega : 0 ≤ V1)
  have p2 := Int.mul_nonneg z1 (by omega : 0 ≤ V1)
  have e16 : IntKind.u64.wrap (U - IntKind.u64.wrap (q0 * V1)) = r0 := by rw [IntWalk.u64_in (q0 * V1) (by omega), IntWalk.u64_in _ (by omega), E16]
  have e19 : IntKind.u64.wrap (R1 - IntKind.u64.wrap (q2 * V1)) = r2 := by rw [IntWalk.u64_in (q2 * V1) (by omega), IntWalk.u64_in _ (by omega), E19]
  have br0 : 0 ≤ r0 ∧ r0 < 4294967296 := by omega
  have br2 : 0 ≤ r2 ∧ r2 < 4294967296 := by omega
  have H16 : Hid (q0 * V1 + r0 = U) := Lib.hid (by omega)
  have H19 : Hid (q2 * V1 + r2 = R1) := Lib.hid (by omega)
  clear E16 E19 p1 p2 s4 s5 z4 z5
  go_enter Try.func90, Try.ntmps90
  go_wp2_with (go_at_call 106; refine (lz.out _).mono ?_; rintro e w' ⟨rfl, rfl⟩)
  clear eY eV1 eV0 eU eL eu1 eu0
  go_loop [15, 16] (fun a b => DivRel V1 U Q1 a b) (fun a _ => (intOf a).toNat)
  case atStart => exact ⟨q0, r0, by rw [e15], rfl, s1, s2, br0.1, br0.2, s3, H16⟩
  case round =>
    obtain ⟨q, r, rfl, rfl, g0, g1, g2, g3, g4, HG⟩ := hrel
    have ct : 0 ≤ q - 1 → Hid ((q - 1) * V1 + (r + V1) = U) := fun _ => Lib.hid (by have := HG.out; rw [Int.sub_mul]; omega)
    have key : ∃ P, (4294967296 ≤ q ∧ r + V1 < 4294967296 ∧ Q1 ≤ q - 1) ∨ (q < 4294967296 ∧ IntKind.u64.wrap (q * V0) = P ∧ r * 4294967296 + u1 < P ∧ r + V1 < 4294967296 ∧ Q1 ≤ q - 1)
        ∨ (4294967296 ≤ q ∧ 4294967296 ≤ r + V1 ∧ q = Q1 + 1) ∨ (q < 4294967296 ∧ IntKind.u64.wrap (q * V0) = P ∧ r * 4294967296 + u1 < P ∧ 4294967296 ≤ r + V1 ∧ q = Q1 + 1)
        ∨ (q < 4294967296 ∧ IntKind.u64.wrap (q * V0) = P ∧ P ≤ r * 4294967296 + u1 ∧ q = Q1) := by
      obtain ⟨P, EP⟩ : ∃ P, q * V0 = P := ⟨_, rfl⟩
      refine ⟨P, ?_⟩
      have hY := HY.out
      have hG := HG.out
      have hQ := HQ1.out
      rw [hY] at hQ
      by_cases k1 : 4294967296 ≤ q
      · by_cases k2 : 4294967296 ≤ r + V1
        · have := DivMath.past V1 V0 U u1 (q - 1) (r + V1) (by omega) b0 (by omega) (ct (by omega)).out (by omega) (by omega) (by omega) k2
          exact .inr (.inr (.inl ⟨k1, k2, by omega⟩))
        · exact .inl ⟨k1, by omega, by omega⟩
      · obtain ⟨m1, m2⟩ := DivMath.mul_lt' q V0 ⟨g0, g1⟩ b0
        have eP : IntKind.u64.wrap (q * V0) = P := by rw [IntWalk.u64_in _ ⟨m1, m2⟩, EP]
        by_cases k3 : r * 4294967296 + u1 < P
        · have ov := DivMath.over V1 V0 U u1 q r (by omega) hG (by omega)
          by_cases k2 : 4294967296 ≤ r + V1
          · have := DivMath.past V1 V0 U u1 (q - 1) (r + V1) (by omega) b0 (by omega) (ct (by omega)).out (by omega) (by omega) (by omega) k2
            exact .inr (.inr (.inr (.inl ⟨by omega, eP, k3, k2, by omega⟩)))
          · exact .inr (.inl ⟨by omega, eP, k3, by omega, by omega⟩)
        · have := DivMath.right V1 V0 U u1 q r (by omega) hG (by omega) (by omega)
          exact .inr (.inr (.inr (.inr ⟨by omega, eP, by omega, by omega⟩)))
    obtain ⟨P, ⟨k1, k2, k3⟩ | ⟨k1, eP, k2, k3, k4⟩ | ⟨k1, k2, rfl⟩ | ⟨k1, eP, k2, k3, rfl⟩ | ⟨k1, eP, k2, rfl⟩⟩ := key
    · go_wp2
      go_round
      case rel => exact ⟨q - 1, r + V1, rfl, rfl, by omega, by omega, by omega, by omega, by omega, ct (by omega)⟩
      case measure => simp [intOf]; omega
    · go_wp2
      go_round
      case rel => exact ⟨q - 1, r + V1, rfl, rfl, by omega, by omega, by omega, by omega, by omega, ct (by omega)⟩
      case measure => simp [intOf]; omega
    all_goals
      clear ct
      go_wp2
      go_loop [18, 16] (fun a b => DivRel V1 R1 Q0 a b) (fun a _ => (intOf a).toNat)
      case atStart => exact ⟨q2, r2, rfl, rfl, z1, z2, br2.1, br2.2, z3, H19⟩
      case round =>
        obtain ⟨q, r, rfl, rfl, g0, g1, g2, g3, g4, HG⟩ := hrel
        have ct : 0 ≤ q - 1 → Hid ((q - 1) * V1 + (r + V1) = R1) := fun _ => Lib.hid (by have := HG.out; rw [Int.sub_mul]; omega)
        have key : ∃ P, (4294967296 ≤ q ∧ r + V1 < 4294967296 ∧ Q0 ≤ q - 1) ∨ (q < 4294967296 ∧ IntKind.u64.wrap (q * V0) = P ∧ r * 4294967296 + u0 < P ∧ r + V1 < 4294967296 ∧ Q0 ≤ q - 1)
            ∨ (4294967296 ≤ q ∧ 4294967296 ≤ r + V1 ∧ q = Q0 + 1) ∨ (q < 4294967296 ∧ IntKind.u64.wrap (q * V0) = P ∧ r * 4294967296 + u0 < P ∧ 4294967296 ≤ r + V1 ∧ q = Q0 + 1)
            ∨ (q < 4294967296 ∧ IntKind.u64.wrap (q * V0) = P ∧ P ≤ r * 4294967296 + u0 ∧ q = Q0) := by
          obtain ⟨P, EP⟩ : ∃ P, q * V0 = P := ⟨_, rfl⟩
          refine ⟨P, ?_⟩
          have hY := HY.out
          have hG := HG.out
          have hQ := HQ0.out
          rw [hY] at hQ
          by_cases k1 : 4294967296 ≤ q
          · by_cases k2 : 4294967296 ≤ r + V1
            · have := DivMath.past V1 V0 R1 u0 (q - 1) (r + V1) (by omega) b0 (by omega) (ct (by omega)).out (by omega) (by omega) (by omega) k2
              exact .inr (.inr (.inl ⟨k1, k2, by omega⟩))
            · exact .inl ⟨k1, by omega, by omega⟩
          · obtain ⟨m1, m2⟩ := DivMath.mul_lt' q V0 ⟨g0, g1⟩ b0
            have eP : IntKind.u64.wrap (q * V0) = P := by rw [IntWalk.u64_in _ ⟨m1, m2⟩, EP]
            by_cases k3 : r * 4294967296 + u0 < P
            · have ov := DivMath.over V1 V0 R1 u0 q r (by omega) hG (by omega)
              by_cases k2 : 4294967296 ≤ r + V1
              · have := DivMath.past V1 V0 R1 u0 (q - 1) (r + V1) (by omega) b0 (by omega) (ct (by omega)).out (by omega) (by omega) (by omega) k2
                exact .inr (.inr (.inr (.inl ⟨by omega, eP, k3, k2, by omega⟩)))
              · exact .inr (.inl ⟨by omega, eP, k3, by omega, by omega⟩)
            · have := DivMath.right V1 V0 R1 u0 q r (by omega) hG (by omega) (by omega)
              exact .inr (.inr (.inr (.inr ⟨by omega, eP, by omega, by omega⟩)))
        obtain ⟨P, ⟨k1, k2, k3⟩ | ⟨k1, eP, k2, k3, k4⟩ | ⟨k1, k2, rfl⟩ | ⟨k1, eP, k2, k3, rfl⟩ | ⟨k1, eP, k2, rfl⟩⟩ := key
        · go_wp2
          go_round
          case rel => exact ⟨q - 1, r + V1, rfl, rfl, by omega, by omega, by omega, by omega, by omega, ct (by omega)⟩
          case measure => simp [intOf]; omega
        · go_wp2
          go_round
          case rel => exact ⟨q - 1, r + V1, rfl, rfl, by omega, by omega, by omega, by omega, by omega, ct (by omega)⟩
          case measure => simp [intOf]; omega
        all_goals
          clear ct
          go_wp2
          go_ret2
          exact ⟨rfl, rfl⟩
end Go.Proofs.Ytflplliiamodhaa

/- math/bits.Div64: the quotient of two words by one. -/
namespace Go.Proofs.Ytflplliiamodhaa
open Go.RowKit
set_option linter.unusedVariables false

theorem norm_facts (hi lo y s : Nat) (hy2 : y * 2 ^ s < 18446744073709551616) (hh : hi < y) (hl : lo < 18446744073709551616) (hs : s ≤ 62) :
    hi * 2 ^ s < 18446744073709551616 ∧ lo / 2 ^ (64 - s) < 2 ^ s ∧ (hi * 2 ^ s ||| lo / 2 ^ (64 - s)) = hi * 2 ^ s + lo / 2 ^ (64 - s) ∧
    (hi * 2 ^ s + lo / 2 ^ (64 - s)) * 18446744073709551616 + lo * 2 ^ s % 18446744073709551616 = (hi * 18446744073709551616 + lo) * 2 ^ s ∧ hi * 2 ^ s + lo / 2 ^ (64 - s) < y * 2 ^ s := by
  have e64 : 2 ^ (64 - s) * 2 ^ s = 18446744073709551616 := by rw [← Nat.pow_add, Nat.sub_add_cancel (by omega)]
  have pS : 0 < 2 ^ s := Nat.two_pow_pos s
  have pT : 0 < 2 ^ (64 - s) := Nat.two_pow_pos _
  have h1 : hi * 2 ^ s < y * 2 ^ s := Nat.mul_lt_mul_of_pos_right hh pS
  have h2 : lo / 2 ^ (64 - s) < 2 ^ s := Nat.div_lt_of_lt_mul (by rw [e64]; exact hl)
  have e := Nat.div_add_mod lo (2 ^ (64 - s))
  have hm := Nat.mod_lt lo pT
  have e3 : lo * 2 ^ s = (lo / 2 ^ (64 - s)) * 18446744073709551616 + lo % 2 ^ (64 - s) * 2 ^ s := by
    conv => lhs; rw [← e]
    rw [Nat.add_mul, Nat.mul_comm (2 ^ (64 - s)) (lo / 2 ^ (64 - s)), Nat.mul_assoc, e64]
  have h3 : lo % 2 ^ (64 - s) * 2 ^ s < 18446744073709551616 := by rw [← e64]; exact Nat.mul_lt_mul_of_pos_right hm pS
  refine ⟨by omega, h2, ?_, ?_, ?_⟩
  · rw [Nat.mul_comm hi, Nat.two_pow_add_eq_or_of_lt h2]
  · rw [Nat.add_mul (hi * 18446744073709551616), Nat.mul_right_comm hi]
    omega
  · have h4 : (hi + 1) * 2 ^ s ≤ y * 2 ^ s := Nat.mul_le_mul_right _ hh
    rw [Nat.add_mul, Nat.one_mul] at h4
    omega
theorem cast_mul_pow (a s : Nat) : (a : Int) * 2 ^ s = ((a * 2 ^ s : Nat) : Int) := by rw [Int.natCast_mul, Int.natCast_pow]; rfl
theorem cast_div_pow (a s : Nat) : (a : Int) / 2 ^ s = ((a / 2 ^ s : Nat) : Int) := by rw [Int.natCast_ediv, Int.natCast_pow]; rfl
theorem wrapM (a : Nat) : IntKind.u64.wrap (a : Int) = ((a % 18446744073709551616 : Nat) : Int) := by rw [IntKind.wrap_u64]; omega
theorem maskN (a : Nat) (ha : a < 18446744073709551616) : bits .and .u64 (a : Int) 4294967295 = ((a % 4294967296 : Nat) : Int) := by
  have h := bits_and_u64_nat a 4294967295 ha (by omega)
  have e : a &&& 4294967295 = a % 4294967296 := Nat.and_two_pow_sub_one_eq_mod a 32
  rw [e] at h
  exact h

theorem div64_any (hi lo y : Nat) (w : World) (h1 : 1 ≤ hi) (hh : hi < y) (hl : lo < 18446744073709551616) (hy : y < 18446744073709551616) :
    Calls Try.prog 90 #[.int .u64 hi, .int .u64 lo, .int .u64 y] w fun e w' =>
      e = .returned (.tuple #[.int .u64 (((hi * 18446744073709551616 + lo) / y : Nat) : Int), .int .u64 (((hi * 18446744073709551616 + lo) % y : Nat) : Int)]) ∧ w = w' := by
  obtain ⟨k1, k2, k3⟩ := Lib.bitLenAux_bounds 64 y (by omega) (by omega)
  have k4 : Lib.bitLenAux 64 y ≤ 64 := Lib.bitLenAux_le 64 y 64 (by omega)
  have k5 : 2 ≤ Lib.bitLenAux 64 y := by
    refine Nat.le_of_not_lt fun hc => ?_
    have : Lib.bitLenAux 64 y = 1 := by omega
    rw [this] at k3
    omega
  obtain ⟨s, hs⟩ : ∃ s, s = 64 - Lib.bitLenAux 64 y := ⟨_, rfl⟩
  have pS : 0 < 2 ^ s := Nat.two_pow_pos s
  have hY2 : y * 2 ^ s < 18446744073709551616 := by
    have : y * 2 ^ s < 2 ^ Lib.bitLenAux 64 y * 2 ^ s := Nat.mul_lt_mul_of_pos_right k3 pS
    rw [← Nat.pow_add, hs, Nat.add_sub_cancel' k4] at this
    rw [hs]
    exact this
  have hY1 : 9223372036854775808 ≤ y * 2 ^ s := by
    have : 2 ^ (Lib.bitLenAux 64 y - 1) * 2 ^ s ≤ y * 2 ^ s := Nat.mul_le_mul_right _ k2
    rw [← Nat.pow_add, show Lib.bitLenAux 64 y - 1 + s = 63 from by omega] at this
    exact this
  obtain ⟨f1, f2, f3, f4, f5⟩ := norm_facts hi lo y s hY2 hh hl (by omega)
  have hSi : (0 : Int) < 2 ^ s := by
    have := cast_mul_pow 1 s
    rw [Int.natCast_one, Int.one_mul, Nat.one_mul] at this
    omega
  have c1 := cast_mul_pow y s
  have c4 : ((hi * 18446744073709551616 + lo : Nat) : Int) * 2 ^ s = (((hi * 18446744073709551616 + lo) * 2 ^ s : Nat) : Int) := cast_mul_pow _ s
  have eU : bits BinOp.or IntKind.u64 (IntKind.u64.wrap ((hi : Int) * 2 ^ s)) ((lo : Int) / 2 ^ (64 - s)) = ((hi * 2 ^ s + lo / 2 ^ (64 - s) : Nat) : Int) := by
    rw [cast_mul_pow, wrapM, Nat.mod_eq_of_lt f1, cast_div_pow, bits_or_u64_nat _ _ f1 (by omega), f3]
  have eL : IntKind.u64.wrap ((lo : Int) * 2 ^ s) = ((lo * 2 ^ s % 18446744073709551616 : Nat) : Int) := by rw [cast_mul_pow, wrapM]
  have eY : IntKind.u64.wrap ((y : Int) * 2 ^ s) = ((y * 2 ^ s : Nat) : Int) := by rw [cast_mul_pow, wrapM, Nat.mod_eq_of_lt hY2]
  have sc := DivMath.scaled ((hi * 18446744073709551616 + lo : Nat) : Int) y (2 ^ s) (by omega) hSi
  rw [c1, c4, ← f4] at sc
  have lz : Hid (∀ w : World, Calls Try.prog 106 #[.int .u64 (y : Int)] w fun e w' => e = .returned (.int .i64 (s : Int)) ∧ w = w') := Lib.hid fun w =>
    (Try.bits_LeadingZeros64 (y : Int) w (by omega) (by omega)).mono fun e w' ⟨he, hw⟩ => ⟨he.trans (ret_int (by
      rw [Int.toNat_natCast]
      show (64 : Int) - (Lib.bitLenAux 64 y : Int) = s
      omega)), hw.symm⟩
  have hL : lo * 2 ^ s % 18446744073709551616 < 18446744073709551616 := Nat.mod_lt _ (by omega)
  generalize hi * 2 ^ s + lo / 2 ^ (64 - s) = U at *
  generalize lo * 2 ^ s % 18446744073709551616 = L at *
  generalize y * 2 ^ s = Y at *
  have s1 := DivMath.small (Y : Int) U ((L / 4294967296 : Nat) : Int) (by omega) (by omega)
  have r1 := DivMath.rest (Y : Int) _ _ (by omega) (rfl : ((U : Int) * 4294967296 + ((L / 4294967296 : Nat) : Int)) / Y = _)
  generalize hQ1 : ((U : Int) * 4294967296 + ((L / 4294967296 : Nat) : Int)) / Y = Q1 at *
  obtain ⟨R1, hR1⟩ : ∃ R, R = (U : Int) * 4294967296 + ((L / 4294967296 : Nat) : Int) - Q1 * Y := ⟨_, rfl⟩
  rw [← hR1] at r1
  have s0 := DivMath.small (Y : Int) R1 ((L % 4294967296 : Nat) : Int) r1 (by omega)
  have r0 := DivMath.rest (Y : Int) _ _ (by omega) (rfl : (R1 * 4294967296 + ((L % 4294967296 : Nat) : Int)) / Y = _)
  generalize hQ0 : (R1 * 4294967296 + ((L % 4294967296 : Nat) : Int)) / Y = Q0 at *
  obtain ⟨R0, hR0⟩ : ∃ R, R = R1 * 4294967296 + ((L % 4294967296 : Nat) : Int) - Q0 * Y := ⟨_, rfl⟩
  rw [← hR0] at r0
  have t := DivMath.two (Y : Int) U ((L / 4294967296 : Nat) : Int) ((L % 4294967296 : Nat) : Int) Q1 Q0 (by omega) hQ1 (by rw [← hR1]; exact hQ0)
  rw [← hR1, ← hR0, show (U : Int) * 18446744073709551616 + ((L / 4294967296 : Nat) : Int) * 4294967296 + ((L % 4294967296 : Nat) : Int) = ((U * 18446744073709551616 + L : Nat) : Int) from by omega] at t
  rw [t.1, t.2] at sc
  have core := div64_core hi lo y w (by omega) (by omega) (by omega) s (by omega) lz Y ((Y / 4294967296 : Nat) : Int) ((Y % 4294967296 : Nat) : Int) U L ((L / 4294967296 : Nat) : Int) ((L % 4294967296 : Nat) : Int) Q1 R1 Q0 R0
    eY (by omega) (maskN Y (by omega)) eU eL (by omega) (maskN L hL) (by omega) (by omega) (Lib.hid (by omega)) (by omega) (by omega) (by omega) (by omega) (Lib.hid hQ1) s1 r1
    (by simp only [IntKind.wrap_u64]; omega) (Lib.hid hQ0) s0 (by simp only [IntKind.wrap_u64]; omega)
  refine core.mono fun e w' ⟨he, hw⟩ => ⟨he.trans ?_, hw⟩
  rw [sc.1, sc.2, Int.natCast_ediv, Int.natCast_emod]
end Go.Proofs.Ytflplliiamodhaa
