/- math/bits.Div64 for a divisor above the high word. -/
import Derived.Test.YtflplliiamodhaaBase
import Derived.Test.YtflplliiamodhaaDivMath
namespace Go.Proofs.Ytflplliiamodhaa
open Go.RowKit
set_option linter.unusedVariables false

set_option maxHeartbeats 400000 in
theorem div64_zero (lo y : Int) (w : World) (hl : 0 ≤ lo ∧ lo ≤ 18446744073709551615) (hy : 1 ≤ y ∧ y ≤ 18446744073709551615) :
    Calls Try.prog 90 #[.int .u64 0, .int .u64 lo, .int .u64 y] w fun e w' => e = .returned (.tuple #[.int .u64 (lo / y), .int .u64 (lo % y)]) ∧ ∃ n, w' = w.drewN n := by
  have hy0 : (y == 0) = false := by simp; omega
  go_enter Try.func90, Try.ntmps90
  go_wp2
  go_quiet (fail)
  go_wp2
  go_ret2
  exact ⟨rfl, _, rfl⟩

def DivRel (V1 U Q : Int) (a b : Value) : Prop := ∃ q r : Int, a = .int .u64 q ∧ b = .int .u64 r ∧ 0 ≤ q ∧ q ≤ 4294967297 ∧ 0 ≤ r ∧ r < 4294967296 ∧ Q ≤ q ∧ Hid (q * V1 + r = U)
set_option maxHeartbeats 1000000 in
theorem div64_core (hi lo y : Int) (w : World) (hh : 1 ≤ hi ∧ hi < y) (hl : 0 ≤ lo ∧ lo ≤ 18446744073709551615) (hy : 1 ≤ y ∧ y ≤ 18446744073709551615) (s : Nat) (hs2 : s ≤ 62)
    (lz : Hid (∀ w : World, Calls Try.prog 106 #[.int .u64 y] w fun e w' => e = .returned (.int .i64 (s : Int)) ∧ w = w'))
    (Y V1 V0 U L u1 u0 Q1 R1 Q0 R0 : Int)
    (eY : IntKind.u64.wrap (y * 2 ^ s) = Y) (eV1 : Y / 4294967296 = V1) (eV0 : bits BinOp.and IntKind.u64 Y 4294967295 = V0)
    (eU : bits BinOp.or IntKind.u64 (IntKind.u64.wrap (hi * 2 ^ s)) (lo / 2 ^ (64 - s)) = U) (eL : IntKind.u64.wrap (lo * 2 ^ s) = L)
    (eu1 : L / 4294967296 = u1) (eu0 : bits BinOp.and IntKind.u64 L 4294967295 = u0)
    (b1 : 2147483648 ≤ V1 ∧ V1 < 4294967296) (b0 : 0 ≤ V0 ∧ V0 < 4294967296) (HY : Hid (Y = V1 * 4294967296 + V0)) (bY : 0 < Y ∧ Y < 18446744073709551616)
    (bU : 0 ≤ U ∧ U < Y) (c1 : 0 ≤ u1 ∧ u1 < 4294967296) (c0 : 0 ≤ u0 ∧ u0 < 4294967296)
    (HQ1 : Hid ((U * 4294967296 + u1) / Y = Q1)) (bQ1 : 0 ≤ Q1 ∧ Q1 < 4294967296) (bR1 : 0 ≤ R1 ∧ R1 < Y)
    (eR1 : IntKind.u64.wrap (IntKind.u64.wrap (IntKind.u64.wrap (U * 4294967296) + u1) - IntKind.u64.wrap (Q1 * Y)) = R1)
    (HQ0 : Hid ((R1 * 4294967296 + u0) / Y = Q0)) (bQ0 : 0 ≤ Q0 ∧ Q0 < 4294967296)
    (eR0 : IntKind.u64.wrap (IntKind.u64.wrap (IntKind.u64.wrap (R1 * 4294967296) + u0) - IntKind.u64.wrap (Q0 * Y)) = R0) :
    Calls Try.prog 90 #[.int .u64 hi, .int .u64 lo, .int .u64 y] w fun e w' => e = .returned (.tuple #[.int .u64 (Q1 * 4294967296 + Q0), .int .u64 (R0 / 2 ^ s)]) ∧ w = w' := by
  have hy0 : (y == 0) = false := by simp; omega
  have hh0 : (hi == 0) = false := by simp; omega
  have hv0 : (V1 == 0) = false := by simp; omega
  have st := DivMath.start V1 V0 U u1 b1.1 b0 (by have := HY.out; omega) c1
  rw [← HY.out, HQ1.out] at st
  have st0 := DivMath.start V1 V0 R1 u0 b1.1 b0 (by have := HY.out; omega) c0
  rw [← HY.out, HQ0.out] at st0
  obtain ⟨q0, e15⟩ : ∃ q, U / V1 = q := ⟨_, rfl⟩
  obtain ⟨q2, e18⟩ : ∃ q, R1 / V1 = q := ⟨_, rfl⟩
  rw [e15] at st
  rw [e18] at st0
  obtain ⟨s1, s2, s3, s4, s5⟩ := st
  obtain ⟨z1, z2, z3, z4, z5⟩ := st0
  obtain ⟨r0, E16⟩ : ∃ r, r = U - q0 * V1 := ⟨_, rfl⟩
  obtain ⟨r2, E19⟩ : ∃ r, r = R1 - q2 * V1 := ⟨_, rfl⟩
  have p1 := Int.mul_nonneg s1 (by omega : 0 ≤ V1)
  have p2 := Int.mul_nonneg z1 (by omega : 0 ≤ V1)
  have e16 : IntKind.u64.wrap (U - IntKind.u64.wrap (q0 * V1)) = r0 := by rw [IntWalk.u64_in (q0 * V1) (by omega), IntWalk.u64_in _ (by omega), E16]
  have e19 : IntKind.u64.wrap (R1 - IntKind.u64.wrap (q2 * V1)) = r2 := by rw [IntWalk.u64_in (q2 * V1) (by omega), IntWalk.u64_in _ (by omega), E19]
  have br0 : 0 ≤ r0 ∧ r0 < 4294967296 := by omega
  have br2 : 0 ≤ r2 ∧ r2 < 4294967296 := by omega
  have H16 : Hid (q0 * V1 + r0 = U) := Lib.hid (by omega)
  have H19 : Hid (q2 * V1 + r2 = R1) := Lib.hid (by omega)
  clear E16 E19 p1 p2 s4 s5 z4 z5
  go_enter Try.func90, Try.ntmps90
  go_wp2_with (go_at_call 106; refine (lz.out _).mono ?_; rintro e w' ⟨rfl, rfl⟩)
  clear eY eV1 eV0 eU eL eu1 eu0
  go_loop [15, 16] (fun a b => DivRel V1 U Q1 a b) (fun a _ => (intOf a).toNat)
  case atStart => exact ⟨q0, r0, by rw [e15], rfl, s1, s2, br0.1, br0.2, s3, H16⟩
  case round =>
    obtain ⟨q, r, rfl, rfl, g0, g1, g2, g3, g4, HG⟩ := hrel
    have ct : 0 ≤ q - 1 → Hid ((q - 1) * V1 + (r + V1) = U) := fun _ => Lib.hid (by have := HG.out; rw [Int.sub_mul]; omega)
    have key : ∃ P, (4294967296 ≤ q ∧ r + V1 < 4294967296 ∧ Q1 ≤ q - 1) ∨ (q < 4294967296 ∧ IntKind.u64.wrap (q * V0) = P ∧ r * 4294967296 + u1 < P ∧ r + V1 < 4294967296 ∧ Q1 ≤ q - 1)
        ∨ (4294967296 ≤ q ∧ 4294967296 ≤ r + V1 ∧ q = Q1 + 1) ∨ (q < 4294967296 ∧ IntKind.u64.wrap (q * V0) = P ∧ r * 4294967296 + u1 < P ∧ 4294967296 ≤ r + V1 ∧ q = Q1 + 1)
        ∨ (q < 4294967296 ∧ IntKind.u64.wrap (q * V0) = P ∧ P ≤ r * 4294967296 + u1 ∧ q = Q1) := by
      obtain ⟨P, EP⟩ : ∃ P, q * V0 = P := ⟨_, rfl⟩
      refine ⟨P, ?_⟩
      have hY := HY.out
      have hG := HG.out
      have hQ := HQ1.out
      rw [hY] at hQ
      by_cases k1 : 4294967296 ≤ q
      · by_cases k2 : 4294967296 ≤ r + V1
        · have := DivMath.past V1 V0 U u1 (q - 1) (r + V1) (by omega) b0 (by omega) (ct (by omega)).out (by omega) (by omega) (by omega) k2
          exact .inr (.inr (.inl ⟨k1, k2, by omega⟩))
        · exact .inl ⟨k1, by omega, by omega⟩
      · obtain ⟨m1, m2⟩ := DivMath.mul_lt' q V0 ⟨g0, g1⟩ b0
        have eP : IntKind.u64.wrap (q * V0) = P := by rw [IntWalk.u64_in _ ⟨m1, m2⟩, EP]
        by_cases k3 : r * 4294967296 + u1 < P
        · have ov := DivMath.over V1 V0 U u1 q r (by omega) hG (by omega)
          by_cases k2 : 4294967296 ≤ r + V1
          · have := DivMath.past V1 V0 U u1 (q - 1) (r + V1) (by omega) b0 (by omega) (ct (by omega)).out (by omega) (by omega) (by omega) k2
            exact .inr (.inr (.inr (.inl ⟨by omega, eP, k3, k2, by omega⟩)))
          · exact .inr (.inl ⟨by omega, eP, k3, by omega, by omega⟩)
        · have := DivMath.right V1 V0 U u1 q r (by omega) hG (by omega) (by omega)
          exact .inr (.inr (.inr (.inr ⟨by omega, eP, by omega, by omega⟩)))
    obtain ⟨P, ⟨k1, k2, k3⟩ | ⟨k1, eP, k2, k3, k4⟩ | ⟨k1, k2, rfl⟩ | ⟨k1, eP, k2, k3, rfl⟩ | ⟨k1, eP, k2, rfl⟩⟩ := key
    · go_wp2
      go_round
      case rel => exact ⟨q - 1, r + V1, rfl, rfl, by omega, by omega, by omega, by omega, by omega, ct (by omega)⟩
      case measure => simp [intOf]; omega
    · go_wp2
      go_round
      case rel => exact ⟨q - 1, r + V1, rfl, rfl, by omega, by omega, by omega, by omega, by omega, ct (by omega)⟩
      case measure => simp [intOf]; omega
    all_goals
      clear ct
      go_wp2
      go_loop [18, 16] (fun a b => DivRel V1 R1 Q0 a b) (fun a _ => (intOf a).toNat)
      case atStart => exact ⟨q2, r2, rfl, rfl, z1, z2, br2.1, br2.2, z3, H19⟩
      case round =>
        obtain ⟨q, r, rfl, rfl, g0, g1, g2, g3, g4, HG⟩ := hrel
        have ct : 0 ≤ q - 1 → Hid ((q - 1) * V1 + (r + V1) = R1) := fun _ => Lib.hid (by have := HG.out; rw [Int.sub_mul]; omega)
        have key : ∃ P, (4294967296 ≤ q ∧ r + V1 < 4294967296 ∧ Q0 ≤ q - 1) ∨ (q < 4294967296 ∧ IntKind.u64.wrap (q * V0) = P ∧ r * 4294967296 + u0 < P ∧ r + V1 < 4294967296 ∧ Q0 ≤ q - 1)
            ∨ (4294967296 ≤ q ∧ 4294967296 ≤ r + V1 ∧ q = Q0 + 1) ∨ (q < 4294967296 ∧ IntKind.u64.wrap (q * V0) = P ∧ r * 4294967296 + u0 < P ∧ 4294967296 ≤ r + V1 ∧ q = Q0 + 1)
            ∨ (q < 4294967296 ∧ IntKind.u64.wrap (q * V0) = P ∧ P ≤ r * 4294967296 + u0 ∧ q = Q0) := by
          obtain ⟨P, EP⟩ : ∃ P, q * V0 = P := ⟨_, rfl⟩
          refine ⟨P, ?_⟩
          have hY := HY.out
          have hG := HG.out
          have hQ := HQ0.out
          rw [hY] at hQ
          by_cases k1 : 4294967296 ≤ q
          · by_cases k2 : 4294967296 ≤ r + V1
            · have := DivMath.past V1 V0 R1 u0 (q - 1) (r + V1) (by omega) b0 (by omega) (ct (by omega)).out (by omega) (by omega) (by omega) k2
              exact .inr (.inr (.inl ⟨k1, k2, by omega⟩))
            · exact .inl ⟨k1, by omega, by omega⟩
          · obtain ⟨m1, m2⟩ := DivMath.mul_lt' q V0 ⟨g0, g1⟩ b0
            have eP : IntKind.u64.wrap (q * V0) = P := by rw [IntWalk.u64_in _ ⟨m1, m2⟩, EP]
            by_cases k3 : r * 4294967296 + u0 < P
            · have ov := DivMath.over V1 V0 R1 u0 q r (by omega) hG (by omega)
              by_cases k2 : 4294967296 ≤ r + V1
              · have := DivMath.past V1 V0 R1 u0 (q - 1) (r + V1) (by omega) b0 (by omega) (ct (by omega)).out (by omega) (by omega) (by omega) k2
                exact .inr (.inr (.inr (.inl ⟨by omega, eP, k3, k2, by omega⟩)))
              · exact .inr (.inl ⟨by omega, eP, k3, by omega, by omega⟩)
            · have := DivMath.right V1 V0 R1 u0 q r (by omega) hG (by omega) (by omega)
              exact .inr (.inr (.inr (.inr ⟨by omega, eP, by omega, by omega⟩)))
        obtain ⟨P, ⟨k1, k2, k3⟩ | ⟨k1, eP, k2, k3, k4⟩ | ⟨k1, k2, rfl⟩ | ⟨k1, eP, k2, k3, rfl⟩ | ⟨k1, eP, k2, rfl⟩⟩ := key
        · go_wp2
          go_round
          case rel => exact ⟨q - 1, r + V1, rfl, rfl, by omega, by omega, by omega, by omega, by omega, ct (by omega)⟩
          case measure => simp [intOf]; omega
        · go_wp2
          go_round
          case rel => exact ⟨q - 1, r + V1, rfl, rfl, by omega, by omega, by omega, by omega, by omega, ct (by omega)⟩
          case measure => simp [intOf]; omega
        all_goals
          clear ct
          go_wp2
          go_ret2
          exact ⟨rfl, rfl⟩
end Go.Proofs.Ytflplliiamodhaa
