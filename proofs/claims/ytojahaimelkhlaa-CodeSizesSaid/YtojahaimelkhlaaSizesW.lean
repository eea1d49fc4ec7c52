/- CodeSizes, walked. -/
import Derived.Test.YtojahaimelkhlaaAlive
namespace Go.Proofs.Ytojahaimelkhlaa
open Go.RowKit
set_option linter.unusedVariables false

theorem uint1 (a : Nat) (ha : a < 18446744073709551616) : Hid (∀ W g, Cel W g #[.int .u64 a] → Calls Try.prog 16 #[.slice (some ⟨g, 0, none⟩) 1 1] W (NewBytes (enc a) W)) := Lib.hid fun W g k => by
  have h := uints_any (some ⟨g, 0, none⟩) 1 [(a : Int)] W (kept_ints .u64 _ k) (by simp; omega) (by simp)
  rw [show encs [(a : Int)] = enc a by simp [encs]] at h
  exact h
set_option maxHeartbeats 4000000 in
set_option maxRecDepth 100000 in
theorem sizes_pos (a b : Nat) (v : Int) (W0 : World) (ha : a < 18446744073709551616) (hb : b < 18446744073709551616) (hv : InI v) (h0 : 0 ≤ v) :
    Calls Try.prog 6 #[.int .u64 a, .int .u64 b, .int .i64 v] W0 fun e w' => e = .returned (.bool true) ∧ Below W0.heap.size W0 w' := by
  have C1 := uint1 a ha
  have C2 := uint1 b hb
  have B0 := Lib.hid (Below.refl W0.heap.size W0)
  have l1 := enc_len a
  have l2 := enc_one a
  have l3 := enc_two a
  have l4 := enc_mono a b
  have Q : ∀ (v : Int) (z : Int), zig v = z → InI v → Hid (∀ W, Calls Try.prog 11 #[.int .i64 v] W fun e w' => e = .returned (.int .u64 z) ∧ W = w') ∧ Hid (∀ W, Calls Try.prog 9 #[.int .u64 z] W fun e w' => e = .returned (.int .i64 v) ∧ W = w') := fun v z hz h => by
    have hbd := zig_bd h
    obtain ⟨z', rfl⟩ := Int.eq_ofNat_of_zero_le (by rw [← hz]; exact hbd.1 : 0 ≤ z)
    refine ⟨Lib.hid fun W => by have h := turn_any v W h; rw [hz] at h; exact h, Lib.hid fun W => ?_⟩
    have h := unturn_any z' W (by rw [hz] at hbd; omega)
    rw [← hz, unzig_zig] at h
    rw [← hz]
    exact h
  obtain ⟨x, hx⟩ : ∃ x, (enc a).length = x := ⟨_, rfl⟩
  obtain ⟨y, hy⟩ : ∃ y, (enc b).length = y := ⟨_, rfl⟩
  rw [hx] at l1 l2 l3 l4
  rw [hy] at l4
  have HX := Lib.hid hx
  have HY := Lib.hid hy
  clear hx hy ha hb
  have q3 : ((a : Int) ≤ (b : Int) ∧ ¬ (y : Int) < (x : Int)) ∨ ¬ (a : Int) ≤ (b : Int) := by omega
  have q4 : ((a : Int) < 128 ∧ x = 1 ∧ (a : Int) < 16384) ∨ (¬ (a : Int) < 128 ∧ x = 2 ∧ (a : Int) < 16384) ∨ (¬ (a : Int) < 128 ∧ ¬ (a : Int) < 16384 ∧ (x = 3 ∨ x = 4 ∨ x = 5 ∨ x = 6 ∨ x = 7 ∨ x = 8 ∨ x = 9 ∨ x = 10)) := by omega
  clear l1 l2 l3 l4
  have fact : ∀ (P : Prop), (((a : Int) ≤ (b : Int)) → ¬ (y : Int) < (x : Int) → P) → (¬ (a : Int) ≤ (b : Int) → P) → P := fun P h1 h2 => by
    rcases q3 with ⟨a, b⟩ | h
    · exact h1 a b
    · exact h2 h
  clear q3
  obtain ⟨A, hA⟩ : ∃ A : Int, (a : Int) = A := ⟨_, rfl⟩
  obtain ⟨B, hB⟩ : ∃ B : Int, (b : Int) = B := ⟨_, rfl⟩
  rw [hA] at C1 q4 ⊢
  rw [hB] at C2 ⊢
  rw [hA, hB] at fact
  clear hA hB
  unfold InI at hv
  · obtain ⟨D1, D2⟩ := Q v (2 * v) (by unfold zig; rw [if_pos h0]) hv
    have u1 : IntKind.u64.wrap v = v := by simp only [IntKind.wrap_u64]; omega
    have u2 : IntKind.u64.wrap (2 * v) = 2 * v := by simp only [IntKind.wrap_u64]; omega
    clear Q hv
    apply fact <;> intros <;> rcases q4 with ⟨r1, rfl, r3⟩ | ⟨r1, rfl, r3⟩ | ⟨r1, r3, rfl | rfl | rfl | rfl | rfl | rfl | rfl | rfl⟩
    all_goals
      clear fact
      go_enter Try.func6, Try.ntmps6
      go_wp2_with fail
      refine (alive_any _).mono ?_
      rintro _ w1 ⟨rfl, b1⟩
      have B1 := Lib.hid b1
      clear b1
      go_wp2_with fail
      refine (C1.out _ _ (Cel.new rfl)).mono ?_
      rintro _ w2 ⟨v2, rfl, o2, b2⟩
      obtain ⟨a2, c2, rfl, -, -, -, -, -⟩ := IntRow.ownK o2
      have B2 : Hid (Below W0.heap.size W0 w2) := Lib.hid (bnext (B1.out.alloc B1.out.size _) (by have := B1.out.size; simp; omega) b2)
      clear o2 b2
      rw [HX.out]
      go_wp2_with fail
      refine (C2.out _ _ (Cel.new rfl)).mono ?_
      rintro _ w3 ⟨v3, rfl, o3, b3⟩
      obtain ⟨a3, c3, rfl, -, -, -, -, -⟩ := IntRow.ownK o3
      have B3 : Hid (Below W0.heap.size W0 w3) := Lib.hid (bnext (B2.out.alloc B2.out.size _) (by have := B2.out.size; simp; omega) b3)
      clear o3 b3
      rw [HY.out]
      go_wp2_with fail
      refine (D1.out _).mono ?_
      rintro _ _ ⟨rfl, rfl⟩
      go_wp2_with fail
      refine (D2.out _).mono ?_
      rintro _ _ ⟨rfl, rfl⟩
      go_wp2
      go_ret
      exact ⟨rfl, B3.out⟩
end Go.Proofs.Ytojahaimelkhlaa
