/- noonmarklaw01.alive returns true. -/
import Derived.Test.YtjglpgicboocmaaSafeC
import Derived.Test.YtjglpgicboocmaaSafeD
import Derived.Handy
namespace Go.Proofs.Ytjglpgicboocmaa
open Go.RowKit
set_option linter.unusedVariables false

theorem grown_drewN {a w : World} (h : Grown a w) (n : Nat) : Grown a (w.drewN n) := h
theorem below_drewN {B : Nat} {a w : World} (h : Below B a w) (n : Nat) : Below B a (w.drewN n) := ⟨h.os, h.tape, h.output, h.size, h.block⟩
theorem grown_trans {a b c : World} (h : Grown a b) (k : Grown b c) : Grown a c :=
  ⟨World.keptBut_trans h.1 k.1, fun x => (k.2.1 x).trans (h.2.1 x), Nat.le_trans h.2.2 k.2.2⟩
theorem tup_of {k l : IntKind} {a b c d : Int} {e : Ending} (he : e = .returned (.tuple #[.int k a, .int l b])) (h : a = c) (h' : b = d) : e = .returned (.tuple #[.int k c, .int l d]) := by rw [he, h, h']

theorem alive_add (w : World) : Calls Try.prog 11 #[.int .i64 4611686018427387904, .int .i64 4611686018427387904] w fun e w' => e = .returned (.tuple #[.int .i64 0, .int .i64 12]) ∧ w = w' :=
  (add_any _ _ w (by omega) (by omega)).mono fun e w' ⟨he, hw⟩ => ⟨tup_of he (by decide) (by decide), hw⟩
theorem alive_sub (w : World) : Calls Try.prog 12 #[.int .i64 3, .int .i64 5] w fun e w' => e = .returned (.tuple #[.int .i64 (-2), .int .i64 0]) ∧ w = w' :=
  (sub_any _ _ w (by omega) (by omega)).mono fun e w' ⟨he, hw⟩ => ⟨tup_of he (by decide) (by decide), hw⟩
theorem alive_mul (w : World) : Calls Try.prog 13 #[.int .i64 (-3), .int .i64 5] w fun e w' => e = .returned (.tuple #[.int .i64 (-15), .int .i64 0]) ∧ w = w' :=
  (mul_any _ _ w (by omega) (by omega)).mono fun e w' ⟨he, hw⟩ => ⟨tup_of he (by decide) (by decide), hw⟩
theorem alive_ratio1 (w : World) : Calls Try.prog 14 #[.int .i64 7, .int .i64 3, .int .i64 2, .bool true] w fun e w' => e = .returned (.tuple #[.int .i64 11, .int .i64 0]) ∧ ∃ n, w' = w.drewN n :=
  (ratio_any _ _ _ _ w (by omega) (by omega) (by omega)).mono fun e w' ⟨he, hw⟩ => ⟨tup_of he (by decide) (by decide), hw⟩
theorem alive_ratio2 (w : World) : Calls Try.prog 14 #[.int .i64 (-7), .int .i64 3, .int .i64 2, .bool false] w fun e w' => e = .returned (.tuple #[.int .i64 (-11), .int .i64 0]) ∧ ∃ n, w' = w.drewN n :=
  (ratio_any _ _ _ _ w (by omega) (by omega) (by omega)).mono fun e w' ⟨he, hw⟩ => ⟨tup_of he (by decide) (by decide), hw⟩
theorem alive_sum (b : Nat) (w : World) (h0 : w.cell? ⟨b, 0, none⟩ = some (.int .i64 4611686018427387904)) (h1 : w.cell? ⟨b, 1, none⟩ = some (.int .i64 4611686018427387904)) (h2 : w.cell? ⟨b, 2, none⟩ = some (.int .i64 (-1))) :
    Calls Try.prog 8 #[.slice (some ⟨b, 0, none⟩) 3 3] w fun e w' => e = .returned (.tuple #[.int .i64 9223372036854775807, .int .i64 0]) ∧ w = w' :=
  (sum_any (some ⟨b, 0, none⟩) 3 [4611686018427387904, 4611686018427387904, -1] w (fun j hj => ⟨b, 0, rfl, by
    simp only [List.length_cons, List.length_nil] at hj
    have : j = 0 ∨ j = 1 ∨ j = 2 := by omega
    rcases this with rfl | rfl | rfl
    · exact h0
    · exact h1
    · exact h2⟩) (by simp [InI]) (by simp)).mono fun e w' ⟨he, hw⟩ => ⟨tup_of he (by decide) (by decide), hw⟩

theorem alive_ratio3 (w : World) : Calls Try.prog 14 #[.int .i64 1, .int .i64 1, .int .i64 0, .bool false] w fun e w' => e = .returned (.tuple #[.int .i64 0, .int .i64 11]) ∧ w = w' := ratio_small _ _ _ _ w (by omega)
theorem alive_clamp (a r : Int) (h : min (max a 1) 5 = r) (w : World) : Calls Try.prog 15 #[.int .i64 a, .int .i64 1, .int .i64 5] w fun e w' => e = .returned (.int .i64 r) ∧ w = w' :=
  (clamp_any _ _ _ w).mono fun e w' ⟨he, hw⟩ => ⟨he.trans (ret_int h), hw⟩
set_option maxHeartbeats 1000000 in
theorem alive_both (w : World) : Calls Try.prog 6 #[] w fun e w' => e = .returned (.bool true) ∧ Grown w w' ∧ Below w.heap.size w w' := by
  go_enter Try.func6, Try.ntmps6
  go_wp2_with fail
  go_call (alive_add _) as e w1 ⟨rfl, rfl⟩
  go_wp2_with fail
  go_call (alive_sub _) as e w1 ⟨rfl, rfl⟩
  go_wp2_with fail
  go_call (alive_mul _) as e w1 ⟨rfl, rfl⟩
  go_wp2_with fail
  go_call alive_sum as e w1 ⟨rfl, rfl⟩
  go_wp2_with fail
  go_call (alive_ratio1 _) as e w1 ⟨rfl, n1, rfl⟩
  go_wp2_with fail
  go_call (alive_ratio2 _) as e w1 ⟨rfl, n2, rfl⟩
  go_wp2_with fail
  go_call (alive_ratio3 _) as e w1 ⟨rfl, rfl⟩
  go_wp2_with fail
  go_call (alive_clamp 9 5 (by decide) _) as e w1 ⟨rfl, rfl⟩
  go_wp2_with fail
  go_call (alive_clamp 0 1 (by decide) _) as e w1 ⟨rfl, rfl⟩
  go_wp2_with fail
  go_call (alive_clamp 3 3 (by decide) _) as e w1 ⟨rfl, rfl⟩
  go_wp2_with fail
  go_ret
  exact ⟨rfl, grown_drewN ((Grown.refl _).alloc _ _) _, below_drewN ((Below.refl _ _).alloc (Nat.le_refl _) _) _⟩
theorem alive_any (w : World) : Calls Try.prog 6 #[] w fun e w' => e = .returned (.bool true) ∧ Grown w w' := (alive_both w).mono fun e w' h => ⟨h.1, h.2.1⟩
theorem alive_bel (w : World) : Calls Try.prog 6 #[] w fun e w' => e = .returned (.bool true) ∧ Below w.heap.size w w' := (alive_both w).mono fun e w' h => ⟨h.1, h.2.2⟩
theorem bd {a : Int} (h : (Lit.int .i64 a).wf = true) : InI a := by simp [Lit.wf, IntKind.min, IntKind.max, IntKind.signed, IntKind.bits] at h; exact h
end Go.Proofs.Ytjglpgicboocmaa
