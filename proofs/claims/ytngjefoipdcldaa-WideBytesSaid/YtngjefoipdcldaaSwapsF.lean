/- noonmarklaw02.WideSwaps: true for every input. -/
import Derived.Test.YtngjefoipdcldaaSwapsW
namespace Go.Proofs.Ytngjefoipdcldaa
open Go.RowKit
set_option linter.unusedVariables false

theorem sum_kept3 (x y z r : Int) (hx : InI x) (hy : InI y) (hz : InI z) (hr : x + y + z = r) (W : World) (g : Nat) (hk : Kept W g #[.int .i64 x, .int .i64 y, .int .i64 z] 2) :
    Calls Try.prog 23 #[.slice (some ⟨g, 0, none⟩) 3 3] W (Gives (wI r) W) := by
  have h := wsum_any (some ⟨g, 0, none⟩) 3 [x, y, z] W (fun j hj => ⟨g, 0, rfl, by
    rw [(hk.at_ (0 + j)).1]
    have : j = 0 ∨ j = 1 ∨ j = 2 := by simp at hj; omega
    rcases this with rfl | rfl | rfl <;> rfl⟩) (by simp; exact ⟨hx, hy, hz⟩) (by simp)
  rw [show isum [x, y, z] = r by unfold isum; simp; omega] at h
  exact h
theorem sum_kept2 (x y r : Int) (hx : InI x) (hy : InI y) (hr : x + y = r) (W : World) (g : Nat) (hk : Kept W g #[.int .i64 x, .int .i64 y] 2) :
    Calls Try.prog 23 #[.slice (some ⟨g, 0, none⟩) 2 2] W (Gives (wI r) W) := by
  have h := wsum_any (some ⟨g, 0, none⟩) 2 [x, y] W (fun j hj => ⟨g, 0, rfl, by
    rw [(hk.at_ (0 + j)).1]
    have : j = 0 ∨ j = 1 := by simp at hj; omega
    rcases this with rfl | rfl <;> rfl⟩) (by simp; exact ⟨hx, hy⟩) (by simp)
  rw [show isum [x, y] = r by unfold isum; simp; omega] at h
  exact h
theorem mul_in {x y : Int} (hx : InI x) (hy : InI y) : InW (x * y) := by
  unfold InI at hx hy
  have h : (x * y).natAbs ≤ 9223372036854775808 * 9223372036854775808 := by
    rw [Int.natAbs_mul]
    exact Nat.mul_le_mul (by omega) (by omega)
  unfold InW
  omega
theorem swaps_any (h l g m x y z : Int) (w : World) (hh : -9223372036854775808 ≤ h ∧ h ≤ 9223372036854775807) (hl : 0 ≤ l ∧ l ≤ 18446744073709551615) (hg : -9223372036854775808 ≤ g ∧ g ≤ 9223372036854775807) (hm : 0 ≤ m ∧ m ≤ 18446744073709551615) (hx : InI x) (hy : InI y) (hz : InI z) :
    Calls Try.prog 7 #[.agg #[.int .i64 h, .int .u64 l], .agg #[.int .i64 g, .int .u64 m], .int .i64 x, .int .i64 y, .int .i64 z] w fun e w' => e = .returned (.bool true) ∧ Below w.heap.size w w' := by
  have ea := wI_wz hh hl
  have eb := wI_wz hg hm
  have ha := wz_inW hh hl
  have hb := wz_inW hg hm
  obtain ⟨a, ha'⟩ : ∃ a, wz h l = a := ⟨_, rfl⟩
  obtain ⟨b, hb'⟩ : ∃ a, wz g m = a := ⟨_, rfl⟩
  rw [ha'] at ea ha
  rw [hb'] at eb hb
  have hyz := mul_in hx hy
  have hxz := mul_in hx hz
  have C1 := Lib.hid (fun W => wadd_any a b W ha hb)
  have C2 := Lib.hid (fun W => wadd_any b a W hb ha)
  rw [Int.add_comm b a] at C2
  have C3 := Lib.hid (fun W => wtimes_any x y W hx hy)
  have C4 := Lib.hid (fun W => wtimes_any y x W hy hx)
  rw [Int.mul_comm y x] at C4
  have C5 := Lib.hid (sum_kept3 x y z _ hx hy hz rfl)
  have C6 := Lib.hid (sum_kept3 z x y (x + y + z) hz hx hy (by omega))
  have C7 := Lib.hid (sum_kept2 y z _ hy hz rfl)
  have hyzI : InW (y + z) := by unfold InI at hy hz; unfold InW; omega
  have C8 := Lib.hid (fun W => wlong_any (y + z) W hyzI)
  have C9 := Lib.hid (fun W => wtimes_any x z W hx hz)
  have CA := Lib.hid (fun W => wadd_any (x * y) (x * z) W hyz hxz)
  rw [ea, eb] at C1 C2
  by_cases hs : InW (a + b)
  · rw [vW_in hs, eW_in hs] at C1 C2
    have CD := Lib.hid (fun W => wsub_any (a + b) b W hs hb)
    rw [show a + b - b = a by omega, vW_in ha, eW_in ha, ea, eb] at CD
    by_cases hv : InI (y + z)
    · have hp : InW (x * y + x * z) := by rw [← Int.mul_add]; exact mul_in hx hv
      rw [vI_in hv, decide_eq_true hv] at C8
      rw [vW_in hp, eW_in hp] at CA
      have CB := Lib.hid (fun W => wtimes_any x (y + z) W hx hv)
      rw [Int.mul_add] at CB
      exact swaps_11 h l g m x y z _ _ _ _ _ _ _ _ (y + z) _ _ _ _ w C1 C2 C3 C4 C5 C6 C7 C8 CD C9 CA CB
    · rw [vI_out hv, decide_eq_false hv] at C8
      exact swaps_10 h l g m x y z _ _ _ _ _ _ _ _ 0 0 0 0 0 w C1 C2 C3 C4 C5 C6 C7 C8 CD
  · rw [vW_out hs, eW_out hs] at C1 C2
    by_cases hv : InI (y + z)
    · have hp : InW (x * y + x * z) := by rw [← Int.mul_add]; exact mul_in hx hv
      rw [vI_in hv, decide_eq_true hv] at C8
      rw [vW_in hp, eW_in hp] at CA
      have CB := Lib.hid (fun W => wtimes_any x (y + z) W hx hv)
      rw [Int.mul_add] at CB
      exact swaps_01 h l g m x y z _ _ _ _ _ _ _ _ (y + z) _ _ _ _ w C1 C2 C3 C4 C5 C6 C7 C8 C9 CA CB
    · rw [vI_out hv, decide_eq_false hv] at C8
      exact swaps_00 h l g m x y z _ _ _ _ _ _ _ _ 0 0 0 0 0 w C1 C2 C3 C4 C5 C6 C7 C8
theorem bdu {a : Int} (h : (Lit.int .u64 a).wf = true) : 0 ≤ a ∧ a ≤ 18446744073709551615 := by simp [Lit.wf, IntKind.min, IntKind.max, IntKind.signed, IntKind.bits] at h; exact h
end Go.Proofs.Ytngjefoipdcldaa
