/- GridParts for every input. -/
import Derived.Test.YthipeefhkaanbaaPartsW
namespace Go.Proofs.Ythipeefhkaanbaa
open Go.RowKit
set_option linter.unusedVariables false

theorem wrap64_InI (x : Int) : InI (wrap64 x) := by unfold InI wrap64; omega
theorem next_eq {v w y : Int} (hv : InI v) (hw : 1 ≤ w) (hy : v * w + (w - 1) = y) (hyi : InI y) (hl : v * w ≤ 9223372036854775807) (h : InI (wrap64 (v + 1) * w)) : wrap64 (v + 1) * w = wrap64 (y + 1) := by
  by_cases c : v = 9223372036854775807
  · subst c
    have hw1 : w = 1 := by omega
    subst hw1 hy
    rw [Int.mul_one, show (9223372036854775807 : Int) * 1 + (1 - 1) = 9223372036854775807 from by omega]
  · have e : wrap64 (v + 1) = v + 1 := IntWalk.wrap64_in _ (by unfold InI at hv; omega)
    rw [e] at h ⊢
    have e2 : (v + 1) * w = y + 1 := by rw [Int.add_mul, Int.one_mul]; omega
    rw [e2] at h ⊢
    exact (IntWalk.wrap64_in _ h).symm
theorem gridparts_any (w p m t : Int) (W : World) (ht : InI t) :
    Calls Try.prog 4 #[.agg #[.int .i64 w, .int .i64 p, .int .i64 m], .int .i64 t] W fun e w' => e = .returned (.bool true) ∧ Below W.heap.size W w' := by
  cases hr : rgB w p m
  · exact parts_state w p m t W (Lib.hid fun W => rright_any w p m false hr W)
  obtain ⟨r1, r2, r3, r4, r5, r6⟩ := rgB_yes hr
  have hv := ediv_in ht r1
  obtain ⟨b1, b2⟩ := win_lo (t := t) r1
  have Cr := Lib.hid (fun W => rright_any w p m true hr W)
  have Cv := Lib.hid (fun W => window_yes w p m t W hr ht)
  have Cs := Lib.hid (fun W => span_any w p m (t / w) W hr hv)
  generalize t / w = v at *
  rcases spE_cases v w with ⟨e1, e2, e3, e4, e5⟩ | ⟨e1, e2, e3⟩
  · rw [e1, e4, e5] at Cs
    have f1 := win_first (v := v) r1
    have f2 := win_last (v := v) r1
    have C1 := Lib.hid (fun W => window_yes w p m (v * w) W hr e2)
    have C2 := Lib.hid (fun W => window_yes w p m (v * w + (w - 1)) W hr e3)
    rw [f1] at C1
    rw [f2] at C2
    have le : v * w ≤ v * w + (w - 1) := by omega
    have Ch := Lib.hid (fun W => has_any (v * w) (v * w + (w - 1)) t true (decide_eq_true ⟨b1, b2⟩) W)
    have Cw := Lib.hid (fun W => width_any (v * w) (v * w + (w - 1)) W e2 e3)
    have hw : widI (v * w) (v * w + (w - 1)) = w - 1 := by unfold widI; rw [if_pos le]; omega
    rw [hw] at Cw
    obtain ⟨g1, g2, g3⟩ := mt_ok hr le
    have Cc := Lib.hid (fun W => certain_any w p m (v * w) (v * w + (w - 1)) true W e2 e3 (by rw [g1, g2, g3, f1, f2]; simp))
    have Cn := Lib.hid (fun W => span_any w p m (wrap64 (v + 1)) W hr (wrap64_InI _))
    rcases spE_cases (wrap64 (v + 1)) w with ⟨k1, k2, k3, k4, k5⟩ | ⟨k1, k2, k3⟩
    · rw [k1, k4, next_eq hv r1 rfl e3 e2.2 k2] at Cn
      exact parts_next w p m t v _ _ (w - 1) _ W Cr Cv Cs Ch Cw C1 C2 Cc r1 r2 (by omega) Cn
    · rw [k1] at Cn
      exact parts_last w p m t v _ _ (w - 1) _ _ _ W Cr Cv Cs Ch Cw C1 C2 Cc r1 r2 (by omega) Cn (by decide)
  · rw [e1, e2, e3] at Cs
    exact parts_over w p m t v W Cr Cv Cs
end Go.Proofs.Ythipeefhkaanbaa
