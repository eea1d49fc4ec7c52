/- gap.New, Right, Has, Within, Width, Mid: for every input. -/
import Derived.Test.YtflplliiamodhaaKeep
namespace Go.Proofs.Ytflplliiamodhaa
open Go.RowKit
set_option linter.unusedVariables false

theorem right_any (a b : Int) (w : World) : Calls Try.prog 41 #[.agg #[.int .i64 a, .int .i64 b]] w (Gives (.bool (decide (a ≤ b))) w) := by
  go_enter Try.func41, Try.ntmps41
  go_wp2
  go_ret
  exact gives_bool rfl (one_alloc _ _)
theorem has_any (a b x : Int) (r : Bool) (hr : decide (a ≤ x ∧ x ≤ b) = r) (w : World) : Calls Try.prog 26 #[.agg #[.int .i64 a, .int .i64 b], .int .i64 x] w (Gives (.bool r) w) := by
  have HR := Lib.hid hr
  clear hr
  go_enter Try.func26, Try.ntmps26
  go_wp2
  all_goals
    go_ret
    exact gives_bool (by rw [← HR.out, Bool.eq_iff_iff]; simp; omega) (one_alloc _ _)
/-- how wide an interval is; 0 if it is none -/
def widI (a b : Int) : Int := if a ≤ b then b - a else 0
theorem width_any (a b : Int) (w : World) (ha : InI a) (hb : InI b) : Calls Try.prog 72 #[.agg #[.int .i64 a, .int .i64 b]] w (Gives (.int .u64 (widI a b)) w) := by
  have ha' : -9223372036854775808 ≤ a ∧ a ≤ 9223372036854775807 := ha
  have hb' : -9223372036854775808 ≤ b ∧ b ≤ 9223372036854775807 := hb
  by_cases h : a ≤ b
  · have fin : ∀ w', Below w.heap.size w w' → Gives (.int .u64 (widI a b)) w (.returned (.int .u64 (IntKind.u64.wrap (IntKind.u64.wrap b - IntKind.u64.wrap a)))) w' := fun w' hw => gives_int (by unfold widI; rw [if_pos h]; simp only [IntKind.wrap_u64]; omega) hw
    have Fin := Lib.hid fin
    have hd : decide (a ≤ b) = true := decide_eq_true h
    clear fin ha hb
    go_enter Try.func72, Try.ntmps72
    go_wp2_with fail
    refine (right_any a b _).mono ?_
    rintro e w1 ⟨rfl, hb1⟩
    have B1 := Lib.hid ((one_alloc w _).trans (hb1.mono (by simp)))
    obtain ⟨hc, hf⟩ := bcell hb1
    have hz := hb1.size
    simp at hz
    go_wp2
    go_ret
    exact Fin.out _ B1.out
  · have fin : ∀ w', Below w.heap.size w w' → Gives (.int .u64 (widI a b)) w (.returned (.int .u64 0)) w' := fun w' hw => gives_int (by unfold widI; rw [if_neg h]) hw
    have Fin := Lib.hid fin
    have hd : decide (a ≤ b) = false := decide_eq_false h
    clear fin ha hb h
    go_enter Try.func72, Try.ntmps72
    go_wp2_with fail
    refine (right_any a b _).mono ?_
    rintro e w1 ⟨rfl, hb1⟩
    have B1 := Lib.hid ((one_alloc w _).trans (hb1.mono (by simp)))
    rw [hd]
    clear hb1
    go_wp2
    go_ret
    exact Fin.out _ B1.out
theorem within_any (a b c d : Int) (r : Bool) (hr : decide (a ≤ b ∧ c ≤ a ∧ b ≤ d) = r) (w : World) : Calls Try.prog 30 #[.agg #[.int .i64 a, .int .i64 b], .agg #[.int .i64 c, .int .i64 d]] w (Gives (.bool r) w) := by
  have HR := Lib.hid hr
  clear hr
  cases hd : decide (a ≤ b)
  all_goals
    go_enter Try.func30, Try.ntmps30
    go_wp2_with fail
    refine (right_any a b _).mono ?_
    rintro e w1 ⟨rfl, hb1⟩
    have B1 := Lib.hid (((Below.refl w.heap.size w).alloc (Nat.le_refl _) _).alloc (by simp) _ |>.trans (hb1.mono (by simp; omega)))
    obtain ⟨hc, hf⟩ := bcell hb1
    have hz := hb1.size
    simp at hz
    rw [hd]
    have HD := Lib.hid hd
    clear hb1 hd
    go_wp2
    all_goals
      go_ret
      exact gives_bool (by have hd := HD.out; rw [← HR.out, Bool.eq_iff_iff]; simp at hd ⊢; omega) B1.out
/-- the middle of two numbers, rounded down; 0 if the first one is the greater -/
def midI (a b : Int) : Int := if a ≤ b then a + (b - a) / 2 else 0
theorem mid_any (a b : Int) (w : World) (ha : InI a) (hb : InI b) : Calls Try.prog 49 #[.agg #[.int .i64 a, .int .i64 b]] w (Gives (.int .i64 (midI a b)) w) := by
  have ha' : -9223372036854775808 ≤ a ∧ a ≤ 9223372036854775807 := ha
  have hb' : -9223372036854775808 ≤ b ∧ b ≤ 9223372036854775807 := hb
  have Cw := Lib.hid (fun w => width_any a b w ha hb)
  have fin : ∀ r w', r = midI a b → Below w.heap.size w w' → Gives (.int .i64 (midI a b)) w (.returned (.int .i64 r)) w' := fun r w' h hw => gives_int h hw
  have Fin := Lib.hid fin
  clear fin ha hb
  by_cases h : a ≤ b
  · have hd : decide (a ≤ b) = true := decide_eq_true h
    have hw : widI a b = b - a := if_pos h
    rw [hw] at Cw
    have hm : a + (b - a) / 2 = midI a b := by unfold midI; rw [if_pos h]
    have HM := Lib.hid hm
    clear hw hm
    go_enter Try.func49, Try.ntmps49
    go_wp2_with fail
    refine (right_any a b _).mono ?_
    rintro e w1 ⟨rfl, hb1⟩
    have B1 := Lib.hid ((one_alloc w _).trans (hb1.mono (by simp)))
    obtain ⟨c1, c2, -, -, hz⟩ := box2 hb1
    rw [hd]
    clear hb1
    go_wp2
    go_region_held3 (fun w' => w'.cell? ⟨w.heap.size, 0, none⟩ = some (.int .i64 a) ∧ w'.cell? ⟨w.heap.size, 1, none⟩ = some (.int .i64 b))
      (first | exact ⟨k1, k2⟩ | go_keep)
      (first | (go_at_call 72; refine (Cw.out _).mono ?_; rintro e w2 ⟨rfl, hb2⟩; have k1 := (hb2.cell (p := ⟨w.heap.size, 0, none⟩) hz).trans c1; have k2 := (hb2.cell (p := ⟨w.heap.size, 1, none⟩) hz).trans c2))
    all_goals
      have B2 := Lib.hid (B1.out.trans (Below.mono (B := w1.heap.size) ⟨hb2.os, hb2.tape, hb2.output, hb2.size, hb2.block⟩ B1.out.size))
      clear hb2
      go_wp2
      go_ret
      refine Fin.out _ _ ?_ B2.out
      rw [← HM.out, Int.tdiv_eq_ediv_of_nonneg (by omega)]
      simp only [IntKind.wrap_u64, IntKind.wrap_i64]
      omega
  · have hd : decide (a ≤ b) = false := decide_eq_false h
    have h0 : (0 : Int) = midI a b := by unfold midI; rw [if_neg h]
    have H0 := Lib.hid h0
    clear h0 h
    go_enter Try.func49, Try.ntmps49
    go_wp2_with fail
    refine (right_any a b _).mono ?_
    rintro e w1 ⟨rfl, hb1⟩
    have B1 := Lib.hid ((one_alloc w _).trans (hb1.mono (by simp)))
    rw [hd]
    clear hb1
    go_wp2
    go_ret
    exact Fin.out _ _ H0.out B1.out
end Go.Proofs.Ytflplliiamodhaa
