/- grid: Window, New, Span: for every input. -/
import Derived.Test.YthipeefhkaanbaaGridM
namespace Go.Proofs.Ythipeefhkaanbaa
open Go.RowKit
set_option linter.unusedVariables false

theorem window_no (w p m t : Int) (W : World) (hr : rgB w p m = false) : Calls Try.prog 16 #[.agg #[.int .i64 w, .int .i64 p, .int .i64 m], .int .i64 t] W (Gives (.int .i64 0) W) := by
  have C := Lib.hid (fun W => gright_any w p m false hr W)
  clear hr
  go_enter Try.func16, Try.ntmps16
  go_wp2_with fail
  refine (C.out _).mono ?_
  rintro e w1 ⟨rfl, hb1⟩
  have B1 := Lib.hid ((one_alloc W _).trans (hb1.mono (by simp)))
  clear hb1
  go_wp2
  go_ret
  exact gives_int rfl B1.out
theorem window_yes (w p m t : Int) (W : World) (hr : rgB w p m = true) (ht : InI t) : Calls Try.prog 16 #[.agg #[.int .i64 w, .int .i64 p, .int .i64 m], .int .i64 t] W (Gives (.int .i64 (t / w)) W) := by
  have C := Lib.hid (fun W => gright_any w p m true hr W)
  obtain ⟨h1, h2, -⟩ := rgB_yes hr
  have ht' : -9223372036854775808 ≤ t ∧ t ≤ 9223372036854775807 := ht
  obtain ⟨l1, l2⟩ : -9223372036854775808 ≤ t / w ∧ t / w ≤ 9223372036854775807 := ediv_in ht h1
  have fin : ∀ r w', r = t / w → Below W.heap.size W w' → Gives (.int .i64 (t / w)) W (.returned (.int .i64 r)) w' := fun r w' h hb => gives_int h hb
  have Fin := Lib.hid fin
  clear fin hr ht
  by_cases hneg : t.tmod w < 0
  · have e := tdiv_down h1 hneg
    have E := Lib.hid e
    have tn : t < 0 := by
      refine Int.lt_of_not_ge fun hc => ?_
      have := Int.tmod_nonneg w hc; omega
    have q1 : -9223372036854775808 ≤ t.tdiv w ∧ t.tdiv w ≤ 9223372036854775807 := by
      have := Int.ediv_neg_of_neg_of_pos tn (show 0 < w by omega); omega
    have q2 : -9223372036854775808 ≤ t.tmod w ∧ t.tmod w ≤ 9223372036854775807 := by
      have := Int.lt_tmod_of_pos t (show 0 < w by omega); omega
    clear e
    go_enter Try.func16, Try.ntmps16
    go_wp2_with fail
    refine (C.out _).mono ?_
    rintro e w1 ⟨rfl, hb1⟩
    have K1 := (Kept.new (cs := #[.int .i64 w, .int .i64 p, .int .i64 m]) (t := 23) rfl).next hb1
    obtain ⟨c1, c2, c3, -, -, -, -⟩ := K1.three
    have B1 := Lib.hid ((one_alloc W _).trans (hb1.mono (by simp)))
    clear hb1 K1
    go_wp2
    go_ret
    refine Fin.out _ _ ?_ B1.out
    have e := E.out
    exact (IntWalk.wrap64_in (t.tdiv w - 1) (by omega)).trans e
  · have e := tdiv_up h1 hneg
    have E := Lib.hid e
    have q1 : -9223372036854775808 ≤ t.tdiv w ∧ t.tdiv w ≤ 9223372036854775807 := by omega
    have q2 : -9223372036854775808 ≤ t.tmod w ∧ t.tmod w ≤ 9223372036854775807 := by
      have := Int.tmod_lt_of_pos t (show 0 < w by omega); omega
    clear e
    go_enter Try.func16, Try.ntmps16
    go_wp2_with fail
    refine (C.out _).mono ?_
    rintro e w1 ⟨rfl, hb1⟩
    have K1 := (Kept.new (cs := #[.int .i64 w, .int .i64 p, .int .i64 m]) (t := 23) rfl).next hb1
    obtain ⟨c1, c2, c3, -, -, -, -⟩ := K1.three
    have B1 := Lib.hid ((one_alloc W _).trans (hb1.mono (by simp)))
    clear hb1 K1
    go_wp2
    go_ret
    refine Fin.out _ _ ?_ B1.out
    exact E.out
/-- what New leaves -/
def GridRes (w p m e : Int) (W : World) (x : Ending) (W' : World) : Prop := x = .returned (.tuple #[.agg #[.int .i64 w, .int .i64 p, .int .i64 m], .int .i64 e]) ∧ Below W.heap.size W W'
theorem gnew_yes (w p m : Int) (W : World) (hr : rgB w p m = true) : Calls Try.prog 8 #[.int .i64 w, .int .i64 p, .int .i64 m] W (GridRes w p m 0 W) := by
  have C := Lib.hid (fun W => gright_any w p m true hr W)
  have fin : ∀ w', Below W.heap.size W w' → GridRes w p m 0 W (.returned (.tuple #[.agg #[.int .i64 w, .int .i64 p, .int .i64 m], .int .i64 0])) w' := fun w' h => ⟨rfl, h⟩
  have Fin := Lib.hid fin
  clear hr fin
  go_enter Try.func8, Try.ntmps8
  go_wp2_with fail
  refine (C.out _).mono ?_
  rintro e w1 ⟨rfl, hb1⟩
  have K1 := (((Kept.new (w := W) (cs := #[.int .i64 0, .int .i64 0, .int .i64 0]) (t := 23) rfl).alloc (.cells #[.int .i64 w, .int .i64 p, .int .i64 m] 23))).next hb1
  have K2 := (Kept.new (w := W.alloc (.cells #[.int .i64 0, .int .i64 0, .int .i64 0] 23)) (g := W.heap.size + 1) (cs := #[.int .i64 w, .int .i64 p, .int .i64 m]) (t := 23) (by simp)).next hb1
  obtain ⟨r1, r2, r3, g1, g2, g3, -⟩ := K1.three
  obtain ⟨c1, c2, c3, -, -, -, -⟩ := K2.three
  have B1 := Lib.hid (((one_alloc W _).alloc (by simp) _).trans (hb1.mono (by simp; omega)))
  have RR := Lib.hid K1
  clear hb1 K1 K2
  go_wp2
  obtain ⟨s1, s2, s3⟩ := RR.out.read3 (.int .i64 w) (.int .i64 p) (.int .i64 m)
  refine bodyPost_ret (v := .tuple #[.agg #[.int .i64 w, .int .i64 p, .int .i64 m], .int .i64 0]) (by simp [results, Try.results8, go_sem, s1, s2, s3]) rfl ?_
  exact Fin.out _ (bset3 B1.out (Nat.le_refl _) _ _ _)
theorem gnew_no (w p m : Int) (W : World) (hr : rgB w p m = false) : Calls Try.prog 8 #[.int .i64 w, .int .i64 p, .int .i64 m] W (GridRes 0 0 0 11 W) := by
  have C := Lib.hid (fun W => gright_any w p m false hr W)
  have fin : ∀ w', Below W.heap.size W w' → GridRes 0 0 0 11 W (.returned (.tuple #[.agg #[.int .i64 0, .int .i64 0, .int .i64 0], .int .i64 11])) w' := fun w' h => ⟨rfl, h⟩
  have Fin := Lib.hid fin
  clear hr fin
  go_enter Try.func8, Try.ntmps8
  go_wp2_with fail
  refine (C.out _).mono ?_
  rintro e w1 ⟨rfl, hb1⟩
  have K1 := (((Kept.new (w := W) (cs := #[.int .i64 0, .int .i64 0, .int .i64 0]) (t := 23) rfl).alloc (.cells #[.int .i64 w, .int .i64 p, .int .i64 m] 23))).next hb1
  have K2 := (Kept.new (w := W.alloc (.cells #[.int .i64 0, .int .i64 0, .int .i64 0] 23)) (g := W.heap.size + 1) (cs := #[.int .i64 w, .int .i64 p, .int .i64 m]) (t := 23) (by simp)).next hb1
  obtain ⟨r1, r2, r3, g1, g2, g3, -⟩ := K1.three
  obtain ⟨c1, c2, c3, -, -, -, -⟩ := K2.three
  have B1 := Lib.hid (((one_alloc W _).alloc (by simp) _).trans (hb1.mono (by simp; omega)))
  have RR := Lib.hid K1
  clear hb1 K1 K2
  go_wp2
  obtain ⟨s1, s2, s3⟩ := RR.out.read3 (.int .i64 0) (.int .i64 0) (.int .i64 0)
  refine bodyPost_ret (v := .tuple #[.agg #[.int .i64 0, .int .i64 0, .int .i64 0], .int .i64 11]) (by simp [results, Try.results8, go_sem, s1, s2, s3]) rfl ?_
  exact Fin.out _ (bset3 B1.out (Nat.le_refl _) _ _ _)
end Go.Proofs.Ythipeefhkaanbaa
