/- grid: Span, Meets: for every input. -/
import Derived.Test.YthipeefhkaanbaaGridB
namespace Go.Proofs.Ythipeefhkaanbaa
open Go.RowKit
set_option linter.unusedVariables false

/-- what a call that answers an interval and an error number leaves -/
def GapRes (lo hi e : Int) (w : World) (x : Ending) (w' : World) : Prop := x = .returned (.tuple #[.agg #[.int .i64 lo, .int .i64 hi], .int .i64 e]) ∧ Below w.heap.size w w'
set_option maxHeartbeats 1000000 in
theorem span_state (w p m v : Int) (W : World) (hr : rgB w p m = false) : Calls Try.prog 11 #[.agg #[.int .i64 w, .int .i64 p, .int .i64 m], .int .i64 v] W (GapRes 0 0 21 W) := by
  have C := Lib.hid (fun W => gright_any w p m false hr W)
  have fin : ∀ w', Below W.heap.size W w' → GapRes 0 0 21 W (.returned (.tuple #[.agg #[.int .i64 0, .int .i64 0], .int .i64 21])) w' := fun w' h => ⟨rfl, h⟩
  have Fin := Lib.hid fin
  clear hr fin
  go_enter Try.func11, Try.ntmps11
  go_wp2_with fail
  refine (C.out _).mono ?_
  rintro e w1 ⟨rfl, hb1⟩
  have K1 := (((Kept.new (w := W) (cs := #[.int .i64 w, .int .i64 p, .int .i64 m]) (t := 23) rfl).alloc (.cells #[.int .i64 0, .int .i64 0] 25))).next hb1
  have K2 := (Kept.new (w := W.alloc (.cells #[.int .i64 w, .int .i64 p, .int .i64 m] 23)) (g := W.heap.size + 1) (cs := #[.int .i64 0, .int .i64 0]) (t := 25) (by simp)).next hb1
  obtain ⟨c1, c2, c3, -, -, -, -⟩ := K1.three
  obtain ⟨r1, r2, g1, g2, -⟩ := K2.two
  have B1 := Lib.hid (((one_alloc W _).alloc (by simp) _).trans (hb1.mono (by simp; omega)))
  have RR := Lib.hid K2
  clear hb1 K1 K2
  go_wp2
  obtain ⟨s1, s2⟩ := RR.out.read2 (.int .i64 0) (.int .i64 0)
  refine bodyPost_ret (v := .tuple #[.agg #[.int .i64 0, .int .i64 0], .int .i64 21]) (by simp [results, Try.results11, go_sem, s1, s2]) rfl ?_
  exact Fin.out _ (bset2 B1.out (Nat.le_succ _) _ _)
set_option maxHeartbeats 1000000 in
theorem span_over1 (w p m v : Int) (W : World) (hr : rgB w p m = true) (hv : InI v) (h1 : ¬ InI (v * w)) : Calls Try.prog 11 #[.agg #[.int .i64 w, .int .i64 p, .int .i64 m], .int .i64 v] W (GapRes 0 0 12 W) := by
  have C := Lib.hid (fun W => gright_any w p m true hr W)
  have fin : ∀ w', Below W.heap.size W w' → GapRes 0 0 12 W (.returned (.tuple #[.agg #[.int .i64 0, .int .i64 0], .int .i64 12])) w' := fun w' h => ⟨rfl, h⟩
  have Fin := Lib.hid fin
  have Cm : Hid (∀ W, Calls Try.prog 24 #[.int .i64 v, .int .i64 w] W fun e w' => e = .returned (.tuple #[.int .i64 0, .int .i64 12]) ∧ W = w') := Lib.hid fun W => (mul_any v w W hv (by have := rgB_yes hr; omega)).mono fun e w' h => ⟨tup_of h.1 (vI_out h1) (eI_out h1), h.2⟩
  clear hr fin
  go_enter Try.func11, Try.ntmps11
  go_wp2_with fail
  refine (C.out _).mono ?_
  rintro e w1 ⟨rfl, hb1⟩
  have K1 := (((Kept.new (w := W) (cs := #[.int .i64 w, .int .i64 p, .int .i64 m]) (t := 23) rfl).alloc (.cells #[.int .i64 0, .int .i64 0] 25))).next hb1
  have K2 := (Kept.new (w := W.alloc (.cells #[.int .i64 w, .int .i64 p, .int .i64 m] 23)) (g := W.heap.size + 1) (cs := #[.int .i64 0, .int .i64 0]) (t := 25) (by simp)).next hb1
  obtain ⟨c1, c2, c3, -, -, -, -⟩ := K1.three
  obtain ⟨r1, r2, g1, g2, -⟩ := K2.two
  have B1 := Lib.hid (((one_alloc W _).alloc (by simp) _).trans (hb1.mono (by simp; omega)))
  have RR := Lib.hid K2
  clear hb1 K1 K2
  go_wp2_with fail
  refine (Cm.out _).mono ?_
  rintro e w2 ⟨rfl, rfl⟩
  go_wp2
  obtain ⟨s1, s2⟩ := RR.out.read2 (.int .i64 0) (.int .i64 0)
  refine bodyPost_ret (v := .tuple #[.agg #[.int .i64 0, .int .i64 0], .int .i64 12]) (by simp [results, Try.results11, go_sem, s1, s2]) rfl ?_
  exact Fin.out _ (bset2 B1.out (Nat.le_succ _) _ _)
set_option maxHeartbeats 1000000 in
theorem span_over2 (w p m v : Int) (W : World) (hr : rgB w p m = true) (hv : InI v) (h1 : InI (v * w)) (h2 : ¬ InI (v * w + (w - 1))) : Calls Try.prog 11 #[.agg #[.int .i64 w, .int .i64 p, .int .i64 m], .int .i64 v] W (GapRes 0 0 12 W) := by
  have C := Lib.hid (fun W => gright_any w p m true hr W)
  have fin : ∀ w', Below W.heap.size W w' → GapRes 0 0 12 W (.returned (.tuple #[.agg #[.int .i64 0, .int .i64 0], .int .i64 12])) w' := fun w' h => ⟨rfl, h⟩
  have Fin := Lib.hid fin
  have Cm : Hid (∀ W, Calls Try.prog 24 #[.int .i64 v, .int .i64 w] W fun e w' => e = .returned (.tuple #[.int .i64 (v * w), .int .i64 0]) ∧ W = w') := Lib.hid fun W => (mul_any v w W hv (by have := rgB_yes hr; omega)).mono fun e w' h => ⟨tup_of h.1 (vI_in h1) (eI_in h1), h.2⟩
  have Ca : Hid (∀ W, Calls Try.prog 25 #[.int .i64 (v * w), .int .i64 (w - 1)] W fun e w' => e = .returned (.tuple #[.int .i64 0, .int .i64 12]) ∧ W = w') := Lib.hid fun W => (add_any (v * w) (w - 1) W h1 (by have := rgB_yes hr; omega)).mono fun e w' h => ⟨tup_of h.1 (vI_out h2) (eI_out h2), h.2⟩
  obtain ⟨k1, k2⟩ : 1 ≤ w ∧ w ≤ 1099511627776 := by have := rgB_yes hr; omega
  obtain ⟨x, hx⟩ : ∃ x, v * w = x := ⟨_, rfl⟩
  rw [hx] at Cm Ca 
  clear hx h1 h2 hv
  clear hr fin
  go_enter Try.func11, Try.ntmps11
  go_wp2_with fail
  refine (C.out _).mono ?_
  rintro e w1 ⟨rfl, hb1⟩
  have K1 := (((Kept.new (w := W) (cs := #[.int .i64 w, .int .i64 p, .int .i64 m]) (t := 23) rfl).alloc (.cells #[.int .i64 0, .int .i64 0] 25))).next hb1
  have K2 := (Kept.new (w := W.alloc (.cells #[.int .i64 w, .int .i64 p, .int .i64 m] 23)) (g := W.heap.size + 1) (cs := #[.int .i64 0, .int .i64 0]) (t := 25) (by simp)).next hb1
  obtain ⟨c1, c2, c3, -, -, -, -⟩ := K1.three
  obtain ⟨r1, r2, g1, g2, -⟩ := K2.two
  have B1 := Lib.hid (((one_alloc W _).alloc (by simp) _).trans (hb1.mono (by simp; omega)))
  have RR := Lib.hid K2
  clear hb1 K1 K2
  go_wp2_with fail
  refine (Cm.out _).mono ?_
  rintro e w2 ⟨rfl, rfl⟩
  go_wp2_with fail
  refine (Ca.out _).mono ?_
  rintro e w2 ⟨rfl, rfl⟩
  go_wp2
  obtain ⟨s1, s2⟩ := RR.out.read2 (.int .i64 0) (.int .i64 0)
  refine bodyPost_ret (v := .tuple #[.agg #[.int .i64 0, .int .i64 0], .int .i64 12]) (by simp [results, Try.results11, go_sem, s1, s2]) rfl ?_
  exact Fin.out _ (bset2 B1.out (Nat.le_succ _) _ _)
set_option maxHeartbeats 1000000 in
theorem span_ok (w p m v : Int) (W : World) (hr : rgB w p m = true) (hv : InI v) (h1 : InI (v * w)) (h2 : InI (v * w + (w - 1))) : Calls Try.prog 11 #[.agg #[.int .i64 w, .int .i64 p, .int .i64 m], .int .i64 v] W (GapRes (v * w) (v * w + (w - 1)) 0 W) := by
  have C := Lib.hid (fun W => gright_any w p m true hr W)
  have fin : ∀ w', Below W.heap.size W w' → GapRes (v * w) (v * w + (w - 1)) 0 W (.returned (.tuple #[.agg #[.int .i64 (v * w), .int .i64 (v * w + (w - 1))], .int .i64 0])) w' := fun w' h => ⟨rfl, h⟩
  have Fin := Lib.hid fin
  have Cm : Hid (∀ W, Calls Try.prog 24 #[.int .i64 v, .int .i64 w] W fun e w' => e = .returned (.tuple #[.int .i64 (v * w), .int .i64 0]) ∧ W = w') := Lib.hid fun W => (mul_any v w W hv (by have := rgB_yes hr; omega)).mono fun e w' h => ⟨tup_of h.1 (vI_in h1) (eI_in h1), h.2⟩
  have Ca : Hid (∀ W, Calls Try.prog 25 #[.int .i64 (v * w), .int .i64 (w - 1)] W fun e w' => e = .returned (.tuple #[.int .i64 (v * w + (w - 1)), .int .i64 0]) ∧ W = w') := Lib.hid fun W => (add_any (v * w) (w - 1) W h1 (by have := rgB_yes hr; omega)).mono fun e w' h => ⟨tup_of h.1 (vI_in h2) (eI_in h2), h.2⟩
  obtain ⟨k1, k2⟩ : 1 ≤ w ∧ w ≤ 1099511627776 := by have := rgB_yes hr; omega
  obtain ⟨x, hx⟩ : ∃ x, v * w = x := ⟨_, rfl⟩
  rw [hx] at Cm Ca Fin ⊢
  clear hx h1 h2 hv
  clear hr fin
  go_enter Try.func11, Try.ntmps11
  go_wp2_with fail
  refine (C.out _).mono ?_
  rintro e w1 ⟨rfl, hb1⟩
  have K1 := (((Kept.new (w := W) (cs := #[.int .i64 w, .int .i64 p, .int .i64 m]) (t := 23) rfl).alloc (.cells #[.int .i64 0, .int .i64 0] 25))).next hb1
  have K2 := (Kept.new (w := W.alloc (.cells #[.int .i64 w, .int .i64 p, .int .i64 m] 23)) (g := W.heap.size + 1) (cs := #[.int .i64 0, .int .i64 0]) (t := 25) (by simp)).next hb1
  obtain ⟨c1, c2, c3, -, -, -, -⟩ := K1.three
  obtain ⟨r1, r2, g1, g2, -⟩ := K2.two
  have B1 := Lib.hid (((one_alloc W _).alloc (by simp) _).trans (hb1.mono (by simp; omega)))
  have RR := Lib.hid K2
  clear hb1 K1 K2
  go_wp2_with fail
  refine (Cm.out _).mono ?_
  rintro e w2 ⟨rfl, rfl⟩
  go_wp2_with fail
  refine (Ca.out _).mono ?_
  rintro e w2 ⟨rfl, rfl⟩
  go_wp2
  obtain ⟨s1, s2⟩ := RR.out.read2 (.int .i64 x) (.int .i64 (x + (w - 1)))
  refine bodyPost_ret (v := .tuple #[.agg #[.int .i64 x, .int .i64 (x + (w - 1))], .int .i64 0]) (by simp [results, Try.results11, go_sem, s1, s2]) rfl ?_
  exact Fin.out _ (bset2 B1.out (Nat.le_succ _) _ _)
theorem span_any (w p m v : Int) (W : World) (hr : rgB w p m = true) (hv : InI v) : Calls Try.prog 11 #[.agg #[.int .i64 w, .int .i64 p, .int .i64 m], .int .i64 v] W (GapRes (spL v w) (spH v w) (spE v w) W) := by
  by_cases h1 : InI (v * w)
  · by_cases h2 : InI (v * w + (w - 1))
    · have e := spE_yes h1 h2
      have l : spL v w = v * w := if_pos e
      have h : spH v w = v * w + (w - 1) := if_pos e
      rw [l, h, e]
      exact span_ok w p m v W hr hv h1 h2
    · have e := spE_no2 h2
      have l : spL v w = 0 := if_neg (by rw [e]; decide)
      have h : spH v w = 0 := if_neg (by rw [e]; decide)
      rw [l, h, e]
      exact span_over2 w p m v W hr hv h1 h2
  · have e := spE_no1 h1
    have l : spL v w = 0 := if_neg (by rw [e]; decide)
    have h : spH v w = 0 := if_neg (by rw [e]; decide)
    rw [l, h, e]
    exact span_over1 w p m v W hr hv h1
end Go.Proofs.Ythipeefhkaanbaa
