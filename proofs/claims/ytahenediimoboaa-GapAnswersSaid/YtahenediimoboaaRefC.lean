/- noonmarkref03: Shift, Grow, for every gap of longs. -/
import Derived.Test.YtahenediimoboaaRefB
namespace Go.Proofs.Ytahenediimoboaa
open Go.RowKit
set_option linter.unusedVariables false

set_option maxHeartbeats 4000000 in
theorem rshift_bad (a b d : Int) (w : World) (hab : ¬ a ≤ b) :
    Calls Try.prog 11 #[.agg #[.int .i64 a, .int .i64 b], .int .i64 d] w (GapRes 0 0 10 w) := by
  have R0 : Hid (Kept ((w.alloc (.cells #[.int .i64 a, .int .i64 b] 31)).alloc (.cells #[.int .i64 0, .int .i64 0] 31)) (w.heap.size + 1) #[.int .i64 0, .int .i64 0] 31) := Lib.hid (Kept.new (by simp))
  have B0 : Hid (Below w.heap.size w ((w.alloc (.cells #[.int .i64 a, .int .i64 b] 31)).alloc (.cells #[.int .i64 0, .int .i64 0] 31))) := Lib.hid ((one_alloc w _).alloc (by simp) _)
  have d0 := decide_eq_false hab
  clear hab
  go_enter Try.func11, Try.ntmps11
  go_wp2_with fail
  refine (rright_any a b _).mono ?_
  rintro _ w1 ⟨rfl, hb⟩
  rw [d0]
  have R3 := Lib.hid (R0.out.next hb)
  have B3 := Lib.hid (bnext B0.out B0.out.size hb)
  clear hb R0 B0 d0
  obtain ⟨r1, r2, f1, f2, r5⟩ := R3.out.two
  obtain ⟨s1, s2⟩ := R3.out.read2 (.int .i64 0) (.int .i64 0)
  go_wp2
  refine bodyPost_ret (v := .tuple #[.agg #[.int .i64 0, .int .i64 0], .int .i64 10]) (by simp [results, Try.results11, go_sem, s1, s2]) rfl ?_
  exact ⟨rfl, bset2 B3.out (Nat.le_succ _) _ _⟩
set_option maxHeartbeats 4000000 in
theorem rgrow_bad (a b u v : Int) (w : World) (hab : ¬ a ≤ b) :
    Calls Try.prog 13 #[.agg #[.int .i64 a, .int .i64 b], .int .i64 u, .int .i64 v] w (GapRes 0 0 10 w) := by
  have R0 : Hid (Kept ((w.alloc (.cells #[.int .i64 a, .int .i64 b] 31)).alloc (.cells #[.int .i64 0, .int .i64 0] 31)) (w.heap.size + 1) #[.int .i64 0, .int .i64 0] 31) := Lib.hid (Kept.new (by simp))
  have B0 : Hid (Below w.heap.size w ((w.alloc (.cells #[.int .i64 a, .int .i64 b] 31)).alloc (.cells #[.int .i64 0, .int .i64 0] 31))) := Lib.hid ((one_alloc w _).alloc (by simp) _)
  have d0 := decide_eq_false hab
  clear hab
  go_enter Try.func13, Try.ntmps13
  go_wp2_with fail
  refine (rright_any a b _).mono ?_
  rintro _ w1 ⟨rfl, hb⟩
  rw [d0]
  have R3 := Lib.hid (R0.out.next hb)
  have B3 := Lib.hid (bnext B0.out B0.out.size hb)
  clear hb R0 B0 d0
  obtain ⟨r1, r2, f1, f2, r5⟩ := R3.out.two
  obtain ⟨s1, s2⟩ := R3.out.read2 (.int .i64 0) (.int .i64 0)
  go_wp2
  refine bodyPost_ret (v := .tuple #[.agg #[.int .i64 0, .int .i64 0], .int .i64 10]) (by simp [results, Try.results13, go_sem, s1, s2]) rfl ?_
  exact ⟨rfl, bset2 B3.out (Nat.le_succ _) _ _⟩
set_option maxHeartbeats 4000000 in
theorem rshift_walk (a b d x e y f lo hi er : Int) (w : World) (hab : a ≤ b)
    (C1 : Hid (∀ W, Calls Try.prog 32 #[.int .i64 a, .int .i64 d] W (Gives (.tuple #[.int .i64 x, .int .i64 e]) W)))
    (C2 : Hid (∀ W, Calls Try.prog 32 #[.int .i64 b, .int .i64 d] W (Gives (.tuple #[.int .i64 y, .int .i64 f]) W)))
    (h : (e = 0 ∧ f = 0 ∧ lo = x ∧ hi = y ∧ er = 0) ∨ (e = 0 ∧ f = 12 ∧ lo = 0 ∧ hi = 0 ∧ er = 12) ∨ (e = 12 ∧ lo = 0 ∧ hi = 0 ∧ er = 12)) :
    Calls Try.prog 11 #[.agg #[.int .i64 a, .int .i64 b], .int .i64 d] w (GapRes lo hi er w) := by
  have K0 : Hid (Kept ((w.alloc (.cells #[.int .i64 a, .int .i64 b] 31)).alloc (.cells #[.int .i64 0, .int .i64 0] 31)) w.heap.size #[.int .i64 a, .int .i64 b] 31) := Lib.hid ((Kept.new rfl).alloc _)
  have R0 : Hid (Kept ((w.alloc (.cells #[.int .i64 a, .int .i64 b] 31)).alloc (.cells #[.int .i64 0, .int .i64 0] 31)) (w.heap.size + 1) #[.int .i64 0, .int .i64 0] 31) := Lib.hid (Kept.new (by simp))
  have B0 : Hid (Below w.heap.size w ((w.alloc (.cells #[.int .i64 a, .int .i64 b] 31)).alloc (.cells #[.int .i64 0, .int .i64 0] 31))) := Lib.hid ((one_alloc w _).alloc (by simp) _)
  have d0 := decide_eq_true hab
  clear hab
  rcases h with ⟨rfl, rfl, rfl, rfl, rfl⟩ | ⟨rfl, rfl, rfl, rfl, rfl⟩ | ⟨rfl, rfl, rfl, rfl⟩
  · go_enter Try.func11, Try.ntmps11
    go_wp2_with fail
    refine (rright_any a b _).mono ?_
    rintro _ w1 ⟨rfl, hb⟩
    rw [d0]
    have K1 := Lib.hid (K0.out.next hb)
    have R1 := Lib.hid (R0.out.next hb)
    have B1 := Lib.hid (bnext B0.out B0.out.size hb)
    clear hb K0 R0 B0 d0
    obtain ⟨k1, k2, -, -, k5⟩ := K1.out.two
    go_wp2_with fail
    refine (C1.out _).mono ?_
    rintro _ w2 ⟨rfl, hb⟩
    clear k1 k2 k5
    have K2 := Lib.hid (K1.out.next hb)
    have R2 := Lib.hid (R1.out.next hb)
    have B2 := Lib.hid (bnext B1.out B1.out.size hb)
    clear hb K1 R1 B1
    obtain ⟨k1, k2, -, -, k5⟩ := K2.out.two
    go_wp2_with fail
    refine (C2.out _).mono ?_
    rintro _ w3 ⟨rfl, hb⟩
    clear k1 k2 k5
    have R3 := Lib.hid (R2.out.next hb)
    have B3 := Lib.hid (bnext B2.out B2.out.size hb)
    clear hb K2 R2 B2
    obtain ⟨r1, r2, f1, f2, r5⟩ := R3.out.two
    obtain ⟨s1, s2⟩ := R3.out.read2 (.int .i64 lo) (.int .i64 hi)
    go_wp2
    refine bodyPost_ret (v := .tuple #[.agg #[.int .i64 lo, .int .i64 hi], .int .i64 0]) (by simp [results, Try.results11, go_sem, s1, s2]) rfl ?_
    exact ⟨rfl, bset2 B3.out (Nat.le_succ _) _ _⟩
  · go_enter Try.func11, Try.ntmps11
    go_wp2_with fail
    refine (rright_any a b _).mono ?_
    rintro _ w1 ⟨rfl, hb⟩
    rw [d0]
    have K1 := Lib.hid (K0.out.next hb)
    have R1 := Lib.hid (R0.out.next hb)
    have B1 := Lib.hid (bnext B0.out B0.out.size hb)
    clear hb K0 R0 B0 d0
    obtain ⟨k1, k2, -, -, k5⟩ := K1.out.two
    go_wp2_with fail
    refine (C1.out _).mono ?_
    rintro _ w2 ⟨rfl, hb⟩
    clear k1 k2 k5
    have K2 := Lib.hid (K1.out.next hb)
    have R2 := Lib.hid (R1.out.next hb)
    have B2 := Lib.hid (bnext B1.out B1.out.size hb)
    clear hb K1 R1 B1
    obtain ⟨k1, k2, -, -, k5⟩ := K2.out.two
    go_wp2_with fail
    refine (C2.out _).mono ?_
    rintro _ w3 ⟨rfl, hb⟩
    clear k1 k2 k5
    have R3 := Lib.hid (R2.out.next hb)
    have B3 := Lib.hid (bnext B2.out B2.out.size hb)
    clear hb K2 R2 B2
    obtain ⟨r1, r2, f1, f2, r5⟩ := R3.out.two
    obtain ⟨s1, s2⟩ := R3.out.read2 (.int .i64 0) (.int .i64 0)
    go_wp2
    refine bodyPost_ret (v := .tuple #[.agg #[.int .i64 0, .int .i64 0], .int .i64 12]) (by simp [results, Try.results11, go_sem, s1, s2]) rfl ?_
    exact ⟨rfl, bset2 B3.out (Nat.le_succ _) _ _⟩
  · go_enter Try.func11, Try.ntmps11
    go_wp2_with fail
    refine (rright_any a b _).mono ?_
    rintro _ w1 ⟨rfl, hb⟩
    rw [d0]
    have K1 := Lib.hid (K0.out.next hb)
    have R1 := Lib.hid (R0.out.next hb)
    have B1 := Lib.hid (bnext B0.out B0.out.size hb)
    clear hb K0 R0 B0 d0
    obtain ⟨k1, k2, -, -, k5⟩ := K1.out.two
    go_wp2_with fail
    refine (C1.out _).mono ?_
    rintro _ w2 ⟨rfl, hb⟩
    clear k1 k2 k5
    have K2 := Lib.hid (K1.out.next hb)
    have R2 := Lib.hid (R1.out.next hb)
    have B2 := Lib.hid (bnext B1.out B1.out.size hb)
    clear hb K1 R1 B1
    obtain ⟨k1, k2, -, -, k5⟩ := K2.out.two
    go_wp2_with fail
    refine (C2.out _).mono ?_
    rintro _ w3 ⟨rfl, hb⟩
    clear k1 k2 k5
    have R3 := Lib.hid (R2.out.next hb)
    have B3 := Lib.hid (bnext B2.out B2.out.size hb)
    clear hb K2 R2 B2
    obtain ⟨r1, r2, f1, f2, r5⟩ := R3.out.two
    obtain ⟨s1, s2⟩ := R3.out.read2 (.int .i64 0) (.int .i64 0)
    go_wp2
    refine bodyPost_ret (v := .tuple #[.agg #[.int .i64 0, .int .i64 0], .int .i64 12]) (by simp [results, Try.results11, go_sem, s1, s2]) rfl ?_
    exact ⟨rfl, bset2 B3.out (Nat.le_succ _) _ _⟩
set_option maxHeartbeats 4000000 in
theorem rgrow_walk (a b u v x e y f lo hi er : Int) (w : World) (hab : a ≤ b)
    (C1 : Hid (∀ W, Calls Try.prog 33 #[.int .i64 a, .int .i64 u] W (Gives (.tuple #[.int .i64 x, .int .i64 e]) W)))
    (C2 : Hid (∀ W, Calls Try.prog 32 #[.int .i64 b, .int .i64 v] W (Gives (.tuple #[.int .i64 y, .int .i64 f]) W)))
    (h : (decide (y < x) = false ∧ e = 0 ∧ f = 0 ∧ lo = x ∧ hi = y ∧ er = 0) ∨ (decide (y < x) = true ∧ e = 0 ∧ f = 0 ∧ lo = 0 ∧ hi = 0 ∧ er = 13) ∨ (e = 0 ∧ f = 12 ∧ lo = 0 ∧ hi = 0 ∧ er = 12) ∨ (e = 12 ∧ lo = 0 ∧ hi = 0 ∧ er = 12)) :
    Calls Try.prog 13 #[.agg #[.int .i64 a, .int .i64 b], .int .i64 u, .int .i64 v] w (GapRes lo hi er w) := by
  have K0 : Hid (Kept ((w.alloc (.cells #[.int .i64 a, .int .i64 b] 31)).alloc (.cells #[.int .i64 0, .int .i64 0] 31)) w.heap.size #[.int .i64 a, .int .i64 b] 31) := Lib.hid ((Kept.new rfl).alloc _)
  have R0 : Hid (Kept ((w.alloc (.cells #[.int .i64 a, .int .i64 b] 31)).alloc (.cells #[.int .i64 0, .int .i64 0] 31)) (w.heap.size + 1) #[.int .i64 0, .int .i64 0] 31) := Lib.hid (Kept.new (by simp))
  have B0 : Hid (Below w.heap.size w ((w.alloc (.cells #[.int .i64 a, .int .i64 b] 31)).alloc (.cells #[.int .i64 0, .int .i64 0] 31))) := Lib.hid ((one_alloc w _).alloc (by simp) _)
  have d0 := decide_eq_true hab
  clear hab
  rcases h with ⟨hd, rfl, rfl, rfl, rfl, rfl⟩ | ⟨hd, rfl, rfl, rfl, rfl, rfl⟩ | ⟨rfl, rfl, rfl, rfl, rfl⟩ | ⟨rfl, rfl, rfl, rfl⟩
  · go_enter Try.func13, Try.ntmps13
    go_wp2_with fail
    refine (rright_any a b _).mono ?_
    rintro _ w1 ⟨rfl, hb⟩
    rw [d0]
    have K1 := Lib.hid (K0.out.next hb)
    have R1 := Lib.hid (R0.out.next hb)
    have B1 := Lib.hid (bnext B0.out B0.out.size hb)
    clear hb K0 R0 B0 d0
    obtain ⟨k1, k2, -, -, k5⟩ := K1.out.two
    go_wp2_with fail
    refine (C1.out _).mono ?_
    rintro _ w2 ⟨rfl, hb⟩
    clear k1 k2 k5
    have K2 := Lib.hid (K1.out.next hb)
    have R2 := Lib.hid (R1.out.next hb)
    have B2 := Lib.hid (bnext B1.out B1.out.size hb)
    clear hb K1 R1 B1
    obtain ⟨k1, k2, -, -, k5⟩ := K2.out.two
    go_wp2_with fail
    refine (C2.out _).mono ?_
    rintro _ w3 ⟨rfl, hb⟩
    clear k1 k2 k5
    have R3 := Lib.hid (R2.out.next hb)
    have B3 := Lib.hid (bnext B2.out B2.out.size hb)
    clear hb K2 R2 B2
    obtain ⟨r1, r2, f1, f2, r5⟩ := R3.out.two
    obtain ⟨s1, s2⟩ := R3.out.read2 (.int .i64 lo) (.int .i64 hi)
    go_wp2
    refine bodyPost_ret (v := .tuple #[.agg #[.int .i64 lo, .int .i64 hi], .int .i64 0]) (by simp [results, Try.results13, go_sem, s1, s2]) rfl ?_
    exact ⟨rfl, bset2 B3.out (Nat.le_succ _) _ _⟩
  · go_enter Try.func13, Try.ntmps13
    go_wp2_with fail
    refine (rright_any a b _).mono ?_
    rintro _ w1 ⟨rfl, hb⟩
    rw [d0]
    have K1 := Lib.hid (K0.out.next hb)
    have R1 := Lib.hid (R0.out.next hb)
    have B1 := Lib.hid (bnext B0.out B0.out.size hb)
    clear hb K0 R0 B0 d0
    obtain ⟨k1, k2, -, -, k5⟩ := K1.out.two
    go_wp2_with fail
    refine (C1.out _).mono ?_
    rintro _ w2 ⟨rfl, hb⟩
    clear k1 k2 k5
    have K2 := Lib.hid (K1.out.next hb)
    have R2 := Lib.hid (R1.out.next hb)
    have B2 := Lib.hid (bnext B1.out B1.out.size hb)
    clear hb K1 R1 B1
    obtain ⟨k1, k2, -, -, k5⟩ := K2.out.two
    go_wp2_with fail
    refine (C2.out _).mono ?_
    rintro _ w3 ⟨rfl, hb⟩
    clear k1 k2 k5
    have R3 := Lib.hid (R2.out.next hb)
    have B3 := Lib.hid (bnext B2.out B2.out.size hb)
    clear hb K2 R2 B2
    obtain ⟨r1, r2, f1, f2, r5⟩ := R3.out.two
    obtain ⟨s1, s2⟩ := R3.out.read2 (.int .i64 0) (.int .i64 0)
    go_wp2
    refine bodyPost_ret (v := .tuple #[.agg #[.int .i64 0, .int .i64 0], .int .i64 13]) (by simp [results, Try.results13, go_sem, s1, s2]) rfl ?_
    exact ⟨rfl, bset2 B3.out (Nat.le_succ _) _ _⟩
  · go_enter Try.func13, Try.ntmps13
    go_wp2_with fail
    refine (rright_any a b _).mono ?_
    rintro _ w1 ⟨rfl, hb⟩
    rw [d0]
    have K1 := Lib.hid (K0.out.next hb)
    have R1 := Lib.hid (R0.out.next hb)
    have B1 := Lib.hid (bnext B0.out B0.out.size hb)
    clear hb K0 R0 B0 d0
    obtain ⟨k1, k2, -, -, k5⟩ := K1.out.two
    go_wp2_with fail
    refine (C1.out _).mono ?_
    rintro _ w2 ⟨rfl, hb⟩
    clear k1 k2 k5
    have K2 := Lib.hid (K1.out.next hb)
    have R2 := Lib.hid (R1.out.next hb)
    have B2 := Lib.hid (bnext B1.out B1.out.size hb)
    clear hb K1 R1 B1
    obtain ⟨k1, k2, -, -, k5⟩ := K2.out.two
    go_wp2_with fail
    refine (C2.out _).mono ?_
    rintro _ w3 ⟨rfl, hb⟩
    clear k1 k2 k5
    have R3 := Lib.hid (R2.out.next hb)
    have B3 := Lib.hid (bnext B2.out B2.out.size hb)
    clear hb K2 R2 B2
    obtain ⟨r1, r2, f1, f2, r5⟩ := R3.out.two
    obtain ⟨s1, s2⟩ := R3.out.read2 (.int .i64 0) (.int .i64 0)
    go_wp2
    refine bodyPost_ret (v := .tuple #[.agg #[.int .i64 0, .int .i64 0], .int .i64 12]) (by simp [results, Try.results13, go_sem, s1, s2]) rfl ?_
    exact ⟨rfl, bset2 B3.out (Nat.le_succ _) _ _⟩
  · go_enter Try.func13, Try.ntmps13
    go_wp2_with fail
    refine (rright_any a b _).mono ?_
    rintro _ w1 ⟨rfl, hb⟩
    rw [d0]
    have K1 := Lib.hid (K0.out.next hb)
    have R1 := Lib.hid (R0.out.next hb)
    have B1 := Lib.hid (bnext B0.out B0.out.size hb)
    clear hb K0 R0 B0 d0
    obtain ⟨k1, k2, -, -, k5⟩ := K1.out.two
    go_wp2_with fail
    refine (C1.out _).mono ?_
    rintro _ w2 ⟨rfl, hb⟩
    clear k1 k2 k5
    have K2 := Lib.hid (K1.out.next hb)
    have R2 := Lib.hid (R1.out.next hb)
    have B2 := Lib.hid (bnext B1.out B1.out.size hb)
    clear hb K1 R1 B1
    obtain ⟨k1, k2, -, -, k5⟩ := K2.out.two
    go_wp2_with fail
    refine (C2.out _).mono ?_
    rintro _ w3 ⟨rfl, hb⟩
    clear k1 k2 k5
    have R3 := Lib.hid (R2.out.next hb)
    have B3 := Lib.hid (bnext B2.out B2.out.size hb)
    clear hb K2 R2 B2
    obtain ⟨r1, r2, f1, f2, r5⟩ := R3.out.two
    obtain ⟨s1, s2⟩ := R3.out.read2 (.int .i64 0) (.int .i64 0)
    go_wp2
    refine bodyPost_ret (v := .tuple #[.agg #[.int .i64 0, .int .i64 0], .int .i64 12]) (by simp [results, Try.results13, go_sem, s1, s2]) rfl ?_
    exact ⟨rfl, bset2 B3.out (Nat.le_succ _) _ _⟩
theorem eI_two (z : Int) : eI z = 0 ∨ eI z = 12 := by
  by_cases h : InI z
  · exact .inl (eI_in h)
  · exact .inr (eI_out h)
theorem vI_mono {a b d : Int} (h : a ≤ b) (h1 : eI (a + d) = 0) (h2 : eI (b + d) = 0) : vI (a + d) ≤ vI (b + d) := by
  by_cases i1 : InI (a + d)
  · by_cases i2 : InI (b + d)
    · rw [vI_in i1, vI_in i2]; omega
    · rw [eI_out i2] at h2; omega
  · rw [eI_out i1] at h1; omega
theorem rshift_any (a b d : Int) (w : World) (ha : InI a) (hb : InI b) (hd : InI d) : Calls Try.prog 11 #[.agg #[.int .i64 a, .int .i64 b], .int .i64 d] w (GapRes (shiftL a b d) (shiftH a b d) (shiftE a b d) w) := by
  by_cases hab : a ≤ b
  · refine rshift_walk a b d (vI (a + d)) (eI (a + d)) (vI (b + d)) (eI (b + d)) _ _ _ w hab (Lib.hid fun W => refplus_any a d W ha hd) (Lib.hid fun W => refplus_any b d W hb hd) ?_
    unfold shiftL shiftH shiftE movL movH movE
    simp only [if_pos hab]
    rcases eI_two (a + d) with h1 | h1
    · rcases eI_two (b + d) with h2 | h2
      · have h3 := vI_mono hab h1 h2
        simp [h1, h2, h3]
      · simp [h1, h2]
    · simp [h1]
  · unfold shiftL shiftH shiftE movL movH movE
    simp only [if_neg hab]
    exact rshift_bad a b d w hab
theorem rgrow_any (a b u v : Int) (w : World) (ha : InI a) (hb : InI b) (hu : InI u) (hv : InI v) : Calls Try.prog 13 #[.agg #[.int .i64 a, .int .i64 b], .int .i64 u, .int .i64 v] w (GapRes (growL a b u v) (growH a b u v) (growE a b u v) w) := by
  by_cases hab : a ≤ b
  · refine rgrow_walk a b u v (vI (a - u)) (eI (a - u)) (vI (b + v)) (eI (b + v)) _ _ _ w hab (Lib.hid fun W => refminus_any a u W ha hu) (Lib.hid fun W => refplus_any b v W hb hv) ?_
    unfold growL growH growE movL movH movE
    simp only [if_pos hab]
    rcases eI_two (a - u) with h1 | h1
    · rcases eI_two (b + v) with h2 | h2
      · by_cases h3 : vI (a - u) ≤ vI (b + v)
        · simp [h1, h2, h3]
        · have h4 : vI (b + v) < vI (a - u) := by omega
          simp [h1, h2, h3, h4]
      · simp [h1, h2]
    · simp [h1]
  · unfold growL growH growE movL movH movE
    simp only [if_neg hab]
    exact rgrow_bad a b u v w hab
end Go.Proofs.Ytahenediimoboaa
