/- gap.New, Shift, Grow: for every input. -/
import Derived.Test.YtahenediimoboaaGapB
namespace Go.Proofs.Ytahenediimoboaa
open Go.RowKit
set_option linter.unusedVariables false

theorem hmf (fn : Fn) (first cap : Array Value) (w : World) : (Instr.makeFunc fn first cap).run Try.prog w = .ok (.func fn first cap) w := rfl
def NewRes (a b : Int) (w : World) (x : Ending) (w' : World) : Prop := x = .returned (.tuple #[.agg #[.int .i64 (if a ≤ b then a else 0), .int .i64 (if a ≤ b then b else 0)], .bool (decide (a ≤ b))]) ∧ Below w.heap.size w w'
theorem new_any (a b : Int) (w : World) : Calls Try.prog 8 #[.int .i64 a, .int .i64 b] w (NewRes a b w) := by
  by_cases h : b < a
  · have fin : ∀ w', Below w.heap.size w w' → NewRes a b w (.returned (.tuple #[.agg #[.int .i64 0, .int .i64 0], .bool false])) w' := fun w' hb => ⟨by rw [if_neg (by omega), if_neg (by omega), decide_eq_false (by omega)], hb⟩
    have Fin := Lib.hid fin
    have K : Hid (Kept (w.alloc (.cells #[.int .i64 0, .int .i64 0] 23)) w.heap.size #[.int .i64 0, .int .i64 0] 23) := Lib.hid (Kept.new rfl)
    clear fin
    go_enter Try.func8, Try.ntmps8
    go_wp2
    refine bodyPost_ret (v := .tuple #[.agg #[.int .i64 0, .int .i64 0], .bool false]) (by simp [results, Try.results8, go_sem]) rfl ?_
    exact Fin.out _ (one_alloc _ _)
  · have fin : ∀ w', Below w.heap.size w w' → NewRes a b w (.returned (.tuple #[.agg #[.int .i64 a, .int .i64 b], .bool true])) w' := fun w' hb => ⟨by rw [if_pos (by omega), if_pos (by omega), decide_eq_true (by omega)], hb⟩
    have Fin := Lib.hid fin
    clear fin
    go_enter Try.func8, Try.ntmps8
    go_wp2
    refine bodyPost_ret (v := .tuple #[.agg #[.int .i64 a, .int .i64 b], .bool true]) (by simp [results, Try.results8, go_sem]) rfl ?_
    exact Fin.out _ (one_alloc _ _)
def shiftL (a b d : Int) : Int := movL a b (vI (a + d)) (eI (a + d)) (vI (b + d)) (eI (b + d))
def shiftH (a b d : Int) : Int := movH a b (vI (a + d)) (eI (a + d)) (vI (b + d)) (eI (b + d))
def shiftE (a b d : Int) : Int := movE a b (vI (a + d)) (eI (a + d)) (vI (b + d)) (eI (b + d))
set_option maxHeartbeats 1000000 in
theorem shift_any (a b d : Int) (w : World) (ha : InI a) (hb : InI b) (hd : InI d) : Calls Try.prog 9 #[.agg #[.int .i64 a, .int .i64 b], .int .i64 d] w (GapRes (shiftL a b d) (shiftH a b d) (shiftE a b d) w) := by
  obtain ⟨W, hW⟩ : ∃ W, ((w.alloc (.cells #[.int .i64 a, .int .i64 b] 23)).alloc (.cells #[.int .i64 d] 2)).alloc (.cells #[.int .i64 0, .int .i64 0] 23) = W := ⟨_, rfl⟩
  have K1 : Hid (Kept W (w.heap.size + 1) #[.int .i64 d] 2) := Lib.hid (by rw [← hW]; exact (Kept.new (by simp)).alloc _)
  have R0 : Hid (Kept W (w.heap.size + 2) #[.int .i64 0, .int .i64 0] 23) := Lib.hid (by rw [← hW]; exact Kept.new (by simp))
  have B0 : Hid (Below w.heap.size w W) := Lib.hid (by rw [← hW]; exact (((Below.refl _ _).alloc (Nat.le_refl _) _).alloc (by simp) _).alloc (by simp; omega) _)
  have K0 : Hid (Kept W w.heap.size #[.int .i64 a, .int .i64 b] 23) := Lib.hid (by rw [← hW]; exact ((Kept.new rfl).alloc _).alloc _)
  have Cm : Hid (Calls Try.prog 27 #[.agg #[.int .i64 a, .int .i64 b], .func (.func 25) #[] #[.pointer (some ⟨w.heap.size + 1, 0, none⟩)], .func (.func 25) #[] #[.pointer (some ⟨w.heap.size + 1, 0, none⟩)]] W (GapRes (shiftL a b d) (shiftH a b d) (shiftE a b d) W)) :=
    Lib.hid (moved_shift a b d d _ _ W ha hb hd hd K1.out.one.1 K1.out.one.1)
  have HW := Lib.hid hW
  clear hW ha hb hd
  have hmf' := hmf
  obtain ⟨c1, c2, -⟩ := K0.out.two
  go_enter Try.func9, Try.ntmps9
  go_wp2_with fail
  rw [HW.out]
  refine Cm.out.mono ?_
  rintro e w1 ⟨rfl, hb1⟩
  have R1 := Lib.hid (R0.out.next hb1)
  have B1 := Lib.hid (bnext B0.out B0.out.size hb1)
  generalize shiftL a b d = lo at *
  generalize shiftH a b d = hi at *
  generalize shiftE a b d = er at *
  obtain ⟨r1, r2, g1, g2, -⟩ := R1.out.two
  obtain ⟨s1, s2⟩ := R1.out.read2 (.int .i64 lo) (.int .i64 hi)
  clear hb1 c1 c2
  go_wp2
  refine bodyPost_ret (v := .tuple #[.agg #[.int .i64 lo, .int .i64 hi], .int .i64 er]) (by simp [results, Try.results9, go_sem, s1, s2]) rfl ?_
  exact ⟨rfl, bset2 B1.out (by omega) _ _⟩
def growL (a b u v : Int) : Int := movL a b (vI (a - u)) (eI (a - u)) (vI (b + v)) (eI (b + v))
def growH (a b u v : Int) : Int := movH a b (vI (a - u)) (eI (a - u)) (vI (b + v)) (eI (b + v))
def growE (a b u v : Int) : Int := movE a b (vI (a - u)) (eI (a - u)) (vI (b + v)) (eI (b + v))
set_option maxHeartbeats 1000000 in
theorem grow_any (a b u v : Int) (w : World) (ha : InI a) (hb : InI b) (hu : InI u) (hv : InI v) : Calls Try.prog 10 #[.agg #[.int .i64 a, .int .i64 b], .int .i64 u, .int .i64 v] w (GapRes (growL a b u v) (growH a b u v) (growE a b u v) w) := by
  obtain ⟨W, hW⟩ : ∃ W, (((w.alloc (.cells #[.int .i64 a, .int .i64 b] 23)).alloc (.cells #[.int .i64 u] 2)).alloc (.cells #[.int .i64 v] 2)).alloc (.cells #[.int .i64 0, .int .i64 0] 23) = W := ⟨_, rfl⟩
  have K1 : Hid (Kept W (w.heap.size + 1) #[.int .i64 u] 2) := Lib.hid (by rw [← hW]; exact ((Kept.new (by simp)).alloc _).alloc _)
  have K2 : Hid (Kept W (w.heap.size + 2) #[.int .i64 v] 2) := Lib.hid (by rw [← hW]; exact (Kept.new (by simp)).alloc _)
  have R0 : Hid (Kept W (w.heap.size + 3) #[.int .i64 0, .int .i64 0] 23) := Lib.hid (by rw [← hW]; exact Kept.new (by simp))
  have B0 : Hid (Below w.heap.size w W) := Lib.hid (by rw [← hW]; exact ((((Below.refl _ _).alloc (Nat.le_refl _) _).alloc (by simp) _).alloc (by simp; omega) _).alloc (by simp; omega) _)
  have K0 : Hid (Kept W w.heap.size #[.int .i64 a, .int .i64 b] 23) := Lib.hid (by rw [← hW]; exact (((Kept.new rfl).alloc _).alloc _).alloc _)
  have Cm : Hid (Calls Try.prog 27 #[.agg #[.int .i64 a, .int .i64 b], .func (.func 28) #[] #[.pointer (some ⟨w.heap.size + 1, 0, none⟩)], .func (.func 30) #[] #[.pointer (some ⟨w.heap.size + 2, 0, none⟩)]] W (GapRes (growL a b u v) (growH a b u v) (growE a b u v) W)) :=
    Lib.hid (moved_grow a b u v _ _ W ha hb hu hv K1.out.one.1 K2.out.one.1)
  have HW := Lib.hid hW
  clear hW ha hb hu hv
  have hmf' := hmf
  obtain ⟨c1, c2, -⟩ := K0.out.two
  go_enter Try.func10, Try.ntmps10
  go_wp2_with fail
  rw [HW.out]
  refine Cm.out.mono ?_
  rintro e w1 ⟨rfl, hb1⟩
  have R1 := Lib.hid (R0.out.next hb1)
  have B1 := Lib.hid (bnext B0.out B0.out.size hb1)
  generalize growL a b u v = lo at *
  generalize growH a b u v = hi at *
  generalize growE a b u v = er at *
  obtain ⟨r1, r2, g1, g2, -⟩ := R1.out.two
  obtain ⟨s1, s2⟩ := R1.out.read2 (.int .i64 lo) (.int .i64 hi)
  clear hb1 c1 c2
  go_wp2
  refine bodyPost_ret (v := .tuple #[.agg #[.int .i64 lo, .int .i64 hi], .int .i64 er]) (by simp [results, Try.results10, go_sem, s1, s2]) rfl ?_
  exact ⟨rfl, bset2 B1.out (by omega) _ _⟩
end Go.Proofs.Ytahenediimoboaa
