/- gap.New, Shift, Grow: for every input. -/
import Derived.Test.YtahenediimoboaaGapA
namespace Go.Proofs.Ytahenediimoboaa
open Go.RowKit
set_option linter.unusedVariables false

/-- what a call that answers an interval and an error number leaves -/
def GapRes (lo hi e : Int) (w : World) (x : Ending) (w' : World) : Prop := x = .returned (.tuple #[.agg #[.int .i64 lo, .int .i64 hi], .int .i64 e]) ∧ Below w.heap.size w w'
/-- an interval whose ends are moved each in its own way, by what was answered of them -/
def movL (a b x e y f : Int) : Int := if a ≤ b then (if e = 0 then (if f = 0 then (if x ≤ y then x else 0) else 0) else 0) else 0
def movH (a b x e y f : Int) : Int := if a ≤ b then (if e = 0 then (if f = 0 then (if x ≤ y then y else 0) else 0) else 0) else 0
def movE (a b x e y f : Int) : Int := if a ≤ b then (if e = 0 then (if f = 0 then (if x ≤ y then 0 else 13) else f) else e) else 10
theorem shift1_any (x by' : Int) (p : Addr) (w : World) (hx : InI x) (hb : InI by') (hp : w.cell? p = some (.int .i64 by')) :
    Calls Try.prog 25 #[.int .i64 x, .pointer (some p)] w (Gives (.tuple #[.int .i64 (vI (x + by')), .int .i64 (eI (x + by'))]) w) := by
  have Ca := Lib.hid (fun w => add_any x by' w hx hb)
  clear hx hb
  go_enter Try.func25, Try.ntmps25
  go_wp2_with fail
  refine (Ca.out _).mono ?_
  rintro e w1 ⟨rfl, rfl⟩
  go_wp2
  go_ret2
  exact ⟨rfl, Below.refl _ _⟩
theorem grow1_any (x by' : Int) (p : Addr) (w : World) (hx : InI x) (hb : InI by') (hp : w.cell? p = some (.int .i64 by')) :
    Calls Try.prog 28 #[.int .i64 x, .pointer (some p)] w (Gives (.tuple #[.int .i64 (vI (x - by')), .int .i64 (eI (x - by'))]) w) := by
  have Ca := Lib.hid (fun w => sub_any x by' w hx hb)
  clear hx hb
  go_enter Try.func28, Try.ntmps28
  go_wp2_with fail
  refine (Ca.out _).mono ?_
  rintro e w1 ⟨rfl, rfl⟩
  go_wp2
  go_ret2
  exact ⟨rfl, Below.refl _ _⟩
theorem grow2_any (x by' : Int) (p : Addr) (w : World) (hx : InI x) (hb : InI by') (hp : w.cell? p = some (.int .i64 by')) :
    Calls Try.prog 30 #[.int .i64 x, .pointer (some p)] w (Gives (.tuple #[.int .i64 (vI (x + by')), .int .i64 (eI (x + by'))]) w) := by
  have Ca := Lib.hid (fun w => add_any x by' w hx hb)
  clear hx hb
  go_enter Try.func30, Try.ntmps30
  go_wp2_with fail
  refine (Ca.out _).mono ?_
  rintro e w1 ⟨rfl, rfl⟩
  go_wp2
  go_ret2
  exact ⟨rfl, Below.refl _ _⟩
set_option maxHeartbeats 2000000 in
theorem moved_shift (a b u v : Int) (p q : Addr) (w : World) (ha : InI a) (hb : InI b) (hu : InI u) (hv : InI v) (hp : w.cell? p = some (.int .i64 u)) (hq : w.cell? q = some (.int .i64 v)) :
    Calls Try.prog 27 #[.agg #[.int .i64 a, .int .i64 b], .func (.func 25) #[] #[.pointer (some p)], .func (.func 25) #[] #[.pointer (some q)]] w
      (GapRes (movL a b (vI (a + u)) (eI (a + u)) (vI (b + v)) (eI (b + v))) (movH a b (vI (a + u)) (eI (a + u)) (vI (b + v)) (eI (b + v))) (movE a b (vI (a + u)) (eI (a + u)) (vI (b + v)) (eI (b + v))) w) := by
  have L1 : Hid (∀ W, Below w.heap.size w W → Calls Try.prog 25 #[.int .i64 a, .pointer (some p)] W (Gives (.tuple #[.int .i64 (vI (a + u)), .int .i64 (eI (a + u))]) W)) := Lib.hid fun W h => shift1_any a u p W ha hu ((h.cell (World.block_lt_of_cell? w _ hp)).trans hp)
  have L2 : Hid (∀ W, Below w.heap.size w W → Calls Try.prog 25 #[.int .i64 b, .pointer (some q)] W (Gives (.tuple #[.int .i64 (vI (b + v)), .int .i64 (eI (b + v))]) W)) := Lib.hid fun W h => shift1_any b v q W hb hv ((h.cell (World.block_lt_of_cell? w _ hq)).trans hq)
  generalize vI (a + u) = x at *
  generalize eI (a + u) = e at *
  generalize vI (b + v) = y at *
  generalize eI (b + v) = f at *
  clear ha hb hu hv hp hq
  obtain ⟨W, hW⟩ : ∃ W, (w.alloc (.cells #[.int .i64 a, .int .i64 b] 23)).alloc (.cells #[.int .i64 0, .int .i64 0] 23) = W := ⟨_, rfl⟩
  have K0 : Hid (Kept W w.heap.size #[.int .i64 a, .int .i64 b] 23) := Lib.hid (by rw [← hW]; exact (Kept.new rfl).alloc _)
  have R0 : Hid (Kept W (w.heap.size + 1) #[.int .i64 0, .int .i64 0] 23) := Lib.hid (by rw [← hW]; exact Kept.new (by simp))
  have B0 : Hid (Below w.heap.size w W) := Lib.hid (by rw [← hW]; exact ((Below.refl _ _).alloc (Nat.le_refl _) _).alloc (by simp) _)
  have HW := Lib.hid hW
  clear hW
  have fin : ∀ lo hi er w', lo = movL a b x e y f → hi = movH a b x e y f → er = movE a b x e y f → Below w.heap.size w w' → GapRes (movL a b x e y f) (movH a b x e y f) (movE a b x e y f) w (.returned (.tuple #[.agg #[.int .i64 lo, .int .i64 hi], .int .i64 er])) w' := fun lo hi er w' h1 h2 h3 hb => ⟨by rw [h1, h2, h3], hb⟩
  have Fin := Lib.hid fin
  clear fin
  have hcase : (decide (a ≤ b) = false ∧ movL a b x e y f = 0 ∧ movH a b x e y f = 0 ∧ movE a b x e y f = 10) ∨
      (decide (a ≤ b) = true ∧ (e != 0) = true ∧ movL a b x e y f = 0 ∧ movH a b x e y f = 0 ∧ movE a b x e y f = e) ∨
      (decide (a ≤ b) = true ∧ (e != 0) = false ∧ (f != 0) = true ∧ movL a b x e y f = 0 ∧ movH a b x e y f = 0 ∧ movE a b x e y f = f) ∨
      (decide (a ≤ b) = true ∧ (e != 0) = false ∧ (f != 0) = false ∧ y < x ∧ movL a b x e y f = 0 ∧ movH a b x e y f = 0 ∧ movE a b x e y f = 13) ∨
      (decide (a ≤ b) = true ∧ (e != 0) = false ∧ (f != 0) = false ∧ x ≤ y ∧ movL a b x e y f = x ∧ movH a b x e y f = y ∧ movE a b x e y f = 0) := by
    unfold movL movH movE
    by_cases h1 : a ≤ b <;> by_cases h2 : e = 0 <;> by_cases h3 : f = 0 <;> by_cases h4 : x ≤ y <;> simp [h1, h2, h3, h4] <;> omega
  rcases hcase with ⟨d0, m1, m2, m3⟩ | ⟨d0, d1, m1, m2, m3⟩ | ⟨d0, d1, d2, m1, m2, m3⟩ | ⟨d0, d1, d2, d3, m1, m2, m3⟩ | ⟨d0, d1, d2, d3, m1, m2, m3⟩
  · have M := Lib.hid (Fin.out 0 0 10 · m1.symm m2.symm m3.symm)
    clear m1 m2 m3 Fin
    go_enter Try.func27, Try.ntmps27
    go_wp2_with fail
    rw [HW.out]
    refine (right_any a b _).mono ?_
    rintro e1 w1 ⟨rfl, hb1⟩
    obtain ⟨c1, c2, -, -, l1⟩ := (K0.out.next hb1).two
    have K1 := Lib.hid (K0.out.next hb1)
    have R1 := Lib.hid (R0.out.next hb1)
    obtain ⟨r1, r2, g1, g2, -⟩ := R1.out.two
    have B1 := Lib.hid (bnext B0.out B0.out.size hb1)
    rw [d0]
    clear hb1 d0
    obtain ⟨s1, s2⟩ := R1.out.read2 (.int .i64 0) (.int .i64 0)
    go_wp2
    refine bodyPost_ret (v := .tuple #[.agg #[.int .i64 0, .int .i64 0], .int .i64 10]) (by simp [results, Try.results27, go_sem, s1, s2]) rfl ?_
    exact M.out _ (bset2 B1.out (Nat.le_succ _) _ _)
  · have M := Lib.hid (Fin.out 0 0 e · m1.symm m2.symm m3.symm)
    clear m1 m2 m3 Fin
    go_enter Try.func27, Try.ntmps27
    go_wp2_with fail
    rw [HW.out]
    refine (right_any a b _).mono ?_
    rintro e1 w1 ⟨rfl, hb1⟩
    obtain ⟨c1, c2, -, -, l1⟩ := (K0.out.next hb1).two
    have K1 := Lib.hid (K0.out.next hb1)
    have R1 := Lib.hid (R0.out.next hb1)
    obtain ⟨r1, r2, g1, g2, -⟩ := R1.out.two
    have B1 := Lib.hid (bnext B0.out B0.out.size hb1)
    rw [d0]
    clear hb1 d0
    go_wp2_with fail
    refine (L1.out _ B1.out).mono ?_
    rintro e1 w2 ⟨rfl, hb2⟩
    have K2 := Lib.hid (K1.out.next hb2)
    have R2 := Lib.hid (R1.out.next hb2)
    have B2 := Lib.hid (bnext B1.out B1.out.size hb2)
    clear hb2 c1 c2 r1 r2 g1 g2
    obtain ⟨c1, c2, -, -, l2⟩ := K2.out.two
    obtain ⟨r1, r2, g1, g2, -⟩ := R2.out.two
    obtain ⟨s1, s2⟩ := R2.out.read2 (.int .i64 0) (.int .i64 0)
    go_wp2
    refine bodyPost_ret (v := .tuple #[.agg #[.int .i64 0, .int .i64 0], .int .i64 e]) (by simp [results, Try.results27, go_sem, s1, s2]) rfl ?_
    exact M.out _ (bset2 B2.out (Nat.le_succ _) _ _)
  · have M := Lib.hid (Fin.out 0 0 f · m1.symm m2.symm m3.symm)
    clear m1 m2 m3 Fin
    go_enter Try.func27, Try.ntmps27
    go_wp2_with fail
    rw [HW.out]
    refine (right_any a b _).mono ?_
    rintro e1 w1 ⟨rfl, hb1⟩
    obtain ⟨c1, c2, -, -, l1⟩ := (K0.out.next hb1).two
    have K1 := Lib.hid (K0.out.next hb1)
    have R1 := Lib.hid (R0.out.next hb1)
    obtain ⟨r1, r2, g1, g2, -⟩ := R1.out.two
    have B1 := Lib.hid (bnext B0.out B0.out.size hb1)
    rw [d0]
    clear hb1 d0
    go_wp2_with fail
    refine (L1.out _ B1.out).mono ?_
    rintro e1 w2 ⟨rfl, hb2⟩
    have K2 := Lib.hid (K1.out.next hb2)
    have R2 := Lib.hid (R1.out.next hb2)
    have B2 := Lib.hid (bnext B1.out B1.out.size hb2)
    clear hb2 c1 c2 r1 r2 g1 g2
    obtain ⟨c1, c2, -, -, l2⟩ := K2.out.two
    obtain ⟨r1, r2, g1, g2, -⟩ := R2.out.two
    go_wp2_with fail
    refine (L2.out _ B2.out).mono ?_
    rintro e1 w3 ⟨rfl, hb3⟩
    have R3 := Lib.hid (R2.out.next hb3)
    have B3 := Lib.hid (bnext B2.out B2.out.size hb3)
    clear hb3 c1 c2 r1 r2 g1 g2
    obtain ⟨r1, r2, g1, g2, -⟩ := R3.out.two
    obtain ⟨s1, s2⟩ := R3.out.read2 (.int .i64 0) (.int .i64 0)
    go_wp2
    refine bodyPost_ret (v := .tuple #[.agg #[.int .i64 0, .int .i64 0], .int .i64 f]) (by simp [results, Try.results27, go_sem, s1, s2]) rfl ?_
    exact M.out _ (bset2 B3.out (Nat.le_succ _) _ _)
  · have M := Lib.hid (Fin.out 0 0 13 · m1.symm m2.symm m3.symm)
    clear m1 m2 m3 Fin
    go_enter Try.func27, Try.ntmps27
    go_wp2_with fail
    rw [HW.out]
    refine (right_any a b _).mono ?_
    rintro e1 w1 ⟨rfl, hb1⟩
    obtain ⟨c1, c2, -, -, l1⟩ := (K0.out.next hb1).two
    have K1 := Lib.hid (K0.out.next hb1)
    have R1 := Lib.hid (R0.out.next hb1)
    obtain ⟨r1, r2, g1, g2, -⟩ := R1.out.two
    have B1 := Lib.hid (bnext B0.out B0.out.size hb1)
    rw [d0]
    clear hb1 d0
    go_wp2_with fail
    refine (L1.out _ B1.out).mono ?_
    rintro e1 w2 ⟨rfl, hb2⟩
    have K2 := Lib.hid (K1.out.next hb2)
    have R2 := Lib.hid (R1.out.next hb2)
    have B2 := Lib.hid (bnext B1.out B1.out.size hb2)
    clear hb2 c1 c2 r1 r2 g1 g2
    obtain ⟨c1, c2, -, -, l2⟩ := K2.out.two
    obtain ⟨r1, r2, g1, g2, -⟩ := R2.out.two
    go_wp2_with fail
    refine (L2.out _ B2.out).mono ?_
    rintro e1 w3 ⟨rfl, hb3⟩
    have R3 := Lib.hid (R2.out.next hb3)
    have B3 := Lib.hid (bnext B2.out B2.out.size hb3)
    clear hb3 c1 c2 r1 r2 g1 g2
    obtain ⟨r1, r2, g1, g2, -⟩ := R3.out.two
    obtain ⟨s1, s2⟩ := R3.out.read2 (.int .i64 0) (.int .i64 0)
    go_wp2
    refine bodyPost_ret (v := .tuple #[.agg #[.int .i64 0, .int .i64 0], .int .i64 13]) (by simp [results, Try.results27, go_sem, s1, s2]) rfl ?_
    exact M.out _ (bset2 B3.out (Nat.le_succ _) _ _)
  · have M := Lib.hid (Fin.out x y 0 · m1.symm m2.symm m3.symm)
    clear m1 m2 m3 Fin
    go_enter Try.func27, Try.ntmps27
    go_wp2_with fail
    rw [HW.out]
    refine (right_any a b _).mono ?_
    rintro e1 w1 ⟨rfl, hb1⟩
    obtain ⟨c1, c2, -, -, l1⟩ := (K0.out.next hb1).two
    have K1 := Lib.hid (K0.out.next hb1)
    have R1 := Lib.hid (R0.out.next hb1)
    obtain ⟨r1, r2, g1, g2, -⟩ := R1.out.two
    have B1 := Lib.hid (bnext B0.out B0.out.size hb1)
    rw [d0]
    clear hb1 d0
    go_wp2_with fail
    refine (L1.out _ B1.out).mono ?_
    rintro e1 w2 ⟨rfl, hb2⟩
    have K2 := Lib.hid (K1.out.next hb2)
    have R2 := Lib.hid (R1.out.next hb2)
    have B2 := Lib.hid (bnext B1.out B1.out.size hb2)
    clear hb2 c1 c2 r1 r2 g1 g2
    obtain ⟨c1, c2, -, -, l2⟩ := K2.out.two
    obtain ⟨r1, r2, g1, g2, -⟩ := R2.out.two
    go_wp2_with fail
    refine (L2.out _ B2.out).mono ?_
    rintro e1 w3 ⟨rfl, hb3⟩
    have R3 := Lib.hid (R2.out.next hb3)
    have B3 := Lib.hid (bnext B2.out B2.out.size hb3)
    clear hb3 c1 c2 r1 r2 g1 g2
    obtain ⟨r1, r2, g1, g2, -⟩ := R3.out.two
    obtain ⟨s1, s2⟩ := R3.out.read2 (.int .i64 x) (.int .i64 y)
    go_wp2
    refine bodyPost_ret (v := .tuple #[.agg #[.int .i64 x, .int .i64 y], .int .i64 0]) (by simp [results, Try.results27, go_sem, s1, s2]) rfl ?_
    exact M.out _ (bset2 B3.out (Nat.le_succ _) _ _)
set_option maxHeartbeats 2000000 in
theorem moved_grow (a b u v : Int) (p q : Addr) (w : World) (ha : InI a) (hb : InI b) (hu : InI u) (hv : InI v) (hp : w.cell? p = some (.int .i64 u)) (hq : w.cell? q = some (.int .i64 v)) :
    Calls Try.prog 27 #[.agg #[.int .i64 a, .int .i64 b], .func (.func 28) #[] #[.pointer (some p)], .func (.func 30) #[] #[.pointer (some q)]] w
      (GapRes (movL a b (vI (a - u)) (eI (a - u)) (vI (b + v)) (eI (b + v))) (movH a b (vI (a - u)) (eI (a - u)) (vI (b + v)) (eI (b + v))) (movE a b (vI (a - u)) (eI (a - u)) (vI (b + v)) (eI (b + v))) w) := by
  have L1 : Hid (∀ W, Below w.heap.size w W → Calls Try.prog 28 #[.int .i64 a, .pointer (some p)] W (Gives (.tuple #[.int .i64 (vI (a - u)), .int .i64 (eI (a - u))]) W)) := Lib.hid fun W h => grow1_any a u p W ha hu ((h.cell (World.block_lt_of_cell? w _ hp)).trans hp)
  have L2 : Hid (∀ W, Below w.heap.size w W → Calls Try.prog 30 #[.int .i64 b, .pointer (some q)] W (Gives (.tuple #[.int .i64 (vI (b + v)), .int .i64 (eI (b + v))]) W)) := Lib.hid fun W h => grow2_any b v q W hb hv ((h.cell (World.block_lt_of_cell? w _ hq)).trans hq)
  generalize vI (a - u) = x at *
  generalize eI (a - u) = e at *
  generalize vI (b + v) = y at *
  generalize eI (b + v) = f at *
  clear ha hb hu hv hp hq
  obtain ⟨W, hW⟩ : ∃ W, (w.alloc (.cells #[.int .i64 a, .int .i64 b] 23)).alloc (.cells #[.int .i64 0, .int .i64 0] 23) = W := ⟨_, rfl⟩
  have K0 : Hid (Kept W w.heap.size #[.int .i64 a, .int .i64 b] 23) := Lib.hid (by rw [← hW]; exact (Kept.new rfl).alloc _)
  have R0 : Hid (Kept W (w.heap.size + 1) #[.int .i64 0, .int .i64 0] 23) := Lib.hid (by rw [← hW]; exact Kept.new (by simp))
  have B0 : Hid (Below w.heap.size w W) := Lib.hid (by rw [← hW]; exact ((Below.refl _ _).alloc (Nat.le_refl _) _).alloc (by simp) _)
  have HW := Lib.hid hW
  clear hW
  have fin : ∀ lo hi er w', lo = movL a b x e y f → hi = movH a b x e y f → er = movE a b x e y f → Below w.heap.size w w' → GapRes (movL a b x e y f) (movH a b x e y f) (movE a b x e y f) w (.returned (.tuple #[.agg #[.int .i64 lo, .int .i64 hi], .int .i64 er])) w' := fun lo hi er w' h1 h2 h3 hb => ⟨by rw [h1, h2, h3], hb⟩
  have Fin := Lib.hid fin
  clear fin
  have hcase : (decide (a ≤ b) = false ∧ movL a b x e y f = 0 ∧ movH a b x e y f = 0 ∧ movE a b x e y f = 10) ∨
      (decide (a ≤ b) = true ∧ (e != 0) = true ∧ movL a b x e y f = 0 ∧ movH a b x e y f = 0 ∧ movE a b x e y f = e) ∨
      (decide (a ≤ b) = true ∧ (e != 0) = false ∧ (f != 0) = true ∧ movL a b x e y f = 0 ∧ movH a b x e y f = 0 ∧ movE a b x e y f = f) ∨
      (decide (a ≤ b) = true ∧ (e != 0) = false ∧ (f != 0) = false ∧ y < x ∧ movL a b x e y f = 0 ∧ movH a b x e y f = 0 ∧ movE a b x e y f = 13) ∨
      (decide (a ≤ b) = true ∧ (e != 0) = false ∧ (f != 0) = false ∧ x ≤ y ∧ movL a b x e y f = x ∧ movH a b x e y f = y ∧ movE a b x e y f = 0) := by
    unfold movL movH movE
    by_cases h1 : a ≤ b <;> by_cases h2 : e = 0 <;> by_cases h3 : f = 0 <;> by_cases h4 : x ≤ y <;> simp [h1, h2, h3, h4] <;> omega
  rcases hcase with ⟨d0, m1, m2, m3⟩ | ⟨d0, d1, m1, m2, m3⟩ | ⟨d0, d1, d2, m1, m2, m3⟩ | ⟨d0, d1, d2, d3, m1, m2, m3⟩ | ⟨d0, d1, d2, d3, m1, m2, m3⟩
  · have M := Lib.hid (Fin.out 0 0 10 · m1.symm m2.symm m3.symm)
    clear m1 m2 m3 Fin
    go_enter Try.func27, Try.ntmps27
    go_wp2_with fail
    rw [HW.out]
    refine (right_any a b _).mono ?_
    rintro e1 w1 ⟨rfl, hb1⟩
    obtain ⟨c1, c2, -, -, l1⟩ := (K0.out.next hb1).two
    have K1 := Lib.hid (K0.out.next hb1)
    have R1 := Lib.hid (R0.out.next hb1)
    obtain ⟨r1, r2, g1, g2, -⟩ := R1.out.two
    have B1 := Lib.hid (bnext B0.out B0.out.size hb1)
    rw [d0]
    clear hb1 d0
    obtain ⟨s1, s2⟩ := R1.out.read2 (.int .i64 0) (.int .i64 0)
    go_wp2
    refine bodyPost_ret (v := .tuple #[.agg #[.int .i64 0, .int .i64 0], .int .i64 10]) (by simp [results, Try.results27, go_sem, s1, s2]) rfl ?_
    exact M.out _ (bset2 B1.out (Nat.le_succ _) _ _)
  · have M := Lib.hid (Fin.out 0 0 e · m1.symm m2.symm m3.symm)
    clear m1 m2 m3 Fin
    go_enter Try.func27, Try.ntmps27
    go_wp2_with fail
    rw [HW.out]
    refine (right_any a b _).mono ?_
    rintro e1 w1 ⟨rfl, hb1⟩
    obtain ⟨c1, c2, -, -, l1⟩ := (K0.out.next hb1).two
    have K1 := Lib.hid (K0.out.next hb1)
    have R1 := Lib.hid (R0.out.next hb1)
    obtain ⟨r1, r2, g1, g2, -⟩ := R1.out.two
    have B1 := Lib.hid (bnext B0.out B0.out.size hb1)
    rw [d0]
    clear hb1 d0
    go_wp2_with fail
    refine (L1.out _ B1.out).mono ?_
    rintro e1 w2 ⟨rfl, hb2⟩
    have K2 := Lib.hid (K1.out.next hb2)
    have R2 := Lib.hid (R1.out.next hb2)
    have B2 := Lib.hid (bnext B1.out B1.out.size hb2)
    clear hb2 c1 c2 r1 r2 g1 g2
    obtain ⟨c1, c2, -, -, l2⟩ := K2.out.two
    obtain ⟨r1, r2, g1, g2, -⟩ := R2.out.two
    obtain ⟨s1, s2⟩ := R2.out.read2 (.int .i64 0) (.int .i64 0)
    go_wp2
    refine bodyPost_ret (v := .tuple #[.agg #[.int .i64 0, .int .i64 0], .int .i64 e]) (by simp [results, Try.results27, go_sem, s1, s2]) rfl ?_
    exact M.out _ (bset2 B2.out (Nat.le_succ _) _ _)
  · have M := Lib.hid (Fin.out 0 0 f · m1.symm m2.symm m3.symm)
    clear m1 m2 m3 Fin
    go_enter Try.func27, Try.ntmps27
    go_wp2_with fail
    rw [HW.out]
    refine (right_any a b _).mono ?_
    rintro e1 w1 ⟨rfl, hb1⟩
    obtain ⟨c1, c2, -, -, l1⟩ := (K0.out.next hb1).two
    have K1 := Lib.hid (K0.out.next hb1)
    have R1 := Lib.hid (R0.out.next hb1)
    obtain ⟨r1, r2, g1, g2, -⟩ := R1.out.two
    have B1 := Lib.hid (bnext B0.out B0.out.size hb1)
    rw [d0]
    clear hb1 d0
    go_wp2_with fail
    refine (L1.out _ B1.out).mono ?_
    rintro e1 w2 ⟨rfl, hb2⟩
    have K2 := Lib.hid (K1.out.next hb2)
    have R2 := Lib.hid (R1.out.next hb2)
    have B2 := Lib.hid (bnext B1.out B1.out.size hb2)
    clear hb2 c1 c2 r1 r2 g1 g2
    obtain ⟨c1, c2, -, -, l2⟩ := K2.out.two
    obtain ⟨r1, r2, g1, g2, -⟩ := R2.out.two
    go_wp2_with fail
    refine (L2.out _ B2.out).mono ?_
    rintro e1 w3 ⟨rfl, hb3⟩
    have R3 := Lib.hid (R2.out.next hb3)
    have B3 := Lib.hid (bnext B2.out B2.out.size hb3)
    clear hb3 c1 c2 r1 r2 g1 g2
    obtain ⟨r1, r2, g1, g2, -⟩ := R3.out.two
    obtain ⟨s1, s2⟩ := R3.out.read2 (.int .i64 0) (.int .i64 0)
    go_wp2
    refine bodyPost_ret (v := .tuple #[.agg #[.int .i64 0, .int .i64 0], .int .i64 f]) (by simp [results, Try.results27, go_sem, s1, s2]) rfl ?_
    exact M.out _ (bset2 B3.out (Nat.le_succ _) _ _)
  · have M := Lib.hid (Fin.out 0 0 13 · m1.symm m2.symm m3.symm)
    clear m1 m2 m3 Fin
    go_enter Try.func27, Try.ntmps27
    go_wp2_with fail
    rw [HW.out]
    refine (right_any a b _).mono ?_
    rintro e1 w1 ⟨rfl, hb1⟩
    obtain ⟨c1, c2, -, -, l1⟩ := (K0.out.next hb1).two
    have K1 := Lib.hid (K0.out.next hb1)
    have R1 := Lib.hid (R0.out.next hb1)
    obtain ⟨r1, r2, g1, g2, -⟩ := R1.out.two
    have B1 := Lib.hid (bnext B0.out B0.out.size hb1)
    rw [d0]
    clear hb1 d0
    go_wp2_with fail
    refine (L1.out _ B1.out).mono ?_
    rintro e1 w2 ⟨rfl, hb2⟩
    have K2 := Lib.hid (K1.out.next hb2)
    have R2 := Lib.hid (R1.out.next hb2)
    have B2 := Lib.hid (bnext B1.out B1.out.size hb2)
    clear hb2 c1 c2 r1 r2 g1 g2
    obtain ⟨c1, c2, -, -, l2⟩ := K2.out.two
    obtain ⟨r1, r2, g1, g2, -⟩ := R2.out.two
    go_wp2_with fail
    refine (L2.out _ B2.out).mono ?_
    rintro e1 w3 ⟨rfl, hb3⟩
    have R3 := Lib.hid (R2.out.next hb3)
    have B3 := Lib.hid (bnext B2.out B2.out.size hb3)
    clear hb3 c1 c2 r1 r2 g1 g2
    obtain ⟨r1, r2, g1, g2, -⟩ := R3.out.two
    obtain ⟨s1, s2⟩ := R3.out.read2 (.int .i64 0) (.int .i64 0)
    go_wp2
    refine bodyPost_ret (v := .tuple #[.agg #[.int .i64 0, .int .i64 0], .int .i64 13]) (by simp [results, Try.results27, go_sem, s1, s2]) rfl ?_
    exact M.out _ (bset2 B3.out (Nat.le_succ _) _ _)
  · have M := Lib.hid (Fin.out x y 0 · m1.symm m2.symm m3.symm)
    clear m1 m2 m3 Fin
    go_enter Try.func27, Try.ntmps27
    go_wp2_with fail
    rw [HW.out]
    refine (right_any a b _).mono ?_
    rintro e1 w1 ⟨rfl, hb1⟩
    obtain ⟨c1, c2, -, -, l1⟩ := (K0.out.next hb1).two
    have K1 := Lib.hid (K0.out.next hb1)
    have R1 := Lib.hid (R0.out.next hb1)
    obtain ⟨r1, r2, g1, g2, -⟩ := R1.out.two
    have B1 := Lib.hid (bnext B0.out B0.out.size hb1)
    rw [d0]
    clear hb1 d0
    go_wp2_with fail
    refine (L1.out _ B1.out).mono ?_
    rintro e1 w2 ⟨rfl, hb2⟩
    have K2 := Lib.hid (K1.out.next hb2)
    have R2 := Lib.hid (R1.out.next hb2)
    have B2 := Lib.hid (bnext B1.out B1.out.size hb2)
    clear hb2 c1 c2 r1 r2 g1 g2
    obtain ⟨c1, c2, -, -, l2⟩ := K2.out.two
    obtain ⟨r1, r2, g1, g2, -⟩ := R2.out.two
    go_wp2_with fail
    refine (L2.out _ B2.out).mono ?_
    rintro e1 w3 ⟨rfl, hb3⟩
    have R3 := Lib.hid (R2.out.next hb3)
    have B3 := Lib.hid (bnext B2.out B2.out.size hb3)
    clear hb3 c1 c2 r1 r2 g1 g2
    obtain ⟨r1, r2, g1, g2, -⟩ := R3.out.two
    obtain ⟨s1, s2⟩ := R3.out.read2 (.int .i64 x) (.int .i64 y)
    go_wp2
    refine bodyPost_ret (v := .tuple #[.agg #[.int .i64 x, .int .i64 y], .int .i64 0]) (by simp [results, Try.results27, go_sem, s1, s2]) rfl ?_
    exact M.out _ (bset2 B3.out (Nat.le_succ _) _ _)
end Go.Proofs.Ytahenediimoboaa
