/- GridWithin, walked. -/
import Derived.Test.YthipeefhkaanbaaAlive
import Derived.Test.YthipeefhkaanbaaGapD
namespace Go.Proofs.Ythipeefhkaanbaa
open Go.RowKit
set_option linter.unusedVariables false

theorem pair_two {w : World} {g : Nat} {p q r s : Int} {T : TypeId} (h : Kept w g #[.int .i64 p, .int .i64 q, .int .i64 r, .int .i64 s] T) : PairRow w (some ⟨g, 0, none⟩) [(p, q), (r, s)] := fun j hj => by
  simp only [List.length_cons, List.length_nil] at hj
  have : j = 0 ∨ j = 1 := by omega
  rcases this with rfl | rfl
  · exact ⟨g, 0, rfl, (h.at_ 0).1, (h.at_ 1).1⟩
  · exact ⟨g, 0, rfl, (h.at_ 2).1, (h.at_ 3).1⟩
def On2 (a b c d x y e : Int) : Prop := ∀ (W : World) (g : Nat), Kept W g #[.int .i64 a, .int .i64 b, .int .i64 c, .int .i64 d] 25 → Calls Try.prog 22 #[.slice (some ⟨g, 0, none⟩) 2 2] W (GapRes x y e W)
theorem On2.at_ {a b c d x y e : Int} (h : On2 a b c d x y e) (W : World) (g : Nat) (k : Kept W g #[.int .i64 a, .int .i64 b, .int .i64 c, .int .i64 d] 25) : Calls Try.prog 22 #[.slice (some ⟨g, 0, none⟩) 2 2] W (GapRes x y e W) := h W g k
set_option maxHeartbeats 4000000 in
theorem within_none (w p m a b c d n x y e : Int) (W0 : World)
    (Cg : Hid (On2 a b c d x y e)) (he : (e != 0) = true) :
    Calls Try.prog 6 #[.agg #[.int .i64 w, .int .i64 p, .int .i64 m], .agg #[.int .i64 a, .int .i64 b], .agg #[.int .i64 c, .int .i64 d], .int .i64 n] W0 fun e w' => e = .returned (.bool true) ∧ Below W0.heap.size W0 w' := by
  go_enter Try.func6, Try.ntmps6
  have B0 : Hid (Below W0.heap.size W0 W0) := Lib.hid (Below.refl W0.heap.size W0)
  go_wp2_with fail
  refine (alive_any _).mono ?_
  rintro e1 w1 ⟨rfl, hb1⟩
  have Kg : Hid (Kept w1 _ #[.int .i64 w, .int .i64 p, .int .i64 m] 23) := Lib.hid ((((Kept.new (w := W0) (cs := #[.int .i64 w, .int .i64 p, .int .i64 m]) (t := 23) rfl).alloc (.cells #[.int .i64 a, .int .i64 b] 25)).alloc (.cells #[.int .i64 c, .int .i64 d] 25)).next hb1)
  have Kx : Hid (Kept w1 _ #[.int .i64 a, .int .i64 b] 25) := Lib.hid (((Kept.new (w := (W0.alloc (.cells #[.int .i64 w, .int .i64 p, .int .i64 m] 23))) (g := W0.heap.size + 1) (cs := #[.int .i64 a, .int .i64 b]) (t := 25) (by simp)).alloc (.cells #[.int .i64 c, .int .i64 d] 25)).next hb1)
  have Ky : Hid (Kept w1 _ #[.int .i64 c, .int .i64 d] 25) := Lib.hid ((Kept.new (w := ((W0.alloc (.cells #[.int .i64 w, .int .i64 p, .int .i64 m] 23)).alloc (.cells #[.int .i64 a, .int .i64 b] 25))) (g := W0.heap.size + 2) (cs := #[.int .i64 c, .int .i64 d]) (t := 25) (by simp)).next hb1)
  have B1 : Hid (Below W0.heap.size W0 w1) := Lib.hid (bnext (((((((B0.out).alloc (by have := B0.out.size; first | omega | (simp <;> omega)) _)).alloc (by have := B0.out.size; first | omega | (simp <;> omega)) _)).alloc (by have := B0.out.size; first | omega | (simp <;> omega)) _)) (by have := B0.out.size; first | omega | (simp <;> omega)) hb1)
  clear hb1
  obtain ⟨x1, x2, -, -, xl⟩ := Kx.out.two
  obtain ⟨y1, y2, -, -, yl⟩ := Ky.out.two
  go_wp2_with fail
  refine (Cg.out.at_ _ _ (by exact Kept.new (by simp))).mono ?_
  rintro e2 w2 ⟨rfl, hb2⟩
  clear x1 x2 xl
  clear y1 y2 yl
  have Kg : Hid (Kept w2 _ _ _) := Lib.hid ((Kg.out.alloc _).next hb2)
  have Kx : Hid (Kept w2 _ _ _) := Lib.hid ((Kx.out.alloc _).next hb2)
  have Ky : Hid (Kept w2 _ _ _) := Lib.hid ((Ky.out.alloc _).next hb2)
  have B2 : Hid (Below W0.heap.size W0 w2) := Lib.hid (bnext (((B1.out).alloc (by have := B1.out.size; first | omega | (simp <;> omega)) _)) (by have := B1.out.size; first | omega | (simp <;> omega)) hb2)
  clear hb2
  go_wp2
  go_ret
  exact ⟨rfl, (B2.out).alloc (by have := B2.out.size; first | omega | (simp <;> omega)) _⟩
set_option maxHeartbeats 4000000 in
theorem within_state (w p m a b c d n x y u1 u2 v1 v2 : Int) (W0 : World)
    (Cg : Hid (On2 a b c d x y 0)) (C1 : Hid (∀ W, Calls Try.prog 15 #[.agg #[.int .i64 w, .int .i64 p, .int .i64 m], .agg #[.int .i64 a, .int .i64 b]] W (MeetRes u1 u2 21 W))) (C2 : Hid (∀ W, Calls Try.prog 15 #[.agg #[.int .i64 w, .int .i64 p, .int .i64 m], .agg #[.int .i64 x, .int .i64 y]] W (MeetRes v1 v2 21 W))) :
    Calls Try.prog 6 #[.agg #[.int .i64 w, .int .i64 p, .int .i64 m], .agg #[.int .i64 a, .int .i64 b], .agg #[.int .i64 c, .int .i64 d], .int .i64 n] W0 fun e w' => e = .returned (.bool true) ∧ Below W0.heap.size W0 w' := by
  go_enter Try.func6, Try.ntmps6
  have B0 : Hid (Below W0.heap.size W0 W0) := Lib.hid (Below.refl W0.heap.size W0)
  go_wp2_with fail
  refine (alive_any _).mono ?_
  rintro e1 w1 ⟨rfl, hb1⟩
  have Kg : Hid (Kept w1 _ #[.int .i64 w, .int .i64 p, .int .i64 m] 23) := Lib.hid ((((Kept.new (w := W0) (cs := #[.int .i64 w, .int .i64 p, .int .i64 m]) (t := 23) rfl).alloc (.cells #[.int .i64 a, .int .i64 b] 25)).alloc (.cells #[.int .i64 c, .int .i64 d] 25)).next hb1)
  have Kx : Hid (Kept w1 _ #[.int .i64 a, .int .i64 b] 25) := Lib.hid (((Kept.new (w := (W0.alloc (.cells #[.int .i64 w, .int .i64 p, .int .i64 m] 23))) (g := W0.heap.size + 1) (cs := #[.int .i64 a, .int .i64 b]) (t := 25) (by simp)).alloc (.cells #[.int .i64 c, .int .i64 d] 25)).next hb1)
  have Ky : Hid (Kept w1 _ #[.int .i64 c, .int .i64 d] 25) := Lib.hid ((Kept.new (w := ((W0.alloc (.cells #[.int .i64 w, .int .i64 p, .int .i64 m] 23)).alloc (.cells #[.int .i64 a, .int .i64 b] 25))) (g := W0.heap.size + 2) (cs := #[.int .i64 c, .int .i64 d]) (t := 25) (by simp)).next hb1)
  have B1 : Hid (Below W0.heap.size W0 w1) := Lib.hid (bnext (((((((B0.out).alloc (by have := B0.out.size; first | omega | (simp <;> omega)) _)).alloc (by have := B0.out.size; first | omega | (simp <;> omega)) _)).alloc (by have := B0.out.size; first | omega | (simp <;> omega)) _)) (by have := B0.out.size; first | omega | (simp <;> omega)) hb1)
  clear hb1
  obtain ⟨x1, x2, -, -, xl⟩ := Kx.out.two
  obtain ⟨y1, y2, -, -, yl⟩ := Ky.out.two
  go_wp2_with fail
  refine (Cg.out.at_ _ _ (by exact Kept.new (by simp))).mono ?_
  rintro e2 w2 ⟨rfl, hb2⟩
  clear x1 x2 xl
  clear y1 y2 yl
  have Kg : Hid (Kept w2 _ _ _) := Lib.hid ((Kg.out.alloc _).next hb2)
  have Kx : Hid (Kept w2 _ _ _) := Lib.hid ((Kx.out.alloc _).next hb2)
  have Ky : Hid (Kept w2 _ _ _) := Lib.hid ((Ky.out.alloc _).next hb2)
  have B2 : Hid (Below W0.heap.size W0 w2) := Lib.hid (bnext (((B1.out).alloc (by have := B1.out.size; first | omega | (simp <;> omega)) _)) (by have := B1.out.size; first | omega | (simp <;> omega)) hb2)
  clear hb2
  obtain ⟨g1, g2, g3, -, -, -, gl⟩ := Kg.out.three
  obtain ⟨x1, x2, -, -, xl⟩ := Kx.out.two
  go_wp2_with fail
  refine (C1.out _).mono ?_
  rintro e3 w3 ⟨rfl, hb3⟩
  clear g1 g2 g3 gl
  clear x1 x2 xl
  have Kg : Hid (Kept w3 _ _ _) := Lib.hid ((Kg.out.alloc _).next hb3)
  have Kx : Hid (Kept w3 _ _ _) := Lib.hid ((Kx.out.alloc _).next hb3)
  have Km : Hid (Kept w3 _ #[.int .i64 x, .int .i64 y] 25) := Lib.hid ((Kept.new (w := w2) (cs := #[.int .i64 x, .int .i64 y]) (t := 25) rfl).next hb3)
  have B3 : Hid (Below W0.heap.size W0 w3) := Lib.hid (bnext (((B2.out).alloc (by have := B2.out.size; first | omega | (simp <;> omega)) _)) (by have := B2.out.size; first | omega | (simp <;> omega)) hb3)
  clear hb3
  obtain ⟨g1, g2, g3, -, -, -, gl⟩ := Kg.out.three
  obtain ⟨m1, m2, -, -, ml⟩ := Km.out.two
  go_wp2_with fail
  refine (C2.out _).mono ?_
  rintro e4 w4 ⟨rfl, hb4⟩
  clear g1 g2 g3 gl
  clear m1 m2 ml
  have Kg : Hid (Kept w4 _ _ _) := Lib.hid (Kg.out.next hb4)
  have Kx : Hid (Kept w4 _ _ _) := Lib.hid (Kx.out.next hb4)
  have Km : Hid (Kept w4 _ _ _) := Lib.hid (Km.out.next hb4)
  have B4 : Hid (Below W0.heap.size W0 w4) := Lib.hid (bnext (B3.out) (by have := B3.out.size; first | omega | (simp <;> omega)) hb4)
  clear hb4
  go_wp2
  go_ret
  exact ⟨rfl, B4.out⟩
set_option maxHeartbeats 4000000 in
theorem within_sure_none (w p m a b c d n x y u1 u2 v1 v2 : Int) (W0 : World)
    (Cg : Hid (On2 a b c d x y 0)) (C1 : Hid (∀ W, Calls Try.prog 15 #[.agg #[.int .i64 w, .int .i64 p, .int .i64 m], .agg #[.int .i64 a, .int .i64 b]] W (MeetRes u1 u2 0 W))) (C2 : Hid (∀ W, Calls Try.prog 15 #[.agg #[.int .i64 w, .int .i64 p, .int .i64 m], .agg #[.int .i64 x, .int .i64 y]] W (MeetRes v1 v2 0 W))) (h1 : decide (v1 < u1) = false) (h2 : decide (u2 < v2) = false) (h3 : decide (v2 < v1) = false) (h4 : decide (u2 < u1) = false) (Ca : Hid (∀ W, Calls Try.prog 16 #[.agg #[.int .i64 w, .int .i64 p, .int .i64 m], .int .i64 a] W (Gives (.int .i64 u1) W))) (Cb : Hid (∀ W, Calls Try.prog 16 #[.agg #[.int .i64 w, .int .i64 p, .int .i64 m], .int .i64 b] W (Gives (.int .i64 u2) W))) (Cx : Hid (∀ W, Calls Try.prog 18 #[.agg #[.int .i64 w, .int .i64 p, .int .i64 m], .agg #[.int .i64 a, .int .i64 b]] W (Gives (.bool true) W))) (Cm : Hid (∀ W, Calls Try.prog 18 #[.agg #[.int .i64 w, .int .i64 p, .int .i64 m], .agg #[.int .i64 x, .int .i64 y]] W (Gives (.bool true) W))) (Cn : Hid (∀ W, Calls Try.prog 8 #[.int .i64 w, .int .i64 p, .int .i64 n] W (GridRes 0 0 0 11 W))) :
    Calls Try.prog 6 #[.agg #[.int .i64 w, .int .i64 p, .int .i64 m], .agg #[.int .i64 a, .int .i64 b], .agg #[.int .i64 c, .int .i64 d], .int .i64 n] W0 fun e w' => e = .returned (.bool true) ∧ Below W0.heap.size W0 w' := by
  go_enter Try.func6, Try.ntmps6
  have B0 : Hid (Below W0.heap.size W0 W0) := Lib.hid (Below.refl W0.heap.size W0)
  go_wp2_with fail
  refine (alive_any _).mono ?_
  rintro e1 w1 ⟨rfl, hb1⟩
  have Kg : Hid (Kept w1 _ #[.int .i64 w, .int .i64 p, .int .i64 m] 23) := Lib.hid ((((Kept.new (w := W0) (cs := #[.int .i64 w, .int .i64 p, .int .i64 m]) (t := 23) rfl).alloc (.cells #[.int .i64 a, .int .i64 b] 25)).alloc (.cells #[.int .i64 c, .int .i64 d] 25)).next hb1)
  have Kx : Hid (Kept w1 _ #[.int .i64 a, .int .i64 b] 25) := Lib.hid (((Kept.new (w := (W0.alloc (.cells #[.int .i64 w, .int .i64 p, .int .i64 m] 23))) (g := W0.heap.size + 1) (cs := #[.int .i64 a, .int .i64 b]) (t := 25) (by simp)).alloc (.cells #[.int .i64 c, .int .i64 d] 25)).next hb1)
  have Ky : Hid (Kept w1 _ #[.int .i64 c, .int .i64 d] 25) := Lib.hid ((Kept.new (w := ((W0.alloc (.cells #[.int .i64 w, .int .i64 p, .int .i64 m] 23)).alloc (.cells #[.int .i64 a, .int .i64 b] 25))) (g := W0.heap.size + 2) (cs := #[.int .i64 c, .int .i64 d]) (t := 25) (by simp)).next hb1)
  have B1 : Hid (Below W0.heap.size W0 w1) := Lib.hid (bnext (((((((B0.out).alloc (by have := B0.out.size; first | omega | (simp <;> omega)) _)).alloc (by have := B0.out.size; first | omega | (simp <;> omega)) _)).alloc (by have := B0.out.size; first | omega | (simp <;> omega)) _)) (by have := B0.out.size; first | omega | (simp <;> omega)) hb1)
  clear hb1
  obtain ⟨x1, x2, -, -, xl⟩ := Kx.out.two
  obtain ⟨y1, y2, -, -, yl⟩ := Ky.out.two
  go_wp2_with fail
  refine (Cg.out.at_ _ _ (by exact Kept.new (by simp))).mono ?_
  rintro e2 w2 ⟨rfl, hb2⟩
  clear x1 x2 xl
  clear y1 y2 yl
  have Kg : Hid (Kept w2 _ _ _) := Lib.hid ((Kg.out.alloc _).next hb2)
  have Kx : Hid (Kept w2 _ _ _) := Lib.hid ((Kx.out.alloc _).next hb2)
  have Ky : Hid (Kept w2 _ _ _) := Lib.hid ((Ky.out.alloc _).next hb2)
  have B2 : Hid (Below W0.heap.size W0 w2) := Lib.hid (bnext (((B1.out).alloc (by have := B1.out.size; first | omega | (simp <;> omega)) _)) (by have := B1.out.size; first | omega | (simp <;> omega)) hb2)
  clear hb2
  obtain ⟨g1, g2, g3, -, -, -, gl⟩ := Kg.out.three
  obtain ⟨x1, x2, -, -, xl⟩ := Kx.out.two
  go_wp2_with fail
  refine (C1.out _).mono ?_
  rintro e3 w3 ⟨rfl, hb3⟩
  clear g1 g2 g3 gl
  clear x1 x2 xl
  have Kg : Hid (Kept w3 _ _ _) := Lib.hid ((Kg.out.alloc _).next hb3)
  have Kx : Hid (Kept w3 _ _ _) := Lib.hid ((Kx.out.alloc _).next hb3)
  have Km : Hid (Kept w3 _ #[.int .i64 x, .int .i64 y] 25) := Lib.hid ((Kept.new (w := w2) (cs := #[.int .i64 x, .int .i64 y]) (t := 25) rfl).next hb3)
  have B3 : Hid (Below W0.heap.size W0 w3) := Lib.hid (bnext (((B2.out).alloc (by have := B2.out.size; first | omega | (simp <;> omega)) _)) (by have := B2.out.size; first | omega | (simp <;> omega)) hb3)
  clear hb3
  obtain ⟨g1, g2, g3, -, -, -, gl⟩ := Kg.out.three
  obtain ⟨m1, m2, -, -, ml⟩ := Km.out.two
  go_wp2_with fail
  refine (C2.out _).mono ?_
  rintro e4 w4 ⟨rfl, hb4⟩
  clear g1 g2 g3 gl
  clear m1 m2 ml
  have Kg : Hid (Kept w4 _ _ _) := Lib.hid (Kg.out.next hb4)
  have Kx : Hid (Kept w4 _ _ _) := Lib.hid (Kx.out.next hb4)
  have Km : Hid (Kept w4 _ _ _) := Lib.hid (Km.out.next hb4)
  have B4 : Hid (Below W0.heap.size W0 w4) := Lib.hid (bnext (B3.out) (by have := B3.out.size; first | omega | (simp <;> omega)) hb4)
  clear hb4
  obtain ⟨g1, g2, g3, -, -, -, gl⟩ := Kg.out.three
  obtain ⟨x1, x2, -, -, xl⟩ := Kx.out.two
  obtain ⟨m1, m2, -, -, ml⟩ := Km.out.two
  go_wp2
  go_region_held3 (fun w' => Hid (Below W0.heap.size W0 w') ∧ w'.cell? ⟨W0.heap.size, 0, none⟩ = some (.int .i64 w) ∧ w'.cell? ⟨W0.heap.size, 1, none⟩ = some (.int .i64 p) ∧ w'.cell? ⟨W0.heap.size, 2, none⟩ = some (.int .i64 m) ∧ w'.cell? ⟨W0.heap.size + 1, 0, none⟩ = some (.int .i64 a) ∧ w'.cell? ⟨W0.heap.size + 1, 1, none⟩ = some (.int .i64 b) ∧ w'.cell? ⟨w2.heap.size, 0, none⟩ = some (.int .i64 x) ∧ w'.cell? ⟨w2.heap.size, 1, none⟩ = some (.int .i64 y))
    (first | exact keepB7 hb7 (by assumption) | exact ⟨Lib.hid ⟨B4.out.os, B4.out.tape, B4.out.output, B4.out.size, B4.out.block⟩, g1, g2, g3, x1, x2, m1, m2⟩)
    (first | (go_at_call 16; (first | (with_reducible refine (Ca.out _).mono ?_) | (with_reducible refine (Cb.out _).mono ?_)); rintro e w7 ⟨rfl, hb7⟩) | (go_at_call 18; (first | (with_reducible refine (Cx.out _).mono ?_) | (with_reducible refine (Cm.out _).mono ?_)); rintro e w7 ⟨rfl, hb7⟩))
  rename_i HH
  clear g1 g2 g3 x1 x2 m1 m2 gl xl ml
  obtain ⟨B6, g1, g2, g3, x1, x2, -, -⟩ := HH
  go_wp2_with fail
  refine (Cn.out _).mono ?_
  rintro e8 w8 ⟨rfl, hb8⟩
  have B8 : Hid (Below W0.heap.size W0 w8) := Lib.hid (bstep B6.out hb8)
  clear g1 g2 g3 x1 x2 hb8
  go_wp2
  go_ret
  exact ⟨rfl, B8.out.alloc B8.out.size _⟩
set_option maxHeartbeats 4000000 in
theorem within_sure_less (w p m a b c d n x y u1 u2 v1 v2 : Int) (W0 : World)
    (Cg : Hid (On2 a b c d x y 0)) (C1 : Hid (∀ W, Calls Try.prog 15 #[.agg #[.int .i64 w, .int .i64 p, .int .i64 m], .agg #[.int .i64 a, .int .i64 b]] W (MeetRes u1 u2 0 W))) (C2 : Hid (∀ W, Calls Try.prog 15 #[.agg #[.int .i64 w, .int .i64 p, .int .i64 m], .agg #[.int .i64 x, .int .i64 y]] W (MeetRes v1 v2 0 W))) (h1 : decide (v1 < u1) = false) (h2 : decide (u2 < v2) = false) (h3 : decide (v2 < v1) = false) (h4 : decide (u2 < u1) = false) (Ca : Hid (∀ W, Calls Try.prog 16 #[.agg #[.int .i64 w, .int .i64 p, .int .i64 m], .int .i64 a] W (Gives (.int .i64 u1) W))) (Cb : Hid (∀ W, Calls Try.prog 16 #[.agg #[.int .i64 w, .int .i64 p, .int .i64 m], .int .i64 b] W (Gives (.int .i64 u2) W))) (Cx : Hid (∀ W, Calls Try.prog 18 #[.agg #[.int .i64 w, .int .i64 p, .int .i64 m], .agg #[.int .i64 a, .int .i64 b]] W (Gives (.bool true) W))) (Cm : Hid (∀ W, Calls Try.prog 18 #[.agg #[.int .i64 w, .int .i64 p, .int .i64 m], .agg #[.int .i64 x, .int .i64 y]] W (Gives (.bool true) W))) (Cn : Hid (∀ W, Calls Try.prog 8 #[.int .i64 w, .int .i64 p, .int .i64 n] W (GridRes w p n 0 W))) (hl : n < m) :
    Calls Try.prog 6 #[.agg #[.int .i64 w, .int .i64 p, .int .i64 m], .agg #[.int .i64 a, .int .i64 b], .agg #[.int .i64 c, .int .i64 d], .int .i64 n] W0 fun e w' => e = .returned (.bool true) ∧ Below W0.heap.size W0 w' := by
  go_enter Try.func6, Try.ntmps6
  have B0 : Hid (Below W0.heap.size W0 W0) := Lib.hid (Below.refl W0.heap.size W0)
  go_wp2_with fail
  refine (alive_any _).mono ?_
  rintro e1 w1 ⟨rfl, hb1⟩
  have Kg : Hid (Kept w1 _ #[.int .i64 w, .int .i64 p, .int .i64 m] 23) := Lib.hid ((((Kept.new (w := W0) (cs := #[.int .i64 w, .int .i64 p, .int .i64 m]) (t := 23) rfl).alloc (.cells #[.int .i64 a, .int .i64 b] 25)).alloc (.cells #[.int .i64 c, .int .i64 d] 25)).next hb1)
  have Kx : Hid (Kept w1 _ #[.int .i64 a, .int .i64 b] 25) := Lib.hid (((Kept.new (w := (W0.alloc (.cells #[.int .i64 w, .int .i64 p, .int .i64 m] 23))) (g := W0.heap.size + 1) (cs := #[.int .i64 a, .int .i64 b]) (t := 25) (by simp)).alloc (.cells #[.int .i64 c, .int .i64 d] 25)).next hb1)
  have Ky : Hid (Kept w1 _ #[.int .i64 c, .int .i64 d] 25) := Lib.hid ((Kept.new (w := ((W0.alloc (.cells #[.int .i64 w, .int .i64 p, .int .i64 m] 23)).alloc (.cells #[.int .i64 a, .int .i64 b] 25))) (g := W0.heap.size + 2) (cs := #[.int .i64 c, .int .i64 d]) (t := 25) (by simp)).next hb1)
  have B1 : Hid (Below W0.heap.size W0 w1) := Lib.hid (bnext (((((((B0.out).alloc (by have := B0.out.size; first | omega | (simp <;> omega)) _)).alloc (by have := B0.out.size; first | omega | (simp <;> omega)) _)).alloc (by have := B0.out.size; first | omega | (simp <;> omega)) _)) (by have := B0.out.size; first | omega | (simp <;> omega)) hb1)
  clear hb1
  obtain ⟨x1, x2, -, -, xl⟩ := Kx.out.two
  obtain ⟨y1, y2, -, -, yl⟩ := Ky.out.two
  go_wp2_with fail
  refine (Cg.out.at_ _ _ (by exact Kept.new (by simp))).mono ?_
  rintro e2 w2 ⟨rfl, hb2⟩
  clear x1 x2 xl
  clear y1 y2 yl
  have Kg : Hid (Kept w2 _ _ _) := Lib.hid ((Kg.out.alloc _).next hb2)
  have Kx : Hid (Kept w2 _ _ _) := Lib.hid ((Kx.out.alloc _).next hb2)
  have Ky : Hid (Kept w2 _ _ _) := Lib.hid ((Ky.out.alloc _).next hb2)
  have B2 : Hid (Below W0.heap.size W0 w2) := Lib.hid (bnext (((B1.out).alloc (by have := B1.out.size; first | omega | (simp <;> omega)) _)) (by have := B1.out.size; first | omega | (simp <;> omega)) hb2)
  clear hb2
  obtain ⟨g1, g2, g3, -, -, -, gl⟩ := Kg.out.three
  obtain ⟨x1, x2, -, -, xl⟩ := Kx.out.two
  go_wp2_with fail
  refine (C1.out _).mono ?_
  rintro e3 w3 ⟨rfl, hb3⟩
  clear g1 g2 g3 gl
  clear x1 x2 xl
  have Kg : Hid (Kept w3 _ _ _) := Lib.hid ((Kg.out.alloc _).next hb3)
  have Kx : Hid (Kept w3 _ _ _) := Lib.hid ((Kx.out.alloc _).next hb3)
  have Km : Hid (Kept w3 _ #[.int .i64 x, .int .i64 y] 25) := Lib.hid ((Kept.new (w := w2) (cs := #[.int .i64 x, .int .i64 y]) (t := 25) rfl).next hb3)
  have B3 : Hid (Below W0.heap.size W0 w3) := Lib.hid (bnext (((B2.out).alloc (by have := B2.out.size; first | omega | (simp <;> omega)) _)) (by have := B2.out.size; first | omega | (simp <;> omega)) hb3)
  clear hb3
  obtain ⟨g1, g2, g3, -, -, -, gl⟩ := Kg.out.three
  obtain ⟨m1, m2, -, -, ml⟩ := Km.out.two
  go_wp2_with fail
  refine (C2.out _).mono ?_
  rintro e4 w4 ⟨rfl, hb4⟩
  clear g1 g2 g3 gl
  clear m1 m2 ml
  have Kg : Hid (Kept w4 _ _ _) := Lib.hid (Kg.out.next hb4)
  have Kx : Hid (Kept w4 _ _ _) := Lib.hid (Kx.out.next hb4)
  have Km : Hid (Kept w4 _ _ _) := Lib.hid (Km.out.next hb4)
  have B4 : Hid (Below W0.heap.size W0 w4) := Lib.hid (bnext (B3.out) (by have := B3.out.size; first | omega | (simp <;> omega)) hb4)
  clear hb4
  obtain ⟨g1, g2, g3, -, -, -, gl⟩ := Kg.out.three
  obtain ⟨x1, x2, -, -, xl⟩ := Kx.out.two
  obtain ⟨m1, m2, -, -, ml⟩ := Km.out.two
  go_wp2
  go_region_held3 (fun w' => Hid (Below W0.heap.size W0 w') ∧ w'.cell? ⟨W0.heap.size, 0, none⟩ = some (.int .i64 w) ∧ w'.cell? ⟨W0.heap.size, 1, none⟩ = some (.int .i64 p) ∧ w'.cell? ⟨W0.heap.size, 2, none⟩ = some (.int .i64 m) ∧ w'.cell? ⟨W0.heap.size + 1, 0, none⟩ = some (.int .i64 a) ∧ w'.cell? ⟨W0.heap.size + 1, 1, none⟩ = some (.int .i64 b) ∧ w'.cell? ⟨w2.heap.size, 0, none⟩ = some (.int .i64 x) ∧ w'.cell? ⟨w2.heap.size, 1, none⟩ = some (.int .i64 y))
    (first | exact keepB7 hb7 (by assumption) | exact ⟨Lib.hid ⟨B4.out.os, B4.out.tape, B4.out.output, B4.out.size, B4.out.block⟩, g1, g2, g3, x1, x2, m1, m2⟩)
    (first | (go_at_call 16; (first | (with_reducible refine (Ca.out _).mono ?_) | (with_reducible refine (Cb.out _).mono ?_)); rintro e w7 ⟨rfl, hb7⟩) | (go_at_call 18; (first | (with_reducible refine (Cx.out _).mono ?_) | (with_reducible refine (Cm.out _).mono ?_)); rintro e w7 ⟨rfl, hb7⟩))
  rename_i HH
  clear g1 g2 g3 x1 x2 m1 m2 gl xl ml
  obtain ⟨B6, g1, g2, g3, x1, x2, -, -⟩ := HH
  go_wp2_with fail
  refine (Cn.out _).mono ?_
  rintro e8 w8 ⟨rfl, hb8⟩
  have B8 : Hid (Below W0.heap.size W0 w8) := Lib.hid (bstep B6.out hb8)
  obtain ⟨t1, t2, t3, t4, t5⟩ := keep5 hb8 ⟨g1, g2, g3, x1, x2⟩
  have tl1 := World.block_lt_of_cell? w8 _ t1
  have tl2 := World.block_lt_of_cell? w8 _ t4
  clear g1 g2 g3 x1 x2 hb8
  go_wp2
  go_ret
  exact ⟨rfl, B8.out.alloc B8.out.size _⟩
set_option maxHeartbeats 4000000 in
theorem within_sure_bad (w p m a b c d n x y u1 u2 v1 v2 s e r f : Int) (W0 : World)
    (Cg : Hid (On2 a b c d x y 0)) (C1 : Hid (∀ W, Calls Try.prog 15 #[.agg #[.int .i64 w, .int .i64 p, .int .i64 m], .agg #[.int .i64 a, .int .i64 b]] W (MeetRes u1 u2 0 W))) (C2 : Hid (∀ W, Calls Try.prog 15 #[.agg #[.int .i64 w, .int .i64 p, .int .i64 m], .agg #[.int .i64 x, .int .i64 y]] W (MeetRes v1 v2 0 W))) (h1 : decide (v1 < u1) = false) (h2 : decide (u2 < v2) = false) (h3 : decide (v2 < v1) = false) (h4 : decide (u2 < u1) = false) (Ca : Hid (∀ W, Calls Try.prog 16 #[.agg #[.int .i64 w, .int .i64 p, .int .i64 m], .int .i64 a] W (Gives (.int .i64 u1) W))) (Cb : Hid (∀ W, Calls Try.prog 16 #[.agg #[.int .i64 w, .int .i64 p, .int .i64 m], .int .i64 b] W (Gives (.int .i64 u2) W))) (Cx : Hid (∀ W, Calls Try.prog 18 #[.agg #[.int .i64 w, .int .i64 p, .int .i64 m], .agg #[.int .i64 a, .int .i64 b]] W (Gives (.bool true) W))) (Cm : Hid (∀ W, Calls Try.prog 18 #[.agg #[.int .i64 w, .int .i64 p, .int .i64 m], .agg #[.int .i64 x, .int .i64 y]] W (Gives (.bool true) W))) (Cn : Hid (∀ W, Calls Try.prog 8 #[.int .i64 w, .int .i64 p, .int .i64 n] W (GridRes w p n 0 W))) (hl : decide (n < m) = false) (Cp : Hid (∀ W, Calls Try.prog 13 #[.agg #[.int .i64 w, .int .i64 p, .int .i64 m], .agg #[.int .i64 a, .int .i64 b]] W (Gives (.tuple #[.int .i64 s, .int .i64 e]) W))) (he : (e != 0) = true) (Cq : Hid (∀ W, Calls Try.prog 13 #[.agg #[.int .i64 w, .int .i64 p, .int .i64 n], .agg #[.int .i64 a, .int .i64 b]] W (Gives (.tuple #[.int .i64 r, .int .i64 f]) W))) :
    Calls Try.prog 6 #[.agg #[.int .i64 w, .int .i64 p, .int .i64 m], .agg #[.int .i64 a, .int .i64 b], .agg #[.int .i64 c, .int .i64 d], .int .i64 n] W0 fun e w' => e = .returned (.bool true) ∧ Below W0.heap.size W0 w' := by
  go_enter Try.func6, Try.ntmps6
  have B0 : Hid (Below W0.heap.size W0 W0) := Lib.hid (Below.refl W0.heap.size W0)
  go_wp2_with fail
  refine (alive_any _).mono ?_
  rintro e1 w1 ⟨rfl, hb1⟩
  have Kg : Hid (Kept w1 _ #[.int .i64 w, .int .i64 p, .int .i64 m] 23) := Lib.hid ((((Kept.new (w := W0) (cs := #[.int .i64 w, .int .i64 p, .int .i64 m]) (t := 23) rfl).alloc (.cells #[.int .i64 a, .int .i64 b] 25)).alloc (.cells #[.int .i64 c, .int .i64 d] 25)).next hb1)
  have Kx : Hid (Kept w1 _ #[.int .i64 a, .int .i64 b] 25) := Lib.hid (((Kept.new (w := (W0.alloc (.cells #[.int .i64 w, .int .i64 p, .int .i64 m] 23))) (g := W0.heap.size + 1) (cs := #[.int .i64 a, .int .i64 b]) (t := 25) (by simp)).alloc (.cells #[.int .i64 c, .int .i64 d] 25)).next hb1)
  have Ky : Hid (Kept w1 _ #[.int .i64 c, .int .i64 d] 25) := Lib.hid ((Kept.new (w := ((W0.alloc (.cells #[.int .i64 w, .int .i64 p, .int .i64 m] 23)).alloc (.cells #[.int .i64 a, .int .i64 b] 25))) (g := W0.heap.size + 2) (cs := #[.int .i64 c, .int .i64 d]) (t := 25) (by simp)).next hb1)
  have B1 : Hid (Below W0.heap.size W0 w1) := Lib.hid (bnext (((((((B0.out).alloc (by have := B0.out.size; first | omega | (simp <;> omega)) _)).alloc (by have := B0.out.size; first | omega | (simp <;> omega)) _)).alloc (by have := B0.out.size; first | omega | (simp <;> omega)) _)) (by have := B0.out.size; first | omega | (simp <;> omega)) hb1)
  clear hb1
  obtain ⟨x1, x2, -, -, xl⟩ := Kx.out.two
  obtain ⟨y1, y2, -, -, yl⟩ := Ky.out.two
  go_wp2_with fail
  refine (Cg.out.at_ _ _ (by exact Kept.new (by simp))).mono ?_
  rintro e2 w2 ⟨rfl, hb2⟩
  clear x1 x2 xl
  clear y1 y2 yl
  have Kg : Hid (Kept w2 _ _ _) := Lib.hid ((Kg.out.alloc _).next hb2)
  have Kx : Hid (Kept w2 _ _ _) := Lib.hid ((Kx.out.alloc _).next hb2)
  have Ky : Hid (Kept w2 _ _ _) := Lib.hid ((Ky.out.alloc _).next hb2)
  have B2 : Hid (Below W0.heap.size W0 w2) := Lib.hid (bnext (((B1.out).alloc (by have := B1.out.size; first | omega | (simp <;> omega)) _)) (by have := B1.out.size; first | omega | (simp <;> omega)) hb2)
  clear hb2
  obtain ⟨g1, g2, g3, -, -, -, gl⟩ := Kg.out.three
  obtain ⟨x1, x2, -, -, xl⟩ := Kx.out.two
  go_wp2_with fail
  refine (C1.out _).mono ?_
  rintro e3 w3 ⟨rfl, hb3⟩
  clear g1 g2 g3 gl
  clear x1 x2 xl
  have Kg : Hid (Kept w3 _ _ _) := Lib.hid ((Kg.out.alloc _).next hb3)
  have Kx : Hid (Kept w3 _ _ _) := Lib.hid ((Kx.out.alloc _).next hb3)
  have Km : Hid (Kept w3 _ #[.int .i64 x, .int .i64 y] 25) := Lib.hid ((Kept.new (w := w2) (cs := #[.int .i64 x, .int .i64 y]) (t := 25) rfl).next hb3)
  have B3 : Hid (Below W0.heap.size W0 w3) := Lib.hid (bnext (((B2.out).alloc (by have := B2.out.size; first | omega | (simp <;> omega)) _)) (by have := B2.out.size; first | omega | (simp <;> omega)) hb3)
  clear hb3
  obtain ⟨g1, g2, g3, -, -, -, gl⟩ := Kg.out.three
  obtain ⟨m1, m2, -, -, ml⟩ := Km.out.two
  go_wp2_with fail
  refine (C2.out _).mono ?_
  rintro e4 w4 ⟨rfl, hb4⟩
  clear g1 g2 g3 gl
  clear m1 m2 ml
  have Kg : Hid (Kept w4 _ _ _) := Lib.hid (Kg.out.next hb4)
  have Kx : Hid (Kept w4 _ _ _) := Lib.hid (Kx.out.next hb4)
  have Km : Hid (Kept w4 _ _ _) := Lib.hid (Km.out.next hb4)
  have B4 : Hid (Below W0.heap.size W0 w4) := Lib.hid (bnext (B3.out) (by have := B3.out.size; first | omega | (simp <;> omega)) hb4)
  clear hb4
  obtain ⟨g1, g2, g3, -, -, -, gl⟩ := Kg.out.three
  obtain ⟨x1, x2, -, -, xl⟩ := Kx.out.two
  obtain ⟨m1, m2, -, -, ml⟩ := Km.out.two
  go_wp2
  go_region_held3 (fun w' => Hid (Below W0.heap.size W0 w') ∧ w'.cell? ⟨W0.heap.size, 0, none⟩ = some (.int .i64 w) ∧ w'.cell? ⟨W0.heap.size, 1, none⟩ = some (.int .i64 p) ∧ w'.cell? ⟨W0.heap.size, 2, none⟩ = some (.int .i64 m) ∧ w'.cell? ⟨W0.heap.size + 1, 0, none⟩ = some (.int .i64 a) ∧ w'.cell? ⟨W0.heap.size + 1, 1, none⟩ = some (.int .i64 b) ∧ w'.cell? ⟨w2.heap.size, 0, none⟩ = some (.int .i64 x) ∧ w'.cell? ⟨w2.heap.size, 1, none⟩ = some (.int .i64 y))
    (first | exact keepB7 hb7 (by assumption) | exact ⟨Lib.hid ⟨B4.out.os, B4.out.tape, B4.out.output, B4.out.size, B4.out.block⟩, g1, g2, g3, x1, x2, m1, m2⟩)
    (first | (go_at_call 16; (first | (with_reducible refine (Ca.out _).mono ?_) | (with_reducible refine (Cb.out _).mono ?_)); rintro e w7 ⟨rfl, hb7⟩) | (go_at_call 18; (first | (with_reducible refine (Cx.out _).mono ?_) | (with_reducible refine (Cm.out _).mono ?_)); rintro e w7 ⟨rfl, hb7⟩))
  rename_i HH
  clear g1 g2 g3 x1 x2 m1 m2 gl xl ml
  obtain ⟨B6, g1, g2, g3, x1, x2, -, -⟩ := HH
  go_wp2_with fail
  refine (Cn.out _).mono ?_
  rintro e8 w8 ⟨rfl, hb8⟩
  have B8 : Hid (Below W0.heap.size W0 w8) := Lib.hid (bstep B6.out hb8)
  obtain ⟨t1, t2, t3, t4, t5⟩ := keep5 hb8 ⟨g1, g2, g3, x1, x2⟩
  have tl1 := World.block_lt_of_cell? w8 _ t1
  have tl2 := World.block_lt_of_cell? w8 _ t4
  clear g1 g2 g3 x1 x2 hb8
  go_wp2_with fail
  refine (Cp.out _).mono ?_
  rintro e9 w9 ⟨rfl, hb9⟩
  have B9 : Hid (Below W0.heap.size W0 w9) := Lib.hid (bstep (B8.out.alloc B8.out.size _) hb9)
  have KN := (Kept.new (w := w8) (cs := #[.int .i64 w, .int .i64 p, .int .i64 n]) (t := 23) rfl).next hb9
  obtain ⟨n1, n2, n3, -, -, -, nl⟩ := KN.three
  have y4 := keep1 hb9 ((keep1 (one_alloc w8 _) t4))
  have y5 := keep1 hb9 ((keep1 (one_alloc w8 _) t5))
  clear t1 t2 t3 t4 t5 hb9 KN
  go_wp2_with fail
  refine (Cq.out _).mono ?_
  rintro e10 w10 ⟨rfl, hb10⟩
  have B10 : Hid (Below W0.heap.size W0 w10) := Lib.hid (bstep B9.out hb10)
  clear hb10 n1 n2 n3 y4 y5
  go_wp2
  go_ret
  exact ⟨rfl, B10.out⟩
set_option maxHeartbeats 4000000 in
theorem within_sure_good (w p m a b c d n x y u1 u2 v1 v2 s : Int) (W0 : World)
    (Cg : Hid (On2 a b c d x y 0)) (C1 : Hid (∀ W, Calls Try.prog 15 #[.agg #[.int .i64 w, .int .i64 p, .int .i64 m], .agg #[.int .i64 a, .int .i64 b]] W (MeetRes u1 u2 0 W))) (C2 : Hid (∀ W, Calls Try.prog 15 #[.agg #[.int .i64 w, .int .i64 p, .int .i64 m], .agg #[.int .i64 x, .int .i64 y]] W (MeetRes v1 v2 0 W))) (h1 : decide (v1 < u1) = false) (h2 : decide (u2 < v2) = false) (h3 : decide (v2 < v1) = false) (h4 : decide (u2 < u1) = false) (Ca : Hid (∀ W, Calls Try.prog 16 #[.agg #[.int .i64 w, .int .i64 p, .int .i64 m], .int .i64 a] W (Gives (.int .i64 u1) W))) (Cb : Hid (∀ W, Calls Try.prog 16 #[.agg #[.int .i64 w, .int .i64 p, .int .i64 m], .int .i64 b] W (Gives (.int .i64 u2) W))) (Cx : Hid (∀ W, Calls Try.prog 18 #[.agg #[.int .i64 w, .int .i64 p, .int .i64 m], .agg #[.int .i64 a, .int .i64 b]] W (Gives (.bool true) W))) (Cm : Hid (∀ W, Calls Try.prog 18 #[.agg #[.int .i64 w, .int .i64 p, .int .i64 m], .agg #[.int .i64 x, .int .i64 y]] W (Gives (.bool true) W))) (Cn : Hid (∀ W, Calls Try.prog 8 #[.int .i64 w, .int .i64 p, .int .i64 n] W (GridRes w p n 0 W))) (hl : decide (n < m) = false) (Cp : Hid (∀ W, Calls Try.prog 13 #[.agg #[.int .i64 w, .int .i64 p, .int .i64 m], .agg #[.int .i64 a, .int .i64 b]] W (Gives (.tuple #[.int .i64 s, .int .i64 0]) W))) (Cq : Hid (∀ W, Calls Try.prog 13 #[.agg #[.int .i64 w, .int .i64 p, .int .i64 n], .agg #[.int .i64 a, .int .i64 b]] W (Gives (.tuple #[.int .i64 s, .int .i64 0]) W))) :
    Calls Try.prog 6 #[.agg #[.int .i64 w, .int .i64 p, .int .i64 m], .agg #[.int .i64 a, .int .i64 b], .agg #[.int .i64 c, .int .i64 d], .int .i64 n] W0 fun e w' => e = .returned (.bool true) ∧ Below W0.heap.size W0 w' := by
  go_enter Try.func6, Try.ntmps6
  have B0 : Hid (Below W0.heap.size W0 W0) := Lib.hid (Below.refl W0.heap.size W0)
  go_wp2_with fail
  refine (alive_any _).mono ?_
  rintro e1 w1 ⟨rfl, hb1⟩
  have Kg : Hid (Kept w1 _ #[.int .i64 w, .int .i64 p, .int .i64 m] 23) := Lib.hid ((((Kept.new (w := W0) (cs := #[.int .i64 w, .int .i64 p, .int .i64 m]) (t := 23) rfl).alloc (.cells #[.int .i64 a, .int .i64 b] 25)).alloc (.cells #[.int .i64 c, .int .i64 d] 25)).next hb1)
  have Kx : Hid (Kept w1 _ #[.int .i64 a, .int .i64 b] 25) := Lib.hid (((Kept.new (w := (W0.alloc (.cells #[.int .i64 w, .int .i64 p, .int .i64 m] 23))) (g := W0.heap.size + 1) (cs := #[.int .i64 a, .int .i64 b]) (t := 25) (by simp)).alloc (.cells #[.int .i64 c, .int .i64 d] 25)).next hb1)
  have Ky : Hid (Kept w1 _ #[.int .i64 c, .int .i64 d] 25) := Lib.hid ((Kept.new (w := ((W0.alloc (.cells #[.int .i64 w, .int .i64 p, .int .i64 m] 23)).alloc (.cells #[.int .i64 a, .int .i64 b] 25))) (g := W0.heap.size + 2) (cs := #[.int .i64 c, .int .i64 d]) (t := 25) (by simp)).next hb1)
  have B1 : Hid (Below W0.heap.size W0 w1) := Lib.hid (bnext (((((((B0.out).alloc (by have := B0.out.size; first | omega | (simp <;> omega)) _)).alloc (by have := B0.out.size; first | omega | (simp <;> omega)) _)).alloc (by have := B0.out.size; first | omega | (simp <;> omega)) _)) (by have := B0.out.size; first | omega | (simp <;> omega)) hb1)
  clear hb1
  obtain ⟨x1, x2, -, -, xl⟩ := Kx.out.two
  obtain ⟨y1, y2, -, -, yl⟩ := Ky.out.two
  go_wp2_with fail
  refine (Cg.out.at_ _ _ (by exact Kept.new (by simp))).mono ?_
  rintro e2 w2 ⟨rfl, hb2⟩
  clear x1 x2 xl
  clear y1 y2 yl
  have Kg : Hid (Kept w2 _ _ _) := Lib.hid ((Kg.out.alloc _).next hb2)
  have Kx : Hid (Kept w2 _ _ _) := Lib.hid ((Kx.out.alloc _).next hb2)
  have Ky : Hid (Kept w2 _ _ _) := Lib.hid ((Ky.out.alloc _).next hb2)
  have B2 : Hid (Below W0.heap.size W0 w2) := Lib.hid (bnext (((B1.out).alloc (by have := B1.out.size; first | omega | (simp <;> omega)) _)) (by have := B1.out.size; first | omega | (simp <;> omega)) hb2)
  clear hb2
  obtain ⟨g1, g2, g3, -, -, -, gl⟩ := Kg.out.three
  obtain ⟨x1, x2, -, -, xl⟩ := Kx.out.two
  go_wp2_with fail
  refine (C1.out _).mono ?_
  rintro e3 w3 ⟨rfl, hb3⟩
  clear g1 g2 g3 gl
  clear x1 x2 xl
  have Kg : Hid (Kept w3 _ _ _) := Lib.hid ((Kg.out.alloc _).next hb3)
  have Kx : Hid (Kept w3 _ _ _) := Lib.hid ((Kx.out.alloc _).next hb3)
  have Km : Hid (Kept w3 _ #[.int .i64 x, .int .i64 y] 25) := Lib.hid ((Kept.new (w := w2) (cs := #[.int .i64 x, .int .i64 y]) (t := 25) rfl).next hb3)
  have B3 : Hid (Below W0.heap.size W0 w3) := Lib.hid (bnext (((B2.out).alloc (by have := B2.out.size; first | omega | (simp <;> omega)) _)) (by have := B2.out.size; first | omega | (simp <;> omega)) hb3)
  clear hb3
  obtain ⟨g1, g2, g3, -, -, -, gl⟩ := Kg.out.three
  obtain ⟨m1, m2, -, -, ml⟩ := Km.out.two
  go_wp2_with fail
  refine (C2.out _).mono ?_
  rintro e4 w4 ⟨rfl, hb4⟩
  clear g1 g2 g3 gl
  clear m1 m2 ml
  have Kg : Hid (Kept w4 _ _ _) := Lib.hid (Kg.out.next hb4)
  have Kx : Hid (Kept w4 _ _ _) := Lib.hid (Kx.out.next hb4)
  have Km : Hid (Kept w4 _ _ _) := Lib.hid (Km.out.next hb4)
  have B4 : Hid (Below W0.heap.size W0 w4) := Lib.hid (bnext (B3.out) (by have := B3.out.size; first | omega | (simp <;> omega)) hb4)
  clear hb4
  obtain ⟨g1, g2, g3, -, -, -, gl⟩ := Kg.out.three
  obtain ⟨x1, x2, -, -, xl⟩ := Kx.out.two
  obtain ⟨m1, m2, -, -, ml⟩ := Km.out.two
  go_wp2
  go_region_held3 (fun w' => Hid (Below W0.heap.size W0 w') ∧ w'.cell? ⟨W0.heap.size, 0, none⟩ = some (.int .i64 w) ∧ w'.cell? ⟨W0.heap.size, 1, none⟩ = some (.int .i64 p) ∧ w'.cell? ⟨W0.heap.size, 2, none⟩ = some (.int .i64 m) ∧ w'.cell? ⟨W0.heap.size + 1, 0, none⟩ = some (.int .i64 a) ∧ w'.cell? ⟨W0.heap.size + 1, 1, none⟩ = some (.int .i64 b) ∧ w'.cell? ⟨w2.heap.size, 0, none⟩ = some (.int .i64 x) ∧ w'.cell? ⟨w2.heap.size, 1, none⟩ = some (.int .i64 y))
    (first | exact keepB7 hb7 (by assumption) | exact ⟨Lib.hid ⟨B4.out.os, B4.out.tape, B4.out.output, B4.out.size, B4.out.block⟩, g1, g2, g3, x1, x2, m1, m2⟩)
    (first | (go_at_call 16; (first | (with_reducible refine (Ca.out _).mono ?_) | (with_reducible refine (Cb.out _).mono ?_)); rintro e w7 ⟨rfl, hb7⟩) | (go_at_call 18; (first | (with_reducible refine (Cx.out _).mono ?_) | (with_reducible refine (Cm.out _).mono ?_)); rintro e w7 ⟨rfl, hb7⟩))
  rename_i HH
  clear g1 g2 g3 x1 x2 m1 m2 gl xl ml
  obtain ⟨B6, g1, g2, g3, x1, x2, -, -⟩ := HH
  go_wp2_with fail
  refine (Cn.out _).mono ?_
  rintro e8 w8 ⟨rfl, hb8⟩
  have B8 : Hid (Below W0.heap.size W0 w8) := Lib.hid (bstep B6.out hb8)
  obtain ⟨t1, t2, t3, t4, t5⟩ := keep5 hb8 ⟨g1, g2, g3, x1, x2⟩
  have tl1 := World.block_lt_of_cell? w8 _ t1
  have tl2 := World.block_lt_of_cell? w8 _ t4
  clear g1 g2 g3 x1 x2 hb8
  go_wp2_with fail
  refine (Cp.out _).mono ?_
  rintro e9 w9 ⟨rfl, hb9⟩
  have B9 : Hid (Below W0.heap.size W0 w9) := Lib.hid (bstep (B8.out.alloc B8.out.size _) hb9)
  have KN := (Kept.new (w := w8) (cs := #[.int .i64 w, .int .i64 p, .int .i64 n]) (t := 23) rfl).next hb9
  obtain ⟨n1, n2, n3, -, -, -, nl⟩ := KN.three
  have y4 := keep1 hb9 ((keep1 (one_alloc w8 _) t4))
  have y5 := keep1 hb9 ((keep1 (one_alloc w8 _) t5))
  clear t1 t2 t3 t4 t5 hb9 KN
  go_wp2_with fail
  refine (Cq.out _).mono ?_
  rintro e10 w10 ⟨rfl, hb10⟩
  have B10 : Hid (Below W0.heap.size W0 w10) := Lib.hid (bstep B9.out hb10)
  clear hb10 n1 n2 n3 y4 y5
  go_wp2
  go_ret
  exact ⟨rfl, B10.out⟩
set_option maxHeartbeats 4000000 in
theorem within_unsure_none (w p m a b c d n x y u1 u2 v1 v2 : Int) (W0 : World)
    (Cg : Hid (On2 a b c d x y 0)) (C1 : Hid (∀ W, Calls Try.prog 15 #[.agg #[.int .i64 w, .int .i64 p, .int .i64 m], .agg #[.int .i64 a, .int .i64 b]] W (MeetRes u1 u2 0 W))) (C2 : Hid (∀ W, Calls Try.prog 15 #[.agg #[.int .i64 w, .int .i64 p, .int .i64 m], .agg #[.int .i64 x, .int .i64 y]] W (MeetRes v1 v2 0 W))) (h1 : decide (v1 < u1) = false) (h2 : decide (u2 < v2) = false) (h3 : decide (v2 < v1) = false) (h4 : decide (u2 < u1) = false) (Ca : Hid (∀ W, Calls Try.prog 16 #[.agg #[.int .i64 w, .int .i64 p, .int .i64 m], .int .i64 a] W (Gives (.int .i64 u1) W))) (Cb : Hid (∀ W, Calls Try.prog 16 #[.agg #[.int .i64 w, .int .i64 p, .int .i64 m], .int .i64 b] W (Gives (.int .i64 u2) W))) (Cx : Hid (∀ W, Calls Try.prog 18 #[.agg #[.int .i64 w, .int .i64 p, .int .i64 m], .agg #[.int .i64 a, .int .i64 b]] W (Gives (.bool false) W))) (Cn : Hid (∀ W, Calls Try.prog 8 #[.int .i64 w, .int .i64 p, .int .i64 n] W (GridRes 0 0 0 11 W))) :
    Calls Try.prog 6 #[.agg #[.int .i64 w, .int .i64 p, .int .i64 m], .agg #[.int .i64 a, .int .i64 b], .agg #[.int .i64 c, .int .i64 d], .int .i64 n] W0 fun e w' => e = .returned (.bool true) ∧ Below W0.heap.size W0 w' := by
  go_enter Try.func6, Try.ntmps6
  have B0 : Hid (Below W0.heap.size W0 W0) := Lib.hid (Below.refl W0.heap.size W0)
  go_wp2_with fail
  refine (alive_any _).mono ?_
  rintro e1 w1 ⟨rfl, hb1⟩
  have Kg : Hid (Kept w1 _ #[.int .i64 w, .int .i64 p, .int .i64 m] 23) := Lib.hid ((((Kept.new (w := W0) (cs := #[.int .i64 w, .int .i64 p, .int .i64 m]) (t := 23) rfl).alloc (.cells #[.int .i64 a, .int .i64 b] 25)).alloc (.cells #[.int .i64 c, .int .i64 d] 25)).next hb1)
  have Kx : Hid (Kept w1 _ #[.int .i64 a, .int .i64 b] 25) := Lib.hid (((Kept.new (w := (W0.alloc (.cells #[.int .i64 w, .int .i64 p, .int .i64 m] 23))) (g := W0.heap.size + 1) (cs := #[.int .i64 a, .int .i64 b]) (t := 25) (by simp)).alloc (.cells #[.int .i64 c, .int .i64 d] 25)).next hb1)
  have Ky : Hid (Kept w1 _ #[.int .i64 c, .int .i64 d] 25) := Lib.hid ((Kept.new (w := ((W0.alloc (.cells #[.int .i64 w, .int .i64 p, .int .i64 m] 23)).alloc (.cells #[.int .i64 a, .int .i64 b] 25))) (g := W0.heap.size + 2) (cs := #[.int .i64 c, .int .i64 d]) (t := 25) (by simp)).next hb1)
  have B1 : Hid (Below W0.heap.size W0 w1) := Lib.hid (bnext (((((((B0.out).alloc (by have := B0.out.size; first | omega | (simp <;> omega)) _)).alloc (by have := B0.out.size; first | omega | (simp <;> omega)) _)).alloc (by have := B0.out.size; first | omega | (simp <;> omega)) _)) (by have := B0.out.size; first | omega | (simp <;> omega)) hb1)
  clear hb1
  obtain ⟨x1, x2, -, -, xl⟩ := Kx.out.two
  obtain ⟨y1, y2, -, -, yl⟩ := Ky.out.two
  go_wp2_with fail
  refine (Cg.out.at_ _ _ (by exact Kept.new (by simp))).mono ?_
  rintro e2 w2 ⟨rfl, hb2⟩
  clear x1 x2 xl
  clear y1 y2 yl
  have Kg : Hid (Kept w2 _ _ _) := Lib.hid ((Kg.out.alloc _).next hb2)
  have Kx : Hid (Kept w2 _ _ _) := Lib.hid ((Kx.out.alloc _).next hb2)
  have Ky : Hid (Kept w2 _ _ _) := Lib.hid ((Ky.out.alloc _).next hb2)
  have B2 : Hid (Below W0.heap.size W0 w2) := Lib.hid (bnext (((B1.out).alloc (by have := B1.out.size; first | omega | (simp <;> omega)) _)) (by have := B1.out.size; first | omega | (simp <;> omega)) hb2)
  clear hb2
  obtain ⟨g1, g2, g3, -, -, -, gl⟩ := Kg.out.three
  obtain ⟨x1, x2, -, -, xl⟩ := Kx.out.two
  go_wp2_with fail
  refine (C1.out _).mono ?_
  rintro e3 w3 ⟨rfl, hb3⟩
  clear g1 g2 g3 gl
  clear x1 x2 xl
  have Kg : Hid (Kept w3 _ _ _) := Lib.hid ((Kg.out.alloc _).next hb3)
  have Kx : Hid (Kept w3 _ _ _) := Lib.hid ((Kx.out.alloc _).next hb3)
  have Km : Hid (Kept w3 _ #[.int .i64 x, .int .i64 y] 25) := Lib.hid ((Kept.new (w := w2) (cs := #[.int .i64 x, .int .i64 y]) (t := 25) rfl).next hb3)
  have B3 : Hid (Below W0.heap.size W0 w3) := Lib.hid (bnext (((B2.out).alloc (by have := B2.out.size; first | omega | (simp <;> omega)) _)) (by have := B2.out.size; first | omega | (simp <;> omega)) hb3)
  clear hb3
  obtain ⟨g1, g2, g3, -, -, -, gl⟩ := Kg.out.three
  obtain ⟨m1, m2, -, -, ml⟩ := Km.out.two
  go_wp2_with fail
  refine (C2.out _).mono ?_
  rintro e4 w4 ⟨rfl, hb4⟩
  clear g1 g2 g3 gl
  clear m1 m2 ml
  have Kg : Hid (Kept w4 _ _ _) := Lib.hid (Kg.out.next hb4)
  have Kx : Hid (Kept w4 _ _ _) := Lib.hid (Kx.out.next hb4)
  have Km : Hid (Kept w4 _ _ _) := Lib.hid (Km.out.next hb4)
  have B4 : Hid (Below W0.heap.size W0 w4) := Lib.hid (bnext (B3.out) (by have := B3.out.size; first | omega | (simp <;> omega)) hb4)
  clear hb4
  obtain ⟨g1, g2, g3, -, -, -, gl⟩ := Kg.out.three
  obtain ⟨x1, x2, -, -, xl⟩ := Kx.out.two
  obtain ⟨m1, m2, -, -, ml⟩ := Km.out.two
  go_wp2
  refine wp_region_held_drew (S := (fun w' => Hid (Below W0.heap.size W0 w') ∧ w'.cell? ⟨W0.heap.size, 0, none⟩ = some (.int .i64 w) ∧ w'.cell? ⟨W0.heap.size, 1, none⟩ = some (.int .i64 p) ∧ w'.cell? ⟨W0.heap.size, 2, none⟩ = some (.int .i64 m) ∧ w'.cell? ⟨W0.heap.size + 1, 0, none⟩ = some (.int .i64 a) ∧ w'.cell? ⟨W0.heap.size + 1, 1, none⟩ = some (.int .i64 b) ∧ w'.cell? ⟨w2.heap.size, 0, none⟩ = some (.int .i64 x) ∧ w'.cell? ⟨w2.heap.size, 1, none⟩ = some (.int .i64 y))) (by kernel_rfl) ⟨Lib.hid ⟨B4.out.os, B4.out.tape, B4.out.output, B4.out.size, B4.out.block⟩, g1, g2, g3, x1, x2, m1, m2⟩ (fun hHeld => ?_)
  refine wpAnyH_take (i := 0) (oi := ({ dst := some 55, op := Op.move (Operand.tmp 14), type := 2, pos := "law.go:114", after := #[], guard := none } : Oper)) (v := ?_) rfl (by kernel_rfl) (by kernel_rfl) (by kernel_rfl) (fun _ _ _ h => h) (Or.inl ⟨by rfl, ?_⟩) (by assumption) ?_
  rotate_left
  · ((intro w hSw; (try dsimp only at hSw); go_simp); (try with_reducible rfl))
  try simp only [Act.put, List.setIfInBounds_toArray, List.set_cons_zero, List.set_cons_succ]
  refine wpAnyH_take (i := 1) (oi := ({ dst := some 56, op := Op.move (Operand.tmp 11), type := 2, pos := "law.go:114", after := #[], guard := none } : Oper)) (v := ?_) rfl (by kernel_rfl) (by kernel_rfl) (by kernel_rfl) (fun _ _ _ h => h) (Or.inl ⟨by rfl, ?_⟩) (by assumption) ?_
  rotate_left
  · ((intro w hSw; (try dsimp only at hSw); go_simp); (try with_reducible rfl))
  try simp only [Act.put, List.setIfInBounds_toArray, List.set_cons_zero, List.set_cons_succ]
  refine wpAnyH_take (i := 2) (oi := ({ dst := some 57, op := Op.binOp BinOp.lss 2 (Operand.tmp 55) (Operand.tmp 56) 2, type := 4, pos := "law.go:114", after := #[{ on := 0, ground := Ground.data }, { on := 1, ground := Ground.data }], guard := none } : Oper)) (v := ?_) rfl (by kernel_rfl) (by kernel_rfl) (by kernel_rfl) (fun _ _ _ h => h) (Or.inl ⟨by rfl, ?_⟩) (by assumption) ?_
  rotate_left
  · ((intro w hSw; (try dsimp only at hSw); go_simp); (try with_reducible rfl))
  try simp only [Act.put, List.setIfInBounds_toArray, List.set_cons_zero, List.set_cons_succ]
  refine wpAnyH_take (i := 3) (oi := ({ dst := some 58, op := Op.move (Operand.tmp 57), type := 4, pos := "law.go:114", after := #[{ on := 2, ground := Ground.data }], guard := none } : Oper)) (v := ?_) rfl (by kernel_rfl) (by kernel_rfl) (by kernel_rfl) (fun _ _ _ h => h) (Or.inl ⟨by rfl, ?_⟩) (by assumption) ?_
  rotate_left
  · ((intro w hSw; (try dsimp only at hSw); go_simp); (try with_reducible rfl))
  try simp only [Act.put, List.setIfInBounds_toArray, List.set_cons_zero, List.set_cons_succ]
  refine wpAnyH_take (i := 4) (oi := ({ dst := some 59, op := Op.move (Operand.tmp 15), type := 2, pos := "law.go:114", after := #[{ on := 3, ground := Ground.guard }], guard := some (3, false) } : Oper)) (v := ?_) rfl (by kernel_rfl) (by kernel_rfl) (by kernel_rfl) (fun _ _ _ h => h) (Or.inl ⟨by rfl, ?_⟩) (by assumption) ?_
  rotate_left
  · ((intro w hSw; (try dsimp only at hSw); go_simp); (try with_reducible rfl))
  try simp only [Act.put, List.setIfInBounds_toArray, List.set_cons_zero, List.set_cons_succ]
  refine wpAnyH_take (i := 5) (oi := ({ dst := some 60, op := Op.move (Operand.tmp 12), type := 2, pos := "law.go:114", after := #[{ on := 3, ground := Ground.guard }], guard := some (3, false) } : Oper)) (v := ?_) rfl (by kernel_rfl) (by kernel_rfl) (by kernel_rfl) (fun _ _ _ h => h) (Or.inl ⟨by rfl, ?_⟩) (by assumption) ?_
  rotate_left
  · ((intro w hSw; (try dsimp only at hSw); go_simp); (try with_reducible rfl))
  try simp only [Act.put, List.setIfInBounds_toArray, List.set_cons_zero, List.set_cons_succ]
  refine wpAnyH_take (i := 6) (oi := ({ dst := some 61, op := Op.binOp BinOp.gtr 2 (Operand.tmp 59) (Operand.tmp 60) 2, type := 4, pos := "law.go:114", after := #[{ on := 4, ground := Ground.data }, { on := 5, ground := Ground.data }, { on := 3, ground := Ground.guard }], guard := some (3, false) } : Oper)) (v := ?_) rfl (by kernel_rfl) (by kernel_rfl) (by kernel_rfl) (fun _ _ _ h => h) (Or.inl ⟨by rfl, ?_⟩) (by assumption) ?_
  rotate_left
  · ((intro w hSw; (try dsimp only at hSw); go_simp); (try with_reducible rfl))
  try simp only [Act.put, List.setIfInBounds_toArray, List.set_cons_zero, List.set_cons_succ]
  refine wpAnyH_take (i := 7) (oi := ({ dst := some 62, op := Op.pick (Operand.tmp 58) (Operand.const (Value.bool true)) (Operand.tmp 61), type := 4, pos := "law.go:114", after := #[{ on := 3, ground := Ground.data }, { on := 6, ground := Ground.data }], guard := none } : Oper)) (v := ?_) rfl (by kernel_rfl) (by kernel_rfl) (by kernel_rfl) (fun _ _ _ h => h) (Or.inl ⟨by rfl, ?_⟩) (by assumption) ?_
  rotate_left
  · ((intro w hSw; (try dsimp only at hSw); go_simp); (try with_reducible rfl))
  try simp only [Act.put, List.setIfInBounds_toArray, List.set_cons_zero, List.set_cons_succ]
  refine wpAnyH_take (i := 8) (oi := ({ dst := some 63, op := Op.move (Operand.tmp 62), type := 4, pos := "law.go:114", after := #[{ on := 7, ground := Ground.data }, { on := 3, ground := Ground.chain }], guard := none } : Oper)) (v := ?_) rfl (by kernel_rfl) (by kernel_rfl) (by kernel_rfl) (fun _ _ _ h => h) (Or.inl ⟨by rfl, ?_⟩) (by assumption) ?_
  rotate_left
  · ((intro w hSw; (try dsimp only at hSw); go_simp); (try with_reducible rfl))
  try simp only [Act.put, List.setIfInBounds_toArray, List.set_cons_zero, List.set_cons_succ]
  refine wpAnyH_take (i := 9) (oi := ({ dst := some 64, op := Op.move (Operand.tmp 14), type := 2, pos := "law.go:114", after := #[{ on := 8, ground := Ground.guard }], guard := some (8, false) } : Oper)) (v := ?_) rfl (by kernel_rfl) (by kernel_rfl) (by kernel_rfl) (fun _ _ _ h => h) (Or.inl ⟨by rfl, ?_⟩) (by assumption) ?_
  rotate_left
  · ((intro w hSw; (try dsimp only at hSw); go_simp); (try with_reducible rfl))
  try simp only [Act.put, List.setIfInBounds_toArray, List.set_cons_zero, List.set_cons_succ]
  refine wpAnyH_take (i := 10) (oi := ({ dst := some 65, op := Op.move (Operand.tmp 15), type := 2, pos := "law.go:114", after := #[{ on := 8, ground := Ground.guard }], guard := some (8, false) } : Oper)) (v := ?_) rfl (by kernel_rfl) (by kernel_rfl) (by kernel_rfl) (fun _ _ _ h => h) (Or.inl ⟨by rfl, ?_⟩) (by assumption) ?_
  rotate_left
  · ((intro w hSw; (try dsimp only at hSw); go_simp); (try with_reducible rfl))
  try simp only [Act.put, List.setIfInBounds_toArray, List.set_cons_zero, List.set_cons_succ]
  refine wpAnyH_take (i := 11) (oi := ({ dst := some 66, op := Op.binOp BinOp.gtr 2 (Operand.tmp 64) (Operand.tmp 65) 2, type := 4, pos := "law.go:114", after := #[{ on := 9, ground := Ground.data }, { on := 10, ground := Ground.data }, { on := 8, ground := Ground.guard }], guard := some (8, false) } : Oper)) (v := ?_) rfl (by kernel_rfl) (by kernel_rfl) (by kernel_rfl) (fun _ _ _ h => h) (Or.inl ⟨by rfl, ?_⟩) (by assumption) ?_
  rotate_left
  · ((intro w hSw; (try dsimp only at hSw); go_simp); (try with_reducible rfl))
  try simp only [Act.put, List.setIfInBounds_toArray, List.set_cons_zero, List.set_cons_succ]
  refine wpAnyH_take (i := 12) (oi := ({ dst := some 67, op := Op.pick (Operand.tmp 63) (Operand.const (Value.bool true)) (Operand.tmp 66), type := 4, pos := "law.go:114", after := #[{ on := 8, ground := Ground.data }, { on := 11, ground := Ground.data }], guard := none } : Oper)) (v := ?_) rfl (by kernel_rfl) (by kernel_rfl) (by kernel_rfl) (fun _ _ _ h => h) (Or.inl ⟨by rfl, ?_⟩) (by assumption) ?_
  rotate_left
  · ((intro w hSw; (try dsimp only at hSw); go_simp); (try with_reducible rfl))
  try simp only [Act.put, List.setIfInBounds_toArray, List.set_cons_zero, List.set_cons_succ]
  refine wpAnyH_take (i := 13) (oi := ({ dst := some 68, op := Op.move (Operand.tmp 67), type := 4, pos := "law.go:114", after := #[{ on := 12, ground := Ground.data }, { on := 8, ground := Ground.chain }], guard := none } : Oper)) (v := ?_) rfl (by kernel_rfl) (by kernel_rfl) (by kernel_rfl) (fun _ _ _ h => h) (Or.inl ⟨by rfl, ?_⟩) (by assumption) ?_
  rotate_left
  · ((intro w hSw; (try dsimp only at hSw); go_simp); (try with_reducible rfl))
  try simp only [Act.put, List.setIfInBounds_toArray, List.set_cons_zero, List.set_cons_succ]
  refine wpAnyH_take (i := 14) (oi := ({ dst := some 69, op := Op.load 23 (Operand.tmp 4), type := 23, pos := "law.go:114", after := #[{ on := 13, ground := Ground.guard }], guard := some (13, false) } : Oper)) (v := ?_) rfl (by kernel_rfl) (by kernel_rfl) (by kernel_rfl) (fun _ _ _ h => h) (Or.inl ⟨by rfl, ?_⟩) (by assumption) ?_
  rotate_left
  · ((intro w hSw; (try dsimp only at hSw); go_simp); (try with_reducible rfl))
  try simp only [Act.put, List.setIfInBounds_toArray, List.set_cons_zero, List.set_cons_succ]
  refine wpAnyH_take (i := 15) (oi := ({ dst := some 70, op := Op.fieldAddr 25 (Operand.tmp 5) 0, type := 0, pos := "law.go:114", after := #[{ on := 13, ground := Ground.guard }], guard := some (13, false) } : Oper)) (v := ?_) rfl (by kernel_rfl) (by kernel_rfl) (by kernel_rfl) (fun _ _ _ h => h) (Or.inl ⟨by rfl, ?_⟩) (by assumption) ?_
  rotate_left
  · ((intro w hSw; (try dsimp only at hSw); go_simp); (try with_reducible rfl))
  try simp only [Act.put, List.setIfInBounds_toArray, List.set_cons_zero, List.set_cons_succ]
  refine wpAnyH_take (i := 16) (oi := ({ dst := some 71, op := Op.load 2 (Operand.tmp 70), type := 2, pos := "law.go:114", after := #[{ on := 15, ground := Ground.data }, { on := 13, ground := Ground.guard }], guard := some (13, false) } : Oper)) (v := ?_) rfl (by kernel_rfl) (by kernel_rfl) (by kernel_rfl) (fun _ _ _ h => h) (Or.inl ⟨by rfl, ?_⟩) (by assumption) ?_
  rotate_left
  · ((intro w hSw; (try dsimp only at hSw); go_simp); (try with_reducible rfl))
  try simp only [Act.put, List.setIfInBounds_toArray, List.set_cons_zero, List.set_cons_succ]
  refine wpAnyH_take (i := 18) (oi := ({ dst := some 73, op := Op.load 23 (Operand.tmp 4), type := 23, pos := "law.go:114", after := #[{ on := 13, ground := Ground.guard }], guard := some (13, false) } : Oper)) (v := ?_) rfl (by kernel_rfl) (by kernel_rfl) (by kernel_rfl) (fun _ _ _ h => h) (Or.inl ⟨by rfl, ?_⟩) (by assumption) ?_
  rotate_left
  · ((intro w hSw; (try dsimp only at hSw); go_simp); (try with_reducible rfl))
  try simp only [Act.put, List.setIfInBounds_toArray, List.set_cons_zero, List.set_cons_succ]
  refine wpAnyH_take (i := 19) (oi := ({ dst := some 74, op := Op.fieldAddr 25 (Operand.tmp 5) 1, type := 0, pos := "law.go:114", after := #[{ on := 13, ground := Ground.guard }], guard := some (13, false) } : Oper)) (v := ?_) rfl (by kernel_rfl) (by kernel_rfl) (by kernel_rfl) (fun _ _ _ h => h) (Or.inl ⟨by rfl, ?_⟩) (by assumption) ?_
  rotate_left
  · ((intro w hSw; (try dsimp only at hSw); go_simp); (try with_reducible rfl))
  try simp only [Act.put, List.setIfInBounds_toArray, List.set_cons_zero, List.set_cons_succ]
  refine wpAnyH_take (i := 20) (oi := ({ dst := some 75, op := Op.load 2 (Operand.tmp 74), type := 2, pos := "law.go:114", after := #[{ on := 19, ground := Ground.data }, { on := 13, ground := Ground.guard }], guard := some (13, false) } : Oper)) (v := ?_) rfl (by kernel_rfl) (by kernel_rfl) (by kernel_rfl) (fun _ _ _ h => h) (Or.inl ⟨by rfl, ?_⟩) (by assumption) ?_
  rotate_left
  · ((intro w hSw; (try dsimp only at hSw); go_simp); (try with_reducible rfl))
  try simp only [Act.put, List.setIfInBounds_toArray, List.set_cons_zero, List.set_cons_succ]
  refine wpAnyH_ready (rs := [17]) (by kernel_rfl) (by simp) ?_
  refine AllReadyH.cons (o := ({ dst := some 72, op := Op.call { callee := Callee.value (Operand.func 16), args := #[Operand.tmp 69, Operand.tmp 71], argTypes := #[23, 2] }, type := 2, pos := "law.go:114", after := #[{ on := 14, ground := Ground.data }, { on := 16, ground := Ground.data }, { on := 13, ground := Ground.chain }, { on := 13, ground := Ground.guard }], guard := some (13, false) } : Oper)) rfl (fun K hK => ?_) AllReadyH.nil
  go_simp
  (with_reducible refine (Ca.out _).mono ?_)
  rintro e w7 ⟨rfl, hb7⟩
  refine hK.out _ _ ?_ (fun hHeld => ?_)
  · exact keepB7 hb7 hHeld
  clear hK K
  try simp only [Act.put, List.setIfInBounds_toArray, List.set_cons_zero, List.set_cons_succ]
  refine wpAnyH_ready (rs := [21]) (by kernel_rfl) (by simp) ?_
  refine AllReadyH.cons (o := ({ dst := some 76, op := Op.call { callee := Callee.value (Operand.func 16), args := #[Operand.tmp 73, Operand.tmp 75], argTypes := #[23, 2] }, type := 2, pos := "law.go:114", after := #[{ on := 18, ground := Ground.data }, { on := 20, ground := Ground.data }, { on := 17, ground := Ground.chain }, { on := 13, ground := Ground.guard }], guard := some (13, false) } : Oper)) rfl (fun K hK => ?_) AllReadyH.nil
  go_simp
  (with_reducible refine (Cb.out _).mono ?_)
  rintro e w7 ⟨rfl, hb7⟩
  refine hK.out _ _ ?_ (fun hHeld => ?_)
  · exact keepB7 hb7 hHeld
  clear hK K
  try simp only [Act.put, List.setIfInBounds_toArray, List.set_cons_zero, List.set_cons_succ]
  refine wpAnyH_take (i := 22) (oi := ({ dst := some 77, op := Op.binOp BinOp.gtr 2 (Operand.tmp 72) (Operand.tmp 76) 2, type := 4, pos := "law.go:114", after := #[{ on := 17, ground := Ground.data }, { on := 21, ground := Ground.data }, { on := 13, ground := Ground.guard }], guard := some (13, false) } : Oper)) (v := ?_) rfl (by kernel_rfl) (by kernel_rfl) (by kernel_rfl) (fun _ _ _ h => h) (Or.inl ⟨by rfl, ?_⟩) (by assumption) ?_
  rotate_left
  · ((intro w hSw; (try dsimp only at hSw); go_simp); (try with_reducible rfl))
  try simp only [Act.put, List.setIfInBounds_toArray, List.set_cons_zero, List.set_cons_succ]
  refine wpAnyH_take (i := 23) (oi := ({ dst := some 78, op := Op.pick (Operand.tmp 68) (Operand.const (Value.bool true)) (Operand.tmp 77), type := 4, pos := "law.go:114", after := #[{ on := 13, ground := Ground.data }, { on := 22, ground := Ground.data }], guard := none } : Oper)) (v := ?_) rfl (by kernel_rfl) (by kernel_rfl) (by kernel_rfl) (fun _ _ _ h => h) (Or.inl ⟨by rfl, ?_⟩) (by assumption) ?_
  rotate_left
  · ((intro w hSw; (try dsimp only at hSw); go_simp); (try with_reducible rfl))
  try simp only [Act.put, List.setIfInBounds_toArray, List.set_cons_zero, List.set_cons_succ]
  refine wpAnyH_take (i := 24) (oi := ({ dst := some 79, op := Op.move (Operand.tmp 78), type := 4, pos := "law.go:114", after := #[{ on := 23, ground := Ground.data }, { on := 21, ground := Ground.chain }], guard := none } : Oper)) (v := ?_) rfl (by kernel_rfl) (by kernel_rfl) (by kernel_rfl) (fun _ _ _ h => h) (Or.inl ⟨by rfl, ?_⟩) (by assumption) ?_
  rotate_left
  · ((intro w hSw; (try dsimp only at hSw); go_simp); (try with_reducible rfl))
  try simp only [Act.put, List.setIfInBounds_toArray, List.set_cons_zero, List.set_cons_succ]
  refine wpAnyH_take (i := 25) (oi := ({ dst := some 80, op := Op.load 23 (Operand.tmp 4), type := 23, pos := "law.go:114", after := #[{ on := 24, ground := Ground.guard }], guard := some (24, false) } : Oper)) (v := ?_) rfl (by kernel_rfl) (by kernel_rfl) (by kernel_rfl) (fun _ _ _ h => h) (Or.inl ⟨by rfl, ?_⟩) (by assumption) ?_
  rotate_left
  · ((intro w hSw; (try dsimp only at hSw); go_simp); (try with_reducible rfl))
  try simp only [Act.put, List.setIfInBounds_toArray, List.set_cons_zero, List.set_cons_succ]
  refine wpAnyH_take (i := 26) (oi := ({ dst := some 81, op := Op.load 25 (Operand.tmp 5), type := 25, pos := "law.go:114", after := #[{ on := 24, ground := Ground.guard }], guard := some (24, false) } : Oper)) (v := ?_) rfl (by kernel_rfl) (by kernel_rfl) (by kernel_rfl) (fun _ _ _ h => h) (Or.inl ⟨by rfl, ?_⟩) (by assumption) ?_
  rotate_left
  · ((intro w hSw; (try dsimp only at hSw); go_simp); (try with_reducible rfl))
  try simp only [Act.put, List.setIfInBounds_toArray, List.set_cons_zero, List.set_cons_succ]
  refine wpAnyH_ready (rs := [27]) (by kernel_rfl) (by simp) ?_
  refine AllReadyH.cons (o := ({ dst := some 82, op := Op.call { callee := Callee.value (Operand.func 18), args := #[Operand.tmp 80, Operand.tmp 81], argTypes := #[23, 25] }, type := 4, pos := "law.go:114", after := #[{ on := 25, ground := Ground.data }, { on := 26, ground := Ground.data }, { on := 24, ground := Ground.chain }, { on := 24, ground := Ground.guard }], guard := some (24, false) } : Oper)) rfl (fun K hK => ?_) AllReadyH.nil
  go_simp
  (with_reducible refine (Cx.out _).mono ?_)
  rintro e w7 ⟨rfl, hb7⟩
  refine hK.out _ _ ?_ (fun hHeld => ?_)
  · exact keepB7 hb7 hHeld
  clear hK K
  try simp only [Act.put, List.setIfInBounds_toArray, List.set_cons_zero, List.set_cons_succ]
  refine wpAnyH_take (i := 28) (oi := ({ dst := some 83, op := Op.move (Operand.tmp 82), type := 4, pos := "law.go:114", after := #[{ on := 27, ground := Ground.data }, { on := 27, ground := Ground.chain }, { on := 24, ground := Ground.guard }], guard := some (24, false) } : Oper)) (v := ?_) rfl (by kernel_rfl) (by kernel_rfl) (by kernel_rfl) (fun _ _ _ h => h) (Or.inl ⟨by rfl, ?_⟩) (by assumption) ?_
  rotate_left
  · ((intro w hSw; (try dsimp only at hSw); go_simp); (try with_reducible rfl))
  try simp only [Act.put, List.setIfInBounds_toArray, List.set_cons_zero, List.set_cons_succ]
  refine wpAnyH_take (i := 29) (oi := ({ dst := some 84, op := Op.load 23 (Operand.tmp 4), type := 23, pos := "law.go:114", after := #[{ on := 28, ground := Ground.guard }], guard := some (28, true) } : Oper)) (v := undef) rfl (by kernel_rfl) (by kernel_rfl) (by kernel_rfl) (fun _ _ _ h => h) (Or.inr ⟨by rfl, rfl⟩) (by assumption) ?_
  try simp only [Act.put, List.setIfInBounds_toArray, List.set_cons_zero, List.set_cons_succ]
  refine wpAnyH_take (i := 30) (oi := ({ dst := some 85, op := Op.load 25 (Operand.tmp 9), type := 25, pos := "law.go:114", after := #[{ on := 28, ground := Ground.guard }], guard := some (28, true) } : Oper)) (v := undef) rfl (by kernel_rfl) (by kernel_rfl) (by kernel_rfl) (fun _ _ _ h => h) (Or.inr ⟨by rfl, rfl⟩) (by assumption) ?_
  try simp only [Act.put, List.setIfInBounds_toArray, List.set_cons_zero, List.set_cons_succ]
  refine wpAnyH_take (i := 31) (oi := ({ dst := some 86, op := Op.call { callee := Callee.value (Operand.func 18), args := #[Operand.tmp 84, Operand.tmp 85], argTypes := #[23, 25] }, type := 4, pos := "law.go:114", after := #[{ on := 29, ground := Ground.data }, { on := 30, ground := Ground.data }, { on := 28, ground := Ground.chain }, { on := 28, ground := Ground.guard }], guard := some (28, true) } : Oper)) (v := undef) rfl (by kernel_rfl) (by kernel_rfl) (by kernel_rfl) (fun _ _ _ h => h) (Or.inr ⟨by rfl, rfl⟩) (by assumption) ?_
  try simp only [Act.put, List.setIfInBounds_toArray, List.set_cons_zero, List.set_cons_succ]
  refine wpAnyH_take (i := 32) (oi := ({ dst := some 87, op := Op.unOp UnOp.not 4 (Operand.tmp 86), type := 4, pos := "law.go:114", after := #[{ on := 31, ground := Ground.data }, { on := 28, ground := Ground.guard }], guard := some (28, true) } : Oper)) (v := undef) rfl (by kernel_rfl) (by kernel_rfl) (by kernel_rfl) (fun _ _ _ h => h) (Or.inr ⟨by rfl, rfl⟩) (by assumption) ?_
  try simp only [Act.put, List.setIfInBounds_toArray, List.set_cons_zero, List.set_cons_succ]
  refine wpAnyH_take (i := 33) (oi := ({ dst := some 88, op := Op.pick (Operand.tmp 83) (Operand.tmp 87) (Operand.const (Value.bool false)), type := 4, pos := "law.go:114", after := #[{ on := 28, ground := Ground.data }, { on := 32, ground := Ground.data }, { on := 24, ground := Ground.guard }], guard := some (24, false) } : Oper)) (v := ?_) rfl (by kernel_rfl) (by kernel_rfl) (by kernel_rfl) (fun _ _ _ h => h) (Or.inl ⟨by rfl, ?_⟩) (by assumption) ?_
  rotate_left
  · ((intro w hSw; (try dsimp only at hSw); go_simp); (try with_reducible rfl))
  try simp only [Act.put, List.setIfInBounds_toArray, List.set_cons_zero, List.set_cons_succ]
  refine wpAnyH_take (i := 34) (oi := ({ dst := some 89, op := Op.pick (Operand.tmp 79) (Operand.const (Value.bool true)) (Operand.tmp 88), type := 4, pos := "law.go:114", after := #[{ on := 24, ground := Ground.data }, { on := 33, ground := Ground.data }], guard := none } : Oper)) (v := ?_) rfl (by kernel_rfl) (by kernel_rfl) (by kernel_rfl) (fun _ _ _ h => h) (Or.inl ⟨by rfl, ?_⟩) (by assumption) ?_
  rotate_left
  · ((intro w hSw; (try dsimp only at hSw); go_simp); (try with_reducible rfl))
  try simp only [Act.put, List.setIfInBounds_toArray, List.set_cons_zero, List.set_cons_succ]
  refine wpAnyH_done (by kernel_rfl) ?_ _
  have HH := hHeld
  clear g1 g2 g3 x1 x2 m1 m2 gl xl ml
  obtain ⟨B6, g1, g2, g3, x1, x2, -, -⟩ := HH
  go_wp2_with fail
  refine (Cn.out _).mono ?_
  rintro e8 w8 ⟨rfl, hb8⟩
  have B8 : Hid (Below W0.heap.size W0 w8) := Lib.hid (bstep B6.out hb8)
  clear g1 g2 g3 x1 x2 hb8
  go_wp2
  go_ret
  exact ⟨rfl, B8.out.alloc B8.out.size _⟩
set_option maxHeartbeats 4000000 in
theorem within_unsure_less (w p m a b c d n x y u1 u2 v1 v2 : Int) (W0 : World)
    (Cg : Hid (On2 a b c d x y 0)) (C1 : Hid (∀ W, Calls Try.prog 15 #[.agg #[.int .i64 w, .int .i64 p, .int .i64 m], .agg #[.int .i64 a, .int .i64 b]] W (MeetRes u1 u2 0 W))) (C2 : Hid (∀ W, Calls Try.prog 15 #[.agg #[.int .i64 w, .int .i64 p, .int .i64 m], .agg #[.int .i64 x, .int .i64 y]] W (MeetRes v1 v2 0 W))) (h1 : decide (v1 < u1) = false) (h2 : decide (u2 < v2) = false) (h3 : decide (v2 < v1) = false) (h4 : decide (u2 < u1) = false) (Ca : Hid (∀ W, Calls Try.prog 16 #[.agg #[.int .i64 w, .int .i64 p, .int .i64 m], .int .i64 a] W (Gives (.int .i64 u1) W))) (Cb : Hid (∀ W, Calls Try.prog 16 #[.agg #[.int .i64 w, .int .i64 p, .int .i64 m], .int .i64 b] W (Gives (.int .i64 u2) W))) (Cx : Hid (∀ W, Calls Try.prog 18 #[.agg #[.int .i64 w, .int .i64 p, .int .i64 m], .agg #[.int .i64 a, .int .i64 b]] W (Gives (.bool false) W))) (Cn : Hid (∀ W, Calls Try.prog 8 #[.int .i64 w, .int .i64 p, .int .i64 n] W (GridRes w p n 0 W))) (hl : n < m) :
    Calls Try.prog 6 #[.agg #[.int .i64 w, .int .i64 p, .int .i64 m], .agg #[.int .i64 a, .int .i64 b], .agg #[.int .i64 c, .int .i64 d], .int .i64 n] W0 fun e w' => e = .returned (.bool true) ∧ Below W0.heap.size W0 w' := by
  go_enter Try.func6, Try.ntmps6
  have B0 : Hid (Below W0.heap.size W0 W0) := Lib.hid (Below.refl W0.heap.size W0)
  go_wp2_with fail
  refine (alive_any _).mono ?_
  rintro e1 w1 ⟨rfl, hb1⟩
  have Kg : Hid (Kept w1 _ #[.int .i64 w, .int .i64 p, .int .i64 m] 23) := Lib.hid ((((Kept.new (w := W0) (cs := #[.int .i64 w, .int .i64 p, .int .i64 m]) (t := 23) rfl).alloc (.cells #[.int .i64 a, .int .i64 b] 25)).alloc (.cells #[.int .i64 c, .int .i64 d] 25)).next hb1)
  have Kx : Hid (Kept w1 _ #[.int .i64 a, .int .i64 b] 25) := Lib.hid (((Kept.new (w := (W0.alloc (.cells #[.int .i64 w, .int .i64 p, .int .i64 m] 23))) (g := W0.heap.size + 1) (cs := #[.int .i64 a, .int .i64 b]) (t := 25) (by simp)).alloc (.cells #[.int .i64 c, .int .i64 d] 25)).next hb1)
  have Ky : Hid (Kept w1 _ #[.int .i64 c, .int .i64 d] 25) := Lib.hid ((Kept.new (w := ((W0.alloc (.cells #[.int .i64 w, .int .i64 p, .int .i64 m] 23)).alloc (.cells #[.int .i64 a, .int .i64 b] 25))) (g := W0.heap.size + 2) (cs := #[.int .i64 c, .int .i64 d]) (t := 25) (by simp)).next hb1)
  have B1 : Hid (Below W0.heap.size W0 w1) := Lib.hid (bnext (((((((B0.out).alloc (by have := B0.out.size; first | omega | (simp <;> omega)) _)).alloc (by have := B0.out.size; first | omega | (simp <;> omega)) _)).alloc (by have := B0.out.size; first | omega | (simp <;> omega)) _)) (by have := B0.out.size; first | omega | (simp <;> omega)) hb1)
  clear hb1
  obtain ⟨x1, x2, -, -, xl⟩ := Kx.out.two
  obtain ⟨y1, y2, -, -, yl⟩ := Ky.out.two
  go_wp2_with fail
  refine (Cg.out.at_ _ _ (by exact Kept.new (by simp))).mono ?_
  rintro e2 w2 ⟨rfl, hb2⟩
  clear x1 x2 xl
  clear y1 y2 yl
  have Kg : Hid (Kept w2 _ _ _) := Lib.hid ((Kg.out.alloc _).next hb2)
  have Kx : Hid (Kept w2 _ _ _) := Lib.hid ((Kx.out.alloc _).next hb2)
  have Ky : Hid (Kept w2 _ _ _) := Lib.hid ((Ky.out.alloc _).next hb2)
  have B2 : Hid (Below W0.heap.size W0 w2) := Lib.hid (bnext (((B1.out).alloc (by have := B1.out.size; first | omega | (simp <;> omega)) _)) (by have := B1.out.size; first | omega | (simp <;> omega)) hb2)
  clear hb2
  obtain ⟨g1, g2, g3, -, -, -, gl⟩ := Kg.out.three
  obtain ⟨x1, x2, -, -, xl⟩ := Kx.out.two
  go_wp2_with fail
  refine (C1.out _).mono ?_
  rintro e3 w3 ⟨rfl, hb3⟩
  clear g1 g2 g3 gl
  clear x1 x2 xl
  have Kg : Hid (Kept w3 _ _ _) := Lib.hid ((Kg.out.alloc _).next hb3)
  have Kx : Hid (Kept w3 _ _ _) := Lib.hid ((Kx.out.alloc _).next hb3)
  have Km : Hid (Kept w3 _ #[.int .i64 x, .int .i64 y] 25) := Lib.hid ((Kept.new (w := w2) (cs := #[.int .i64 x, .int .i64 y]) (t := 25) rfl).next hb3)
  have B3 : Hid (Below W0.heap.size W0 w3) := Lib.hid (bnext (((B2.out).alloc (by have := B2.out.size; first | omega | (simp <;> omega)) _)) (by have := B2.out.size; first | omega | (simp <;> omega)) hb3)
  clear hb3
  obtain ⟨g1, g2, g3, -, -, -, gl⟩ := Kg.out.three
  obtain ⟨m1, m2, -, -, ml⟩ := Km.out.two
  go_wp2_with fail
  refine (C2.out _).mono ?_
  rintro e4 w4 ⟨rfl, hb4⟩
  clear g1 g2 g3 gl
  clear m1 m2 ml
  have Kg : Hid (Kept w4 _ _ _) := Lib.hid (Kg.out.next hb4)
  have Kx : Hid (Kept w4 _ _ _) := Lib.hid (Kx.out.next hb4)
  have Km : Hid (Kept w4 _ _ _) := Lib.hid (Km.out.next hb4)
  have B4 : Hid (Below W0.heap.size W0 w4) := Lib.hid (bnext (B3.out) (by have := B3.out.size; first | omega | (simp <;> omega)) hb4)
  clear hb4
  obtain ⟨g1, g2, g3, -, -, -, gl⟩ := Kg.out.three
  obtain ⟨x1, x2, -, -, xl⟩ := Kx.out.two
  obtain ⟨m1, m2, -, -, ml⟩ := Km.out.two
  go_wp2
  refine wp_region_held_drew (S := (fun w' => Hid (Below W0.heap.size W0 w') ∧ w'.cell? ⟨W0.heap.size, 0, none⟩ = some (.int .i64 w) ∧ w'.cell? ⟨W0.heap.size, 1, none⟩ = some (.int .i64 p) ∧ w'.cell? ⟨W0.heap.size, 2, none⟩ = some (.int .i64 m) ∧ w'.cell? ⟨W0.heap.size + 1, 0, none⟩ = some (.int .i64 a) ∧ w'.cell? ⟨W0.heap.size + 1, 1, none⟩ = some (.int .i64 b) ∧ w'.cell? ⟨w2.heap.size, 0, none⟩ = some (.int .i64 x) ∧ w'.cell? ⟨w2.heap.size, 1, none⟩ = some (.int .i64 y))) (by kernel_rfl) ⟨Lib.hid ⟨B4.out.os, B4.out.tape, B4.out.output, B4.out.size, B4.out.block⟩, g1, g2, g3, x1, x2, m1, m2⟩ (fun hHeld => ?_)
  refine wpAnyH_take (i := 0) (oi := ({ dst := some 55, op := Op.move (Operand.tmp 14), type := 2, pos := "law.go:114", after := #[], guard := none } : Oper)) (v := ?_) rfl (by kernel_rfl) (by kernel_rfl) (by kernel_rfl) (fun _ _ _ h => h) (Or.inl ⟨by rfl, ?_⟩) (by assumption) ?_
  rotate_left
  · ((intro w hSw; (try dsimp only at hSw); go_simp); (try with_reducible rfl))
  try simp only [Act.put, List.setIfInBounds_toArray, List.set_cons_zero, List.set_cons_succ]
  refine wpAnyH_take (i := 1) (oi := ({ dst := some 56, op := Op.move (Operand.tmp 11), type := 2, pos := "law.go:114", after := #[], guard := none } : Oper)) (v := ?_) rfl (by kernel_rfl) (by kernel_rfl) (by kernel_rfl) (fun _ _ _ h => h) (Or.inl ⟨by rfl, ?_⟩) (by assumption) ?_
  rotate_left
  · ((intro w hSw; (try dsimp only at hSw); go_simp); (try with_reducible rfl))
  try simp only [Act.put, List.setIfInBounds_toArray, List.set_cons_zero, List.set_cons_succ]
  refine wpAnyH_take (i := 2) (oi := ({ dst := some 57, op := Op.binOp BinOp.lss 2 (Operand.tmp 55) (Operand.tmp 56) 2, type := 4, pos := "law.go:114", after := #[{ on := 0, ground := Ground.data }, { on := 1, ground := Ground.data }], guard := none } : Oper)) (v := ?_) rfl (by kernel_rfl) (by kernel_rfl) (by kernel_rfl) (fun _ _ _ h => h) (Or.inl ⟨by rfl, ?_⟩) (by assumption) ?_
  rotate_left
  · ((intro w hSw; (try dsimp only at hSw); go_simp); (try with_reducible rfl))
  try simp only [Act.put, List.setIfInBounds_toArray, List.set_cons_zero, List.set_cons_succ]
  refine wpAnyH_take (i := 3) (oi := ({ dst := some 58, op := Op.move (Operand.tmp 57), type := 4, pos := "law.go:114", after := #[{ on := 2, ground := Ground.data }], guard := none } : Oper)) (v := ?_) rfl (by kernel_rfl) (by kernel_rfl) (by kernel_rfl) (fun _ _ _ h => h) (Or.inl ⟨by rfl, ?_⟩) (by assumption) ?_
  rotate_left
  · ((intro w hSw; (try dsimp only at hSw); go_simp); (try with_reducible rfl))
  try simp only [Act.put, List.setIfInBounds_toArray, List.set_cons_zero, List.set_cons_succ]
  refine wpAnyH_take (i := 4) (oi := ({ dst := some 59, op := Op.move (Operand.tmp 15), type := 2, pos := "law.go:114", after := #[{ on := 3, ground := Ground.guard }], guard := some (3, false) } : Oper)) (v := ?_) rfl (by kernel_rfl) (by kernel_rfl) (by kernel_rfl) (fun _ _ _ h => h) (Or.inl ⟨by rfl, ?_⟩) (by assumption) ?_
  rotate_left
  · ((intro w hSw; (try dsimp only at hSw); go_simp); (try with_reducible rfl))
  try simp only [Act.put, List.setIfInBounds_toArray, List.set_cons_zero, List.set_cons_succ]
  refine wpAnyH_take (i := 5) (oi := ({ dst := some 60, op := Op.move (Operand.tmp 12), type := 2, pos := "law.go:114", after := #[{ on := 3, ground := Ground.guard }], guard := some (3, false) } : Oper)) (v := ?_) rfl (by kernel_rfl) (by kernel_rfl) (by kernel_rfl) (fun _ _ _ h => h) (Or.inl ⟨by rfl, ?_⟩) (by assumption) ?_
  rotate_left
  · ((intro w hSw; (try dsimp only at hSw); go_simp); (try with_reducible rfl))
  try simp only [Act.put, List.setIfInBounds_toArray, List.set_cons_zero, List.set_cons_succ]
  refine wpAnyH_take (i := 6) (oi := ({ dst := some 61, op := Op.binOp BinOp.gtr 2 (Operand.tmp 59) (Operand.tmp 60) 2, type := 4, pos := "law.go:114", after := #[{ on := 4, ground := Ground.data }, { on := 5, ground := Ground.data }, { on := 3, ground := Ground.guard }], guard := some (3, false) } : Oper)) (v := ?_) rfl (by kernel_rfl) (by kernel_rfl) (by kernel_rfl) (fun _ _ _ h => h) (Or.inl ⟨by rfl, ?_⟩) (by assumption) ?_
  rotate_left
  · ((intro w hSw; (try dsimp only at hSw); go_simp); (try with_reducible rfl))
  try simp only [Act.put, List.setIfInBounds_toArray, List.set_cons_zero, List.set_cons_succ]
  refine wpAnyH_take (i := 7) (oi := ({ dst := some 62, op := Op.pick (Operand.tmp 58) (Operand.const (Value.bool true)) (Operand.tmp 61), type := 4, pos := "law.go:114", after := #[{ on := 3, ground := Ground.data }, { on := 6, ground := Ground.data }], guard := none } : Oper)) (v := ?_) rfl (by kernel_rfl) (by kernel_rfl) (by kernel_rfl) (fun _ _ _ h => h) (Or.inl ⟨by rfl, ?_⟩) (by assumption) ?_
  rotate_left
  · ((intro w hSw; (try dsimp only at hSw); go_simp); (try with_reducible rfl))
  try simp only [Act.put, List.setIfInBounds_toArray, List.set_cons_zero, List.set_cons_succ]
  refine wpAnyH_take (i := 8) (oi := ({ dst := some 63, op := Op.move (Operand.tmp 62), type := 4, pos := "law.go:114", after := #[{ on := 7, ground := Ground.data }, { on := 3, ground := Ground.chain }], guard := none } : Oper)) (v := ?_) rfl (by kernel_rfl) (by kernel_rfl) (by kernel_rfl) (fun _ _ _ h => h) (Or.inl ⟨by rfl, ?_⟩) (by assumption) ?_
  rotate_left
  · ((intro w hSw; (try dsimp only at hSw); go_simp); (try with_reducible rfl))
  try simp only [Act.put, List.setIfInBounds_toArray, List.set_cons_zero, List.set_cons_succ]
  refine wpAnyH_take (i := 9) (oi := ({ dst := some 64, op := Op.move (Operand.tmp 14), type := 2, pos := "law.go:114", after := #[{ on := 8, ground := Ground.guard }], guard := some (8, false) } : Oper)) (v := ?_) rfl (by kernel_rfl) (by kernel_rfl) (by kernel_rfl) (fun _ _ _ h => h) (Or.inl ⟨by rfl, ?_⟩) (by assumption) ?_
  rotate_left
  · ((intro w hSw; (try dsimp only at hSw); go_simp); (try with_reducible rfl))
  try simp only [Act.put, List.setIfInBounds_toArray, List.set_cons_zero, List.set_cons_succ]
  refine wpAnyH_take (i := 10) (oi := ({ dst := some 65, op := Op.move (Operand.tmp 15), type := 2, pos := "law.go:114", after := #[{ on := 8, ground := Ground.guard }], guard := some (8, false) } : Oper)) (v := ?_) rfl (by kernel_rfl) (by kernel_rfl) (by kernel_rfl) (fun _ _ _ h => h) (Or.inl ⟨by rfl, ?_⟩) (by assumption) ?_
  rotate_left
  · ((intro w hSw; (try dsimp only at hSw); go_simp); (try with_reducible rfl))
  try simp only [Act.put, List.setIfInBounds_toArray, List.set_cons_zero, List.set_cons_succ]
  refine wpAnyH_take (i := 11) (oi := ({ dst := some 66, op := Op.binOp BinOp.gtr 2 (Operand.tmp 64) (Operand.tmp 65) 2, type := 4, pos := "law.go:114", after := #[{ on := 9, ground := Ground.data }, { on := 10, ground := Ground.data }, { on := 8, ground := Ground.guard }], guard := some (8, false) } : Oper)) (v := ?_) rfl (by kernel_rfl) (by kernel_rfl) (by kernel_rfl) (fun _ _ _ h => h) (Or.inl ⟨by rfl, ?_⟩) (by assumption) ?_
  rotate_left
  · ((intro w hSw; (try dsimp only at hSw); go_simp); (try with_reducible rfl))
  try simp only [Act.put, List.setIfInBounds_toArray, List.set_cons_zero, List.set_cons_succ]
  refine wpAnyH_take (i := 12) (oi := ({ dst := some 67, op := Op.pick (Operand.tmp 63) (Operand.const (Value.bool true)) (Operand.tmp 66), type := 4, pos := "law.go:114", after := #[{ on := 8, ground := Ground.data }, { on := 11, ground := Ground.data }], guard := none } : Oper)) (v := ?_) rfl (by kernel_rfl) (by kernel_rfl) (by kernel_rfl) (fun _ _ _ h => h) (Or.inl ⟨by rfl, ?_⟩) (by assumption) ?_
  rotate_left
  · ((intro w hSw; (try dsimp only at hSw); go_simp); (try with_reducible rfl))
  try simp only [Act.put, List.setIfInBounds_toArray, List.set_cons_zero, List.set_cons_succ]
  refine wpAnyH_take (i := 13) (oi := ({ dst := some 68, op := Op.move (Operand.tmp 67), type := 4, pos := "law.go:114", after := #[{ on := 12, ground := Ground.data }, { on := 8, ground := Ground.chain }], guard := none } : Oper)) (v := ?_) rfl (by kernel_rfl) (by kernel_rfl) (by kernel_rfl) (fun _ _ _ h => h) (Or.inl ⟨by rfl, ?_⟩) (by assumption) ?_
  rotate_left
  · ((intro w hSw; (try dsimp only at hSw); go_simp); (try with_reducible rfl))
  try simp only [Act.put, List.setIfInBounds_toArray, List.set_cons_zero, List.set_cons_succ]
  refine wpAnyH_take (i := 14) (oi := ({ dst := some 69, op := Op.load 23 (Operand.tmp 4), type := 23, pos := "law.go:114", after := #[{ on := 13, ground := Ground.guard }], guard := some (13, false) } : Oper)) (v := ?_) rfl (by kernel_rfl) (by kernel_rfl) (by kernel_rfl) (fun _ _ _ h => h) (Or.inl ⟨by rfl, ?_⟩) (by assumption) ?_
  rotate_left
  · ((intro w hSw; (try dsimp only at hSw); go_simp); (try with_reducible rfl))
  try simp only [Act.put, List.setIfInBounds_toArray, List.set_cons_zero, List.set_cons_succ]
  refine wpAnyH_take (i := 15) (oi := ({ dst := some 70, op := Op.fieldAddr 25 (Operand.tmp 5) 0, type := 0, pos := "law.go:114", after := #[{ on := 13, ground := Ground.guard }], guard := some (13, false) } : Oper)) (v := ?_) rfl (by kernel_rfl) (by kernel_rfl) (by kernel_rfl) (fun _ _ _ h => h) (Or.inl ⟨by rfl, ?_⟩) (by assumption) ?_
  rotate_left
  · ((intro w hSw; (try dsimp only at hSw); go_simp); (try with_reducible rfl))
  try simp only [Act.put, List.setIfInBounds_toArray, List.set_cons_zero, List.set_cons_succ]
  refine wpAnyH_take (i := 16) (oi := ({ dst := some 71, op := Op.load 2 (Operand.tmp 70), type := 2, pos := "law.go:114", after := #[{ on := 15, ground := Ground.data }, { on := 13, ground := Ground.guard }], guard := some (13, false) } : Oper)) (v := ?_) rfl (by kernel_rfl) (by kernel_rfl) (by kernel_rfl) (fun _ _ _ h => h) (Or.inl ⟨by rfl, ?_⟩) (by assumption) ?_
  rotate_left
  · ((intro w hSw; (try dsimp only at hSw); go_simp); (try with_reducible rfl))
  try simp only [Act.put, List.setIfInBounds_toArray, List.set_cons_zero, List.set_cons_succ]
  refine wpAnyH_take (i := 18) (oi := ({ dst := some 73, op := Op.load 23 (Operand.tmp 4), type := 23, pos := "law.go:114", after := #[{ on := 13, ground := Ground.guard }], guard := some (13, false) } : Oper)) (v := ?_) rfl (by kernel_rfl) (by kernel_rfl) (by kernel_rfl) (fun _ _ _ h => h) (Or.inl ⟨by rfl, ?_⟩) (by assumption) ?_
  rotate_left
  · ((intro w hSw; (try dsimp only at hSw); go_simp); (try with_reducible rfl))
  try simp only [Act.put, List.setIfInBounds_toArray, List.set_cons_zero, List.set_cons_succ]
  refine wpAnyH_take (i := 19) (oi := ({ dst := some 74, op := Op.fieldAddr 25 (Operand.tmp 5) 1, type := 0, pos := "law.go:114", after := #[{ on := 13, ground := Ground.guard }], guard := some (13, false) } : Oper)) (v := ?_) rfl (by kernel_rfl) (by kernel_rfl) (by kernel_rfl) (fun _ _ _ h => h) (Or.inl ⟨by rfl, ?_⟩) (by assumption) ?_
  rotate_left
  · ((intro w hSw; (try dsimp only at hSw); go_simp); (try with_reducible rfl))
  try simp only [Act.put, List.setIfInBounds_toArray, List.set_cons_zero, List.set_cons_succ]
  refine wpAnyH_take (i := 20) (oi := ({ dst := some 75, op := Op.load 2 (Operand.tmp 74), type := 2, pos := "law.go:114", after := #[{ on := 19, ground := Ground.data }, { on := 13, ground := Ground.guard }], guard := some (13, false) } : Oper)) (v := ?_) rfl (by kernel_rfl) (by kernel_rfl) (by kernel_rfl) (fun _ _ _ h => h) (Or.inl ⟨by rfl, ?_⟩) (by assumption) ?_
  rotate_left
  · ((intro w hSw; (try dsimp only at hSw); go_simp); (try with_reducible rfl))
  try simp only [Act.put, List.setIfInBounds_toArray, List.set_cons_zero, List.set_cons_succ]
  refine wpAnyH_ready (rs := [17]) (by kernel_rfl) (by simp) ?_
  refine AllReadyH.cons (o := ({ dst := some 72, op := Op.call { callee := Callee.value (Operand.func 16), args := #[Operand.tmp 69, Operand.tmp 71], argTypes := #[23, 2] }, type := 2, pos := "law.go:114", after := #[{ on := 14, ground := Ground.data }, { on := 16, ground := Ground.data }, { on := 13, ground := Ground.chain }, { on := 13, ground := Ground.guard }], guard := some (13, false) } : Oper)) rfl (fun K hK => ?_) AllReadyH.nil
  go_simp
  (with_reducible refine (Ca.out _).mono ?_)
  rintro e w7 ⟨rfl, hb7⟩
  refine hK.out _ _ ?_ (fun hHeld => ?_)
  · exact keepB7 hb7 hHeld
  clear hK K
  try simp only [Act.put, List.setIfInBounds_toArray, List.set_cons_zero, List.set_cons_succ]
  refine wpAnyH_ready (rs := [21]) (by kernel_rfl) (by simp) ?_
  refine AllReadyH.cons (o := ({ dst := some 76, op := Op.call { callee := Callee.value (Operand.func 16), args := #[Operand.tmp 73, Operand.tmp 75], argTypes := #[23, 2] }, type := 2, pos := "law.go:114", after := #[{ on := 18, ground := Ground.data }, { on := 20, ground := Ground.data }, { on := 17, ground := Ground.chain }, { on := 13, ground := Ground.guard }], guard := some (13, false) } : Oper)) rfl (fun K hK => ?_) AllReadyH.nil
  go_simp
  (with_reducible refine (Cb.out _).mono ?_)
  rintro e w7 ⟨rfl, hb7⟩
  refine hK.out _ _ ?_ (fun hHeld => ?_)
  · exact keepB7 hb7 hHeld
  clear hK K
  try simp only [Act.put, List.setIfInBounds_toArray, List.set_cons_zero, List.set_cons_succ]
  refine wpAnyH_take (i := 22) (oi := ({ dst := some 77, op := Op.binOp BinOp.gtr 2 (Operand.tmp 72) (Operand.tmp 76) 2, type := 4, pos := "law.go:114", after := #[{ on := 17, ground := Ground.data }, { on := 21, ground := Ground.data }, { on := 13, ground := Ground.guard }], guard := some (13, false) } : Oper)) (v := ?_) rfl (by kernel_rfl) (by kernel_rfl) (by kernel_rfl) (fun _ _ _ h => h) (Or.inl ⟨by rfl, ?_⟩) (by assumption) ?_
  rotate_left
  · ((intro w hSw; (try dsimp only at hSw); go_simp); (try with_reducible rfl))
  try simp only [Act.put, List.setIfInBounds_toArray, List.set_cons_zero, List.set_cons_succ]
  refine wpAnyH_take (i := 23) (oi := ({ dst := some 78, op := Op.pick (Operand.tmp 68) (Operand.const (Value.bool true)) (Operand.tmp 77), type := 4, pos := "law.go:114", after := #[{ on := 13, ground := Ground.data }, { on := 22, ground := Ground.data }], guard := none } : Oper)) (v := ?_) rfl (by kernel_rfl) (by kernel_rfl) (by kernel_rfl) (fun _ _ _ h => h) (Or.inl ⟨by rfl, ?_⟩) (by assumption) ?_
  rotate_left
  · ((intro w hSw; (try dsimp only at hSw); go_simp); (try with_reducible rfl))
  try simp only [Act.put, List.setIfInBounds_toArray, List.set_cons_zero, List.set_cons_succ]
  refine wpAnyH_take (i := 24) (oi := ({ dst := some 79, op := Op.move (Operand.tmp 78), type := 4, pos := "law.go:114", after := #[{ on := 23, ground := Ground.data }, { on := 21, ground := Ground.chain }], guard := none } : Oper)) (v := ?_) rfl (by kernel_rfl) (by kernel_rfl) (by kernel_rfl) (fun _ _ _ h => h) (Or.inl ⟨by rfl, ?_⟩) (by assumption) ?_
  rotate_left
  · ((intro w hSw; (try dsimp only at hSw); go_simp); (try with_reducible rfl))
  try simp only [Act.put, List.setIfInBounds_toArray, List.set_cons_zero, List.set_cons_succ]
  refine wpAnyH_take (i := 25) (oi := ({ dst := some 80, op := Op.load 23 (Operand.tmp 4), type := 23, pos := "law.go:114", after := #[{ on := 24, ground := Ground.guard }], guard := some (24, false) } : Oper)) (v := ?_) rfl (by kernel_rfl) (by kernel_rfl) (by kernel_rfl) (fun _ _ _ h => h) (Or.inl ⟨by rfl, ?_⟩) (by assumption) ?_
  rotate_left
  · ((intro w hSw; (try dsimp only at hSw); go_simp); (try with_reducible rfl))
  try simp only [Act.put, List.setIfInBounds_toArray, List.set_cons_zero, List.set_cons_succ]
  refine wpAnyH_take (i := 26) (oi := ({ dst := some 81, op := Op.load 25 (Operand.tmp 5), type := 25, pos := "law.go:114", after := #[{ on := 24, ground := Ground.guard }], guard := some (24, false) } : Oper)) (v := ?_) rfl (by kernel_rfl) (by kernel_rfl) (by kernel_rfl) (fun _ _ _ h => h) (Or.inl ⟨by rfl, ?_⟩) (by assumption) ?_
  rotate_left
  · ((intro w hSw; (try dsimp only at hSw); go_simp); (try with_reducible rfl))
  try simp only [Act.put, List.setIfInBounds_toArray, List.set_cons_zero, List.set_cons_succ]
  refine wpAnyH_ready (rs := [27]) (by kernel_rfl) (by simp) ?_
  refine AllReadyH.cons (o := ({ dst := some 82, op := Op.call { callee := Callee.value (Operand.func 18), args := #[Operand.tmp 80, Operand.tmp 81], argTypes := #[23, 25] }, type := 4, pos := "law.go:114", after := #[{ on := 25, ground := Ground.data }, { on := 26, ground := Ground.data }, { on := 24, ground := Ground.chain }, { on := 24, ground := Ground.guard }], guard := some (24, false) } : Oper)) rfl (fun K hK => ?_) AllReadyH.nil
  go_simp
  (with_reducible refine (Cx.out _).mono ?_)
  rintro e w7 ⟨rfl, hb7⟩
  refine hK.out _ _ ?_ (fun hHeld => ?_)
  · exact keepB7 hb7 hHeld
  clear hK K
  try simp only [Act.put, List.setIfInBounds_toArray, List.set_cons_zero, List.set_cons_succ]
  refine wpAnyH_take (i := 28) (oi := ({ dst := some 83, op := Op.move (Operand.tmp 82), type := 4, pos := "law.go:114", after := #[{ on := 27, ground := Ground.data }, { on := 27, ground := Ground.chain }, { on := 24, ground := Ground.guard }], guard := some (24, false) } : Oper)) (v := ?_) rfl (by kernel_rfl) (by kernel_rfl) (by kernel_rfl) (fun _ _ _ h => h) (Or.inl ⟨by rfl, ?_⟩) (by assumption) ?_
  rotate_left
  · ((intro w hSw; (try dsimp only at hSw); go_simp); (try with_reducible rfl))
  try simp only [Act.put, List.setIfInBounds_toArray, List.set_cons_zero, List.set_cons_succ]
  refine wpAnyH_take (i := 29) (oi := ({ dst := some 84, op := Op.load 23 (Operand.tmp 4), type := 23, pos := "law.go:114", after := #[{ on := 28, ground := Ground.guard }], guard := some (28, true) } : Oper)) (v := undef) rfl (by kernel_rfl) (by kernel_rfl) (by kernel_rfl) (fun _ _ _ h => h) (Or.inr ⟨by rfl, rfl⟩) (by assumption) ?_
  try simp only [Act.put, List.setIfInBounds_toArray, List.set_cons_zero, List.set_cons_succ]
  refine wpAnyH_take (i := 30) (oi := ({ dst := some 85, op := Op.load 25 (Operand.tmp 9), type := 25, pos := "law.go:114", after := #[{ on := 28, ground := Ground.guard }], guard := some (28, true) } : Oper)) (v := undef) rfl (by kernel_rfl) (by kernel_rfl) (by kernel_rfl) (fun _ _ _ h => h) (Or.inr ⟨by rfl, rfl⟩) (by assumption) ?_
  try simp only [Act.put, List.setIfInBounds_toArray, List.set_cons_zero, List.set_cons_succ]
  refine wpAnyH_take (i := 31) (oi := ({ dst := some 86, op := Op.call { callee := Callee.value (Operand.func 18), args := #[Operand.tmp 84, Operand.tmp 85], argTypes := #[23, 25] }, type := 4, pos := "law.go:114", after := #[{ on := 29, ground := Ground.data }, { on := 30, ground := Ground.data }, { on := 28, ground := Ground.chain }, { on := 28, ground := Ground.guard }], guard := some (28, true) } : Oper)) (v := undef) rfl (by kernel_rfl) (by kernel_rfl) (by kernel_rfl) (fun _ _ _ h => h) (Or.inr ⟨by rfl, rfl⟩) (by assumption) ?_
  try simp only [Act.put, List.setIfInBounds_toArray, List.set_cons_zero, List.set_cons_succ]
  refine wpAnyH_take (i := 32) (oi := ({ dst := some 87, op := Op.unOp UnOp.not 4 (Operand.tmp 86), type := 4, pos := "law.go:114", after := #[{ on := 31, ground := Ground.data }, { on := 28, ground := Ground.guard }], guard := some (28, true) } : Oper)) (v := undef) rfl (by kernel_rfl) (by kernel_rfl) (by kernel_rfl) (fun _ _ _ h => h) (Or.inr ⟨by rfl, rfl⟩) (by assumption) ?_
  try simp only [Act.put, List.setIfInBounds_toArray, List.set_cons_zero, List.set_cons_succ]
  refine wpAnyH_take (i := 33) (oi := ({ dst := some 88, op := Op.pick (Operand.tmp 83) (Operand.tmp 87) (Operand.const (Value.bool false)), type := 4, pos := "law.go:114", after := #[{ on := 28, ground := Ground.data }, { on := 32, ground := Ground.data }, { on := 24, ground := Ground.guard }], guard := some (24, false) } : Oper)) (v := ?_) rfl (by kernel_rfl) (by kernel_rfl) (by kernel_rfl) (fun _ _ _ h => h) (Or.inl ⟨by rfl, ?_⟩) (by assumption) ?_
  rotate_left
  · ((intro w hSw; (try dsimp only at hSw); go_simp); (try with_reducible rfl))
  try simp only [Act.put, List.setIfInBounds_toArray, List.set_cons_zero, List.set_cons_succ]
  refine wpAnyH_take (i := 34) (oi := ({ dst := some 89, op := Op.pick (Operand.tmp 79) (Operand.const (Value.bool true)) (Operand.tmp 88), type := 4, pos := "law.go:114", after := #[{ on := 24, ground := Ground.data }, { on := 33, ground := Ground.data }], guard := none } : Oper)) (v := ?_) rfl (by kernel_rfl) (by kernel_rfl) (by kernel_rfl) (fun _ _ _ h => h) (Or.inl ⟨by rfl, ?_⟩) (by assumption) ?_
  rotate_left
  · ((intro w hSw; (try dsimp only at hSw); go_simp); (try with_reducible rfl))
  try simp only [Act.put, List.setIfInBounds_toArray, List.set_cons_zero, List.set_cons_succ]
  refine wpAnyH_done (by kernel_rfl) ?_ _
  have HH := hHeld
  clear g1 g2 g3 x1 x2 m1 m2 gl xl ml
  obtain ⟨B6, g1, g2, g3, x1, x2, -, -⟩ := HH
  go_wp2_with fail
  refine (Cn.out _).mono ?_
  rintro e8 w8 ⟨rfl, hb8⟩
  have B8 : Hid (Below W0.heap.size W0 w8) := Lib.hid (bstep B6.out hb8)
  obtain ⟨t1, t2, t3, t4, t5⟩ := keep5 hb8 ⟨g1, g2, g3, x1, x2⟩
  have tl1 := World.block_lt_of_cell? w8 _ t1
  have tl2 := World.block_lt_of_cell? w8 _ t4
  clear g1 g2 g3 x1 x2 hb8
  go_wp2
  go_ret
  exact ⟨rfl, B8.out.alloc B8.out.size _⟩
set_option maxHeartbeats 4000000 in
theorem within_unsure_bad (w p m a b c d n x y u1 u2 v1 v2 s e r f : Int) (W0 : World)
    (Cg : Hid (On2 a b c d x y 0)) (C1 : Hid (∀ W, Calls Try.prog 15 #[.agg #[.int .i64 w, .int .i64 p, .int .i64 m], .agg #[.int .i64 a, .int .i64 b]] W (MeetRes u1 u2 0 W))) (C2 : Hid (∀ W, Calls Try.prog 15 #[.agg #[.int .i64 w, .int .i64 p, .int .i64 m], .agg #[.int .i64 x, .int .i64 y]] W (MeetRes v1 v2 0 W))) (h1 : decide (v1 < u1) = false) (h2 : decide (u2 < v2) = false) (h3 : decide (v2 < v1) = false) (h4 : decide (u2 < u1) = false) (Ca : Hid (∀ W, Calls Try.prog 16 #[.agg #[.int .i64 w, .int .i64 p, .int .i64 m], .int .i64 a] W (Gives (.int .i64 u1) W))) (Cb : Hid (∀ W, Calls Try.prog 16 #[.agg #[.int .i64 w, .int .i64 p, .int .i64 m], .int .i64 b] W (Gives (.int .i64 u2) W))) (Cx : Hid (∀ W, Calls Try.prog 18 #[.agg #[.int .i64 w, .int .i64 p, .int .i64 m], .agg #[.int .i64 a, .int .i64 b]] W (Gives (.bool false) W))) (Cn : Hid (∀ W, Calls Try.prog 8 #[.int .i64 w, .int .i64 p, .int .i64 n] W (GridRes w p n 0 W))) (hl : decide (n < m) = false) (Cp : Hid (∀ W, Calls Try.prog 13 #[.agg #[.int .i64 w, .int .i64 p, .int .i64 m], .agg #[.int .i64 a, .int .i64 b]] W (Gives (.tuple #[.int .i64 s, .int .i64 e]) W))) (he : (e != 0) = true) (Cq : Hid (∀ W, Calls Try.prog 13 #[.agg #[.int .i64 w, .int .i64 p, .int .i64 n], .agg #[.int .i64 a, .int .i64 b]] W (Gives (.tuple #[.int .i64 r, .int .i64 f]) W))) :
    Calls Try.prog 6 #[.agg #[.int .i64 w, .int .i64 p, .int .i64 m], .agg #[.int .i64 a, .int .i64 b], .agg #[.int .i64 c, .int .i64 d], .int .i64 n] W0 fun e w' => e = .returned (.bool true) ∧ Below W0.heap.size W0 w' := by
  go_enter Try.func6, Try.ntmps6
  have B0 : Hid (Below W0.heap.size W0 W0) := Lib.hid (Below.refl W0.heap.size W0)
  go_wp2_with fail
  refine (alive_any _).mono ?_
  rintro e1 w1 ⟨rfl, hb1⟩
  have Kg : Hid (Kept w1 _ #[.int .i64 w, .int .i64 p, .int .i64 m] 23) := Lib.hid ((((Kept.new (w := W0) (cs := #[.int .i64 w, .int .i64 p, .int .i64 m]) (t := 23) rfl).alloc (.cells #[.int .i64 a, .int .i64 b] 25)).alloc (.cells #[.int .i64 c, .int .i64 d] 25)).next hb1)
  have Kx : Hid (Kept w1 _ #[.int .i64 a, .int .i64 b] 25) := Lib.hid (((Kept.new (w := (W0.alloc (.cells #[.int .i64 w, .int .i64 p, .int .i64 m] 23))) (g := W0.heap.size + 1) (cs := #[.int .i64 a, .int .i64 b]) (t := 25) (by simp)).alloc (.cells #[.int .i64 c, .int .i64 d] 25)).next hb1)
  have Ky : Hid (Kept w1 _ #[.int .i64 c, .int .i64 d] 25) := Lib.hid ((Kept.new (w := ((W0.alloc (.cells #[.int .i64 w, .int .i64 p, .int .i64 m] 23)).alloc (.cells #[.int .i64 a, .int .i64 b] 25))) (g := W0.heap.size + 2) (cs := #[.int .i64 c, .int .i64 d]) (t := 25) (by simp)).next hb1)
  have B1 : Hid (Below W0.heap.size W0 w1) := Lib.hid (bnext (((((((B0.out).alloc (by have := B0.out.size; first | omega | (simp <;> omega)) _)).alloc (by have := B0.out.size; first | omega | (simp <;> omega)) _)).alloc (by have := B0.out.size; first | omega | (simp <;> omega)) _)) (by have := B0.out.size; first | omega | (simp <;> omega)) hb1)
  clear hb1
  obtain ⟨x1, x2, -, -, xl⟩ := Kx.out.two
  obtain ⟨y1, y2, -, -, yl⟩ := Ky.out.two
  go_wp2_with fail
  refine (Cg.out.at_ _ _ (by exact Kept.new (by simp))).mono ?_
  rintro e2 w2 ⟨rfl, hb2⟩
  clear x1 x2 xl
  clear y1 y2 yl
  have Kg : Hid (Kept w2 _ _ _) := Lib.hid ((Kg.out.alloc _).next hb2)
  have Kx : Hid (Kept w2 _ _ _) := Lib.hid ((Kx.out.alloc _).next hb2)
  have Ky : Hid (Kept w2 _ _ _) := Lib.hid ((Ky.out.alloc _).next hb2)
  have B2 : Hid (Below W0.heap.size W0 w2) := Lib.hid (bnext (((B1.out).alloc (by have := B1.out.size; first | omega | (simp <;> omega)) _)) (by have := B1.out.size; first | omega | (simp <;> omega)) hb2)
  clear hb2
  obtain ⟨g1, g2, g3, -, -, -, gl⟩ := Kg.out.three
  obtain ⟨x1, x2, -, -, xl⟩ := Kx.out.two
  go_wp2_with fail
  refine (C1.out _).mono ?_
  rintro e3 w3 ⟨rfl, hb3⟩
  clear g1 g2 g3 gl
  clear x1 x2 xl
  have Kg : Hid (Kept w3 _ _ _) := Lib.hid ((Kg.out.alloc _).next hb3)
  have Kx : Hid (Kept w3 _ _ _) := Lib.hid ((Kx.out.alloc _).next hb3)
  have Km : Hid (Kept w3 _ #[.int .i64 x, .int .i64 y] 25) := Lib.hid ((Kept.new (w := w2) (cs := #[.int .i64 x, .int .i64 y]) (t := 25) rfl).next hb3)
  have B3 : Hid (Below W0.heap.size W0 w3) := Lib.hid (bnext (((B2.out).alloc (by have := B2.out.size; first | omega | (simp <;> omega)) _)) (by have := B2.out.size; first | omega | (simp <;> omega)) hb3)
  clear hb3
  obtain ⟨g1, g2, g3, -, -, -, gl⟩ := Kg.out.three
  obtain ⟨m1, m2, -, -, ml⟩ := Km.out.two
  go_wp2_with fail
  refine (C2.out _).mono ?_
  rintro e4 w4 ⟨rfl, hb4⟩
  clear g1 g2 g3 gl
  clear m1 m2 ml
  have Kg : Hid (Kept w4 _ _ _) := Lib.hid (Kg.out.next hb4)
  have Kx : Hid (Kept w4 _ _ _) := Lib.hid (Kx.out.next hb4)
  have Km : Hid (Kept w4 _ _ _) := Lib.hid (Km.out.next hb4)
  have B4 : Hid (Below W0.heap.size W0 w4) := Lib.hid (bnext (B3.out) (by have := B3.out.size; first | omega | (simp <;> omega)) hb4)
  clear hb4
  obtain ⟨g1, g2, g3, -, -, -, gl⟩ := Kg.out.three
  obtain ⟨x1, x2, -, -, xl⟩ := Kx.out.two
  obtain ⟨m1, m2, -, -, ml⟩ := Km.out.two
  go_wp2
  refine wp_region_held_drew (S := (fun w' => Hid (Below W0.heap.size W0 w') ∧ w'.cell? ⟨W0.heap.size, 0, none⟩ = some (.int .i64 w) ∧ w'.cell? ⟨W0.heap.size, 1, none⟩ = some (.int .i64 p) ∧ w'.cell? ⟨W0.heap.size, 2, none⟩ = some (.int .i64 m) ∧ w'.cell? ⟨W0.heap.size + 1, 0, none⟩ = some (.int .i64 a) ∧ w'.cell? ⟨W0.heap.size + 1, 1, none⟩ = some (.int .i64 b) ∧ w'.cell? ⟨w2.heap.size, 0, none⟩ = some (.int .i64 x) ∧ w'.cell? ⟨w2.heap.size, 1, none⟩ = some (.int .i64 y))) (by kernel_rfl) ⟨Lib.hid ⟨B4.out.os, B4.out.tape, B4.out.output, B4.out.size, B4.out.block⟩, g1, g2, g3, x1, x2, m1, m2⟩ (fun hHeld => ?_)
  refine wpAnyH_take (i := 0) (oi := ({ dst := some 55, op := Op.move (Operand.tmp 14), type := 2, pos := "law.go:114", after := #[], guard := none } : Oper)) (v := ?_) rfl (by kernel_rfl) (by kernel_rfl) (by kernel_rfl) (fun _ _ _ h => h) (Or.inl ⟨by rfl, ?_⟩) (by assumption) ?_
  rotate_left
  · ((intro w hSw; (try dsimp only at hSw); go_simp); (try with_reducible rfl))
  try simp only [Act.put, List.setIfInBounds_toArray, List.set_cons_zero, List.set_cons_succ]
  refine wpAnyH_take (i := 1) (oi := ({ dst := some 56, op := Op.move (Operand.tmp 11), type := 2, pos := "law.go:114", after := #[], guard := none } : Oper)) (v := ?_) rfl (by kernel_rfl) (by kernel_rfl) (by kernel_rfl) (fun _ _ _ h => h) (Or.inl ⟨by rfl, ?_⟩) (by assumption) ?_
  rotate_left
  · ((intro w hSw; (try dsimp only at hSw); go_simp); (try with_reducible rfl))
  try simp only [Act.put, List.setIfInBounds_toArray, List.set_cons_zero, List.set_cons_succ]
  refine wpAnyH_take (i := 2) (oi := ({ dst := some 57, op := Op.binOp BinOp.lss 2 (Operand.tmp 55) (Operand.tmp 56) 2, type := 4, pos := "law.go:114", after := #[{ on := 0, ground := Ground.data }, { on := 1, ground := Ground.data }], guard := none } : Oper)) (v := ?_) rfl (by kernel_rfl) (by kernel_rfl) (by kernel_rfl) (fun _ _ _ h => h) (Or.inl ⟨by rfl, ?_⟩) (by assumption) ?_
  rotate_left
  · ((intro w hSw; (try dsimp only at hSw); go_simp); (try with_reducible rfl))
  try simp only [Act.put, List.setIfInBounds_toArray, List.set_cons_zero, List.set_cons_succ]
  refine wpAnyH_take (i := 3) (oi := ({ dst := some 58, op := Op.move (Operand.tmp 57), type := 4, pos := "law.go:114", after := #[{ on := 2, ground := Ground.data }], guard := none } : Oper)) (v := ?_) rfl (by kernel_rfl) (by kernel_rfl) (by kernel_rfl) (fun _ _ _ h => h) (Or.inl ⟨by rfl, ?_⟩) (by assumption) ?_
  rotate_left
  · ((intro w hSw; (try dsimp only at hSw); go_simp); (try with_reducible rfl))
  try simp only [Act.put, List.setIfInBounds_toArray, List.set_cons_zero, List.set_cons_succ]
  refine wpAnyH_take (i := 4) (oi := ({ dst := some 59, op := Op.move (Operand.tmp 15), type := 2, pos := "law.go:114", after := #[{ on := 3, ground := Ground.guard }], guard := some (3, false) } : Oper)) (v := ?_) rfl (by kernel_rfl) (by kernel_rfl) (by kernel_rfl) (fun _ _ _ h => h) (Or.inl ⟨by rfl, ?_⟩) (by assumption) ?_
  rotate_left
  · ((intro w hSw; (try dsimp only at hSw); go_simp); (try with_reducible rfl))
  try simp only [Act.put, List.setIfInBounds_toArray, List.set_cons_zero, List.set_cons_succ]
  refine wpAnyH_take (i := 5) (oi := ({ dst := some 60, op := Op.move (Operand.tmp 12), type := 2, pos := "law.go:114", after := #[{ on := 3, ground := Ground.guard }], guard := some (3, false) } : Oper)) (v := ?_) rfl (by kernel_rfl) (by kernel_rfl) (by kernel_rfl) (fun _ _ _ h => h) (Or.inl ⟨by rfl, ?_⟩) (by assumption) ?_
  rotate_left
  · ((intro w hSw; (try dsimp only at hSw); go_simp); (try with_reducible rfl))
  try simp only [Act.put, List.setIfInBounds_toArray, List.set_cons_zero, List.set_cons_succ]
  refine wpAnyH_take (i := 6) (oi := ({ dst := some 61, op := Op.binOp BinOp.gtr 2 (Operand.tmp 59) (Operand.tmp 60) 2, type := 4, pos := "law.go:114", after := #[{ on := 4, ground := Ground.data }, { on := 5, ground := Ground.data }, { on := 3, ground := Ground.guard }], guard := some (3, false) } : Oper)) (v := ?_) rfl (by kernel_rfl) (by kernel_rfl) (by kernel_rfl) (fun _ _ _ h => h) (Or.inl ⟨by rfl, ?_⟩) (by assumption) ?_
  rotate_left
  · ((intro w hSw; (try dsimp only at hSw); go_simp); (try with_reducible rfl))
  try simp only [Act.put, List.setIfInBounds_toArray, List.set_cons_zero, List.set_cons_succ]
  refine wpAnyH_take (i := 7) (oi := ({ dst := some 62, op := Op.pick (Operand.tmp 58) (Operand.const (Value.bool true)) (Operand.tmp 61), type := 4, pos := "law.go:114", after := #[{ on := 3, ground := Ground.data }, { on := 6, ground := Ground.data }], guard := none } : Oper)) (v := ?_) rfl (by kernel_rfl) (by kernel_rfl) (by kernel_rfl) (fun _ _ _ h => h) (Or.inl ⟨by rfl, ?_⟩) (by assumption) ?_
  rotate_left
  · ((intro w hSw; (try dsimp only at hSw); go_simp); (try with_reducible rfl))
  try simp only [Act.put, List.setIfInBounds_toArray, List.set_cons_zero, List.set_cons_succ]
  refine wpAnyH_take (i := 8) (oi := ({ dst := some 63, op := Op.move (Operand.tmp 62), type := 4, pos := "law.go:114", after := #[{ on := 7, ground := Ground.data }, { on := 3, ground := Ground.chain }], guard := none } : Oper)) (v := ?_) rfl (by kernel_rfl) (by kernel_rfl) (by kernel_rfl) (fun _ _ _ h => h) (Or.inl ⟨by rfl, ?_⟩) (by assumption) ?_
  rotate_left
  · ((intro w hSw; (try dsimp only at hSw); go_simp); (try with_reducible rfl))
  try simp only [Act.put, List.setIfInBounds_toArray, List.set_cons_zero, List.set_cons_succ]
  refine wpAnyH_take (i := 9) (oi := ({ dst := some 64, op := Op.move (Operand.tmp 14), type := 2, pos := "law.go:114", after := #[{ on := 8, ground := Ground.guard }], guard := some (8, false) } : Oper)) (v := ?_) rfl (by kernel_rfl) (by kernel_rfl) (by kernel_rfl) (fun _ _ _ h => h) (Or.inl ⟨by rfl, ?_⟩) (by assumption) ?_
  rotate_left
  · ((intro w hSw; (try dsimp only at hSw); go_simp); (try with_reducible rfl))
  try simp only [Act.put, List.setIfInBounds_toArray, List.set_cons_zero, List.set_cons_succ]
  refine wpAnyH_take (i := 10) (oi := ({ dst := some 65, op := Op.move (Operand.tmp 15), type := 2, pos := "law.go:114", after := #[{ on := 8, ground := Ground.guard }], guard := some (8, false) } : Oper)) (v := ?_) rfl (by kernel_rfl) (by kernel_rfl) (by kernel_rfl) (fun _ _ _ h => h) (Or.inl ⟨by rfl, ?_⟩) (by assumption) ?_
  rotate_left
  · ((intro w hSw; (try dsimp only at hSw); go_simp); (try with_reducible rfl))
  try simp only [Act.put, List.setIfInBounds_toArray, List.set_cons_zero, List.set_cons_succ]
  refine wpAnyH_take (i := 11) (oi := ({ dst := some 66, op := Op.binOp BinOp.gtr 2 (Operand.tmp 64) (Operand.tmp 65) 2, type := 4, pos := "law.go:114", after := #[{ on := 9, ground := Ground.data }, { on := 10, ground := Ground.data }, { on := 8, ground := Ground.guard }], guard := some (8, false) } : Oper)) (v := ?_) rfl (by kernel_rfl) (by kernel_rfl) (by kernel_rfl) (fun _ _ _ h => h) (Or.inl ⟨by rfl, ?_⟩) (by assumption) ?_
  rotate_left
  · ((intro w hSw; (try dsimp only at hSw); go_simp); (try with_reducible rfl))
  try simp only [Act.put, List.setIfInBounds_toArray, List.set_cons_zero, List.set_cons_succ]
  refine wpAnyH_take (i := 12) (oi := ({ dst := some 67, op := Op.pick (Operand.tmp 63) (Operand.const (Value.bool true)) (Operand.tmp 66), type := 4, pos := "law.go:114", after := #[{ on := 8, ground := Ground.data }, { on := 11, ground := Ground.data }], guard := none } : Oper)) (v := ?_) rfl (by kernel_rfl) (by kernel_rfl) (by kernel_rfl) (fun _ _ _ h => h) (Or.inl ⟨by rfl, ?_⟩) (by assumption) ?_
  rotate_left
  · ((intro w hSw; (try dsimp only at hSw); go_simp); (try with_reducible rfl))
  try simp only [Act.put, List.setIfInBounds_toArray, List.set_cons_zero, List.set_cons_succ]
  refine wpAnyH_take (i := 13) (oi := ({ dst := some 68, op := Op.move (Operand.tmp 67), type := 4, pos := "law.go:114", after := #[{ on := 12, ground := Ground.data }, { on := 8, ground := Ground.chain }], guard := none } : Oper)) (v := ?_) rfl (by kernel_rfl) (by kernel_rfl) (by kernel_rfl) (fun _ _ _ h => h) (Or.inl ⟨by rfl, ?_⟩) (by assumption) ?_
  rotate_left
  · ((intro w hSw; (try dsimp only at hSw); go_simp); (try with_reducible rfl))
  try simp only [Act.put, List.setIfInBounds_toArray, List.set_cons_zero, List.set_cons_succ]
  refine wpAnyH_take (i := 14) (oi := ({ dst := some 69, op := Op.load 23 (Operand.tmp 4), type := 23, pos := "law.go:114", after := #[{ on := 13, ground := Ground.guard }], guard := some (13, false) } : Oper)) (v := ?_) rfl (by kernel_rfl) (by kernel_rfl) (by kernel_rfl) (fun _ _ _ h => h) (Or.inl ⟨by rfl, ?_⟩) (by assumption) ?_
  rotate_left
  · ((intro w hSw; (try dsimp only at hSw); go_simp); (try with_reducible rfl))
  try simp only [Act.put, List.setIfInBounds_toArray, List.set_cons_zero, List.set_cons_succ]
  refine wpAnyH_take (i := 15) (oi := ({ dst := some 70, op := Op.fieldAddr 25 (Operand.tmp 5) 0, type := 0, pos := "law.go:114", after := #[{ on := 13, ground := Ground.guard }], guard := some (13, false) } : Oper)) (v := ?_) rfl (by kernel_rfl) (by kernel_rfl) (by kernel_rfl) (fun _ _ _ h => h) (Or.inl ⟨by rfl, ?_⟩) (by assumption) ?_
  rotate_left
  · ((intro w hSw; (try dsimp only at hSw); go_simp); (try with_reducible rfl))
  try simp only [Act.put, List.setIfInBounds_toArray, List.set_cons_zero, List.set_cons_succ]
  refine wpAnyH_take (i := 16) (oi := ({ dst := some 71, op := Op.load 2 (Operand.tmp 70), type := 2, pos := "law.go:114", after := #[{ on := 15, ground := Ground.data }, { on := 13, ground := Ground.guard }], guard := some (13, false) } : Oper)) (v := ?_) rfl (by kernel_rfl) (by kernel_rfl) (by kernel_rfl) (fun _ _ _ h => h) (Or.inl ⟨by rfl, ?_⟩) (by assumption) ?_
  rotate_left
  · ((intro w hSw; (try dsimp only at hSw); go_simp); (try with_reducible rfl))
  try simp only [Act.put, List.setIfInBounds_toArray, List.set_cons_zero, List.set_cons_succ]
  refine wpAnyH_take (i := 18) (oi := ({ dst := some 73, op := Op.load 23 (Operand.tmp 4), type := 23, pos := "law.go:114", after := #[{ on := 13, ground := Ground.guard }], guard := some (13, false) } : Oper)) (v := ?_) rfl (by kernel_rfl) (by kernel_rfl) (by kernel_rfl) (fun _ _ _ h => h) (Or.inl ⟨by rfl, ?_⟩) (by assumption) ?_
  rotate_left
  · ((intro w hSw; (try dsimp only at hSw); go_simp); (try with_reducible rfl))
  try simp only [Act.put, List.setIfInBounds_toArray, List.set_cons_zero, List.set_cons_succ]
  refine wpAnyH_take (i := 19) (oi := ({ dst := some 74, op := Op.fieldAddr 25 (Operand.tmp 5) 1, type := 0, pos := "law.go:114", after := #[{ on := 13, ground := Ground.guard }], guard := some (13, false) } : Oper)) (v := ?_) rfl (by kernel_rfl) (by kernel_rfl) (by kernel_rfl) (fun _ _ _ h => h) (Or.inl ⟨by rfl, ?_⟩) (by assumption) ?_
  rotate_left
  · ((intro w hSw; (try dsimp only at hSw); go_simp); (try with_reducible rfl))
  try simp only [Act.put, List.setIfInBounds_toArray, List.set_cons_zero, List.set_cons_succ]
  refine wpAnyH_take (i := 20) (oi := ({ dst := some 75, op := Op.load 2 (Operand.tmp 74), type := 2, pos := "law.go:114", after := #[{ on := 19, ground := Ground.data }, { on := 13, ground := Ground.guard }], guard := some (13, false) } : Oper)) (v := ?_) rfl (by kernel_rfl) (by kernel_rfl) (by kernel_rfl) (fun _ _ _ h => h) (Or.inl ⟨by rfl, ?_⟩) (by assumption) ?_
  rotate_left
  · ((intro w hSw; (try dsimp only at hSw); go_simp); (try with_reducible rfl))
  try simp only [Act.put, List.setIfInBounds_toArray, List.set_cons_zero, List.set_cons_succ]
  refine wpAnyH_ready (rs := [17]) (by kernel_rfl) (by simp) ?_
  refine AllReadyH.cons (o := ({ dst := some 72, op := Op.call { callee := Callee.value (Operand.func 16), args := #[Operand.tmp 69, Operand.tmp 71], argTypes := #[23, 2] }, type := 2, pos := "law.go:114", after := #[{ on := 14, ground := Ground.data }, { on := 16, ground := Ground.data }, { on := 13, ground := Ground.chain }, { on := 13, ground := Ground.guard }], guard := some (13, false) } : Oper)) rfl (fun K hK => ?_) AllReadyH.nil
  go_simp
  (with_reducible refine (Ca.out _).mono ?_)
  rintro e w7 ⟨rfl, hb7⟩
  refine hK.out _ _ ?_ (fun hHeld => ?_)
  · exact keepB7 hb7 hHeld
  clear hK K
  try simp only [Act.put, List.setIfInBounds_toArray, List.set_cons_zero, List.set_cons_succ]
  refine wpAnyH_ready (rs := [21]) (by kernel_rfl) (by simp) ?_
  refine AllReadyH.cons (o := ({ dst := some 76, op := Op.call { callee := Callee.value (Operand.func 16), args := #[Operand.tmp 73, Operand.tmp 75], argTypes := #[23, 2] }, type := 2, pos := "law.go:114", after := #[{ on := 18, ground := Ground.data }, { on := 20, ground := Ground.data }, { on := 17, ground := Ground.chain }, { on := 13, ground := Ground.guard }], guard := some (13, false) } : Oper)) rfl (fun K hK => ?_) AllReadyH.nil
  go_simp
  (with_reducible refine (Cb.out _).mono ?_)
  rintro e w7 ⟨rfl, hb7⟩
  refine hK.out _ _ ?_ (fun hHeld => ?_)
  · exact keepB7 hb7 hHeld
  clear hK K
  try simp only [Act.put, List.setIfInBounds_toArray, List.set_cons_zero, List.set_cons_succ]
  refine wpAnyH_take (i := 22) (oi := ({ dst := some 77, op := Op.binOp BinOp.gtr 2 (Operand.tmp 72) (Operand.tmp 76) 2, type := 4, pos := "law.go:114", after := #[{ on := 17, ground := Ground.data }, { on := 21, ground := Ground.data }, { on := 13, ground := Ground.guard }], guard := some (13, false) } : Oper)) (v := ?_) rfl (by kernel_rfl) (by kernel_rfl) (by kernel_rfl) (fun _ _ _ h => h) (Or.inl ⟨by rfl, ?_⟩) (by assumption) ?_
  rotate_left
  · ((intro w hSw; (try dsimp only at hSw); go_simp); (try with_reducible rfl))
  try simp only [Act.put, List.setIfInBounds_toArray, List.set_cons_zero, List.set_cons_succ]
  refine wpAnyH_take (i := 23) (oi := ({ dst := some 78, op := Op.pick (Operand.tmp 68) (Operand.const (Value.bool true)) (Operand.tmp 77), type := 4, pos := "law.go:114", after := #[{ on := 13, ground := Ground.data }, { on := 22, ground := Ground.data }], guard := none } : Oper)) (v := ?_) rfl (by kernel_rfl) (by kernel_rfl) (by kernel_rfl) (fun _ _ _ h => h) (Or.inl ⟨by rfl, ?_⟩) (by assumption) ?_
  rotate_left
  · ((intro w hSw; (try dsimp only at hSw); go_simp); (try with_reducible rfl))
  try simp only [Act.put, List.setIfInBounds_toArray, List.set_cons_zero, List.set_cons_succ]
  refine wpAnyH_take (i := 24) (oi := ({ dst := some 79, op := Op.move (Operand.tmp 78), type := 4, pos := "law.go:114", after := #[{ on := 23, ground := Ground.data }, { on := 21, ground := Ground.chain }], guard := none } : Oper)) (v := ?_) rfl (by kernel_rfl) (by kernel_rfl) (by kernel_rfl) (fun _ _ _ h => h) (Or.inl ⟨by rfl, ?_⟩) (by assumption) ?_
  rotate_left
  · ((intro w hSw; (try dsimp only at hSw); go_simp); (try with_reducible rfl))
  try simp only [Act.put, List.setIfInBounds_toArray, List.set_cons_zero, List.set_cons_succ]
  refine wpAnyH_take (i := 25) (oi := ({ dst := some 80, op := Op.load 23 (Operand.tmp 4), type := 23, pos := "law.go:114", after := #[{ on := 24, ground := Ground.guard }], guard := some (24, false) } : Oper)) (v := ?_) rfl (by kernel_rfl) (by kernel_rfl) (by kernel_rfl) (fun _ _ _ h => h) (Or.inl ⟨by rfl, ?_⟩) (by assumption) ?_
  rotate_left
  · ((intro w hSw; (try dsimp only at hSw); go_simp); (try with_reducible rfl))
  try simp only [Act.put, List.setIfInBounds_toArray, List.set_cons_zero, List.set_cons_succ]
  refine wpAnyH_take (i := 26) (oi := ({ dst := some 81, op := Op.load 25 (Operand.tmp 5), type := 25, pos := "law.go:114", after := #[{ on := 24, ground := Ground.guard }], guard := some (24, false) } : Oper)) (v := ?_) rfl (by kernel_rfl) (by kernel_rfl) (by kernel_rfl) (fun _ _ _ h => h) (Or.inl ⟨by rfl, ?_⟩) (by assumption) ?_
  rotate_left
  · ((intro w hSw; (try dsimp only at hSw); go_simp); (try with_reducible rfl))
  try simp only [Act.put, List.setIfInBounds_toArray, List.set_cons_zero, List.set_cons_succ]
  refine wpAnyH_ready (rs := [27]) (by kernel_rfl) (by simp) ?_
  refine AllReadyH.cons (o := ({ dst := some 82, op := Op.call { callee := Callee.value (Operand.func 18), args := #[Operand.tmp 80, Operand.tmp 81], argTypes := #[23, 25] }, type := 4, pos := "law.go:114", after := #[{ on := 25, ground := Ground.data }, { on := 26, ground := Ground.data }, { on := 24, ground := Ground.chain }, { on := 24, ground := Ground.guard }], guard := some (24, false) } : Oper)) rfl (fun K hK => ?_) AllReadyH.nil
  go_simp
  (with_reducible refine (Cx.out _).mono ?_)
  rintro e w7 ⟨rfl, hb7⟩
  refine hK.out _ _ ?_ (fun hHeld => ?_)
  · exact keepB7 hb7 hHeld
  clear hK K
  try simp only [Act.put, List.setIfInBounds_toArray, List.set_cons_zero, List.set_cons_succ]
  refine wpAnyH_take (i := 28) (oi := ({ dst := some 83, op := Op.move (Operand.tmp 82), type := 4, pos := "law.go:114", after := #[{ on := 27, ground := Ground.data }, { on := 27, ground := Ground.chain }, { on := 24, ground := Ground.guard }], guard := some (24, false) } : Oper)) (v := ?_) rfl (by kernel_rfl) (by kernel_rfl) (by kernel_rfl) (fun _ _ _ h => h) (Or.inl ⟨by rfl, ?_⟩) (by assumption) ?_
  rotate_left
  · ((intro w hSw; (try dsimp only at hSw); go_simp); (try with_reducible rfl))
  try simp only [Act.put, List.setIfInBounds_toArray, List.set_cons_zero, List.set_cons_succ]
  refine wpAnyH_take (i := 29) (oi := ({ dst := some 84, op := Op.load 23 (Operand.tmp 4), type := 23, pos := "law.go:114", after := #[{ on := 28, ground := Ground.guard }], guard := some (28, true) } : Oper)) (v := undef) rfl (by kernel_rfl) (by kernel_rfl) (by kernel_rfl) (fun _ _ _ h => h) (Or.inr ⟨by rfl, rfl⟩) (by assumption) ?_
  try simp only [Act.put, List.setIfInBounds_toArray, List.set_cons_zero, List.set_cons_succ]
  refine wpAnyH_take (i := 30) (oi := ({ dst := some 85, op := Op.load 25 (Operand.tmp 9), type := 25, pos := "law.go:114", after := #[{ on := 28, ground := Ground.guard }], guard := some (28, true) } : Oper)) (v := undef) rfl (by kernel_rfl) (by kernel_rfl) (by kernel_rfl) (fun _ _ _ h => h) (Or.inr ⟨by rfl, rfl⟩) (by assumption) ?_
  try simp only [Act.put, List.setIfInBounds_toArray, List.set_cons_zero, List.set_cons_succ]
  refine wpAnyH_take (i := 31) (oi := ({ dst := some 86, op := Op.call { callee := Callee.value (Operand.func 18), args := #[Operand.tmp 84, Operand.tmp 85], argTypes := #[23, 25] }, type := 4, pos := "law.go:114", after := #[{ on := 29, ground := Ground.data }, { on := 30, ground := Ground.data }, { on := 28, ground := Ground.chain }, { on := 28, ground := Ground.guard }], guard := some (28, true) } : Oper)) (v := undef) rfl (by kernel_rfl) (by kernel_rfl) (by kernel_rfl) (fun _ _ _ h => h) (Or.inr ⟨by rfl, rfl⟩) (by assumption) ?_
  try simp only [Act.put, List.setIfInBounds_toArray, List.set_cons_zero, List.set_cons_succ]
  refine wpAnyH_take (i := 32) (oi := ({ dst := some 87, op := Op.unOp UnOp.not 4 (Operand.tmp 86), type := 4, pos := "law.go:114", after := #[{ on := 31, ground := Ground.data }, { on := 28, ground := Ground.guard }], guard := some (28, true) } : Oper)) (v := undef) rfl (by kernel_rfl) (by kernel_rfl) (by kernel_rfl) (fun _ _ _ h => h) (Or.inr ⟨by rfl, rfl⟩) (by assumption) ?_
  try simp only [Act.put, List.setIfInBounds_toArray, List.set_cons_zero, List.set_cons_succ]
  refine wpAnyH_take (i := 33) (oi := ({ dst := some 88, op := Op.pick (Operand.tmp 83) (Operand.tmp 87) (Operand.const (Value.bool false)), type := 4, pos := "law.go:114", after := #[{ on := 28, ground := Ground.data }, { on := 32, ground := Ground.data }, { on := 24, ground := Ground.guard }], guard := some (24, false) } : Oper)) (v := ?_) rfl (by kernel_rfl) (by kernel_rfl) (by kernel_rfl) (fun _ _ _ h => h) (Or.inl ⟨by rfl, ?_⟩) (by assumption) ?_
  rotate_left
  · ((intro w hSw; (try dsimp only at hSw); go_simp); (try with_reducible rfl))
  try simp only [Act.put, List.setIfInBounds_toArray, List.set_cons_zero, List.set_cons_succ]
  refine wpAnyH_take (i := 34) (oi := ({ dst := some 89, op := Op.pick (Operand.tmp 79) (Operand.const (Value.bool true)) (Operand.tmp 88), type := 4, pos := "law.go:114", after := #[{ on := 24, ground := Ground.data }, { on := 33, ground := Ground.data }], guard := none } : Oper)) (v := ?_) rfl (by kernel_rfl) (by kernel_rfl) (by kernel_rfl) (fun _ _ _ h => h) (Or.inl ⟨by rfl, ?_⟩) (by assumption) ?_
  rotate_left
  · ((intro w hSw; (try dsimp only at hSw); go_simp); (try with_reducible rfl))
  try simp only [Act.put, List.setIfInBounds_toArray, List.set_cons_zero, List.set_cons_succ]
  refine wpAnyH_done (by kernel_rfl) ?_ _
  have HH := hHeld
  clear g1 g2 g3 x1 x2 m1 m2 gl xl ml
  obtain ⟨B6, g1, g2, g3, x1, x2, -, -⟩ := HH
  go_wp2_with fail
  refine (Cn.out _).mono ?_
  rintro e8 w8 ⟨rfl, hb8⟩
  have B8 : Hid (Below W0.heap.size W0 w8) := Lib.hid (bstep B6.out hb8)
  obtain ⟨t1, t2, t3, t4, t5⟩ := keep5 hb8 ⟨g1, g2, g3, x1, x2⟩
  have tl1 := World.block_lt_of_cell? w8 _ t1
  have tl2 := World.block_lt_of_cell? w8 _ t4
  clear g1 g2 g3 x1 x2 hb8
  go_wp2_with fail
  refine (Cp.out _).mono ?_
  rintro e9 w9 ⟨rfl, hb9⟩
  have B9 : Hid (Below W0.heap.size W0 w9) := Lib.hid (bstep (B8.out.alloc B8.out.size _) hb9)
  have KN := (Kept.new (w := w8) (cs := #[.int .i64 w, .int .i64 p, .int .i64 n]) (t := 23) rfl).next hb9
  obtain ⟨n1, n2, n3, -, -, -, nl⟩ := KN.three
  have y4 := keep1 hb9 ((keep1 (one_alloc w8 _) t4))
  have y5 := keep1 hb9 ((keep1 (one_alloc w8 _) t5))
  clear t1 t2 t3 t4 t5 hb9 KN
  go_wp2_with fail
  refine (Cq.out _).mono ?_
  rintro e10 w10 ⟨rfl, hb10⟩
  have B10 : Hid (Below W0.heap.size W0 w10) := Lib.hid (bstep B9.out hb10)
  clear hb10 n1 n2 n3 y4 y5
  go_wp2
  go_ret
  exact ⟨rfl, B10.out⟩
set_option maxHeartbeats 4000000 in
theorem within_unsure_good (w p m a b c d n x y u1 u2 v1 v2 s : Int) (W0 : World)
    (Cg : Hid (On2 a b c d x y 0)) (C1 : Hid (∀ W, Calls Try.prog 15 #[.agg #[.int .i64 w, .int .i64 p, .int .i64 m], .agg #[.int .i64 a, .int .i64 b]] W (MeetRes u1 u2 0 W))) (C2 : Hid (∀ W, Calls Try.prog 15 #[.agg #[.int .i64 w, .int .i64 p, .int .i64 m], .agg #[.int .i64 x, .int .i64 y]] W (MeetRes v1 v2 0 W))) (h1 : decide (v1 < u1) = false) (h2 : decide (u2 < v2) = false) (h3 : decide (v2 < v1) = false) (h4 : decide (u2 < u1) = false) (Ca : Hid (∀ W, Calls Try.prog 16 #[.agg #[.int .i64 w, .int .i64 p, .int .i64 m], .int .i64 a] W (Gives (.int .i64 u1) W))) (Cb : Hid (∀ W, Calls Try.prog 16 #[.agg #[.int .i64 w, .int .i64 p, .int .i64 m], .int .i64 b] W (Gives (.int .i64 u2) W))) (Cx : Hid (∀ W, Calls Try.prog 18 #[.agg #[.int .i64 w, .int .i64 p, .int .i64 m], .agg #[.int .i64 a, .int .i64 b]] W (Gives (.bool false) W))) (Cn : Hid (∀ W, Calls Try.prog 8 #[.int .i64 w, .int .i64 p, .int .i64 n] W (GridRes w p n 0 W))) (hl : decide (n < m) = false) (Cp : Hid (∀ W, Calls Try.prog 13 #[.agg #[.int .i64 w, .int .i64 p, .int .i64 m], .agg #[.int .i64 a, .int .i64 b]] W (Gives (.tuple #[.int .i64 s, .int .i64 0]) W))) (Cq : Hid (∀ W, Calls Try.prog 13 #[.agg #[.int .i64 w, .int .i64 p, .int .i64 n], .agg #[.int .i64 a, .int .i64 b]] W (Gives (.tuple #[.int .i64 s, .int .i64 0]) W))) :
    Calls Try.prog 6 #[.agg #[.int .i64 w, .int .i64 p, .int .i64 m], .agg #[.int .i64 a, .int .i64 b], .agg #[.int .i64 c, .int .i64 d], .int .i64 n] W0 fun e w' => e = .returned (.bool true) ∧ Below W0.heap.size W0 w' := by
  go_enter Try.func6, Try.ntmps6
  have B0 : Hid (Below W0.heap.size W0 W0) := Lib.hid (Below.refl W0.heap.size W0)
  go_wp2_with fail
  refine (alive_any _).mono ?_
  rintro e1 w1 ⟨rfl, hb1⟩
  have Kg : Hid (Kept w1 _ #[.int .i64 w, .int .i64 p, .int .i64 m] 23) := Lib.hid ((((Kept.new (w := W0) (cs := #[.int .i64 w, .int .i64 p, .int .i64 m]) (t := 23) rfl).alloc (.cells #[.int .i64 a, .int .i64 b] 25)).alloc (.cells #[.int .i64 c, .int .i64 d] 25)).next hb1)
  have Kx : Hid (Kept w1 _ #[.int .i64 a, .int .i64 b] 25) := Lib.hid (((Kept.new (w := (W0.alloc (.cells #[.int .i64 w, .int .i64 p, .int .i64 m] 23))) (g := W0.heap.size + 1) (cs := #[.int .i64 a, .int .i64 b]) (t := 25) (by simp)).alloc (.cells #[.int .i64 c, .int .i64 d] 25)).next hb1)
  have Ky : Hid (Kept w1 _ #[.int .i64 c, .int .i64 d] 25) := Lib.hid ((Kept.new (w := ((W0.alloc (.cells #[.int .i64 w, .int .i64 p, .int .i64 m] 23)).alloc (.cells #[.int .i64 a, .int .i64 b] 25))) (g := W0.heap.size + 2) (cs := #[.int .i64 c, .int .i64 d]) (t := 25) (by simp)).next hb1)
  have B1 : Hid (Below W0.heap.size W0 w1) := Lib.hid (bnext (((((((B0.out).alloc (by have := B0.out.size; first | omega | (simp <;> omega)) _)).alloc (by have := B0.out.size; first | omega | (simp <;> omega)) _)).alloc (by have := B0.out.size; first | omega | (simp <;> omega)) _)) (by have := B0.out.size; first | omega | (simp <;> omega)) hb1)
  clear hb1
  obtain ⟨x1, x2, -, -, xl⟩ := Kx.out.two
  obtain ⟨y1, y2, -, -, yl⟩ := Ky.out.two
  go_wp2_with fail
  refine (Cg.out.at_ _ _ (by exact Kept.new (by simp))).mono ?_
  rintro e2 w2 ⟨rfl, hb2⟩
  clear x1 x2 xl
  clear y1 y2 yl
  have Kg : Hid (Kept w2 _ _ _) := Lib.hid ((Kg.out.alloc _).next hb2)
  have Kx : Hid (Kept w2 _ _ _) := Lib.hid ((Kx.out.alloc _).next hb2)
  have Ky : Hid (Kept w2 _ _ _) := Lib.hid ((Ky.out.alloc _).next hb2)
  have B2 : Hid (Below W0.heap.size W0 w2) := Lib.hid (bnext (((B1.out).alloc (by have := B1.out.size; first | omega | (simp <;> omega)) _)) (by have := B1.out.size; first | omega | (simp <;> omega)) hb2)
  clear hb2
  obtain ⟨g1, g2, g3, -, -, -, gl⟩ := Kg.out.three
  obtain ⟨x1, x2, -, -, xl⟩ := Kx.out.two
  go_wp2_with fail
  refine (C1.out _).mono ?_
  rintro e3 w3 ⟨rfl, hb3⟩
  clear g1 g2 g3 gl
  clear x1 x2 xl
  have Kg : Hid (Kept w3 _ _ _) := Lib.hid ((Kg.out.alloc _).next hb3)
  have Kx : Hid (Kept w3 _ _ _) := Lib.hid ((Kx.out.alloc _).next hb3)
  have Km : Hid (Kept w3 _ #[.int .i64 x, .int .i64 y] 25) := Lib.hid ((Kept.new (w := w2) (cs := #[.int .i64 x, .int .i64 y]) (t := 25) rfl).next hb3)
  have B3 : Hid (Below W0.heap.size W0 w3) := Lib.hid (bnext (((B2.out).alloc (by have := B2.out.size; first | omega | (simp <;> omega)) _)) (by have := B2.out.size; first | omega | (simp <;> omega)) hb3)
  clear hb3
  obtain ⟨g1, g2, g3, -, -, -, gl⟩ := Kg.out.three
  obtain ⟨m1, m2, -, -, ml⟩ := Km.out.two
  go_wp2_with fail
  refine (C2.out _).mono ?_
  rintro e4 w4 ⟨rfl, hb4⟩
  clear g1 g2 g3 gl
  clear m1 m2 ml
  have Kg : Hid (Kept w4 _ _ _) := Lib.hid (Kg.out.next hb4)
  have Kx : Hid (Kept w4 _ _ _) := Lib.hid (Kx.out.next hb4)
  have Km : Hid (Kept w4 _ _ _) := Lib.hid (Km.out.next hb4)
  have B4 : Hid (Below W0.heap.size W0 w4) := Lib.hid (bnext (B3.out) (by have := B3.out.size; first | omega | (simp <;> omega)) hb4)
  clear hb4
  obtain ⟨g1, g2, g3, -, -, -, gl⟩ := Kg.out.three
  obtain ⟨x1, x2, -, -, xl⟩ := Kx.out.two
  obtain ⟨m1, m2, -, -, ml⟩ := Km.out.two
  go_wp2
  refine wp_region_held_drew (S := (fun w' => Hid (Below W0.heap.size W0 w') ∧ w'.cell? ⟨W0.heap.size, 0, none⟩ = some (.int .i64 w) ∧ w'.cell? ⟨W0.heap.size, 1, none⟩ = some (.int .i64 p) ∧ w'.cell? ⟨W0.heap.size, 2, none⟩ = some (.int .i64 m) ∧ w'.cell? ⟨W0.heap.size + 1, 0, none⟩ = some (.int .i64 a) ∧ w'.cell? ⟨W0.heap.size + 1, 1, none⟩ = some (.int .i64 b) ∧ w'.cell? ⟨w2.heap.size, 0, none⟩ = some (.int .i64 x) ∧ w'.cell? ⟨w2.heap.size, 1, none⟩ = some (.int .i64 y))) (by kernel_rfl) ⟨Lib.hid ⟨B4.out.os, B4.out.tape, B4.out.output, B4.out.size, B4.out.block⟩, g1, g2, g3, x1, x2, m1, m2⟩ (fun hHeld => ?_)
  refine wpAnyH_take (i := 0) (oi := ({ dst := some 55, op := Op.move (Operand.tmp 14), type := 2, pos := "law.go:114", after := #[], guard := none } : Oper)) (v := ?_) rfl (by kernel_rfl) (by kernel_rfl) (by kernel_rfl) (fun _ _ _ h => h) (Or.inl ⟨by rfl, ?_⟩) (by assumption) ?_
  rotate_left
  · ((intro w hSw; (try dsimp only at hSw); go_simp); (try with_reducible rfl))
  try simp only [Act.put, List.setIfInBounds_toArray, List.set_cons_zero, List.set_cons_succ]
  refine wpAnyH_take (i := 1) (oi := ({ dst := some 56, op := Op.move (Operand.tmp 11), type := 2, pos := "law.go:114", after := #[], guard := none } : Oper)) (v := ?_) rfl (by kernel_rfl) (by kernel_rfl) (by kernel_rfl) (fun _ _ _ h => h) (Or.inl ⟨by rfl, ?_⟩) (by assumption) ?_
  rotate_left
  · ((intro w hSw; (try dsimp only at hSw); go_simp); (try with_reducible rfl))
  try simp only [Act.put, List.setIfInBounds_toArray, List.set_cons_zero, List.set_cons_succ]
  refine wpAnyH_take (i := 2) (oi := ({ dst := some 57, op := Op.binOp BinOp.lss 2 (Operand.tmp 55) (Operand.tmp 56) 2, type := 4, pos := "law.go:114", after := #[{ on := 0, ground := Ground.data }, { on := 1, ground := Ground.data }], guard := none } : Oper)) (v := ?_) rfl (by kernel_rfl) (by kernel_rfl) (by kernel_rfl) (fun _ _ _ h => h) (Or.inl ⟨by rfl, ?_⟩) (by assumption) ?_
  rotate_left
  · ((intro w hSw; (try dsimp only at hSw); go_simp); (try with_reducible rfl))
  try simp only [Act.put, List.setIfInBounds_toArray, List.set_cons_zero, List.set_cons_succ]
  refine wpAnyH_take (i := 3) (oi := ({ dst := some 58, op := Op.move (Operand.tmp 57), type := 4, pos := "law.go:114", after := #[{ on := 2, ground := Ground.data }], guard := none } : Oper)) (v := ?_) rfl (by kernel_rfl) (by kernel_rfl) (by kernel_rfl) (fun _ _ _ h => h) (Or.inl ⟨by rfl, ?_⟩) (by assumption) ?_
  rotate_left
  · ((intro w hSw; (try dsimp only at hSw); go_simp); (try with_reducible rfl))
  try simp only [Act.put, List.setIfInBounds_toArray, List.set_cons_zero, List.set_cons_succ]
  refine wpAnyH_take (i := 4) (oi := ({ dst := some 59, op := Op.move (Operand.tmp 15), type := 2, pos := "law.go:114", after := #[{ on := 3, ground := Ground.guard }], guard := some (3, false) } : Oper)) (v := ?_) rfl (by kernel_rfl) (by kernel_rfl) (by kernel_rfl) (fun _ _ _ h => h) (Or.inl ⟨by rfl, ?_⟩) (by assumption) ?_
  rotate_left
  · ((intro w hSw; (try dsimp only at hSw); go_simp); (try with_reducible rfl))
  try simp only [Act.put, List.setIfInBounds_toArray, List.set_cons_zero, List.set_cons_succ]
  refine wpAnyH_take (i := 5) (oi := ({ dst := some 60, op := Op.move (Operand.tmp 12), type := 2, pos := "law.go:114", after := #[{ on := 3, ground := Ground.guard }], guard := some (3, false) } : Oper)) (v := ?_) rfl (by kernel_rfl) (by kernel_rfl) (by kernel_rfl) (fun _ _ _ h => h) (Or.inl ⟨by rfl, ?_⟩) (by assumption) ?_
  rotate_left
  · ((intro w hSw; (try dsimp only at hSw); go_simp); (try with_reducible rfl))
  try simp only [Act.put, List.setIfInBounds_toArray, List.set_cons_zero, List.set_cons_succ]
  refine wpAnyH_take (i := 6) (oi := ({ dst := some 61, op := Op.binOp BinOp.gtr 2 (Operand.tmp 59) (Operand.tmp 60) 2, type := 4, pos := "law.go:114", after := #[{ on := 4, ground := Ground.data }, { on := 5, ground := Ground.data }, { on := 3, ground := Ground.guard }], guard := some (3, false) } : Oper)) (v := ?_) rfl (by kernel_rfl) (by kernel_rfl) (by kernel_rfl) (fun _ _ _ h => h) (Or.inl ⟨by rfl, ?_⟩) (by assumption) ?_
  rotate_left
  · ((intro w hSw; (try dsimp only at hSw); go_simp); (try with_reducible rfl))
  try simp only [Act.put, List.setIfInBounds_toArray, List.set_cons_zero, List.set_cons_succ]
  refine wpAnyH_take (i := 7) (oi := ({ dst := some 62, op := Op.pick (Operand.tmp 58) (Operand.const (Value.bool true)) (Operand.tmp 61), type := 4, pos := "law.go:114", after := #[{ on := 3, ground := Ground.data }, { on := 6, ground := Ground.data }], guard := none } : Oper)) (v := ?_) rfl (by kernel_rfl) (by kernel_rfl) (by kernel_rfl) (fun _ _ _ h => h) (Or.inl ⟨by rfl, ?_⟩) (by assumption) ?_
  rotate_left
  · ((intro w hSw; (try dsimp only at hSw); go_simp); (try with_reducible rfl))
  try simp only [Act.put, List.setIfInBounds_toArray, List.set_cons_zero, List.set_cons_succ]
  refine wpAnyH_take (i := 8) (oi := ({ dst := some 63, op := Op.move (Operand.tmp 62), type := 4, pos := "law.go:114", after := #[{ on := 7, ground := Ground.data }, { on := 3, ground := Ground.chain }], guard := none } : Oper)) (v := ?_) rfl (by kernel_rfl) (by kernel_rfl) (by kernel_rfl) (fun _ _ _ h => h) (Or.inl ⟨by rfl, ?_⟩) (by assumption) ?_
  rotate_left
  · ((intro w hSw; (try dsimp only at hSw); go_simp); (try with_reducible rfl))
  try simp only [Act.put, List.setIfInBounds_toArray, List.set_cons_zero, List.set_cons_succ]
  refine wpAnyH_take (i := 9) (oi := ({ dst := some 64, op := Op.move (Operand.tmp 14), type := 2, pos := "law.go:114", after := #[{ on := 8, ground := Ground.guard }], guard := some (8, false) } : Oper)) (v := ?_) rfl (by kernel_rfl) (by kernel_rfl) (by kernel_rfl) (fun _ _ _ h => h) (Or.inl ⟨by rfl, ?_⟩) (by assumption) ?_
  rotate_left
  · ((intro w hSw; (try dsimp only at hSw); go_simp); (try with_reducible rfl))
  try simp only [Act.put, List.setIfInBounds_toArray, List.set_cons_zero, List.set_cons_succ]
  refine wpAnyH_take (i := 10) (oi := ({ dst := some 65, op := Op.move (Operand.tmp 15), type := 2, pos := "law.go:114", after := #[{ on := 8, ground := Ground.guard }], guard := some (8, false) } : Oper)) (v := ?_) rfl (by kernel_rfl) (by kernel_rfl) (by kernel_rfl) (fun _ _ _ h => h) (Or.inl ⟨by rfl, ?_⟩) (by assumption) ?_
  rotate_left
  · ((intro w hSw; (try dsimp only at hSw); go_simp); (try with_reducible rfl))
  try simp only [Act.put, List.setIfInBounds_toArray, List.set_cons_zero, List.set_cons_succ]
  refine wpAnyH_take (i := 11) (oi := ({ dst := some 66, op := Op.binOp BinOp.gtr 2 (Operand.tmp 64) (Operand.tmp 65) 2, type := 4, pos := "law.go:114", after := #[{ on := 9, ground := Ground.data }, { on := 10, ground := Ground.data }, { on := 8, ground := Ground.guard }], guard := some (8, false) } : Oper)) (v := ?_) rfl (by kernel_rfl) (by kernel_rfl) (by kernel_rfl) (fun _ _ _ h => h) (Or.inl ⟨by rfl, ?_⟩) (by assumption) ?_
  rotate_left
  · ((intro w hSw; (try dsimp only at hSw); go_simp); (try with_reducible rfl))
  try simp only [Act.put, List.setIfInBounds_toArray, List.set_cons_zero, List.set_cons_succ]
  refine wpAnyH_take (i := 12) (oi := ({ dst := some 67, op := Op.pick (Operand.tmp 63) (Operand.const (Value.bool true)) (Operand.tmp 66), type := 4, pos := "law.go:114", after := #[{ on := 8, ground := Ground.data }, { on := 11, ground := Ground.data }], guard := none } : Oper)) (v := ?_) rfl (by kernel_rfl) (by kernel_rfl) (by kernel_rfl) (fun _ _ _ h => h) (Or.inl ⟨by rfl, ?_⟩) (by assumption) ?_
  rotate_left
  · ((intro w hSw; (try dsimp only at hSw); go_simp); (try with_reducible rfl))
  try simp only [Act.put, List.setIfInBounds_toArray, List.set_cons_zero, List.set_cons_succ]
  refine wpAnyH_take (i := 13) (oi := ({ dst := some 68, op := Op.move (Operand.tmp 67), type := 4, pos := "law.go:114", after := #[{ on := 12, ground := Ground.data }, { on := 8, ground := Ground.chain }], guard := none } : Oper)) (v := ?_) rfl (by kernel_rfl) (by kernel_rfl) (by kernel_rfl) (fun _ _ _ h => h) (Or.inl ⟨by rfl, ?_⟩) (by assumption) ?_
  rotate_left
  · ((intro w hSw; (try dsimp only at hSw); go_simp); (try with_reducible rfl))
  try simp only [Act.put, List.setIfInBounds_toArray, List.set_cons_zero, List.set_cons_succ]
  refine wpAnyH_take (i := 14) (oi := ({ dst := some 69, op := Op.load 23 (Operand.tmp 4), type := 23, pos := "law.go:114", after := #[{ on := 13, ground := Ground.guard }], guard := some (13, false) } : Oper)) (v := ?_) rfl (by kernel_rfl) (by kernel_rfl) (by kernel_rfl) (fun _ _ _ h => h) (Or.inl ⟨by rfl, ?_⟩) (by assumption) ?_
  rotate_left
  · ((intro w hSw; (try dsimp only at hSw); go_simp); (try with_reducible rfl))
  try simp only [Act.put, List.setIfInBounds_toArray, List.set_cons_zero, List.set_cons_succ]
  refine wpAnyH_take (i := 15) (oi := ({ dst := some 70, op := Op.fieldAddr 25 (Operand.tmp 5) 0, type := 0, pos := "law.go:114", after := #[{ on := 13, ground := Ground.guard }], guard := some (13, false) } : Oper)) (v := ?_) rfl (by kernel_rfl) (by kernel_rfl) (by kernel_rfl) (fun _ _ _ h => h) (Or.inl ⟨by rfl, ?_⟩) (by assumption) ?_
  rotate_left
  · ((intro w hSw; (try dsimp only at hSw); go_simp); (try with_reducible rfl))
  try simp only [Act.put, List.setIfInBounds_toArray, List.set_cons_zero, List.set_cons_succ]
  refine wpAnyH_take (i := 16) (oi := ({ dst := some 71, op := Op.load 2 (Operand.tmp 70), type := 2, pos := "law.go:114", after := #[{ on := 15, ground := Ground.data }, { on := 13, ground := Ground.guard }], guard := some (13, false) } : Oper)) (v := ?_) rfl (by kernel_rfl) (by kernel_rfl) (by kernel_rfl) (fun _ _ _ h => h) (Or.inl ⟨by rfl, ?_⟩) (by assumption) ?_
  rotate_left
  · ((intro w hSw; (try dsimp only at hSw); go_simp); (try with_reducible rfl))
  try simp only [Act.put, List.setIfInBounds_toArray, List.set_cons_zero, List.set_cons_succ]
  refine wpAnyH_take (i := 18) (oi := ({ dst := some 73, op := Op.load 23 (Operand.tmp 4), type := 23, pos := "law.go:114", after := #[{ on := 13, ground := Ground.guard }], guard := some (13, false) } : Oper)) (v := ?_) rfl (by kernel_rfl) (by kernel_rfl) (by kernel_rfl) (fun _ _ _ h => h) (Or.inl ⟨by rfl, ?_⟩) (by assumption) ?_
  rotate_left
  · ((intro w hSw; (try dsimp only at hSw); go_simp); (try with_reducible rfl))
  try simp only [Act.put, List.setIfInBounds_toArray, List.set_cons_zero, List.set_cons_succ]
  refine wpAnyH_take (i := 19) (oi := ({ dst := some 74, op := Op.fieldAddr 25 (Operand.tmp 5) 1, type := 0, pos := "law.go:114", after := #[{ on := 13, ground := Ground.guard }], guard := some (13, false) } : Oper)) (v := ?_) rfl (by kernel_rfl) (by kernel_rfl) (by kernel_rfl) (fun _ _ _ h => h) (Or.inl ⟨by rfl, ?_⟩) (by assumption) ?_
  rotate_left
  · ((intro w hSw; (try dsimp only at hSw); go_simp); (try with_reducible rfl))
  try simp only [Act.put, List.setIfInBounds_toArray, List.set_cons_zero, List.set_cons_succ]
  refine wpAnyH_take (i := 20) (oi := ({ dst := some 75, op := Op.load 2 (Operand.tmp 74), type := 2, pos := "law.go:114", after := #[{ on := 19, ground := Ground.data }, { on := 13, ground := Ground.guard }], guard := some (13, false) } : Oper)) (v := ?_) rfl (by kernel_rfl) (by kernel_rfl) (by kernel_rfl) (fun _ _ _ h => h) (Or.inl ⟨by rfl, ?_⟩) (by assumption) ?_
  rotate_left
  · ((intro w hSw; (try dsimp only at hSw); go_simp); (try with_reducible rfl))
  try simp only [Act.put, List.setIfInBounds_toArray, List.set_cons_zero, List.set_cons_succ]
  refine wpAnyH_ready (rs := [17]) (by kernel_rfl) (by simp) ?_
  refine AllReadyH.cons (o := ({ dst := some 72, op := Op.call { callee := Callee.value (Operand.func 16), args := #[Operand.tmp 69, Operand.tmp 71], argTypes := #[23, 2] }, type := 2, pos := "law.go:114", after := #[{ on := 14, ground := Ground.data }, { on := 16, ground := Ground.data }, { on := 13, ground := Ground.chain }, { on := 13, ground := Ground.guard }], guard := some (13, false) } : Oper)) rfl (fun K hK => ?_) AllReadyH.nil
  go_simp
  (with_reducible refine (Ca.out _).mono ?_)
  rintro e w7 ⟨rfl, hb7⟩
  refine hK.out _ _ ?_ (fun hHeld => ?_)
  · exact keepB7 hb7 hHeld
  clear hK K
  try simp only [Act.put, List.setIfInBounds_toArray, List.set_cons_zero, List.set_cons_succ]
  refine wpAnyH_ready (rs := [21]) (by kernel_rfl) (by simp) ?_
  refine AllReadyH.cons (o := ({ dst := some 76, op := Op.call { callee := Callee.value (Operand.func 16), args := #[Operand.tmp 73, Operand.tmp 75], argTypes := #[23, 2] }, type := 2, pos := "law.go:114", after := #[{ on := 18, ground := Ground.data }, { on := 20, ground := Ground.data }, { on := 17, ground := Ground.chain }, { on := 13, ground := Ground.guard }], guard := some (13, false) } : Oper)) rfl (fun K hK => ?_) AllReadyH.nil
  go_simp
  (with_reducible refine (Cb.out _).mono ?_)
  rintro e w7 ⟨rfl, hb7⟩
  refine hK.out _ _ ?_ (fun hHeld => ?_)
  · exact keepB7 hb7 hHeld
  clear hK K
  try simp only [Act.put, List.setIfInBounds_toArray, List.set_cons_zero, List.set_cons_succ]
  refine wpAnyH_take (i := 22) (oi := ({ dst := some 77, op := Op.binOp BinOp.gtr 2 (Operand.tmp 72) (Operand.tmp 76) 2, type := 4, pos := "law.go:114", after := #[{ on := 17, ground := Ground.data }, { on := 21, ground := Ground.data }, { on := 13, ground := Ground.guard }], guard := some (13, false) } : Oper)) (v := ?_) rfl (by kernel_rfl) (by kernel_rfl) (by kernel_rfl) (fun _ _ _ h => h) (Or.inl ⟨by rfl, ?_⟩) (by assumption) ?_
  rotate_left
  · ((intro w hSw; (try dsimp only at hSw); go_simp); (try with_reducible rfl))
  try simp only [Act.put, List.setIfInBounds_toArray, List.set_cons_zero, List.set_cons_succ]
  refine wpAnyH_take (i := 23) (oi := ({ dst := some 78, op := Op.pick (Operand.tmp 68) (Operand.const (Value.bool true)) (Operand.tmp 77), type := 4, pos := "law.go:114", after := #[{ on := 13, ground := Ground.data }, { on := 22, ground := Ground.data }], guard := none } : Oper)) (v := ?_) rfl (by kernel_rfl) (by kernel_rfl) (by kernel_rfl) (fun _ _ _ h => h) (Or.inl ⟨by rfl, ?_⟩) (by assumption) ?_
  rotate_left
  · ((intro w hSw; (try dsimp only at hSw); go_simp); (try with_reducible rfl))
  try simp only [Act.put, List.setIfInBounds_toArray, List.set_cons_zero, List.set_cons_succ]
  refine wpAnyH_take (i := 24) (oi := ({ dst := some 79, op := Op.move (Operand.tmp 78), type := 4, pos := "law.go:114", after := #[{ on := 23, ground := Ground.data }, { on := 21, ground := Ground.chain }], guard := none } : Oper)) (v := ?_) rfl (by kernel_rfl) (by kernel_rfl) (by kernel_rfl) (fun _ _ _ h => h) (Or.inl ⟨by rfl, ?_⟩) (by assumption) ?_
  rotate_left
  · ((intro w hSw; (try dsimp only at hSw); go_simp); (try with_reducible rfl))
  try simp only [Act.put, List.setIfInBounds_toArray, List.set_cons_zero, List.set_cons_succ]
  refine wpAnyH_take (i := 25) (oi := ({ dst := some 80, op := Op.load 23 (Operand.tmp 4), type := 23, pos := "law.go:114", after := #[{ on := 24, ground := Ground.guard }], guard := some (24, false) } : Oper)) (v := ?_) rfl (by kernel_rfl) (by kernel_rfl) (by kernel_rfl) (fun _ _ _ h => h) (Or.inl ⟨by rfl, ?_⟩) (by assumption) ?_
  rotate_left
  · ((intro w hSw; (try dsimp only at hSw); go_simp); (try with_reducible rfl))
  try simp only [Act.put, List.setIfInBounds_toArray, List.set_cons_zero, List.set_cons_succ]
  refine wpAnyH_take (i := 26) (oi := ({ dst := some 81, op := Op.load 25 (Operand.tmp 5), type := 25, pos := "law.go:114", after := #[{ on := 24, ground := Ground.guard }], guard := some (24, false) } : Oper)) (v := ?_) rfl (by kernel_rfl) (by kernel_rfl) (by kernel_rfl) (fun _ _ _ h => h) (Or.inl ⟨by rfl, ?_⟩) (by assumption) ?_
  rotate_left
  · ((intro w hSw; (try dsimp only at hSw); go_simp); (try with_reducible rfl))
  try simp only [Act.put, List.setIfInBounds_toArray, List.set_cons_zero, List.set_cons_succ]
  refine wpAnyH_ready (rs := [27]) (by kernel_rfl) (by simp) ?_
  refine AllReadyH.cons (o := ({ dst := some 82, op := Op.call { callee := Callee.value (Operand.func 18), args := #[Operand.tmp 80, Operand.tmp 81], argTypes := #[23, 25] }, type := 4, pos := "law.go:114", after := #[{ on := 25, ground := Ground.data }, { on := 26, ground := Ground.data }, { on := 24, ground := Ground.chain }, { on := 24, ground := Ground.guard }], guard := some (24, false) } : Oper)) rfl (fun K hK => ?_) AllReadyH.nil
  go_simp
  (with_reducible refine (Cx.out _).mono ?_)
  rintro e w7 ⟨rfl, hb7⟩
  refine hK.out _ _ ?_ (fun hHeld => ?_)
  · exact keepB7 hb7 hHeld
  clear hK K
  try simp only [Act.put, List.setIfInBounds_toArray, List.set_cons_zero, List.set_cons_succ]
  refine wpAnyH_take (i := 28) (oi := ({ dst := some 83, op := Op.move (Operand.tmp 82), type := 4, pos := "law.go:114", after := #[{ on := 27, ground := Ground.data }, { on := 27, ground := Ground.chain }, { on := 24, ground := Ground.guard }], guard := some (24, false) } : Oper)) (v := ?_) rfl (by kernel_rfl) (by kernel_rfl) (by kernel_rfl) (fun _ _ _ h => h) (Or.inl ⟨by rfl, ?_⟩) (by assumption) ?_
  rotate_left
  · ((intro w hSw; (try dsimp only at hSw); go_simp); (try with_reducible rfl))
  try simp only [Act.put, List.setIfInBounds_toArray, List.set_cons_zero, List.set_cons_succ]
  refine wpAnyH_take (i := 29) (oi := ({ dst := some 84, op := Op.load 23 (Operand.tmp 4), type := 23, pos := "law.go:114", after := #[{ on := 28, ground := Ground.guard }], guard := some (28, true) } : Oper)) (v := undef) rfl (by kernel_rfl) (by kernel_rfl) (by kernel_rfl) (fun _ _ _ h => h) (Or.inr ⟨by rfl, rfl⟩) (by assumption) ?_
  try simp only [Act.put, List.setIfInBounds_toArray, List.set_cons_zero, List.set_cons_succ]
  refine wpAnyH_take (i := 30) (oi := ({ dst := some 85, op := Op.load 25 (Operand.tmp 9), type := 25, pos := "law.go:114", after := #[{ on := 28, ground := Ground.guard }], guard := some (28, true) } : Oper)) (v := undef) rfl (by kernel_rfl) (by kernel_rfl) (by kernel_rfl) (fun _ _ _ h => h) (Or.inr ⟨by rfl, rfl⟩) (by assumption) ?_
  try simp only [Act.put, List.setIfInBounds_toArray, List.set_cons_zero, List.set_cons_succ]
  refine wpAnyH_take (i := 31) (oi := ({ dst := some 86, op := Op.call { callee := Callee.value (Operand.func 18), args := #[Operand.tmp 84, Operand.tmp 85], argTypes := #[23, 25] }, type := 4, pos := "law.go:114", after := #[{ on := 29, ground := Ground.data }, { on := 30, ground := Ground.data }, { on := 28, ground := Ground.chain }, { on := 28, ground := Ground.guard }], guard := some (28, true) } : Oper)) (v := undef) rfl (by kernel_rfl) (by kernel_rfl) (by kernel_rfl) (fun _ _ _ h => h) (Or.inr ⟨by rfl, rfl⟩) (by assumption) ?_
  try simp only [Act.put, List.setIfInBounds_toArray, List.set_cons_zero, List.set_cons_succ]
  refine wpAnyH_take (i := 32) (oi := ({ dst := some 87, op := Op.unOp UnOp.not 4 (Operand.tmp 86), type := 4, pos := "law.go:114", after := #[{ on := 31, ground := Ground.data }, { on := 28, ground := Ground.guard }], guard := some (28, true) } : Oper)) (v := undef) rfl (by kernel_rfl) (by kernel_rfl) (by kernel_rfl) (fun _ _ _ h => h) (Or.inr ⟨by rfl, rfl⟩) (by assumption) ?_
  try simp only [Act.put, List.setIfInBounds_toArray, List.set_cons_zero, List.set_cons_succ]
  refine wpAnyH_take (i := 33) (oi := ({ dst := some 88, op := Op.pick (Operand.tmp 83) (Operand.tmp 87) (Operand.const (Value.bool false)), type := 4, pos := "law.go:114", after := #[{ on := 28, ground := Ground.data }, { on := 32, ground := Ground.data }, { on := 24, ground := Ground.guard }], guard := some (24, false) } : Oper)) (v := ?_) rfl (by kernel_rfl) (by kernel_rfl) (by kernel_rfl) (fun _ _ _ h => h) (Or.inl ⟨by rfl, ?_⟩) (by assumption) ?_
  rotate_left
  · ((intro w hSw; (try dsimp only at hSw); go_simp); (try with_reducible rfl))
  try simp only [Act.put, List.setIfInBounds_toArray, List.set_cons_zero, List.set_cons_succ]
  refine wpAnyH_take (i := 34) (oi := ({ dst := some 89, op := Op.pick (Operand.tmp 79) (Operand.const (Value.bool true)) (Operand.tmp 88), type := 4, pos := "law.go:114", after := #[{ on := 24, ground := Ground.data }, { on := 33, ground := Ground.data }], guard := none } : Oper)) (v := ?_) rfl (by kernel_rfl) (by kernel_rfl) (by kernel_rfl) (fun _ _ _ h => h) (Or.inl ⟨by rfl, ?_⟩) (by assumption) ?_
  rotate_left
  · ((intro w hSw; (try dsimp only at hSw); go_simp); (try with_reducible rfl))
  try simp only [Act.put, List.setIfInBounds_toArray, List.set_cons_zero, List.set_cons_succ]
  refine wpAnyH_done (by kernel_rfl) ?_ _
  have HH := hHeld
  clear g1 g2 g3 x1 x2 m1 m2 gl xl ml
  obtain ⟨B6, g1, g2, g3, x1, x2, -, -⟩ := HH
  go_wp2_with fail
  refine (Cn.out _).mono ?_
  rintro e8 w8 ⟨rfl, hb8⟩
  have B8 : Hid (Below W0.heap.size W0 w8) := Lib.hid (bstep B6.out hb8)
  obtain ⟨t1, t2, t3, t4, t5⟩ := keep5 hb8 ⟨g1, g2, g3, x1, x2⟩
  have tl1 := World.block_lt_of_cell? w8 _ t1
  have tl2 := World.block_lt_of_cell? w8 _ t4
  clear g1 g2 g3 x1 x2 hb8
  go_wp2_with fail
  refine (Cp.out _).mono ?_
  rintro e9 w9 ⟨rfl, hb9⟩
  have B9 : Hid (Below W0.heap.size W0 w9) := Lib.hid (bstep (B8.out.alloc B8.out.size _) hb9)
  have KN := (Kept.new (w := w8) (cs := #[.int .i64 w, .int .i64 p, .int .i64 n]) (t := 23) rfl).next hb9
  obtain ⟨n1, n2, n3, -, -, -, nl⟩ := KN.three
  have y4 := keep1 hb9 ((keep1 (one_alloc w8 _) t4))
  have y5 := keep1 hb9 ((keep1 (one_alloc w8 _) t5))
  clear t1 t2 t3 t4 t5 hb9 KN
  go_wp2_with fail
  refine (Cq.out _).mono ?_
  rintro e10 w10 ⟨rfl, hb10⟩
  have B10 : Hid (Below W0.heap.size W0 w10) := Lib.hid (bstep B9.out hb10)
  clear hb10 n1 n2 n3 y4 y5
  go_wp2
  go_ret
  exact ⟨rfl, B10.out⟩
end Go.Proofs.Ythipeefhkaanbaa
