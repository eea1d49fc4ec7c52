/- GridParts, walked. -/
import Derived.Test.YthipeefhkaanbaaAlive
namespace Go.Proofs.Ythipeefhkaanbaa
open Go.RowKit
set_option linter.unusedVariables false
set_option maxHeartbeats 4000000 in
theorem parts_state (w p m t : Int) (W0 : World)
    (Cr : Hid (∀ W, Calls Try.prog 9 #[.agg #[.int .i64 w, .int .i64 p, .int .i64 m]] W (Gives (.bool false) W))) :
    Calls Try.prog 4 #[.agg #[.int .i64 w, .int .i64 p, .int .i64 m], .int .i64 t] W0 fun e w' => e = .returned (.bool true) ∧ Below W0.heap.size W0 w' := by
  go_enter Try.func4, Try.ntmps4
  have B0 : Hid (Below W0.heap.size W0 W0) := Lib.hid (Below.refl W0.heap.size W0)
  go_wp2_with fail
  refine (alive_any _).mono ?_
  rintro e1 w1 ⟨rfl, hb1⟩
  have Kg : Hid (Kept w1 _ #[.int .i64 w, .int .i64 p, .int .i64 m] 23) := Lib.hid ((Kept.new (w := W0) (cs := #[.int .i64 w, .int .i64 p, .int .i64 m]) (t := 23) rfl).next hb1)
  have B1 : Hid (Below W0.heap.size W0 w1) := Lib.hid (bnext (((B0.out).alloc (by have := B0.out.size; first | omega | (simp <;> omega)) _)) (by have := B0.out.size; first | omega | (simp <;> omega)) hb1)
  clear hb1
  obtain ⟨g1, g2, g3, -, -, -, gl⟩ := Kg.out.three
  go_wp2_with fail
  refine (of_any w p m _).mono ?_
  rintro e2 w2 ⟨rfl, hb2⟩
  clear g1 g2 g3 gl
  have Kg : Hid (Kept w2 _ _ _) := Lib.hid (Kg.out.next hb2)
  have B2 : Hid (Below W0.heap.size W0 w2) := Lib.hid (bnext (B1.out) (by have := B1.out.size; first | omega | (simp <;> omega)) hb2)
  clear hb2
  go_wp2_with fail
  refine (Cr.out _).mono ?_
  rintro e3 w3 ⟨rfl, hb3⟩
  have Kg : Hid (Kept w3 _ _ _) := Lib.hid (Kg.out.next hb3)
  have B3 : Hid (Below W0.heap.size W0 w3) := Lib.hid (bnext (B2.out) (by have := B2.out.size; first | omega | (simp <;> omega)) hb3)
  clear hb3
  go_wp2
  go_ret
  exact ⟨rfl, B3.out⟩
set_option maxHeartbeats 4000000 in
theorem parts_over (w p m t v : Int) (W0 : World)
    (Cr : Hid (∀ W, Calls Try.prog 9 #[.agg #[.int .i64 w, .int .i64 p, .int .i64 m]] W (Gives (.bool true) W))) (Cv : Hid (∀ W, Calls Try.prog 16 #[.agg #[.int .i64 w, .int .i64 p, .int .i64 m], .int .i64 t] W (Gives (.int .i64 v) W))) (Cs : Hid (∀ W, Calls Try.prog 11 #[.agg #[.int .i64 w, .int .i64 p, .int .i64 m], .int .i64 v] W (GapRes 0 0 12 W))) :
    Calls Try.prog 4 #[.agg #[.int .i64 w, .int .i64 p, .int .i64 m], .int .i64 t] W0 fun e w' => e = .returned (.bool true) ∧ Below W0.heap.size W0 w' := by
  go_enter Try.func4, Try.ntmps4
  have B0 : Hid (Below W0.heap.size W0 W0) := Lib.hid (Below.refl W0.heap.size W0)
  go_wp2_with fail
  refine (alive_any _).mono ?_
  rintro e1 w1 ⟨rfl, hb1⟩
  have Kg : Hid (Kept w1 _ #[.int .i64 w, .int .i64 p, .int .i64 m] 23) := Lib.hid ((Kept.new (w := W0) (cs := #[.int .i64 w, .int .i64 p, .int .i64 m]) (t := 23) rfl).next hb1)
  have B1 : Hid (Below W0.heap.size W0 w1) := Lib.hid (bnext (((B0.out).alloc (by have := B0.out.size; first | omega | (simp <;> omega)) _)) (by have := B0.out.size; first | omega | (simp <;> omega)) hb1)
  clear hb1
  obtain ⟨g1, g2, g3, -, -, -, gl⟩ := Kg.out.three
  go_wp2_with fail
  refine (of_any w p m _).mono ?_
  rintro e2 w2 ⟨rfl, hb2⟩
  clear g1 g2 g3 gl
  have Kg : Hid (Kept w2 _ _ _) := Lib.hid (Kg.out.next hb2)
  have B2 : Hid (Below W0.heap.size W0 w2) := Lib.hid (bnext (B1.out) (by have := B1.out.size; first | omega | (simp <;> omega)) hb2)
  clear hb2
  go_wp2_with fail
  refine (Cr.out _).mono ?_
  rintro e3 w3 ⟨rfl, hb3⟩
  have Kg : Hid (Kept w3 _ _ _) := Lib.hid (Kg.out.next hb3)
  have B3 : Hid (Below W0.heap.size W0 w3) := Lib.hid (bnext (B2.out) (by have := B2.out.size; first | omega | (simp <;> omega)) hb3)
  clear hb3
  obtain ⟨g1, g2, g3, -, -, -, gl⟩ := Kg.out.three
  go_wp2_with fail
  refine (Cv.out _).mono ?_
  rintro e4 w4 ⟨rfl, hb4⟩
  clear g1 g2 g3 gl
  have Kg : Hid (Kept w4 _ _ _) := Lib.hid (Kg.out.next hb4)
  have B4 : Hid (Below W0.heap.size W0 w4) := Lib.hid (bnext (B3.out) (by have := B3.out.size; first | omega | (simp <;> omega)) hb4)
  clear hb4
  obtain ⟨g1, g2, g3, -, -, -, gl⟩ := Kg.out.three
  go_wp2_with fail
  refine (Cs.out _).mono ?_
  rintro e5 w5 ⟨rfl, hb5⟩
  clear g1 g2 g3 gl
  have Kg : Hid (Kept w5 _ _ _) := Lib.hid (Kg.out.next hb5)
  have B5 : Hid (Below W0.heap.size W0 w5) := Lib.hid (bnext (B4.out) (by have := B4.out.size; first | omega | (simp <;> omega)) hb5)
  clear hb5
  go_wp2
  go_ret
  exact ⟨rfl, (B5.out).alloc (by have := B5.out.size; first | omega | (simp <;> omega)) _⟩
set_option maxHeartbeats 4000000 in
theorem parts_last (w p m t v x y z a b e : Int) (W0 : World)
    (Cr : Hid (∀ W, Calls Try.prog 9 #[.agg #[.int .i64 w, .int .i64 p, .int .i64 m]] W (Gives (.bool true) W))) (Cv : Hid (∀ W, Calls Try.prog 16 #[.agg #[.int .i64 w, .int .i64 p, .int .i64 m], .int .i64 t] W (Gives (.int .i64 v) W))) (Cs : Hid (∀ W, Calls Try.prog 11 #[.agg #[.int .i64 w, .int .i64 p, .int .i64 m], .int .i64 v] W (GapRes x y 0 W))) (Ch : Hid (∀ W, Calls Try.prog 20 #[.agg #[.int .i64 x, .int .i64 y], .int .i64 t] W (Gives (.bool true) W))) (Cw : Hid (∀ W, Calls Try.prog 21 #[.agg #[.int .i64 x, .int .i64 y]] W (Gives (.int .u64 z) W))) (C1 : Hid (∀ W, Calls Try.prog 16 #[.agg #[.int .i64 w, .int .i64 p, .int .i64 m], .int .i64 x] W (Gives (.int .i64 v) W))) (C2 : Hid (∀ W, Calls Try.prog 16 #[.agg #[.int .i64 w, .int .i64 p, .int .i64 m], .int .i64 y] W (Gives (.int .i64 v) W))) (Cc : Hid (∀ W, Calls Try.prog 18 #[.agg #[.int .i64 w, .int .i64 p, .int .i64 m], .agg #[.int .i64 x, .int .i64 y]] W (Gives (.bool true) W))) (hw1 : 1 ≤ w) (hw2 : w ≤ 1099511627776) (hz : z + 1 = w) (Cn : Hid (∀ W, Calls Try.prog 11 #[.agg #[.int .i64 w, .int .i64 p, .int .i64 m], .int .i64 (wrap64 (v + 1))] W (GapRes a b e W))) (he : (e != 0) = true) :
    Calls Try.prog 4 #[.agg #[.int .i64 w, .int .i64 p, .int .i64 m], .int .i64 t] W0 fun e w' => e = .returned (.bool true) ∧ Below W0.heap.size W0 w' := by
  go_enter Try.func4, Try.ntmps4
  have B0 : Hid (Below W0.heap.size W0 W0) := Lib.hid (Below.refl W0.heap.size W0)
  go_wp2_with fail
  refine (alive_any _).mono ?_
  rintro e1 w1 ⟨rfl, hb1⟩
  have Kg : Hid (Kept w1 _ #[.int .i64 w, .int .i64 p, .int .i64 m] 23) := Lib.hid ((Kept.new (w := W0) (cs := #[.int .i64 w, .int .i64 p, .int .i64 m]) (t := 23) rfl).next hb1)
  have B1 : Hid (Below W0.heap.size W0 w1) := Lib.hid (bnext (((B0.out).alloc (by have := B0.out.size; first | omega | (simp <;> omega)) _)) (by have := B0.out.size; first | omega | (simp <;> omega)) hb1)
  clear hb1
  obtain ⟨g1, g2, g3, -, -, -, gl⟩ := Kg.out.three
  go_wp2_with fail
  refine (of_any w p m _).mono ?_
  rintro e2 w2 ⟨rfl, hb2⟩
  clear g1 g2 g3 gl
  have Kg : Hid (Kept w2 _ _ _) := Lib.hid (Kg.out.next hb2)
  have B2 : Hid (Below W0.heap.size W0 w2) := Lib.hid (bnext (B1.out) (by have := B1.out.size; first | omega | (simp <;> omega)) hb2)
  clear hb2
  go_wp2_with fail
  refine (Cr.out _).mono ?_
  rintro e3 w3 ⟨rfl, hb3⟩
  have Kg : Hid (Kept w3 _ _ _) := Lib.hid (Kg.out.next hb3)
  have B3 : Hid (Below W0.heap.size W0 w3) := Lib.hid (bnext (B2.out) (by have := B2.out.size; first | omega | (simp <;> omega)) hb3)
  clear hb3
  obtain ⟨g1, g2, g3, -, -, -, gl⟩ := Kg.out.three
  go_wp2_with fail
  refine (Cv.out _).mono ?_
  rintro e4 w4 ⟨rfl, hb4⟩
  clear g1 g2 g3 gl
  have Kg : Hid (Kept w4 _ _ _) := Lib.hid (Kg.out.next hb4)
  have B4 : Hid (Below W0.heap.size W0 w4) := Lib.hid (bnext (B3.out) (by have := B3.out.size; first | omega | (simp <;> omega)) hb4)
  clear hb4
  obtain ⟨g1, g2, g3, -, -, -, gl⟩ := Kg.out.three
  go_wp2_with fail
  refine (Cs.out _).mono ?_
  rintro e5 w5 ⟨rfl, hb5⟩
  clear g1 g2 g3 gl
  have Kg : Hid (Kept w5 _ _ _) := Lib.hid (Kg.out.next hb5)
  have B5 : Hid (Below W0.heap.size W0 w5) := Lib.hid (bnext (B4.out) (by have := B4.out.size; first | omega | (simp <;> omega)) hb5)
  clear hb5
  obtain ⟨V, hV⟩ : ∃ V, w5.alloc (.cells #[.int .i64 x, .int .i64 y] 25) = V := ⟨_, rfl⟩
  have Js : Hid (Kept V w5.heap.size #[.int .i64 x, .int .i64 y] 25) := Lib.hid (by rw [← hV]; exact Kept.new rfl)
  have Jg : Hid (Kept V W0.heap.size #[.int .i64 w, .int .i64 p, .int .i64 m] 23) := Lib.hid (by rw [← hV]; exact Kg.out.alloc _)
  have BV : Hid (Below W0.heap.size W0 V) := Lib.hid (by rw [← hV]; exact B5.out.alloc B5.out.size _)
  have HV := Lib.hid hV
  clear hV
  obtain ⟨g1, g2, g3, -, -, -, gl⟩ := Jg.out.three
  obtain ⟨s1, s2, -, -, sl⟩ := Js.out.two
  have wz : IntKind.u64.wrap (z + 1) = w := by simp only [IntKind.wrap_u64]; omega
  have ww : IntKind.u64.wrap w = w := by simp only [IntKind.wrap_u64]; omega
  go_wp2
  rw [HV.out]
  go_region_held3 (fun w' => Hid (Below W0.heap.size W0 w') ∧ w'.cell? ⟨W0.heap.size, 0, none⟩ = some (.int .i64 w) ∧ w'.cell? ⟨W0.heap.size, 1, none⟩ = some (.int .i64 p) ∧ w'.cell? ⟨W0.heap.size, 2, none⟩ = some (.int .i64 m) ∧ w'.cell? ⟨w5.heap.size, 0, none⟩ = some (.int .i64 x) ∧ w'.cell? ⟨w5.heap.size, 1, none⟩ = some (.int .i64 y))
    (first | exact keepB5 hb7 (by assumption) | exact ⟨Lib.hid ⟨BV.out.os, BV.out.tape, BV.out.output, BV.out.size, BV.out.block⟩, g1, g2, g3, s1, s2⟩)
    (first | (go_at_call 20; (first | (with_reducible refine (Ch.out _).mono ?_)); rintro e w7 ⟨rfl, hb7⟩) | (go_at_call 21; (first | (with_reducible refine (Cw.out _).mono ?_)); rintro e w7 ⟨rfl, hb7⟩) | (go_at_call 16; (first | (with_reducible refine (C1.out _).mono ?_) | (with_reducible refine (C2.out _).mono ?_)); rintro e w7 ⟨rfl, hb7⟩) | (go_at_call 18; (first | (with_reducible refine (Cc.out _).mono ?_)); rintro e w7 ⟨rfl, hb7⟩))
  rename_i HH
  clear g1 g2 g3 s1 s2
  obtain ⟨B6, g1, g2, g3, s1, s2⟩ := HH
  go_wp2_with fail
  refine (Cn.out _).mono ?_
  rintro e8 w8 ⟨rfl, hb8⟩
  have B8 : Hid (Below W0.heap.size W0 w8) := Lib.hid (bstep B6.out hb8)
  clear g1 g2 g3 s1 s2 hb8
  go_wp2
  go_ret
  exact ⟨rfl, B8.out.alloc B8.out.size _⟩
set_option maxHeartbeats 4000000 in
theorem parts_next (w p m t v x y z b : Int) (W0 : World)
    (Cr : Hid (∀ W, Calls Try.prog 9 #[.agg #[.int .i64 w, .int .i64 p, .int .i64 m]] W (Gives (.bool true) W))) (Cv : Hid (∀ W, Calls Try.prog 16 #[.agg #[.int .i64 w, .int .i64 p, .int .i64 m], .int .i64 t] W (Gives (.int .i64 v) W))) (Cs : Hid (∀ W, Calls Try.prog 11 #[.agg #[.int .i64 w, .int .i64 p, .int .i64 m], .int .i64 v] W (GapRes x y 0 W))) (Ch : Hid (∀ W, Calls Try.prog 20 #[.agg #[.int .i64 x, .int .i64 y], .int .i64 t] W (Gives (.bool true) W))) (Cw : Hid (∀ W, Calls Try.prog 21 #[.agg #[.int .i64 x, .int .i64 y]] W (Gives (.int .u64 z) W))) (C1 : Hid (∀ W, Calls Try.prog 16 #[.agg #[.int .i64 w, .int .i64 p, .int .i64 m], .int .i64 x] W (Gives (.int .i64 v) W))) (C2 : Hid (∀ W, Calls Try.prog 16 #[.agg #[.int .i64 w, .int .i64 p, .int .i64 m], .int .i64 y] W (Gives (.int .i64 v) W))) (Cc : Hid (∀ W, Calls Try.prog 18 #[.agg #[.int .i64 w, .int .i64 p, .int .i64 m], .agg #[.int .i64 x, .int .i64 y]] W (Gives (.bool true) W))) (hw1 : 1 ≤ w) (hw2 : w ≤ 1099511627776) (hz : z + 1 = w) (Cn : Hid (∀ W, Calls Try.prog 11 #[.agg #[.int .i64 w, .int .i64 p, .int .i64 m], .int .i64 (wrap64 (v + 1))] W (GapRes (wrap64 (y + 1)) b 0 W))) :
    Calls Try.prog 4 #[.agg #[.int .i64 w, .int .i64 p, .int .i64 m], .int .i64 t] W0 fun e w' => e = .returned (.bool true) ∧ Below W0.heap.size W0 w' := by
  go_enter Try.func4, Try.ntmps4
  have B0 : Hid (Below W0.heap.size W0 W0) := Lib.hid (Below.refl W0.heap.size W0)
  go_wp2_with fail
  refine (alive_any _).mono ?_
  rintro e1 w1 ⟨rfl, hb1⟩
  have Kg : Hid (Kept w1 _ #[.int .i64 w, .int .i64 p, .int .i64 m] 23) := Lib.hid ((Kept.new (w := W0) (cs := #[.int .i64 w, .int .i64 p, .int .i64 m]) (t := 23) rfl).next hb1)
  have B1 : Hid (Below W0.heap.size W0 w1) := Lib.hid (bnext (((B0.out).alloc (by have := B0.out.size; first | omega | (simp <;> omega)) _)) (by have := B0.out.size; first | omega | (simp <;> omega)) hb1)
  clear hb1
  obtain ⟨g1, g2, g3, -, -, -, gl⟩ := Kg.out.three
  go_wp2_with fail
  refine (of_any w p m _).mono ?_
  rintro e2 w2 ⟨rfl, hb2⟩
  clear g1 g2 g3 gl
  have Kg : Hid (Kept w2 _ _ _) := Lib.hid (Kg.out.next hb2)
  have B2 : Hid (Below W0.heap.size W0 w2) := Lib.hid (bnext (B1.out) (by have := B1.out.size; first | omega | (simp <;> omega)) hb2)
  clear hb2
  go_wp2_with fail
  refine (Cr.out _).mono ?_
  rintro e3 w3 ⟨rfl, hb3⟩
  have Kg : Hid (Kept w3 _ _ _) := Lib.hid (Kg.out.next hb3)
  have B3 : Hid (Below W0.heap.size W0 w3) := Lib.hid (bnext (B2.out) (by have := B2.out.size; first | omega | (simp <;> omega)) hb3)
  clear hb3
  obtain ⟨g1, g2, g3, -, -, -, gl⟩ := Kg.out.three
  go_wp2_with fail
  refine (Cv.out _).mono ?_
  rintro e4 w4 ⟨rfl, hb4⟩
  clear g1 g2 g3 gl
  have Kg : Hid (Kept w4 _ _ _) := Lib.hid (Kg.out.next hb4)
  have B4 : Hid (Below W0.heap.size W0 w4) := Lib.hid (bnext (B3.out) (by have := B3.out.size; first | omega | (simp <;> omega)) hb4)
  clear hb4
  obtain ⟨g1, g2, g3, -, -, -, gl⟩ := Kg.out.three
  go_wp2_with fail
  refine (Cs.out _).mono ?_
  rintro e5 w5 ⟨rfl, hb5⟩
  clear g1 g2 g3 gl
  have Kg : Hid (Kept w5 _ _ _) := Lib.hid (Kg.out.next hb5)
  have B5 : Hid (Below W0.heap.size W0 w5) := Lib.hid (bnext (B4.out) (by have := B4.out.size; first | omega | (simp <;> omega)) hb5)
  clear hb5
  obtain ⟨V, hV⟩ : ∃ V, w5.alloc (.cells #[.int .i64 x, .int .i64 y] 25) = V := ⟨_, rfl⟩
  have Js : Hid (Kept V w5.heap.size #[.int .i64 x, .int .i64 y] 25) := Lib.hid (by rw [← hV]; exact Kept.new rfl)
  have Jg : Hid (Kept V W0.heap.size #[.int .i64 w, .int .i64 p, .int .i64 m] 23) := Lib.hid (by rw [← hV]; exact Kg.out.alloc _)
  have BV : Hid (Below W0.heap.size W0 V) := Lib.hid (by rw [← hV]; exact B5.out.alloc B5.out.size _)
  have HV := Lib.hid hV
  clear hV
  obtain ⟨g1, g2, g3, -, -, -, gl⟩ := Jg.out.three
  obtain ⟨s1, s2, -, -, sl⟩ := Js.out.two
  have wz : IntKind.u64.wrap (z + 1) = w := by simp only [IntKind.wrap_u64]; omega
  have ww : IntKind.u64.wrap w = w := by simp only [IntKind.wrap_u64]; omega
  go_wp2
  rw [HV.out]
  go_region_held3 (fun w' => Hid (Below W0.heap.size W0 w') ∧ w'.cell? ⟨W0.heap.size, 0, none⟩ = some (.int .i64 w) ∧ w'.cell? ⟨W0.heap.size, 1, none⟩ = some (.int .i64 p) ∧ w'.cell? ⟨W0.heap.size, 2, none⟩ = some (.int .i64 m) ∧ w'.cell? ⟨w5.heap.size, 0, none⟩ = some (.int .i64 x) ∧ w'.cell? ⟨w5.heap.size, 1, none⟩ = some (.int .i64 y))
    (first | exact keepB5 hb7 (by assumption) | exact ⟨Lib.hid ⟨BV.out.os, BV.out.tape, BV.out.output, BV.out.size, BV.out.block⟩, g1, g2, g3, s1, s2⟩)
    (first | (go_at_call 20; (first | (with_reducible refine (Ch.out _).mono ?_)); rintro e w7 ⟨rfl, hb7⟩) | (go_at_call 21; (first | (with_reducible refine (Cw.out _).mono ?_)); rintro e w7 ⟨rfl, hb7⟩) | (go_at_call 16; (first | (with_reducible refine (C1.out _).mono ?_) | (with_reducible refine (C2.out _).mono ?_)); rintro e w7 ⟨rfl, hb7⟩) | (go_at_call 18; (first | (with_reducible refine (Cc.out _).mono ?_)); rintro e w7 ⟨rfl, hb7⟩))
  rename_i HH
  clear g1 g2 g3 s1 s2
  obtain ⟨B6, g1, g2, g3, s1, s2⟩ := HH
  go_wp2_with fail
  refine (Cn.out _).mono ?_
  rintro e8 w8 ⟨rfl, hb8⟩
  have B8 : Hid (Below W0.heap.size W0 w8) := Lib.hid (bstep B6.out hb8)
  have t1 := keep1 hb8 s1
  have t2 := keep1 hb8 s2
  have tl := World.block_lt_of_cell? w8 _ t2
  clear g1 g2 g3 s1 s2 hb8
  go_wp2
  go_ret
  exact ⟨rfl, B8.out.alloc B8.out.size _⟩
end Go.Proofs.Ythipeefhkaanbaa
