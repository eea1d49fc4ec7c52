/- noonmarkref19: wide, Pick: for all longs. -/
import Derived.Test.YthipeefhkaanbaaRefG
import Derived.Deep.RegionHeld3
namespace Go.Proofs.Ythipeefhkaanbaa
open Go.RowKit
set_option linter.unusedVariables false

set_option maxHeartbeats 8000000 in
theorem rwide_any (a b : Int) (w : World) (ha : InI a) (hb : InI b) :
    Calls Try.prog 32 #[.agg #[.int .i64 a, .int .i64 b]] w (NumOut (b - a) w) := by
  have C1 := Lib.hid (fun W => of_any a W ha)
  have C2 := Lib.hid (fun W => of_any b W hb)
  have Cn : Hid (∀ W u, NumAt W u a → Calls Try.prog 47 #[u] W (NumOut (-a) W)) := Lib.hid (fun W u h => num_neg u a W h)
  have C3 : Hid (∀ W u v, NumAt W u b → NumAt W v (-a) → Calls Try.prog 28 #[u, v] W (NumOut (b - a) W)) := Lib.hid (fun W u v h1 h2 => by
    have h := num_add u v b (-a) W h1 h2 (hund_long hb) (hund_neg (hund_long ha))
    rwa [← Int.sub_eq_add_neg] at h)
  obtain ⟨W, hW⟩ : ∃ W, (w.alloc (.cells #[.int .i64 a, .int .i64 b] 33)).alloc (.cells #[.bool false, .slice none 0 0] 57) = W := ⟨_, rfl⟩
  have K0 : Hid (Kept W.drew w.heap.size #[.int .i64 a, .int .i64 b] 33) := Lib.hid (by
    have h : Kept W w.heap.size #[.int .i64 a, .int .i64 b] 33 := by rw [← hW]; exact (Kept.new rfl).alloc _
    exact h)
  have R0 : Hid (Kept W.drew (w.heap.size + 1) #[.bool false, .slice none 0 0] 57) := Lib.hid (by
    have h : Kept W (w.heap.size + 1) #[.bool false, .slice none 0 0] 57 := by rw [← hW]; exact Kept.new (by simp)
    exact h)
  have B0 : Hid (Below w.heap.size w W.drew) := Lib.hid (by
    have h : Below w.heap.size w W := by rw [← hW]; exact (one_alloc w _).alloc (by simp) _
    exact below_drewN h 1)
  have SS : Hid (Below w.heap.size w W.drew) ∧ W.drew.cell? ⟨w.heap.size, 0, none⟩ = some (.int .i64 a) ∧ W.drew.cell? ⟨w.heap.size, 1, none⟩ = some (.int .i64 b) := ⟨B0, K0.out.two.1, K0.out.two.2.1⟩
  have HW := Lib.hid hW
  have RB := R0
  clear hW ha hb K0 B0 R0
  go_enter Try.func32, Try.ntmps32
  go_wp2
  rw [HW.out]
  obtain ⟨q0, q1, q2⟩ := SS
  have SS : Hid (Below w.heap.size w W.drew) ∧ W.drew.cell? ⟨w.heap.size, 0, none⟩ = some (.int .i64 a) ∧ W.drew.cell? ⟨w.heap.size, 1, none⟩ = some (.int .i64 b) := ⟨q0, q1, q2⟩
  have SH := Lib.hid SS
  clear SS q0 q1 q2
  have SS := SH.out
  go_region_held3 (fun w' => Hid (Below w.heap.size w w') ∧ w'.cell? ⟨w.heap.size, 0, none⟩ = some (.int .i64 a) ∧ w'.cell? ⟨w.heap.size, 1, none⟩ = some (.int .i64 b))
    (first | exact SS | exact ⟨Lib.hid (bset2 SS.1.out (by omega) _ _), set2_far SS.2.1 (by simp), set2_far SS.2.2 (by simp)⟩ | go_keep)
    (first
      | (go_at_call_of 27 (Value.int IntKind.i64 b); refine (C2.out _).mono ?_; rintro _ wb ⟨vb, rfl, hnb, hbb⟩; have SS := keepB2 (a := w) hbb SS; have RB := Lib.hid (RB.out.next hbb); (try have hna := NumAt.below hna hbb); (try have hnn := NumAt.below hnn hbb))
      | (go_at_call_of 27 (Value.int IntKind.i64 a); refine (C1.out _).mono ?_; rintro _ wa ⟨va, rfl, hna, hba⟩; have SS := keepB2 (a := w) hba SS; have RB := Lib.hid (RB.out.next hba); (try have hnb := NumAt.below hnb hba))
      | (go_at_call 47; refine (Cn.out _ va hna).mono ?_; rintro _ wn ⟨vn, rfl, hnn, hbn⟩; have SS := keepB2 (a := w) hbn SS; have RB := Lib.hid (RB.out.next hbn); (try have hnb := NumAt.below hnb hbn))
      | (go_at_call 28; refine (C3.out _ vb vn hnb hnn).mono ?_; rintro _ ws ⟨vs, rfl, hns, hbs⟩; have SS := keepB2 (a := w) hbs SS; have RB := Lib.hid (RB.out.next hbs); have HN3 := Lib.hid hns; obtain ⟨ng, l', d', rfl, ⟨la', lc', rfl, -⟩, -⟩ := hns; obtain ⟨r1, r2, r3, r4, r5⟩ := RB.out.two))
  all_goals
    go_wp2
    obtain ⟨s1, s2⟩ := RB.out.read2 (.bool ng) (.slice la' d'.length lc')
    refine bodyPost_ret (v := .agg #[.bool ng, .slice la' d'.length lc']) (by simp [results, Try.results32, go_sem, s1, s2]) rfl ?_
    exact num_stored_at SS.1.out HN3.out RB.out.two.1 RB.out.two.2.1 (by simp) (by simp) (by omega)
-- PICK
set_option maxHeartbeats 1000000 in
theorem rpick_state (wd p m a b : Int) (w : World) (CR : Hid (∀ W, Calls Try.prog 9 #[.agg #[.int .i64 wd, .int .i64 p, .int .i64 m]] W (Gives (.bool false) W))) :
    Calls Try.prog 14 #[.agg #[.int .i64 wd, .int .i64 p, .int .i64 m], .agg #[.int .i64 a, .int .i64 b]] w (Gives (.tuple #[.int .i64 0, .int .i64 21]) w) := by
  have B0 : Hid (Below w.heap.size w ((w.alloc (.cells #[.int .i64 wd, .int .i64 p, .int .i64 m] 31)).alloc (.cells #[.int .i64 a, .int .i64 b] 33))) := Lib.hid ((one_alloc w _).alloc (by simp) _)
  have K0 : Hid (Kept ((w.alloc (.cells #[.int .i64 wd, .int .i64 p, .int .i64 m] 31)).alloc (.cells #[.int .i64 a, .int .i64 b] 33)) w.heap.size #[.int .i64 wd, .int .i64 p, .int .i64 m] 31) := Lib.hid (by exact (Kept.new rfl).alloc _)
  have X0 : Hid (Kept ((w.alloc (.cells #[.int .i64 wd, .int .i64 p, .int .i64 m] 31)).alloc (.cells #[.int .i64 a, .int .i64 b] 33)) (w.heap.size + 1) #[.int .i64 a, .int .i64 b] 33) := Lib.hid (by exact Kept.new (by simp))
  go_enter Try.func14, Try.ntmps14
  go_wp2_with fail
  refine (CR.out _).mono ?_
  rintro _ w1 ⟨rfl, hb1⟩
  have B1 := Lib.hid (bnext B0.out B0.out.size hb1)
  have K1 := Lib.hid (K0.out.next hb1)
  have X1 := Lib.hid (X0.out.next hb1)
  clear hb1 B0 K0 X0
  go_wp2
  go_ret2
  exact ⟨ret2 rfl rfl, B1.out⟩
set_option maxHeartbeats 1000000 in
theorem rpick_form (wd p m a b : Int) (w : World) (CR : Hid (∀ W, Calls Try.prog 9 #[.agg #[.int .i64 wd, .int .i64 p, .int .i64 m]] W (Gives (.bool true) W))) (CX : Hid (∀ W, Calls Try.prog 19 #[.agg #[.int .i64 a, .int .i64 b]] W (Gives (.bool false) W))) :
    Calls Try.prog 14 #[.agg #[.int .i64 wd, .int .i64 p, .int .i64 m], .agg #[.int .i64 a, .int .i64 b]] w (Gives (.tuple #[.int .i64 0, .int .i64 10]) w) := by
  have B0 : Hid (Below w.heap.size w ((w.alloc (.cells #[.int .i64 wd, .int .i64 p, .int .i64 m] 31)).alloc (.cells #[.int .i64 a, .int .i64 b] 33))) := Lib.hid ((one_alloc w _).alloc (by simp) _)
  have K0 : Hid (Kept ((w.alloc (.cells #[.int .i64 wd, .int .i64 p, .int .i64 m] 31)).alloc (.cells #[.int .i64 a, .int .i64 b] 33)) w.heap.size #[.int .i64 wd, .int .i64 p, .int .i64 m] 31) := Lib.hid (by exact (Kept.new rfl).alloc _)
  have X0 : Hid (Kept ((w.alloc (.cells #[.int .i64 wd, .int .i64 p, .int .i64 m] 31)).alloc (.cells #[.int .i64 a, .int .i64 b] 33)) (w.heap.size + 1) #[.int .i64 a, .int .i64 b] 33) := Lib.hid (by exact Kept.new (by simp))
  go_enter Try.func14, Try.ntmps14
  go_wp2_with fail
  refine (CR.out _).mono ?_
  rintro _ w1 ⟨rfl, hb1⟩
  have B1 := Lib.hid (bnext B0.out B0.out.size hb1)
  have K1 := Lib.hid (K0.out.next hb1)
  have X1 := Lib.hid (X0.out.next hb1)
  clear hb1 B0 K0 X0
  obtain ⟨x1, x2, -, -, xl⟩ := X1.out.two
  go_wp2_with fail
  refine (CX.out _).mono ?_
  rintro _ w2 ⟨rfl, hb2⟩
  have B2 := Lib.hid (bnext B1.out B1.out.size hb2)
  have K2 := Lib.hid (K1.out.next hb2)
  have X2 := Lib.hid (X1.out.next hb2)
  clear hb2 B1 K1 X1
  clear x1 x2 xl
  go_wp2
  go_ret2
  exact ⟨ret2 rfl rfl, B2.out⟩
set_option maxHeartbeats 4000000 in
theorem rpick_long (wd p m a b c : Int) (w : World) (CR : Hid (∀ W, Calls Try.prog 9 #[.agg #[.int .i64 wd, .int .i64 p, .int .i64 m]] W (Gives (.bool true) W))) (CX : Hid (∀ W, Calls Try.prog 19 #[.agg #[.int .i64 a, .int .i64 b]] W (Gives (.bool true) W)))
    (CW : Hid (∀ W, Calls Try.prog 32 #[.agg #[.int .i64 a, .int .i64 b]] W (NumOut (b - a) W))) (CO : Hid (∀ W, Calls Try.prog 27 #[.int .i64 m] W fun e w' => NumOut m W e w')) (CC : Hid (∀ W u v, NumAt W u (b - a) → NumAt W v m → Calls Try.prog 31 #[u, v] W (Gives (.int .i64 c) W))) (dc : decide (0 < c) = true) :
    Calls Try.prog 14 #[.agg #[.int .i64 wd, .int .i64 p, .int .i64 m], .agg #[.int .i64 a, .int .i64 b]] w (Gives (.tuple #[.int .i64 0, .int .i64 17]) w) := by
  have B0 : Hid (Below w.heap.size w ((w.alloc (.cells #[.int .i64 wd, .int .i64 p, .int .i64 m] 31)).alloc (.cells #[.int .i64 a, .int .i64 b] 33))) := Lib.hid ((one_alloc w _).alloc (by simp) _)
  have K0 : Hid (Kept ((w.alloc (.cells #[.int .i64 wd, .int .i64 p, .int .i64 m] 31)).alloc (.cells #[.int .i64 a, .int .i64 b] 33)) w.heap.size #[.int .i64 wd, .int .i64 p, .int .i64 m] 31) := Lib.hid (by exact (Kept.new rfl).alloc _)
  have X0 : Hid (Kept ((w.alloc (.cells #[.int .i64 wd, .int .i64 p, .int .i64 m] 31)).alloc (.cells #[.int .i64 a, .int .i64 b] 33)) (w.heap.size + 1) #[.int .i64 a, .int .i64 b] 33) := Lib.hid (by exact Kept.new (by simp))
  go_enter Try.func14, Try.ntmps14
  go_wp2_with fail
  refine (CR.out _).mono ?_
  rintro _ w1 ⟨rfl, hb1⟩
  have B1 := Lib.hid (bnext B0.out B0.out.size hb1)
  have K1 := Lib.hid (K0.out.next hb1)
  have X1 := Lib.hid (X0.out.next hb1)
  clear hb1 B0 K0 X0
  obtain ⟨x1, x2, -, -, xl⟩ := X1.out.two
  go_wp2_with fail
  refine (CX.out _).mono ?_
  rintro _ w2 ⟨rfl, hb2⟩
  have B2 := Lib.hid (bnext B1.out B1.out.size hb2)
  have K2 := Lib.hid (K1.out.next hb2)
  have X2 := Lib.hid (X1.out.next hb2)
  clear hb2 B1 K1 X1
  clear x1 x2 xl
  obtain ⟨g1, g2, g3, -, -, -, gl⟩ := K2.out.three
  obtain ⟨x1, x2, -, -, xl⟩ := X2.out.two
  have SS : Hid (Below w.heap.size w w2.drew) ∧ w2.drew.cell? ⟨w.heap.size, 0, none⟩ = some (.int .i64 wd) ∧ w2.drew.cell? ⟨w.heap.size, 1, none⟩ = some (.int .i64 p) ∧ w2.drew.cell? ⟨w.heap.size, 2, none⟩ = some (.int .i64 m) ∧ w2.drew.cell? ⟨w.heap.size + 1, 0, none⟩ = some (.int .i64 a) ∧ w2.drew.cell? ⟨w.heap.size + 1, 1, none⟩ = some (.int .i64 b) := ⟨Lib.hid (below_drewN B2.out 1), g1, g2, g3, x1, x2⟩
  clear g1 g2 g3 gl x1 x2 xl
  go_wp2
  have SH := Lib.hid SS
  clear SS
  have SS := SH.out
  go_region_held3 (fun w' => Hid (Below w.heap.size w w') ∧ w'.cell? ⟨w.heap.size, 0, none⟩ = some (.int .i64 wd) ∧ w'.cell? ⟨w.heap.size, 1, none⟩ = some (.int .i64 p) ∧ w'.cell? ⟨w.heap.size, 2, none⟩ = some (.int .i64 m) ∧ w'.cell? ⟨w.heap.size + 1, 0, none⟩ = some (.int .i64 a) ∧ w'.cell? ⟨w.heap.size + 1, 1, none⟩ = some (.int .i64 b))
    (first | exact SS | go_keep)
    (first
      | (go_at_call 32; refine (CW.out _).mono ?_; rintro _ w3 ⟨v3, rfl, hn3, hb3⟩; have SS := keepB5 (a := w) hb3 SS; (try have hn4 := NumAt.below hn4 hb3))
      | (go_at_call 27; refine (CO.out _).mono ?_; rintro _ w4 ⟨v4, rfl, hn4, hb4⟩; have SS := keepB5 (a := w) hb4 SS; (try have hn3 := NumAt.below hn3 hb4))
      | (go_at_call 31; refine (CC.out _ v3 v4 hn3 hn4).mono ?_; rintro _ w5 ⟨rfl, hb5⟩; have SS := keepB5 (a := w) hb5 SS))
  all_goals
    clear SH
    have B := SS.1
    clear SS
    go_wp2
    go_ret2
    exact ⟨ret2 rfl rfl, B.out⟩
set_option maxHeartbeats 8000000 in
theorem rpick_first (wd p m a b c U V : Int) (w : World) (CR : Hid (∀ W, Calls Try.prog 9 #[.agg #[.int .i64 wd, .int .i64 p, .int .i64 m]] W (Gives (.bool true) W))) (CX : Hid (∀ W, Calls Try.prog 19 #[.agg #[.int .i64 a, .int .i64 b]] W (Gives (.bool true) W)))
    (CW : Hid (∀ W, Calls Try.prog 32 #[.agg #[.int .i64 a, .int .i64 b]] W (NumOut (b - a) W))) (CO : Hid (∀ W, Calls Try.prog 27 #[.int .i64 m] W fun e w' => NumOut m W e w')) (CC : Hid (∀ W u v, NumAt W u (b - a) → NumAt W v m → Calls Try.prog 31 #[u, v] W (Gives (.int .i64 c) W))) (dc : decide (0 < c) = false) (C1 : Hid (∀ W, Calls Try.prog 17 #[.agg #[.int .i64 wd, .int .i64 p, .int .i64 m], .int .i64 a] W (Gives (.int .i64 U) W))) (C2 : Hid (∀ W, Calls Try.prog 17 #[.agg #[.int .i64 wd, .int .i64 p, .int .i64 m], .int .i64 b] W (Gives (.int .i64 V) W))) 
    (p0 : (p == 0) = true) :
    Calls Try.prog 14 #[.agg #[.int .i64 wd, .int .i64 p, .int .i64 m], .agg #[.int .i64 a, .int .i64 b]] w (Gives (.tuple #[.int .i64 U, .int .i64 0]) w) := by
  have B0 : Hid (Below w.heap.size w ((w.alloc (.cells #[.int .i64 wd, .int .i64 p, .int .i64 m] 31)).alloc (.cells #[.int .i64 a, .int .i64 b] 33))) := Lib.hid ((one_alloc w _).alloc (by simp) _)
  have K0 : Hid (Kept ((w.alloc (.cells #[.int .i64 wd, .int .i64 p, .int .i64 m] 31)).alloc (.cells #[.int .i64 a, .int .i64 b] 33)) w.heap.size #[.int .i64 wd, .int .i64 p, .int .i64 m] 31) := Lib.hid (by exact (Kept.new rfl).alloc _)
  have X0 : Hid (Kept ((w.alloc (.cells #[.int .i64 wd, .int .i64 p, .int .i64 m] 31)).alloc (.cells #[.int .i64 a, .int .i64 b] 33)) (w.heap.size + 1) #[.int .i64 a, .int .i64 b] 33) := Lib.hid (by exact Kept.new (by simp))
  go_enter Try.func14, Try.ntmps14
  go_wp2_with fail
  refine (CR.out _).mono ?_
  rintro _ w1 ⟨rfl, hb1⟩
  have B1 := Lib.hid (bnext B0.out B0.out.size hb1)
  have K1 := Lib.hid (K0.out.next hb1)
  have X1 := Lib.hid (X0.out.next hb1)
  clear hb1 B0 K0 X0
  obtain ⟨x1, x2, -, -, xl⟩ := X1.out.two
  go_wp2_with fail
  refine (CX.out _).mono ?_
  rintro _ w2 ⟨rfl, hb2⟩
  have B2 := Lib.hid (bnext B1.out B1.out.size hb2)
  have K2 := Lib.hid (K1.out.next hb2)
  have X2 := Lib.hid (X1.out.next hb2)
  clear hb2 B1 K1 X1
  clear x1 x2 xl
  obtain ⟨g1, g2, g3, -, -, -, gl⟩ := K2.out.three
  obtain ⟨x1, x2, -, -, xl⟩ := X2.out.two
  have SS : Hid (Below w.heap.size w w2.drew) ∧ w2.drew.cell? ⟨w.heap.size, 0, none⟩ = some (.int .i64 wd) ∧ w2.drew.cell? ⟨w.heap.size, 1, none⟩ = some (.int .i64 p) ∧ w2.drew.cell? ⟨w.heap.size, 2, none⟩ = some (.int .i64 m) ∧ w2.drew.cell? ⟨w.heap.size + 1, 0, none⟩ = some (.int .i64 a) ∧ w2.drew.cell? ⟨w.heap.size + 1, 1, none⟩ = some (.int .i64 b) := ⟨Lib.hid (below_drewN B2.out 1), g1, g2, g3, x1, x2⟩
  clear g1 g2 g3 gl x1 x2 xl
  go_wp2
  have SH := Lib.hid SS
  clear SS
  have SS := SH.out
  go_region_held3 (fun w' => Hid (Below w.heap.size w w') ∧ w'.cell? ⟨w.heap.size, 0, none⟩ = some (.int .i64 wd) ∧ w'.cell? ⟨w.heap.size, 1, none⟩ = some (.int .i64 p) ∧ w'.cell? ⟨w.heap.size, 2, none⟩ = some (.int .i64 m) ∧ w'.cell? ⟨w.heap.size + 1, 0, none⟩ = some (.int .i64 a) ∧ w'.cell? ⟨w.heap.size + 1, 1, none⟩ = some (.int .i64 b))
    (first | exact SS | go_keep)
    (first
      | (go_at_call 32; refine (CW.out _).mono ?_; rintro _ w3 ⟨v3, rfl, hn3, hb3⟩; have SS := keepB5 (a := w) hb3 SS; (try have hn4 := NumAt.below hn4 hb3))
      | (go_at_call 27; refine (CO.out _).mono ?_; rintro _ w4 ⟨v4, rfl, hn4, hb4⟩; have SS := keepB5 (a := w) hb4 SS; (try have hn3 := NumAt.below hn3 hb4))
      | (go_at_call 31; refine (CC.out _ v3 v4 hn3 hn4).mono ?_; rintro _ w5 ⟨rfl, hb5⟩; have SS := keepB5 (a := w) hb5 SS))
  all_goals
    clear SH
    obtain ⟨q0, q1, q2, q3, q4, q5⟩ := SS
    go_wp2_with fail
    refine (C1.out _).mono ?_
    rintro _ u1 ⟨rfl, hb⟩
    have SS := keepB5 (a := w) hb ⟨q0, q1, q2, q3, q4, q5⟩
    clear hb q0 q1 q2 q3 q4 q5
    obtain ⟨q0, q1, q2, q3, q4, q5⟩ := SS
    go_wp2_with fail
    refine (C2.out _).mono ?_
    rintro _ u2 ⟨rfl, hb⟩
    have SS := keepB5 (a := w) hb ⟨q0, q1, q2, q3, q4, q5⟩
    clear hb q0 q1 q2 q3 q4 q5
    obtain ⟨q0, q1, q2, q3, q4, q5⟩ := SS
    go_wp2
    go_ret2
    exact ⟨ret2 rfl rfl, q0.out⟩
set_option maxHeartbeats 8000000 in
theorem rpick_last (wd p m a b c U V : Int) (w : World) (CR : Hid (∀ W, Calls Try.prog 9 #[.agg #[.int .i64 wd, .int .i64 p, .int .i64 m]] W (Gives (.bool true) W))) (CX : Hid (∀ W, Calls Try.prog 19 #[.agg #[.int .i64 a, .int .i64 b]] W (Gives (.bool true) W)))
    (CW : Hid (∀ W, Calls Try.prog 32 #[.agg #[.int .i64 a, .int .i64 b]] W (NumOut (b - a) W))) (CO : Hid (∀ W, Calls Try.prog 27 #[.int .i64 m] W fun e w' => NumOut m W e w')) (CC : Hid (∀ W u v, NumAt W u (b - a) → NumAt W v m → Calls Try.prog 31 #[u, v] W (Gives (.int .i64 c) W))) (dc : decide (0 < c) = false) (C1 : Hid (∀ W, Calls Try.prog 17 #[.agg #[.int .i64 wd, .int .i64 p, .int .i64 m], .int .i64 a] W (Gives (.int .i64 U) W))) (C2 : Hid (∀ W, Calls Try.prog 17 #[.agg #[.int .i64 wd, .int .i64 p, .int .i64 m], .int .i64 b] W (Gives (.int .i64 V) W))) 
    (p0 : (p == 0) = false) (p1 : (p == 1) = true) :
    Calls Try.prog 14 #[.agg #[.int .i64 wd, .int .i64 p, .int .i64 m], .agg #[.int .i64 a, .int .i64 b]] w (Gives (.tuple #[.int .i64 V, .int .i64 0]) w) := by
  have B0 : Hid (Below w.heap.size w ((w.alloc (.cells #[.int .i64 wd, .int .i64 p, .int .i64 m] 31)).alloc (.cells #[.int .i64 a, .int .i64 b] 33))) := Lib.hid ((one_alloc w _).alloc (by simp) _)
  have K0 : Hid (Kept ((w.alloc (.cells #[.int .i64 wd, .int .i64 p, .int .i64 m] 31)).alloc (.cells #[.int .i64 a, .int .i64 b] 33)) w.heap.size #[.int .i64 wd, .int .i64 p, .int .i64 m] 31) := Lib.hid (by exact (Kept.new rfl).alloc _)
  have X0 : Hid (Kept ((w.alloc (.cells #[.int .i64 wd, .int .i64 p, .int .i64 m] 31)).alloc (.cells #[.int .i64 a, .int .i64 b] 33)) (w.heap.size + 1) #[.int .i64 a, .int .i64 b] 33) := Lib.hid (by exact Kept.new (by simp))
  go_enter Try.func14, Try.ntmps14
  go_wp2_with fail
  refine (CR.out _).mono ?_
  rintro _ w1 ⟨rfl, hb1⟩
  have B1 := Lib.hid (bnext B0.out B0.out.size hb1)
  have K1 := Lib.hid (K0.out.next hb1)
  have X1 := Lib.hid (X0.out.next hb1)
  clear hb1 B0 K0 X0
  obtain ⟨x1, x2, -, -, xl⟩ := X1.out.two
  go_wp2_with fail
  refine (CX.out _).mono ?_
  rintro _ w2 ⟨rfl, hb2⟩
  have B2 := Lib.hid (bnext B1.out B1.out.size hb2)
  have K2 := Lib.hid (K1.out.next hb2)
  have X2 := Lib.hid (X1.out.next hb2)
  clear hb2 B1 K1 X1
  clear x1 x2 xl
  obtain ⟨g1, g2, g3, -, -, -, gl⟩ := K2.out.three
  obtain ⟨x1, x2, -, -, xl⟩ := X2.out.two
  have SS : Hid (Below w.heap.size w w2.drew) ∧ w2.drew.cell? ⟨w.heap.size, 0, none⟩ = some (.int .i64 wd) ∧ w2.drew.cell? ⟨w.heap.size, 1, none⟩ = some (.int .i64 p) ∧ w2.drew.cell? ⟨w.heap.size, 2, none⟩ = some (.int .i64 m) ∧ w2.drew.cell? ⟨w.heap.size + 1, 0, none⟩ = some (.int .i64 a) ∧ w2.drew.cell? ⟨w.heap.size + 1, 1, none⟩ = some (.int .i64 b) := ⟨Lib.hid (below_drewN B2.out 1), g1, g2, g3, x1, x2⟩
  clear g1 g2 g3 gl x1 x2 xl
  go_wp2
  have SH := Lib.hid SS
  clear SS
  have SS := SH.out
  go_region_held3 (fun w' => Hid (Below w.heap.size w w') ∧ w'.cell? ⟨w.heap.size, 0, none⟩ = some (.int .i64 wd) ∧ w'.cell? ⟨w.heap.size, 1, none⟩ = some (.int .i64 p) ∧ w'.cell? ⟨w.heap.size, 2, none⟩ = some (.int .i64 m) ∧ w'.cell? ⟨w.heap.size + 1, 0, none⟩ = some (.int .i64 a) ∧ w'.cell? ⟨w.heap.size + 1, 1, none⟩ = some (.int .i64 b))
    (first | exact SS | go_keep)
    (first
      | (go_at_call 32; refine (CW.out _).mono ?_; rintro _ w3 ⟨v3, rfl, hn3, hb3⟩; have SS := keepB5 (a := w) hb3 SS; (try have hn4 := NumAt.below hn4 hb3))
      | (go_at_call 27; refine (CO.out _).mono ?_; rintro _ w4 ⟨v4, rfl, hn4, hb4⟩; have SS := keepB5 (a := w) hb4 SS; (try have hn3 := NumAt.below hn3 hb4))
      | (go_at_call 31; refine (CC.out _ v3 v4 hn3 hn4).mono ?_; rintro _ w5 ⟨rfl, hb5⟩; have SS := keepB5 (a := w) hb5 SS))
  all_goals
    clear SH
    obtain ⟨q0, q1, q2, q3, q4, q5⟩ := SS
    go_wp2_with fail
    refine (C1.out _).mono ?_
    rintro _ u1 ⟨rfl, hb⟩
    have SS := keepB5 (a := w) hb ⟨q0, q1, q2, q3, q4, q5⟩
    clear hb q0 q1 q2 q3 q4 q5
    obtain ⟨q0, q1, q2, q3, q4, q5⟩ := SS
    go_wp2_with fail
    refine (C2.out _).mono ?_
    rintro _ u2 ⟨rfl, hb⟩
    have SS := keepB5 (a := w) hb ⟨q0, q1, q2, q3, q4, q5⟩
    clear hb q0 q1 q2 q3 q4 q5
    obtain ⟨q0, q1, q2, q3, q4, q5⟩ := SS
    go_wp2
    go_ret2
    exact ⟨ret2 rfl rfl, q0.out⟩
set_option maxHeartbeats 8000000 in
theorem rpick_mid (wd p m a b c U V M Z : Int) (w : World) (CR : Hid (∀ W, Calls Try.prog 9 #[.agg #[.int .i64 wd, .int .i64 p, .int .i64 m]] W (Gives (.bool true) W))) (CX : Hid (∀ W, Calls Try.prog 19 #[.agg #[.int .i64 a, .int .i64 b]] W (Gives (.bool true) W)))
    (CW : Hid (∀ W, Calls Try.prog 32 #[.agg #[.int .i64 a, .int .i64 b]] W (NumOut (b - a) W))) (CO : Hid (∀ W, Calls Try.prog 27 #[.int .i64 m] W fun e w' => NumOut m W e w')) (CC : Hid (∀ W u v, NumAt W u (b - a) → NumAt W v m → Calls Try.prog 31 #[u, v] W (Gives (.int .i64 c) W))) (dc : decide (0 < c) = false) (C1 : Hid (∀ W, Calls Try.prog 17 #[.agg #[.int .i64 wd, .int .i64 p, .int .i64 m], .int .i64 a] W (Gives (.int .i64 U) W))) (C2 : Hid (∀ W, Calls Try.prog 17 #[.agg #[.int .i64 wd, .int .i64 p, .int .i64 m], .int .i64 b] W (Gives (.int .i64 V) W))) (CM : Hid (∀ W, Calls Try.prog 33 #[.agg #[.int .i64 a, .int .i64 b]] W (Gives (.int .i64 M) W))) (C3 : Hid (∀ W, Calls Try.prog 17 #[.agg #[.int .i64 wd, .int .i64 p, .int .i64 m], .int .i64 M] W (Gives (.int .i64 Z) W)))
    (p0 : (p == 0) = false) (p1 : (p == 1) = false) (p2 : (p == 2) = true) :
    Calls Try.prog 14 #[.agg #[.int .i64 wd, .int .i64 p, .int .i64 m], .agg #[.int .i64 a, .int .i64 b]] w (Gives (.tuple #[.int .i64 Z, .int .i64 0]) w) := by
  have B0 : Hid (Below w.heap.size w ((w.alloc (.cells #[.int .i64 wd, .int .i64 p, .int .i64 m] 31)).alloc (.cells #[.int .i64 a, .int .i64 b] 33))) := Lib.hid ((one_alloc w _).alloc (by simp) _)
  have K0 : Hid (Kept ((w.alloc (.cells #[.int .i64 wd, .int .i64 p, .int .i64 m] 31)).alloc (.cells #[.int .i64 a, .int .i64 b] 33)) w.heap.size #[.int .i64 wd, .int .i64 p, .int .i64 m] 31) := Lib.hid (by exact (Kept.new rfl).alloc _)
  have X0 : Hid (Kept ((w.alloc (.cells #[.int .i64 wd, .int .i64 p, .int .i64 m] 31)).alloc (.cells #[.int .i64 a, .int .i64 b] 33)) (w.heap.size + 1) #[.int .i64 a, .int .i64 b] 33) := Lib.hid (by exact Kept.new (by simp))
  go_enter Try.func14, Try.ntmps14
  go_wp2_with fail
  refine (CR.out _).mono ?_
  rintro _ w1 ⟨rfl, hb1⟩
  have B1 := Lib.hid (bnext B0.out B0.out.size hb1)
  have K1 := Lib.hid (K0.out.next hb1)
  have X1 := Lib.hid (X0.out.next hb1)
  clear hb1 B0 K0 X0
  obtain ⟨x1, x2, -, -, xl⟩ := X1.out.two
  go_wp2_with fail
  refine (CX.out _).mono ?_
  rintro _ w2 ⟨rfl, hb2⟩
  have B2 := Lib.hid (bnext B1.out B1.out.size hb2)
  have K2 := Lib.hid (K1.out.next hb2)
  have X2 := Lib.hid (X1.out.next hb2)
  clear hb2 B1 K1 X1
  clear x1 x2 xl
  obtain ⟨g1, g2, g3, -, -, -, gl⟩ := K2.out.three
  obtain ⟨x1, x2, -, -, xl⟩ := X2.out.two
  have SS : Hid (Below w.heap.size w w2.drew) ∧ w2.drew.cell? ⟨w.heap.size, 0, none⟩ = some (.int .i64 wd) ∧ w2.drew.cell? ⟨w.heap.size, 1, none⟩ = some (.int .i64 p) ∧ w2.drew.cell? ⟨w.heap.size, 2, none⟩ = some (.int .i64 m) ∧ w2.drew.cell? ⟨w.heap.size + 1, 0, none⟩ = some (.int .i64 a) ∧ w2.drew.cell? ⟨w.heap.size + 1, 1, none⟩ = some (.int .i64 b) := ⟨Lib.hid (below_drewN B2.out 1), g1, g2, g3, x1, x2⟩
  clear g1 g2 g3 gl x1 x2 xl
  go_wp2
  have SH := Lib.hid SS
  clear SS
  have SS := SH.out
  go_region_held3 (fun w' => Hid (Below w.heap.size w w') ∧ w'.cell? ⟨w.heap.size, 0, none⟩ = some (.int .i64 wd) ∧ w'.cell? ⟨w.heap.size, 1, none⟩ = some (.int .i64 p) ∧ w'.cell? ⟨w.heap.size, 2, none⟩ = some (.int .i64 m) ∧ w'.cell? ⟨w.heap.size + 1, 0, none⟩ = some (.int .i64 a) ∧ w'.cell? ⟨w.heap.size + 1, 1, none⟩ = some (.int .i64 b))
    (first | exact SS | go_keep)
    (first
      | (go_at_call 32; refine (CW.out _).mono ?_; rintro _ w3 ⟨v3, rfl, hn3, hb3⟩; have SS := keepB5 (a := w) hb3 SS; (try have hn4 := NumAt.below hn4 hb3))
      | (go_at_call 27; refine (CO.out _).mono ?_; rintro _ w4 ⟨v4, rfl, hn4, hb4⟩; have SS := keepB5 (a := w) hb4 SS; (try have hn3 := NumAt.below hn3 hb4))
      | (go_at_call 31; refine (CC.out _ v3 v4 hn3 hn4).mono ?_; rintro _ w5 ⟨rfl, hb5⟩; have SS := keepB5 (a := w) hb5 SS))
  all_goals
    clear SH
    obtain ⟨q0, q1, q2, q3, q4, q5⟩ := SS
    go_wp2_with fail
    refine (C1.out _).mono ?_
    rintro _ u1 ⟨rfl, hb⟩
    have SS := keepB5 (a := w) hb ⟨q0, q1, q2, q3, q4, q5⟩
    clear hb q0 q1 q2 q3 q4 q5
    obtain ⟨q0, q1, q2, q3, q4, q5⟩ := SS
    go_wp2_with fail
    refine (C2.out _).mono ?_
    rintro _ u2 ⟨rfl, hb⟩
    have SS := keepB5 (a := w) hb ⟨q0, q1, q2, q3, q4, q5⟩
    clear hb q0 q1 q2 q3 q4 q5
    have HQ := SS
    clear SS
    obtain ⟨q0, q1, q2, q3, q4, q5⟩ := HQ
    have SS : Hid (Below w.heap.size w u2.drew) ∧ u2.drew.cell? ⟨w.heap.size, 0, none⟩ = some (.int .i64 wd) ∧ u2.drew.cell? ⟨w.heap.size, 1, none⟩ = some (.int .i64 p) ∧ u2.drew.cell? ⟨w.heap.size, 2, none⟩ = some (.int .i64 m) ∧ u2.drew.cell? ⟨w.heap.size + 1, 0, none⟩ = some (.int .i64 a) ∧ u2.drew.cell? ⟨w.heap.size + 1, 1, none⟩ = some (.int .i64 b) := ⟨Lib.hid (below_drewN q0.out 1), q1, q2, q3, q4, q5⟩
    go_wp2
    have SH := Lib.hid SS
    clear SS q0 q1 q2 q3 q4 q5
    have SS := SH.out
    go_region_held3 (fun w' => Hid (Below w.heap.size w w') ∧ w'.cell? ⟨w.heap.size, 0, none⟩ = some (.int .i64 wd) ∧ w'.cell? ⟨w.heap.size, 1, none⟩ = some (.int .i64 p) ∧ w'.cell? ⟨w.heap.size, 2, none⟩ = some (.int .i64 m) ∧ w'.cell? ⟨w.heap.size + 1, 0, none⟩ = some (.int .i64 a) ∧ w'.cell? ⟨w.heap.size + 1, 1, none⟩ = some (.int .i64 b))
      (first | exact SS | go_keep)
      (first
        | (go_at_call 33; refine (CM.out _).mono ?_; rintro _ t3 ⟨rfl, ht3⟩; have SS := keepB5 (a := w) ht3 SS)
        | (go_at_call 17; refine (C3.out _).mono ?_; rintro _ t4 ⟨rfl, ht4⟩; have SS := keepB5 (a := w) ht4 SS))
    all_goals
      have B := SS.1
      clear SS SH
      go_wp2
      go_ret2
      exact ⟨ret2 rfl rfl, B.out⟩
set_option maxHeartbeats 8000000 in
theorem rpick_two (wd p m a b c U V : Int) (w : World) (CR : Hid (∀ W, Calls Try.prog 9 #[.agg #[.int .i64 wd, .int .i64 p, .int .i64 m]] W (Gives (.bool true) W))) (CX : Hid (∀ W, Calls Try.prog 19 #[.agg #[.int .i64 a, .int .i64 b]] W (Gives (.bool true) W)))
    (CW : Hid (∀ W, Calls Try.prog 32 #[.agg #[.int .i64 a, .int .i64 b]] W (NumOut (b - a) W))) (CO : Hid (∀ W, Calls Try.prog 27 #[.int .i64 m] W fun e w' => NumOut m W e w')) (CC : Hid (∀ W u v, NumAt W u (b - a) → NumAt W v m → Calls Try.prog 31 #[u, v] W (Gives (.int .i64 c) W))) (dc : decide (0 < c) = false) (C1 : Hid (∀ W, Calls Try.prog 17 #[.agg #[.int .i64 wd, .int .i64 p, .int .i64 m], .int .i64 a] W (Gives (.int .i64 U) W))) (C2 : Hid (∀ W, Calls Try.prog 17 #[.agg #[.int .i64 wd, .int .i64 p, .int .i64 m], .int .i64 b] W (Gives (.int .i64 V) W))) 
    (p0 : (p == 0) = false) (p1 : (p == 1) = false) (p2 : (p == 2) = false) (uv : (U != V) = true) :
    Calls Try.prog 14 #[.agg #[.int .i64 wd, .int .i64 p, .int .i64 m], .agg #[.int .i64 a, .int .i64 b]] w (Gives (.tuple #[.int .i64 0, .int .i64 17]) w) := by
  have B0 : Hid (Below w.heap.size w ((w.alloc (.cells #[.int .i64 wd, .int .i64 p, .int .i64 m] 31)).alloc (.cells #[.int .i64 a, .int .i64 b] 33))) := Lib.hid ((one_alloc w _).alloc (by simp) _)
  have K0 : Hid (Kept ((w.alloc (.cells #[.int .i64 wd, .int .i64 p, .int .i64 m] 31)).alloc (.cells #[.int .i64 a, .int .i64 b] 33)) w.heap.size #[.int .i64 wd, .int .i64 p, .int .i64 m] 31) := Lib.hid (by exact (Kept.new rfl).alloc _)
  have X0 : Hid (Kept ((w.alloc (.cells #[.int .i64 wd, .int .i64 p, .int .i64 m] 31)).alloc (.cells #[.int .i64 a, .int .i64 b] 33)) (w.heap.size + 1) #[.int .i64 a, .int .i64 b] 33) := Lib.hid (by exact Kept.new (by simp))
  go_enter Try.func14, Try.ntmps14
  go_wp2_with fail
  refine (CR.out _).mono ?_
  rintro _ w1 ⟨rfl, hb1⟩
  have B1 := Lib.hid (bnext B0.out B0.out.size hb1)
  have K1 := Lib.hid (K0.out.next hb1)
  have X1 := Lib.hid (X0.out.next hb1)
  clear hb1 B0 K0 X0
  obtain ⟨x1, x2, -, -, xl⟩ := X1.out.two
  go_wp2_with fail
  refine (CX.out _).mono ?_
  rintro _ w2 ⟨rfl, hb2⟩
  have B2 := Lib.hid (bnext B1.out B1.out.size hb2)
  have K2 := Lib.hid (K1.out.next hb2)
  have X2 := Lib.hid (X1.out.next hb2)
  clear hb2 B1 K1 X1
  clear x1 x2 xl
  obtain ⟨g1, g2, g3, -, -, -, gl⟩ := K2.out.three
  obtain ⟨x1, x2, -, -, xl⟩ := X2.out.two
  have SS : Hid (Below w.heap.size w w2.drew) ∧ w2.drew.cell? ⟨w.heap.size, 0, none⟩ = some (.int .i64 wd) ∧ w2.drew.cell? ⟨w.heap.size, 1, none⟩ = some (.int .i64 p) ∧ w2.drew.cell? ⟨w.heap.size, 2, none⟩ = some (.int .i64 m) ∧ w2.drew.cell? ⟨w.heap.size + 1, 0, none⟩ = some (.int .i64 a) ∧ w2.drew.cell? ⟨w.heap.size + 1, 1, none⟩ = some (.int .i64 b) := ⟨Lib.hid (below_drewN B2.out 1), g1, g2, g3, x1, x2⟩
  clear g1 g2 g3 gl x1 x2 xl
  go_wp2
  have SH := Lib.hid SS
  clear SS
  have SS := SH.out
  go_region_held3 (fun w' => Hid (Below w.heap.size w w') ∧ w'.cell? ⟨w.heap.size, 0, none⟩ = some (.int .i64 wd) ∧ w'.cell? ⟨w.heap.size, 1, none⟩ = some (.int .i64 p) ∧ w'.cell? ⟨w.heap.size, 2, none⟩ = some (.int .i64 m) ∧ w'.cell? ⟨w.heap.size + 1, 0, none⟩ = some (.int .i64 a) ∧ w'.cell? ⟨w.heap.size + 1, 1, none⟩ = some (.int .i64 b))
    (first | exact SS | go_keep)
    (first
      | (go_at_call 32; refine (CW.out _).mono ?_; rintro _ w3 ⟨v3, rfl, hn3, hb3⟩; have SS := keepB5 (a := w) hb3 SS; (try have hn4 := NumAt.below hn4 hb3))
      | (go_at_call 27; refine (CO.out _).mono ?_; rintro _ w4 ⟨v4, rfl, hn4, hb4⟩; have SS := keepB5 (a := w) hb4 SS; (try have hn3 := NumAt.below hn3 hb4))
      | (go_at_call 31; refine (CC.out _ v3 v4 hn3 hn4).mono ?_; rintro _ w5 ⟨rfl, hb5⟩; have SS := keepB5 (a := w) hb5 SS))
  all_goals
    clear SH
    obtain ⟨q0, q1, q2, q3, q4, q5⟩ := SS
    go_wp2_with fail
    refine (C1.out _).mono ?_
    rintro _ u1 ⟨rfl, hb⟩
    have SS := keepB5 (a := w) hb ⟨q0, q1, q2, q3, q4, q5⟩
    clear hb q0 q1 q2 q3 q4 q5
    obtain ⟨q0, q1, q2, q3, q4, q5⟩ := SS
    go_wp2_with fail
    refine (C2.out _).mono ?_
    rintro _ u2 ⟨rfl, hb⟩
    have SS := keepB5 (a := w) hb ⟨q0, q1, q2, q3, q4, q5⟩
    clear hb q0 q1 q2 q3 q4 q5
    obtain ⟨q0, q1, q2, q3, q4, q5⟩ := SS
    go_wp2
    go_ret2
    exact ⟨ret2 rfl rfl, q0.out⟩
set_option maxHeartbeats 8000000 in
theorem rpick_one (wd p m a b c U V : Int) (w : World) (CR : Hid (∀ W, Calls Try.prog 9 #[.agg #[.int .i64 wd, .int .i64 p, .int .i64 m]] W (Gives (.bool true) W))) (CX : Hid (∀ W, Calls Try.prog 19 #[.agg #[.int .i64 a, .int .i64 b]] W (Gives (.bool true) W)))
    (CW : Hid (∀ W, Calls Try.prog 32 #[.agg #[.int .i64 a, .int .i64 b]] W (NumOut (b - a) W))) (CO : Hid (∀ W, Calls Try.prog 27 #[.int .i64 m] W fun e w' => NumOut m W e w')) (CC : Hid (∀ W u v, NumAt W u (b - a) → NumAt W v m → Calls Try.prog 31 #[u, v] W (Gives (.int .i64 c) W))) (dc : decide (0 < c) = false) (C1 : Hid (∀ W, Calls Try.prog 17 #[.agg #[.int .i64 wd, .int .i64 p, .int .i64 m], .int .i64 a] W (Gives (.int .i64 U) W))) (C2 : Hid (∀ W, Calls Try.prog 17 #[.agg #[.int .i64 wd, .int .i64 p, .int .i64 m], .int .i64 b] W (Gives (.int .i64 V) W))) 
    (p0 : (p == 0) = false) (p1 : (p == 1) = false) (p2 : (p == 2) = false) (uv : (U != V) = false) :
    Calls Try.prog 14 #[.agg #[.int .i64 wd, .int .i64 p, .int .i64 m], .agg #[.int .i64 a, .int .i64 b]] w (Gives (.tuple #[.int .i64 U, .int .i64 0]) w) := by
  have B0 : Hid (Below w.heap.size w ((w.alloc (.cells #[.int .i64 wd, .int .i64 p, .int .i64 m] 31)).alloc (.cells #[.int .i64 a, .int .i64 b] 33))) := Lib.hid ((one_alloc w _).alloc (by simp) _)
  have K0 : Hid (Kept ((w.alloc (.cells #[.int .i64 wd, .int .i64 p, .int .i64 m] 31)).alloc (.cells #[.int .i64 a, .int .i64 b] 33)) w.heap.size #[.int .i64 wd, .int .i64 p, .int .i64 m] 31) := Lib.hid (by exact (Kept.new rfl).alloc _)
  have X0 : Hid (Kept ((w.alloc (.cells #[.int .i64 wd, .int .i64 p, .int .i64 m] 31)).alloc (.cells #[.int .i64 a, .int .i64 b] 33)) (w.heap.size + 1) #[.int .i64 a, .int .i64 b] 33) := Lib.hid (by exact Kept.new (by simp))
  go_enter Try.func14, Try.ntmps14
  go_wp2_with fail
  refine (CR.out _).mono ?_
  rintro _ w1 ⟨rfl, hb1⟩
  have B1 := Lib.hid (bnext B0.out B0.out.size hb1)
  have K1 := Lib.hid (K0.out.next hb1)
  have X1 := Lib.hid (X0.out.next hb1)
  clear hb1 B0 K0 X0
  obtain ⟨x1, x2, -, -, xl⟩ := X1.out.two
  go_wp2_with fail
  refine (CX.out _).mono ?_
  rintro _ w2 ⟨rfl, hb2⟩
  have B2 := Lib.hid (bnext B1.out B1.out.size hb2)
  have K2 := Lib.hid (K1.out.next hb2)
  have X2 := Lib.hid (X1.out.next hb2)
  clear hb2 B1 K1 X1
  clear x1 x2 xl
  obtain ⟨g1, g2, g3, -, -, -, gl⟩ := K2.out.three
  obtain ⟨x1, x2, -, -, xl⟩ := X2.out.two
  have SS : Hid (Below w.heap.size w w2.drew) ∧ w2.drew.cell? ⟨w.heap.size, 0, none⟩ = some (.int .i64 wd) ∧ w2.drew.cell? ⟨w.heap.size, 1, none⟩ = some (.int .i64 p) ∧ w2.drew.cell? ⟨w.heap.size, 2, none⟩ = some (.int .i64 m) ∧ w2.drew.cell? ⟨w.heap.size + 1, 0, none⟩ = some (.int .i64 a) ∧ w2.drew.cell? ⟨w.heap.size + 1, 1, none⟩ = some (.int .i64 b) := ⟨Lib.hid (below_drewN B2.out 1), g1, g2, g3, x1, x2⟩
  clear g1 g2 g3 gl x1 x2 xl
  go_wp2
  have SH := Lib.hid SS
  clear SS
  have SS := SH.out
  go_region_held3 (fun w' => Hid (Below w.heap.size w w') ∧ w'.cell? ⟨w.heap.size, 0, none⟩ = some (.int .i64 wd) ∧ w'.cell? ⟨w.heap.size, 1, none⟩ = some (.int .i64 p) ∧ w'.cell? ⟨w.heap.size, 2, none⟩ = some (.int .i64 m) ∧ w'.cell? ⟨w.heap.size + 1, 0, none⟩ = some (.int .i64 a) ∧ w'.cell? ⟨w.heap.size + 1, 1, none⟩ = some (.int .i64 b))
    (first | exact SS | go_keep)
    (first
      | (go_at_call 32; refine (CW.out _).mono ?_; rintro _ w3 ⟨v3, rfl, hn3, hb3⟩; have SS := keepB5 (a := w) hb3 SS; (try have hn4 := NumAt.below hn4 hb3))
      | (go_at_call 27; refine (CO.out _).mono ?_; rintro _ w4 ⟨v4, rfl, hn4, hb4⟩; have SS := keepB5 (a := w) hb4 SS; (try have hn3 := NumAt.below hn3 hb4))
      | (go_at_call 31; refine (CC.out _ v3 v4 hn3 hn4).mono ?_; rintro _ w5 ⟨rfl, hb5⟩; have SS := keepB5 (a := w) hb5 SS))
  all_goals
    clear SH
    obtain ⟨q0, q1, q2, q3, q4, q5⟩ := SS
    go_wp2_with fail
    refine (C1.out _).mono ?_
    rintro _ u1 ⟨rfl, hb⟩
    have SS := keepB5 (a := w) hb ⟨q0, q1, q2, q3, q4, q5⟩
    clear hb q0 q1 q2 q3 q4 q5
    obtain ⟨q0, q1, q2, q3, q4, q5⟩ := SS
    go_wp2_with fail
    refine (C2.out _).mono ?_
    rintro _ u2 ⟨rfl, hb⟩
    have SS := keepB5 (a := w) hb ⟨q0, q1, q2, q3, q4, q5⟩
    clear hb q0 q1 q2 q3 q4 q5
    obtain ⟨q0, q1, q2, q3, q4, q5⟩ := SS
    go_wp2
    go_ret2
    exact ⟨ret2 rfl rfl, q0.out⟩
theorem rpick_any (wd p m a b : Int) (w : World) (ha : InI a) (hb : InI b) :
    Calls Try.prog 14 #[.agg #[.int .i64 wd, .int .i64 p, .int .i64 m], .agg #[.int .i64 a, .int .i64 b]] w (Gives (.tuple #[.int .i64 (pkV wd p m a b), .int .i64 (pkE wd p m a b)]) w) := by
  cases hr : rgB wd p m
  · obtain ⟨e1, e2⟩ := pk_state (a := a) (b := b) hr
    rw [e1, e2]
    exact rpick_state wd p m a b w (Lib.hid fun W => rright_any wd p m false hr W)
  · obtain ⟨h1, h2, h3, h4, h5, h6⟩ := rgB_yes hr
    have CR := Lib.hid fun W => rright_any wd p m true hr W
    by_cases hab : a ≤ b
    · have CX : Hid (∀ W, Calls Try.prog 19 #[.agg #[.int .i64 a, .int .i64 b]] W (Gives (.bool true) W)) := Lib.hid fun W => by
        have h := r3right_any a b W
        rwa [decide_eq_true hab] at h
      have CW := Lib.hid fun W => rwide_any a b W ha hb
      have CO := Lib.hid fun W => of_any m W (by unfold InI; omega)
      have CC : Hid (∀ W u v, NumAt W u (b - a) → NumAt W v m → Calls Try.prog 31 #[u, v] W (Gives (.int .i64 (ordI (b - a) m)) W)) := Lib.hid fun W u v k1 k2 => num_cmp u v (b - a) m W k1 k2 (hund_of (by unfold InI at *; omega)) (hund_of (by omega))
      by_cases hm : b - a ≤ m
      · have dc : decide (0 < ordI (b - a) m) = false := decide_eq_false (by unfold ordI; split <;> (try split) <;> omega)
        have C1 := Lib.hid fun W => rwindow_yes wd p m a W hr ha
        have C2 := Lib.hid fun W => rwindow_yes wd p m b W hr hb
        by_cases q0 : p = 0
        · obtain ⟨e1, e2⟩ := pk_ok hr hab hm (by omega)
          rw [e1, e2, if_neg (by omega), if_neg (by omega)]
          exact rpick_first wd p m a b _ _ _ w CR CX CW CO CC dc C1 C2 (by rw [q0]; rfl)
        · have n0 : (p == 0) = false := beq_eq_false_iff_ne.mpr q0
          by_cases q1 : p = 1
          · obtain ⟨e1, e2⟩ := pk_ok hr hab hm (by omega)
            rw [e1, e2, if_pos q1]
            exact rpick_last wd p m a b _ _ _ w CR CX CW CO CC dc C1 C2 n0 (by rw [q1]; rfl)
          · have n1 : (p == 1) = false := beq_eq_false_iff_ne.mpr q1
            by_cases q2 : p = 2
            · obtain ⟨e1, e2⟩ := pk_ok hr hab hm (by omega)
              rw [e1, e2, if_neg q1, if_pos q2]
              have hmi := mid_in hab
              exact rpick_mid wd p m a b _ _ _ (midI a b) _ w CR CX CW CO CC dc C1 C2 (Lib.hid fun W => rmid_any a b W ha hb) (Lib.hid fun W => rwindow_yes wd p m (midI a b) W hr (by unfold InI at *; omega)) n0 n1 (by rw [q2]; rfl)
            · have n2 : (p == 2) = false := beq_eq_false_iff_ne.mpr q2
              by_cases hu : a / wd = b / wd
              · obtain ⟨e1, e2⟩ := pk_ok hr hab hm (by rintro ⟨-, k⟩; exact k hu)
                rw [e1, e2, if_neg q1, if_neg q2]
                exact rpick_one wd p m a b _ _ _ w CR CX CW CO CC dc C1 C2 n0 n1 n2 (by simp [hu])
              · obtain ⟨e1, e2⟩ := pk_two hr hab hm (by omega) hu
                rw [e1, e2]
                exact rpick_two wd p m a b _ _ _ w CR CX CW CO CC dc C1 C2 n0 n1 n2 (by simp [bne, hu])
      · have dc : decide (0 < ordI (b - a) m) = true := decide_eq_true (by unfold ordI; split <;> (try split) <;> omega)
        obtain ⟨e1, e2⟩ := pk_long hr hab hm
        rw [e1, e2]
        exact rpick_long wd p m a b _ w CR CX CW CO CC dc
    · have CX : Hid (∀ W, Calls Try.prog 19 #[.agg #[.int .i64 a, .int .i64 b]] W (Gives (.bool false) W)) := Lib.hid fun W => by
        have h := r3right_any a b W
        rwa [decide_eq_false hab] at h
      obtain ⟨e1, e2⟩ := pk_form hr hab
      rw [e1, e2]
      exact rpick_form wd p m a b w CR CX
end Go.Proofs.Ythipeefhkaanbaa
