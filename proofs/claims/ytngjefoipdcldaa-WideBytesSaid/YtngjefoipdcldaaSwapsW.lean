/- noonmarklaw02.WideSwaps, walked from the answers of its calls. -/
import Derived.Test.YtngjefoipdcldaaAlive
namespace Go.Proofs.Ytngjefoipdcldaa
open Go.RowKit
set_option linter.unusedVariables false

set_option maxHeartbeats 8000000 in
theorem swaps_00 (h l g m x y z s1 s2 t1 t2 u1 u2 q1 q2 v c1 c2 p1 p2 : Int) (w : World)
    (C1 : Hid (∀ W, Calls Try.prog 9 #[.agg #[.int .i64 h, .int .u64 l], .agg #[.int .i64 g, .int .u64 m]] W (Gives (.tuple #[.agg #[.int .i64 s1, .int .u64 s2], .int .i64 12]) W)))
    (C2 : Hid (∀ W, Calls Try.prog 9 #[.agg #[.int .i64 g, .int .u64 m], .agg #[.int .i64 h, .int .u64 l]] W (Gives (.tuple #[.agg #[.int .i64 s1, .int .u64 s2], .int .i64 12]) W)))
    (C3 : Hid (∀ W, Calls Try.prog 22 #[.int .i64 x, .int .i64 y] W (Gives (.agg #[.int .i64 t1, .int .u64 t2]) W)))
    (C4 : Hid (∀ W, Calls Try.prog 22 #[.int .i64 y, .int .i64 x] W (Gives (.agg #[.int .i64 t1, .int .u64 t2]) W)))
    (C5 : Hid (∀ W g, Kept W g #[.int .i64 x, .int .i64 y, .int .i64 z] 2 → Calls Try.prog 23 #[.slice (some ⟨g, 0, none⟩) 3 3] W (Gives (.agg #[.int .i64 u1, .int .u64 u2]) W)))
    (C6 : Hid (∀ W g, Kept W g #[.int .i64 z, .int .i64 x, .int .i64 y] 2 → Calls Try.prog 23 #[.slice (some ⟨g, 0, none⟩) 3 3] W (Gives (.agg #[.int .i64 u1, .int .u64 u2]) W)))
    (C7 : Hid (∀ W g, Kept W g #[.int .i64 y, .int .i64 z] 2 → Calls Try.prog 23 #[.slice (some ⟨g, 0, none⟩) 2 2] W (Gives (.agg #[.int .i64 q1, .int .u64 q2]) W)))
    (C8 : Hid (∀ W, Calls Try.prog 11 #[.agg #[.int .i64 q1, .int .u64 q2]] W (Gives (.tuple #[.int .i64 v, .bool false]) W))) :
    Calls Try.prog 7 #[.agg #[.int .i64 h, .int .u64 l], .agg #[.int .i64 g, .int .u64 m], .int .i64 x, .int .i64 y, .int .i64 z] w fun e w' => e = .returned (.bool true) ∧ Below w.heap.size w w' := by
  go_enter Try.func7, Try.ntmps7
  have B0 : Hid (Below w.heap.size w w) := Lib.hid (Below.refl w.heap.size w)
  go_wp2_with fail
  refine (alive_any _).mono ?_
  rintro e1 w1 ⟨rfl, hb1⟩
  have Ka : Hid (Kept w1 _ #[.int .i64 h, .int .u64 l] 24) := Lib.hid (((Kept.new (w := w) (cs := #[.int .i64 h, .int .u64 l]) (t := 24) rfl).alloc (.cells #[.int .i64 g, .int .u64 m] 24)).next hb1)
  have Kb : Hid (Kept w1 _ #[.int .i64 g, .int .u64 m] 24) := Lib.hid ((Kept.new (w := (w.alloc (.cells #[.int .i64 h, .int .u64 l] 24))) (g := w.heap.size + 1) (cs := #[.int .i64 g, .int .u64 m]) (t := 24) (by simp)).next hb1)
  have B1 : Hid (Below w.heap.size w w1) := Lib.hid (bnext (((((B0.out).alloc (by have := B0.out.size; first | omega | (simp <;> omega)) _)).alloc (by have := B0.out.size; first | omega | (simp <;> omega)) _)) (by have := B0.out.size; first | omega | (simp <;> omega)) hb1)
  clear hb1
  obtain ⟨a1, a2, -, -, al⟩ := Ka.out.two
  obtain ⟨b1, b2, -, -, bl⟩ := Kb.out.two
  go_wp2_with fail
  refine (C1.out _).mono ?_
  rintro e2 w2 ⟨rfl, hb2⟩
  clear a1 a2 al
  clear b1 b2 bl
  have Ka : Hid (Kept w2 _ _ _) := Lib.hid (Ka.out.next hb2)
  have Kb : Hid (Kept w2 _ _ _) := Lib.hid (Kb.out.next hb2)
  have B2 : Hid (Below w.heap.size w w2) := Lib.hid (bnext (B1.out) (by have := B1.out.size; first | omega | (simp <;> omega)) hb2)
  clear hb2
  obtain ⟨a1, a2, -, -, al⟩ := Ka.out.two
  obtain ⟨b1, b2, -, -, bl⟩ := Kb.out.two
  go_wp2_with fail
  refine (C2.out _).mono ?_
  rintro e3 w3 ⟨rfl, hb3⟩
  clear a1 a2 al
  clear b1 b2 bl
  have Ka : Hid (Kept w3 _ _ _) := Lib.hid ((Ka.out.alloc _).next hb3)
  have Kb : Hid (Kept w3 _ _ _) := Lib.hid ((Kb.out.alloc _).next hb3)
  have Ks : Hid (Kept w3 _ #[.int .i64 s1, .int .u64 s2] 24) := Lib.hid ((Kept.new (w := w2) (cs := #[.int .i64 s1, .int .u64 s2]) (t := 24) rfl).next hb3)
  have B3 : Hid (Below w.heap.size w w3) := Lib.hid (bnext (((B2.out).alloc (by have := B2.out.size; first | omega | (simp <;> omega)) _)) (by have := B2.out.size; first | omega | (simp <;> omega)) hb3)
  clear hb3
  obtain ⟨s1, s2, -, -, sl⟩ := Ks.out.two
  go_wp2_with fail
  refine (C3.out _).mono ?_
  rintro e4 w4 ⟨rfl, hb4⟩
  clear s1 s2 sl
  have Ka : Hid (Kept w4 _ _ _) := Lib.hid ((Ka.out.alloc _).next hb4)
  have Kb : Hid (Kept w4 _ _ _) := Lib.hid ((Kb.out.alloc _).next hb4)
  have Ks : Hid (Kept w4 _ _ _) := Lib.hid ((Ks.out.alloc _).next hb4)
  have Kt : Hid (Kept w4 _ #[.int .i64 s1, .int .u64 s2] 24) := Lib.hid ((Kept.new (w := w3) (cs := #[.int .i64 s1, .int .u64 s2]) (t := 24) rfl).next hb4)
  have B4 : Hid (Below w.heap.size w w4) := Lib.hid (bnext (((B3.out).alloc (by have := B3.out.size; first | omega | (simp <;> omega)) _)) (by have := B3.out.size; first | omega | (simp <;> omega)) hb4)
  clear hb4
  go_wp2_with fail
  refine (C4.out _).mono ?_
  rintro e5 w5 ⟨rfl, hb5⟩
  have Ka : Hid (Kept w5 _ _ _) := Lib.hid (Ka.out.next hb5)
  have Kb : Hid (Kept w5 _ _ _) := Lib.hid (Kb.out.next hb5)
  have Ks : Hid (Kept w5 _ _ _) := Lib.hid (Ks.out.next hb5)
  have Kt : Hid (Kept w5 _ _ _) := Lib.hid (Kt.out.next hb5)
  have B5 : Hid (Below w.heap.size w w5) := Lib.hid (bnext (B4.out) (by have := B4.out.size; first | omega | (simp <;> omega)) hb5)
  clear hb5
  go_wp2_with fail
  refine (C5.out _ _ (Kept.new rfl)).mono ?_
  rintro e6 w6 ⟨rfl, hb6⟩
  have Ka : Hid (Kept w6 _ _ _) := Lib.hid ((Ka.out.alloc _).next hb6)
  have Kb : Hid (Kept w6 _ _ _) := Lib.hid ((Kb.out.alloc _).next hb6)
  have Ks : Hid (Kept w6 _ _ _) := Lib.hid ((Ks.out.alloc _).next hb6)
  have Kt : Hid (Kept w6 _ _ _) := Lib.hid ((Kt.out.alloc _).next hb6)
  have Kl : Hid (Kept w6 _ #[.int .i64 x, .int .i64 y, .int .i64 z] 2) := Lib.hid ((Kept.new (w := w5) (cs := #[.int .i64 x, .int .i64 y, .int .i64 z]) (t := 2) rfl).next hb6)
  have B6 : Hid (Below w.heap.size w w6) := Lib.hid (bnext (((B5.out).alloc (by have := B5.out.size; first | omega | (simp <;> omega)) _)) (by have := B5.out.size; first | omega | (simp <;> omega)) hb6)
  clear hb6
  go_wp2_with fail
  refine (C6.out _ _ (Kept.new rfl)).mono ?_
  rintro e7 w7 ⟨rfl, hb7⟩
  have Ka : Hid (Kept w7 _ _ _) := Lib.hid ((Ka.out.alloc _).next hb7)
  have Kb : Hid (Kept w7 _ _ _) := Lib.hid ((Kb.out.alloc _).next hb7)
  have Ks : Hid (Kept w7 _ _ _) := Lib.hid ((Ks.out.alloc _).next hb7)
  have Kt : Hid (Kept w7 _ _ _) := Lib.hid ((Kt.out.alloc _).next hb7)
  have Kl : Hid (Kept w7 _ _ _) := Lib.hid ((Kl.out.alloc _).next hb7)
  have Kn : Hid (Kept w7 _ #[.int .i64 z, .int .i64 x, .int .i64 y] 2) := Lib.hid ((Kept.new (w := w6) (cs := #[.int .i64 z, .int .i64 x, .int .i64 y]) (t := 2) rfl).next hb7)
  have B7 : Hid (Below w.heap.size w w7) := Lib.hid (bnext (((B6.out).alloc (by have := B6.out.size; first | omega | (simp <;> omega)) _)) (by have := B6.out.size; first | omega | (simp <;> omega)) hb7)
  clear hb7
  go_wp2_with fail
  refine (C7.out _ _ (Kept.new rfl)).mono ?_
  rintro e8 w8 ⟨rfl, hb8⟩
  have Ka : Hid (Kept w8 _ _ _) := Lib.hid ((Ka.out.alloc _).next hb8)
  have Kb : Hid (Kept w8 _ _ _) := Lib.hid ((Kb.out.alloc _).next hb8)
  have Ks : Hid (Kept w8 _ _ _) := Lib.hid ((Ks.out.alloc _).next hb8)
  have Kt : Hid (Kept w8 _ _ _) := Lib.hid ((Kt.out.alloc _).next hb8)
  have Kl : Hid (Kept w8 _ _ _) := Lib.hid ((Kl.out.alloc _).next hb8)
  have Kn : Hid (Kept w8 _ _ _) := Lib.hid ((Kn.out.alloc _).next hb8)
  have Kk : Hid (Kept w8 _ #[.int .i64 y, .int .i64 z] 2) := Lib.hid ((Kept.new (w := w7) (cs := #[.int .i64 y, .int .i64 z]) (t := 2) rfl).next hb8)
  have B8 : Hid (Below w.heap.size w w8) := Lib.hid (bnext (((B7.out).alloc (by have := B7.out.size; first | omega | (simp <;> omega)) _)) (by have := B7.out.size; first | omega | (simp <;> omega)) hb8)
  clear hb8
  go_wp2_with fail
  refine (C8.out _).mono ?_
  rintro e9 w9 ⟨rfl, hb9⟩
  have Ka : Hid (Kept w9 _ _ _) := Lib.hid (Ka.out.next hb9)
  have Kb : Hid (Kept w9 _ _ _) := Lib.hid (Kb.out.next hb9)
  have Ks : Hid (Kept w9 _ _ _) := Lib.hid (Ks.out.next hb9)
  have Kt : Hid (Kept w9 _ _ _) := Lib.hid (Kt.out.next hb9)
  have Kl : Hid (Kept w9 _ _ _) := Lib.hid (Kl.out.next hb9)
  have Kn : Hid (Kept w9 _ _ _) := Lib.hid (Kn.out.next hb9)
  have Kk : Hid (Kept w9 _ _ _) := Lib.hid (Kk.out.next hb9)
  have B9 : Hid (Below w.heap.size w w9) := Lib.hid (bnext (B8.out) (by have := B8.out.size; first | omega | (simp <;> omega)) hb9)
  clear hb9
  go_wp2
  go_ret
  exact ⟨rfl, B9.out⟩
set_option maxHeartbeats 8000000 in
theorem swaps_01 (h l g m x y z s1 s2 t1 t2 u1 u2 q1 q2 v c1 c2 p1 p2 : Int) (w : World)
    (C1 : Hid (∀ W, Calls Try.prog 9 #[.agg #[.int .i64 h, .int .u64 l], .agg #[.int .i64 g, .int .u64 m]] W (Gives (.tuple #[.agg #[.int .i64 s1, .int .u64 s2], .int .i64 12]) W)))
    (C2 : Hid (∀ W, Calls Try.prog 9 #[.agg #[.int .i64 g, .int .u64 m], .agg #[.int .i64 h, .int .u64 l]] W (Gives (.tuple #[.agg #[.int .i64 s1, .int .u64 s2], .int .i64 12]) W)))
    (C3 : Hid (∀ W, Calls Try.prog 22 #[.int .i64 x, .int .i64 y] W (Gives (.agg #[.int .i64 t1, .int .u64 t2]) W)))
    (C4 : Hid (∀ W, Calls Try.prog 22 #[.int .i64 y, .int .i64 x] W (Gives (.agg #[.int .i64 t1, .int .u64 t2]) W)))
    (C5 : Hid (∀ W g, Kept W g #[.int .i64 x, .int .i64 y, .int .i64 z] 2 → Calls Try.prog 23 #[.slice (some ⟨g, 0, none⟩) 3 3] W (Gives (.agg #[.int .i64 u1, .int .u64 u2]) W)))
    (C6 : Hid (∀ W g, Kept W g #[.int .i64 z, .int .i64 x, .int .i64 y] 2 → Calls Try.prog 23 #[.slice (some ⟨g, 0, none⟩) 3 3] W (Gives (.agg #[.int .i64 u1, .int .u64 u2]) W)))
    (C7 : Hid (∀ W g, Kept W g #[.int .i64 y, .int .i64 z] 2 → Calls Try.prog 23 #[.slice (some ⟨g, 0, none⟩) 2 2] W (Gives (.agg #[.int .i64 q1, .int .u64 q2]) W)))
    (C8 : Hid (∀ W, Calls Try.prog 11 #[.agg #[.int .i64 q1, .int .u64 q2]] W (Gives (.tuple #[.int .i64 v, .bool true]) W)))
    (C9 : Hid (∀ W, Calls Try.prog 22 #[.int .i64 x, .int .i64 z] W (Gives (.agg #[.int .i64 c1, .int .u64 c2]) W)))
    (CA : Hid (∀ W, Calls Try.prog 9 #[.agg #[.int .i64 t1, .int .u64 t2], .agg #[.int .i64 c1, .int .u64 c2]] W (Gives (.tuple #[.agg #[.int .i64 p1, .int .u64 p2], .int .i64 0]) W)))
    (CB : Hid (∀ W, Calls Try.prog 22 #[.int .i64 x, .int .i64 v] W (Gives (.agg #[.int .i64 p1, .int .u64 p2]) W))) :
    Calls Try.prog 7 #[.agg #[.int .i64 h, .int .u64 l], .agg #[.int .i64 g, .int .u64 m], .int .i64 x, .int .i64 y, .int .i64 z] w fun e w' => e = .returned (.bool true) ∧ Below w.heap.size w w' := by
  go_enter Try.func7, Try.ntmps7
  have B0 : Hid (Below w.heap.size w w) := Lib.hid (Below.refl w.heap.size w)
  go_wp2_with fail
  refine (alive_any _).mono ?_
  rintro e1 w1 ⟨rfl, hb1⟩
  have Ka : Hid (Kept w1 _ #[.int .i64 h, .int .u64 l] 24) := Lib.hid (((Kept.new (w := w) (cs := #[.int .i64 h, .int .u64 l]) (t := 24) rfl).alloc (.cells #[.int .i64 g, .int .u64 m] 24)).next hb1)
  have Kb : Hid (Kept w1 _ #[.int .i64 g, .int .u64 m] 24) := Lib.hid ((Kept.new (w := (w.alloc (.cells #[.int .i64 h, .int .u64 l] 24))) (g := w.heap.size + 1) (cs := #[.int .i64 g, .int .u64 m]) (t := 24) (by simp)).next hb1)
  have B1 : Hid (Below w.heap.size w w1) := Lib.hid (bnext (((((B0.out).alloc (by have := B0.out.size; first | omega | (simp <;> omega)) _)).alloc (by have := B0.out.size; first | omega | (simp <;> omega)) _)) (by have := B0.out.size; first | omega | (simp <;> omega)) hb1)
  clear hb1
  obtain ⟨a1, a2, -, -, al⟩ := Ka.out.two
  obtain ⟨b1, b2, -, -, bl⟩ := Kb.out.two
  go_wp2_with fail
  refine (C1.out _).mono ?_
  rintro e2 w2 ⟨rfl, hb2⟩
  clear a1 a2 al
  clear b1 b2 bl
  have Ka : Hid (Kept w2 _ _ _) := Lib.hid (Ka.out.next hb2)
  have Kb : Hid (Kept w2 _ _ _) := Lib.hid (Kb.out.next hb2)
  have B2 : Hid (Below w.heap.size w w2) := Lib.hid (bnext (B1.out) (by have := B1.out.size; first | omega | (simp <;> omega)) hb2)
  clear hb2
  obtain ⟨a1, a2, -, -, al⟩ := Ka.out.two
  obtain ⟨b1, b2, -, -, bl⟩ := Kb.out.two
  go_wp2_with fail
  refine (C2.out _).mono ?_
  rintro e3 w3 ⟨rfl, hb3⟩
  clear a1 a2 al
  clear b1 b2 bl
  have Ka : Hid (Kept w3 _ _ _) := Lib.hid ((Ka.out.alloc _).next hb3)
  have Kb : Hid (Kept w3 _ _ _) := Lib.hid ((Kb.out.alloc _).next hb3)
  have Ks : Hid (Kept w3 _ #[.int .i64 s1, .int .u64 s2] 24) := Lib.hid ((Kept.new (w := w2) (cs := #[.int .i64 s1, .int .u64 s2]) (t := 24) rfl).next hb3)
  have B3 : Hid (Below w.heap.size w w3) := Lib.hid (bnext (((B2.out).alloc (by have := B2.out.size; first | omega | (simp <;> omega)) _)) (by have := B2.out.size; first | omega | (simp <;> omega)) hb3)
  clear hb3
  obtain ⟨s1, s2, -, -, sl⟩ := Ks.out.two
  go_wp2_with fail
  refine (C3.out _).mono ?_
  rintro e4 w4 ⟨rfl, hb4⟩
  clear s1 s2 sl
  have Ka : Hid (Kept w4 _ _ _) := Lib.hid ((Ka.out.alloc _).next hb4)
  have Kb : Hid (Kept w4 _ _ _) := Lib.hid ((Kb.out.alloc _).next hb4)
  have Ks : Hid (Kept w4 _ _ _) := Lib.hid ((Ks.out.alloc _).next hb4)
  have Kt : Hid (Kept w4 _ #[.int .i64 s1, .int .u64 s2] 24) := Lib.hid ((Kept.new (w := w3) (cs := #[.int .i64 s1, .int .u64 s2]) (t := 24) rfl).next hb4)
  have B4 : Hid (Below w.heap.size w w4) := Lib.hid (bnext (((B3.out).alloc (by have := B3.out.size; first | omega | (simp <;> omega)) _)) (by have := B3.out.size; first | omega | (simp <;> omega)) hb4)
  clear hb4
  go_wp2_with fail
  refine (C4.out _).mono ?_
  rintro e5 w5 ⟨rfl, hb5⟩
  have Ka : Hid (Kept w5 _ _ _) := Lib.hid (Ka.out.next hb5)
  have Kb : Hid (Kept w5 _ _ _) := Lib.hid (Kb.out.next hb5)
  have Ks : Hid (Kept w5 _ _ _) := Lib.hid (Ks.out.next hb5)
  have Kt : Hid (Kept w5 _ _ _) := Lib.hid (Kt.out.next hb5)
  have B5 : Hid (Below w.heap.size w w5) := Lib.hid (bnext (B4.out) (by have := B4.out.size; first | omega | (simp <;> omega)) hb5)
  clear hb5
  go_wp2_with fail
  refine (C5.out _ _ (Kept.new rfl)).mono ?_
  rintro e6 w6 ⟨rfl, hb6⟩
  have Ka : Hid (Kept w6 _ _ _) := Lib.hid ((Ka.out.alloc _).next hb6)
  have Kb : Hid (Kept w6 _ _ _) := Lib.hid ((Kb.out.alloc _).next hb6)
  have Ks : Hid (Kept w6 _ _ _) := Lib.hid ((Ks.out.alloc _).next hb6)
  have Kt : Hid (Kept w6 _ _ _) := Lib.hid ((Kt.out.alloc _).next hb6)
  have Kl : Hid (Kept w6 _ #[.int .i64 x, .int .i64 y, .int .i64 z] 2) := Lib.hid ((Kept.new (w := w5) (cs := #[.int .i64 x, .int .i64 y, .int .i64 z]) (t := 2) rfl).next hb6)
  have B6 : Hid (Below w.heap.size w w6) := Lib.hid (bnext (((B5.out).alloc (by have := B5.out.size; first | omega | (simp <;> omega)) _)) (by have := B5.out.size; first | omega | (simp <;> omega)) hb6)
  clear hb6
  go_wp2_with fail
  refine (C6.out _ _ (Kept.new rfl)).mono ?_
  rintro e7 w7 ⟨rfl, hb7⟩
  have Ka : Hid (Kept w7 _ _ _) := Lib.hid ((Ka.out.alloc _).next hb7)
  have Kb : Hid (Kept w7 _ _ _) := Lib.hid ((Kb.out.alloc _).next hb7)
  have Ks : Hid (Kept w7 _ _ _) := Lib.hid ((Ks.out.alloc _).next hb7)
  have Kt : Hid (Kept w7 _ _ _) := Lib.hid ((Kt.out.alloc _).next hb7)
  have Kl : Hid (Kept w7 _ _ _) := Lib.hid ((Kl.out.alloc _).next hb7)
  have Kn : Hid (Kept w7 _ #[.int .i64 z, .int .i64 x, .int .i64 y] 2) := Lib.hid ((Kept.new (w := w6) (cs := #[.int .i64 z, .int .i64 x, .int .i64 y]) (t := 2) rfl).next hb7)
  have B7 : Hid (Below w.heap.size w w7) := Lib.hid (bnext (((B6.out).alloc (by have := B6.out.size; first | omega | (simp <;> omega)) _)) (by have := B6.out.size; first | omega | (simp <;> omega)) hb7)
  clear hb7
  go_wp2_with fail
  refine (C7.out _ _ (Kept.new rfl)).mono ?_
  rintro e8 w8 ⟨rfl, hb8⟩
  have Ka : Hid (Kept w8 _ _ _) := Lib.hid ((Ka.out.alloc _).next hb8)
  have Kb : Hid (Kept w8 _ _ _) := Lib.hid ((Kb.out.alloc _).next hb8)
  have Ks : Hid (Kept w8 _ _ _) := Lib.hid ((Ks.out.alloc _).next hb8)
  have Kt : Hid (Kept w8 _ _ _) := Lib.hid ((Kt.out.alloc _).next hb8)
  have Kl : Hid (Kept w8 _ _ _) := Lib.hid ((Kl.out.alloc _).next hb8)
  have Kn : Hid (Kept w8 _ _ _) := Lib.hid ((Kn.out.alloc _).next hb8)
  have Kk : Hid (Kept w8 _ #[.int .i64 y, .int .i64 z] 2) := Lib.hid ((Kept.new (w := w7) (cs := #[.int .i64 y, .int .i64 z]) (t := 2) rfl).next hb8)
  have B8 : Hid (Below w.heap.size w w8) := Lib.hid (bnext (((B7.out).alloc (by have := B7.out.size; first | omega | (simp <;> omega)) _)) (by have := B7.out.size; first | omega | (simp <;> omega)) hb8)
  clear hb8
  go_wp2_with fail
  refine (C8.out _).mono ?_
  rintro e9 w9 ⟨rfl, hb9⟩
  have Ka : Hid (Kept w9 _ _ _) := Lib.hid (Ka.out.next hb9)
  have Kb : Hid (Kept w9 _ _ _) := Lib.hid (Kb.out.next hb9)
  have Ks : Hid (Kept w9 _ _ _) := Lib.hid (Ks.out.next hb9)
  have Kt : Hid (Kept w9 _ _ _) := Lib.hid (Kt.out.next hb9)
  have Kl : Hid (Kept w9 _ _ _) := Lib.hid (Kl.out.next hb9)
  have Kn : Hid (Kept w9 _ _ _) := Lib.hid (Kn.out.next hb9)
  have Kk : Hid (Kept w9 _ _ _) := Lib.hid (Kk.out.next hb9)
  have B9 : Hid (Below w.heap.size w w9) := Lib.hid (bnext (B8.out) (by have := B8.out.size; first | omega | (simp <;> omega)) hb9)
  clear hb9
  go_wp2_with fail
  refine (C3.out _).mono ?_
  rintro e10 w10 ⟨rfl, hb10⟩
  have Ka : Hid (Kept w10 _ _ _) := Lib.hid (Ka.out.next hb10)
  have Kb : Hid (Kept w10 _ _ _) := Lib.hid (Kb.out.next hb10)
  have Ks : Hid (Kept w10 _ _ _) := Lib.hid (Ks.out.next hb10)
  have Kt : Hid (Kept w10 _ _ _) := Lib.hid (Kt.out.next hb10)
  have Kl : Hid (Kept w10 _ _ _) := Lib.hid (Kl.out.next hb10)
  have Kn : Hid (Kept w10 _ _ _) := Lib.hid (Kn.out.next hb10)
  have Kk : Hid (Kept w10 _ _ _) := Lib.hid (Kk.out.next hb10)
  have B10 : Hid (Below w.heap.size w w10) := Lib.hid (bnext (B9.out) (by have := B9.out.size; first | omega | (simp <;> omega)) hb10)
  clear hb10
  go_wp2_with fail
  refine (C9.out _).mono ?_
  rintro e11 w11 ⟨rfl, hb11⟩
  have Ka : Hid (Kept w11 _ _ _) := Lib.hid (Ka.out.next hb11)
  have Kb : Hid (Kept w11 _ _ _) := Lib.hid (Kb.out.next hb11)
  have Ks : Hid (Kept w11 _ _ _) := Lib.hid (Ks.out.next hb11)
  have Kt : Hid (Kept w11 _ _ _) := Lib.hid (Kt.out.next hb11)
  have Kl : Hid (Kept w11 _ _ _) := Lib.hid (Kl.out.next hb11)
  have Kn : Hid (Kept w11 _ _ _) := Lib.hid (Kn.out.next hb11)
  have Kk : Hid (Kept w11 _ _ _) := Lib.hid (Kk.out.next hb11)
  have B11 : Hid (Below w.heap.size w w11) := Lib.hid (bnext (B10.out) (by have := B10.out.size; first | omega | (simp <;> omega)) hb11)
  clear hb11
  go_wp2_with fail
  refine (CA.out _).mono ?_
  rintro e12 w12 ⟨rfl, hb12⟩
  have Ka : Hid (Kept w12 _ _ _) := Lib.hid (Ka.out.next hb12)
  have Kb : Hid (Kept w12 _ _ _) := Lib.hid (Kb.out.next hb12)
  have Ks : Hid (Kept w12 _ _ _) := Lib.hid (Ks.out.next hb12)
  have Kt : Hid (Kept w12 _ _ _) := Lib.hid (Kt.out.next hb12)
  have Kl : Hid (Kept w12 _ _ _) := Lib.hid (Kl.out.next hb12)
  have Kn : Hid (Kept w12 _ _ _) := Lib.hid (Kn.out.next hb12)
  have Kk : Hid (Kept w12 _ _ _) := Lib.hid (Kk.out.next hb12)
  have B12 : Hid (Below w.heap.size w w12) := Lib.hid (bnext (B11.out) (by have := B11.out.size; first | omega | (simp <;> omega)) hb12)
  clear hb12
  go_wp2
  have KP := Kept.new (w := w12) (cs := #[.int .i64 p1, .int .u64 p2]) (t := 24) (g := w12.heap.size) rfl
  have BP : Below w.heap.size w (w12.alloc (.cells #[.int .i64 p1, .int .u64 p2] 24)) := B12.out.alloc B12.out.size _
  obtain ⟨V, hV⟩ : ∃ V, w12.alloc (.cells #[.int .i64 p1, .int .u64 p2] 24) = V := ⟨_, rfl⟩
  rw [hV] at KP BP ⊢
  obtain ⟨kp1, kp2, -, -, kpl⟩ := KP.two
  have HP := Lib.hid BP
  clear KP BP hV
  go_region_held3 (fun w' => Hid (Below w.heap.size w w') ∧ w'.cell? ⟨w12.heap.size, 0, none⟩ = some (.int .i64 p1) ∧ w'.cell? ⟨w12.heap.size, 1, none⟩ = some (.int .u64 p2))
    (first | exact keepB2 hbz (by assumption) | exact ⟨Lib.hid ⟨HP.out.os, HP.out.tape, HP.out.output, HP.out.size, HP.out.block⟩, kp1, kp2⟩ | go_keep)
    (first | (go_at_call 22; refine (CB.out _).mono ?_; rintro _ wz ⟨rfl, hbz⟩))
  all_goals
    go_wp2
    go_ret
    exact ⟨rfl, (show Hid (Below w.heap.size w _) ∧ _ ∧ _ from by assumption).1.out⟩
set_option maxHeartbeats 8000000 in
theorem swaps_10 (h l g m x y z s1 s2 t1 t2 u1 u2 q1 q2 v c1 c2 p1 p2 : Int) (w : World)
    (C1 : Hid (∀ W, Calls Try.prog 9 #[.agg #[.int .i64 h, .int .u64 l], .agg #[.int .i64 g, .int .u64 m]] W (Gives (.tuple #[.agg #[.int .i64 s1, .int .u64 s2], .int .i64 0]) W)))
    (C2 : Hid (∀ W, Calls Try.prog 9 #[.agg #[.int .i64 g, .int .u64 m], .agg #[.int .i64 h, .int .u64 l]] W (Gives (.tuple #[.agg #[.int .i64 s1, .int .u64 s2], .int .i64 0]) W)))
    (C3 : Hid (∀ W, Calls Try.prog 22 #[.int .i64 x, .int .i64 y] W (Gives (.agg #[.int .i64 t1, .int .u64 t2]) W)))
    (C4 : Hid (∀ W, Calls Try.prog 22 #[.int .i64 y, .int .i64 x] W (Gives (.agg #[.int .i64 t1, .int .u64 t2]) W)))
    (C5 : Hid (∀ W g, Kept W g #[.int .i64 x, .int .i64 y, .int .i64 z] 2 → Calls Try.prog 23 #[.slice (some ⟨g, 0, none⟩) 3 3] W (Gives (.agg #[.int .i64 u1, .int .u64 u2]) W)))
    (C6 : Hid (∀ W g, Kept W g #[.int .i64 z, .int .i64 x, .int .i64 y] 2 → Calls Try.prog 23 #[.slice (some ⟨g, 0, none⟩) 3 3] W (Gives (.agg #[.int .i64 u1, .int .u64 u2]) W)))
    (C7 : Hid (∀ W g, Kept W g #[.int .i64 y, .int .i64 z] 2 → Calls Try.prog 23 #[.slice (some ⟨g, 0, none⟩) 2 2] W (Gives (.agg #[.int .i64 q1, .int .u64 q2]) W)))
    (C8 : Hid (∀ W, Calls Try.prog 11 #[.agg #[.int .i64 q1, .int .u64 q2]] W (Gives (.tuple #[.int .i64 v, .bool false]) W)))
    (CD : Hid (∀ W, Calls Try.prog 10 #[.agg #[.int .i64 s1, .int .u64 s2], .agg #[.int .i64 g, .int .u64 m]] W (Gives (.tuple #[.agg #[.int .i64 h, .int .u64 l], .int .i64 0]) W))) :
    Calls Try.prog 7 #[.agg #[.int .i64 h, .int .u64 l], .agg #[.int .i64 g, .int .u64 m], .int .i64 x, .int .i64 y, .int .i64 z] w fun e w' => e = .returned (.bool true) ∧ Below w.heap.size w w' := by
  go_enter Try.func7, Try.ntmps7
  have B0 : Hid (Below w.heap.size w w) := Lib.hid (Below.refl w.heap.size w)
  go_wp2_with fail
  refine (alive_any _).mono ?_
  rintro e1 w1 ⟨rfl, hb1⟩
  have Ka : Hid (Kept w1 _ #[.int .i64 h, .int .u64 l] 24) := Lib.hid (((Kept.new (w := w) (cs := #[.int .i64 h, .int .u64 l]) (t := 24) rfl).alloc (.cells #[.int .i64 g, .int .u64 m] 24)).next hb1)
  have Kb : Hid (Kept w1 _ #[.int .i64 g, .int .u64 m] 24) := Lib.hid ((Kept.new (w := (w.alloc (.cells #[.int .i64 h, .int .u64 l] 24))) (g := w.heap.size + 1) (cs := #[.int .i64 g, .int .u64 m]) (t := 24) (by simp)).next hb1)
  have B1 : Hid (Below w.heap.size w w1) := Lib.hid (bnext (((((B0.out).alloc (by have := B0.out.size; first | omega | (simp <;> omega)) _)).alloc (by have := B0.out.size; first | omega | (simp <;> omega)) _)) (by have := B0.out.size; first | omega | (simp <;> omega)) hb1)
  clear hb1
  obtain ⟨a1, a2, -, -, al⟩ := Ka.out.two
  obtain ⟨b1, b2, -, -, bl⟩ := Kb.out.two
  go_wp2_with fail
  refine (C1.out _).mono ?_
  rintro e2 w2 ⟨rfl, hb2⟩
  clear a1 a2 al
  clear b1 b2 bl
  have Ka : Hid (Kept w2 _ _ _) := Lib.hid (Ka.out.next hb2)
  have Kb : Hid (Kept w2 _ _ _) := Lib.hid (Kb.out.next hb2)
  have B2 : Hid (Below w.heap.size w w2) := Lib.hid (bnext (B1.out) (by have := B1.out.size; first | omega | (simp <;> omega)) hb2)
  clear hb2
  obtain ⟨a1, a2, -, -, al⟩ := Ka.out.two
  obtain ⟨b1, b2, -, -, bl⟩ := Kb.out.two
  go_wp2_with fail
  refine (C2.out _).mono ?_
  rintro e3 w3 ⟨rfl, hb3⟩
  clear a1 a2 al
  clear b1 b2 bl
  have Ka : Hid (Kept w3 _ _ _) := Lib.hid ((Ka.out.alloc _).next hb3)
  have Kb : Hid (Kept w3 _ _ _) := Lib.hid ((Kb.out.alloc _).next hb3)
  have Ks : Hid (Kept w3 _ #[.int .i64 s1, .int .u64 s2] 24) := Lib.hid ((Kept.new (w := w2) (cs := #[.int .i64 s1, .int .u64 s2]) (t := 24) rfl).next hb3)
  have B3 : Hid (Below w.heap.size w w3) := Lib.hid (bnext (((B2.out).alloc (by have := B2.out.size; first | omega | (simp <;> omega)) _)) (by have := B2.out.size; first | omega | (simp <;> omega)) hb3)
  clear hb3
  obtain ⟨s1, s2, -, -, sl⟩ := Ks.out.two
  go_wp2_with fail
  refine (C3.out _).mono ?_
  rintro e4 w4 ⟨rfl, hb4⟩
  clear s1 s2 sl
  have Ka : Hid (Kept w4 _ _ _) := Lib.hid ((Ka.out.alloc _).next hb4)
  have Kb : Hid (Kept w4 _ _ _) := Lib.hid ((Kb.out.alloc _).next hb4)
  have Ks : Hid (Kept w4 _ _ _) := Lib.hid ((Ks.out.alloc _).next hb4)
  have Kt : Hid (Kept w4 _ #[.int .i64 s1, .int .u64 s2] 24) := Lib.hid ((Kept.new (w := w3) (cs := #[.int .i64 s1, .int .u64 s2]) (t := 24) rfl).next hb4)
  have B4 : Hid (Below w.heap.size w w4) := Lib.hid (bnext (((B3.out).alloc (by have := B3.out.size; first | omega | (simp <;> omega)) _)) (by have := B3.out.size; first | omega | (simp <;> omega)) hb4)
  clear hb4
  go_wp2_with fail
  refine (C4.out _).mono ?_
  rintro e5 w5 ⟨rfl, hb5⟩
  have Ka : Hid (Kept w5 _ _ _) := Lib.hid (Ka.out.next hb5)
  have Kb : Hid (Kept w5 _ _ _) := Lib.hid (Kb.out.next hb5)
  have Ks : Hid (Kept w5 _ _ _) := Lib.hid (Ks.out.next hb5)
  have Kt : Hid (Kept w5 _ _ _) := Lib.hid (Kt.out.next hb5)
  have B5 : Hid (Below w.heap.size w w5) := Lib.hid (bnext (B4.out) (by have := B4.out.size; first | omega | (simp <;> omega)) hb5)
  clear hb5
  go_wp2_with fail
  refine (C5.out _ _ (Kept.new rfl)).mono ?_
  rintro e6 w6 ⟨rfl, hb6⟩
  have Ka : Hid (Kept w6 _ _ _) := Lib.hid ((Ka.out.alloc _).next hb6)
  have Kb : Hid (Kept w6 _ _ _) := Lib.hid ((Kb.out.alloc _).next hb6)
  have Ks : Hid (Kept w6 _ _ _) := Lib.hid ((Ks.out.alloc _).next hb6)
  have Kt : Hid (Kept w6 _ _ _) := Lib.hid ((Kt.out.alloc _).next hb6)
  have Kl : Hid (Kept w6 _ #[.int .i64 x, .int .i64 y, .int .i64 z] 2) := Lib.hid ((Kept.new (w := w5) (cs := #[.int .i64 x, .int .i64 y, .int .i64 z]) (t := 2) rfl).next hb6)
  have B6 : Hid (Below w.heap.size w w6) := Lib.hid (bnext (((B5.out).alloc (by have := B5.out.size; first | omega | (simp <;> omega)) _)) (by have := B5.out.size; first | omega | (simp <;> omega)) hb6)
  clear hb6
  go_wp2_with fail
  refine (C6.out _ _ (Kept.new rfl)).mono ?_
  rintro e7 w7 ⟨rfl, hb7⟩
  have Ka : Hid (Kept w7 _ _ _) := Lib.hid ((Ka.out.alloc _).next hb7)
  have Kb : Hid (Kept w7 _ _ _) := Lib.hid ((Kb.out.alloc _).next hb7)
  have Ks : Hid (Kept w7 _ _ _) := Lib.hid ((Ks.out.alloc _).next hb7)
  have Kt : Hid (Kept w7 _ _ _) := Lib.hid ((Kt.out.alloc _).next hb7)
  have Kl : Hid (Kept w7 _ _ _) := Lib.hid ((Kl.out.alloc _).next hb7)
  have Kn : Hid (Kept w7 _ #[.int .i64 z, .int .i64 x, .int .i64 y] 2) := Lib.hid ((Kept.new (w := w6) (cs := #[.int .i64 z, .int .i64 x, .int .i64 y]) (t := 2) rfl).next hb7)
  have B7 : Hid (Below w.heap.size w w7) := Lib.hid (bnext (((B6.out).alloc (by have := B6.out.size; first | omega | (simp <;> omega)) _)) (by have := B6.out.size; first | omega | (simp <;> omega)) hb7)
  clear hb7
  obtain ⟨s1, s2, -, -, sl⟩ := Ks.out.two
  obtain ⟨b1, b2, -, -, bl⟩ := Kb.out.two
  go_wp2_with fail
  refine (CD.out _).mono ?_
  rintro e8 w8 ⟨rfl, hb8⟩
  clear s1 s2 sl
  clear b1 b2 bl
  have Ka : Hid (Kept w8 _ _ _) := Lib.hid (Ka.out.next hb8)
  have Kb : Hid (Kept w8 _ _ _) := Lib.hid (Kb.out.next hb8)
  have Ks : Hid (Kept w8 _ _ _) := Lib.hid (Ks.out.next hb8)
  have Kt : Hid (Kept w8 _ _ _) := Lib.hid (Kt.out.next hb8)
  have Kl : Hid (Kept w8 _ _ _) := Lib.hid (Kl.out.next hb8)
  have Kn : Hid (Kept w8 _ _ _) := Lib.hid (Kn.out.next hb8)
  have B8 : Hid (Below w.heap.size w w8) := Lib.hid (bnext (B7.out) (by have := B7.out.size; first | omega | (simp <;> omega)) hb8)
  clear hb8
  obtain ⟨a1, a2, -, -, al⟩ := Ka.out.two
  go_wp2_with fail
  refine (C7.out _ _ (Kept.new (by simp))).mono ?_
  rintro e9 w9 ⟨rfl, hb9⟩
  clear a1 a2 al
  have Ka : Hid (Kept w9 _ _ _) := Lib.hid (((Ka.out.alloc _).alloc _).next hb9)
  have Kb : Hid (Kept w9 _ _ _) := Lib.hid (((Kb.out.alloc _).alloc _).next hb9)
  have Ks : Hid (Kept w9 _ _ _) := Lib.hid (((Ks.out.alloc _).alloc _).next hb9)
  have Kt : Hid (Kept w9 _ _ _) := Lib.hid (((Kt.out.alloc _).alloc _).next hb9)
  have Kl : Hid (Kept w9 _ _ _) := Lib.hid (((Kl.out.alloc _).alloc _).next hb9)
  have Kn : Hid (Kept w9 _ _ _) := Lib.hid (((Kn.out.alloc _).alloc _).next hb9)
  have Kd : Hid (Kept w9 _ #[.int .i64 h, .int .u64 l] 24) := Lib.hid (((Kept.new (w := w8) (cs := #[.int .i64 h, .int .u64 l]) (t := 24) rfl).alloc (.cells #[.int .i64 y, .int .i64 z] 2)).next hb9)
  have Kk : Hid (Kept w9 _ #[.int .i64 y, .int .i64 z] 2) := Lib.hid ((Kept.new (w := (w8.alloc (.cells #[.int .i64 h, .int .u64 l] 24))) (g := w8.heap.size + 1) (cs := #[.int .i64 y, .int .i64 z]) (t := 2) (by simp)).next hb9)
  have B9 : Hid (Below w.heap.size w w9) := Lib.hid (bnext (((((B8.out).alloc (by have := B8.out.size; first | omega | (simp <;> omega)) _)).alloc (by have := B8.out.size; first | omega | (simp <;> omega)) _)) (by have := B8.out.size; first | omega | (simp <;> omega)) hb9)
  clear hb9
  go_wp2_with fail
  refine (C8.out _).mono ?_
  rintro e10 w10 ⟨rfl, hb10⟩
  have Ka : Hid (Kept w10 _ _ _) := Lib.hid (Ka.out.next hb10)
  have Kb : Hid (Kept w10 _ _ _) := Lib.hid (Kb.out.next hb10)
  have Ks : Hid (Kept w10 _ _ _) := Lib.hid (Ks.out.next hb10)
  have Kt : Hid (Kept w10 _ _ _) := Lib.hid (Kt.out.next hb10)
  have Kl : Hid (Kept w10 _ _ _) := Lib.hid (Kl.out.next hb10)
  have Kn : Hid (Kept w10 _ _ _) := Lib.hid (Kn.out.next hb10)
  have Kd : Hid (Kept w10 _ _ _) := Lib.hid (Kd.out.next hb10)
  have Kk : Hid (Kept w10 _ _ _) := Lib.hid (Kk.out.next hb10)
  have B10 : Hid (Below w.heap.size w w10) := Lib.hid (bnext (B9.out) (by have := B9.out.size; first | omega | (simp <;> omega)) hb10)
  clear hb10
  go_wp2
  go_ret
  exact ⟨rfl, B10.out⟩
set_option maxHeartbeats 8000000 in
theorem swaps_11 (h l g m x y z s1 s2 t1 t2 u1 u2 q1 q2 v c1 c2 p1 p2 : Int) (w : World)
    (C1 : Hid (∀ W, Calls Try.prog 9 #[.agg #[.int .i64 h, .int .u64 l], .agg #[.int .i64 g, .int .u64 m]] W (Gives (.tuple #[.agg #[.int .i64 s1, .int .u64 s2], .int .i64 0]) W)))
    (C2 : Hid (∀ W, Calls Try.prog 9 #[.agg #[.int .i64 g, .int .u64 m], .agg #[.int .i64 h, .int .u64 l]] W (Gives (.tuple #[.agg #[.int .i64 s1, .int .u64 s2], .int .i64 0]) W)))
    (C3 : Hid (∀ W, Calls Try.prog 22 #[.int .i64 x, .int .i64 y] W (Gives (.agg #[.int .i64 t1, .int .u64 t2]) W)))
    (C4 : Hid (∀ W, Calls Try.prog 22 #[.int .i64 y, .int .i64 x] W (Gives (.agg #[.int .i64 t1, .int .u64 t2]) W)))
    (C5 : Hid (∀ W g, Kept W g #[.int .i64 x, .int .i64 y, .int .i64 z] 2 → Calls Try.prog 23 #[.slice (some ⟨g, 0, none⟩) 3 3] W (Gives (.agg #[.int .i64 u1, .int .u64 u2]) W)))
    (C6 : Hid (∀ W g, Kept W g #[.int .i64 z, .int .i64 x, .int .i64 y] 2 → Calls Try.prog 23 #[.slice (some ⟨g, 0, none⟩) 3 3] W (Gives (.agg #[.int .i64 u1, .int .u64 u2]) W)))
    (C7 : Hid (∀ W g, Kept W g #[.int .i64 y, .int .i64 z] 2 → Calls Try.prog 23 #[.slice (some ⟨g, 0, none⟩) 2 2] W (Gives (.agg #[.int .i64 q1, .int .u64 q2]) W)))
    (C8 : Hid (∀ W, Calls Try.prog 11 #[.agg #[.int .i64 q1, .int .u64 q2]] W (Gives (.tuple #[.int .i64 v, .bool true]) W)))
    (CD : Hid (∀ W, Calls Try.prog 10 #[.agg #[.int .i64 s1, .int .u64 s2], .agg #[.int .i64 g, .int .u64 m]] W (Gives (.tuple #[.agg #[.int .i64 h, .int .u64 l], .int .i64 0]) W)))
    (C9 : Hid (∀ W, Calls Try.prog 22 #[.int .i64 x, .int .i64 z] W (Gives (.agg #[.int .i64 c1, .int .u64 c2]) W)))
    (CA : Hid (∀ W, Calls Try.prog 9 #[.agg #[.int .i64 t1, .int .u64 t2], .agg #[.int .i64 c1, .int .u64 c2]] W (Gives (.tuple #[.agg #[.int .i64 p1, .int .u64 p2], .int .i64 0]) W)))
    (CB : Hid (∀ W, Calls Try.prog 22 #[.int .i64 x, .int .i64 v] W (Gives (.agg #[.int .i64 p1, .int .u64 p2]) W))) :
    Calls Try.prog 7 #[.agg #[.int .i64 h, .int .u64 l], .agg #[.int .i64 g, .int .u64 m], .int .i64 x, .int .i64 y, .int .i64 z] w fun e w' => e = .returned (.bool true) ∧ Below w.heap.size w w' := by
  go_enter Try.func7, Try.ntmps7
  have B0 : Hid (Below w.heap.size w w) := Lib.hid (Below.refl w.heap.size w)
  go_wp2_with fail
  refine (alive_any _).mono ?_
  rintro e1 w1 ⟨rfl, hb1⟩
  have Ka : Hid (Kept w1 _ #[.int .i64 h, .int .u64 l] 24) := Lib.hid (((Kept.new (w := w) (cs := #[.int .i64 h, .int .u64 l]) (t := 24) rfl).alloc (.cells #[.int .i64 g, .int .u64 m] 24)).next hb1)
  have Kb : Hid (Kept w1 _ #[.int .i64 g, .int .u64 m] 24) := Lib.hid ((Kept.new (w := (w.alloc (.cells #[.int .i64 h, .int .u64 l] 24))) (g := w.heap.size + 1) (cs := #[.int .i64 g, .int .u64 m]) (t := 24) (by simp)).next hb1)
  have B1 : Hid (Below w.heap.size w w1) := Lib.hid (bnext (((((B0.out).alloc (by have := B0.out.size; first | omega | (simp <;> omega)) _)).alloc (by have := B0.out.size; first | omega | (simp <;> omega)) _)) (by have := B0.out.size; first | omega | (simp <;> omega)) hb1)
  clear hb1
  obtain ⟨a1, a2, -, -, al⟩ := Ka.out.two
  obtain ⟨b1, b2, -, -, bl⟩ := Kb.out.two
  go_wp2_with fail
  refine (C1.out _).mono ?_
  rintro e2 w2 ⟨rfl, hb2⟩
  clear a1 a2 al
  clear b1 b2 bl
  have Ka : Hid (Kept w2 _ _ _) := Lib.hid (Ka.out.next hb2)
  have Kb : Hid (Kept w2 _ _ _) := Lib.hid (Kb.out.next hb2)
  have B2 : Hid (Below w.heap.size w w2) := Lib.hid (bnext (B1.out) (by have := B1.out.size; first | omega | (simp <;> omega)) hb2)
  clear hb2
  obtain ⟨a1, a2, -, -, al⟩ := Ka.out.two
  obtain ⟨b1, b2, -, -, bl⟩ := Kb.out.two
  go_wp2_with fail
  refine (C2.out _).mono ?_
  rintro e3 w3 ⟨rfl, hb3⟩
  clear a1 a2 al
  clear b1 b2 bl
  have Ka : Hid (Kept w3 _ _ _) := Lib.hid ((Ka.out.alloc _).next hb3)
  have Kb : Hid (Kept w3 _ _ _) := Lib.hid ((Kb.out.alloc _).next hb3)
  have Ks : Hid (Kept w3 _ #[.int .i64 s1, .int .u64 s2] 24) := Lib.hid ((Kept.new (w := w2) (cs := #[.int .i64 s1, .int .u64 s2]) (t := 24) rfl).next hb3)
  have B3 : Hid (Below w.heap.size w w3) := Lib.hid (bnext (((B2.out).alloc (by have := B2.out.size; first | omega | (simp <;> omega)) _)) (by have := B2.out.size; first | omega | (simp <;> omega)) hb3)
  clear hb3
  obtain ⟨s1, s2, -, -, sl⟩ := Ks.out.two
  go_wp2_with fail
  refine (C3.out _).mono ?_
  rintro e4 w4 ⟨rfl, hb4⟩
  clear s1 s2 sl
  have Ka : Hid (Kept w4 _ _ _) := Lib.hid ((Ka.out.alloc _).next hb4)
  have Kb : Hid (Kept w4 _ _ _) := Lib.hid ((Kb.out.alloc _).next hb4)
  have Ks : Hid (Kept w4 _ _ _) := Lib.hid ((Ks.out.alloc _).next hb4)
  have Kt : Hid (Kept w4 _ #[.int .i64 s1, .int .u64 s2] 24) := Lib.hid ((Kept.new (w := w3) (cs := #[.int .i64 s1, .int .u64 s2]) (t := 24) rfl).next hb4)
  have B4 : Hid (Below w.heap.size w w4) := Lib.hid (bnext (((B3.out).alloc (by have := B3.out.size; first | omega | (simp <;> omega)) _)) (by have := B3.out.size; first | omega | (simp <;> omega)) hb4)
  clear hb4
  go_wp2_with fail
  refine (C4.out _).mono ?_
  rintro e5 w5 ⟨rfl, hb5⟩
  have Ka : Hid (Kept w5 _ _ _) := Lib.hid (Ka.out.next hb5)
  have Kb : Hid (Kept w5 _ _ _) := Lib.hid (Kb.out.next hb5)
  have Ks : Hid (Kept w5 _ _ _) := Lib.hid (Ks.out.next hb5)
  have Kt : Hid (Kept w5 _ _ _) := Lib.hid (Kt.out.next hb5)
  have B5 : Hid (Below w.heap.size w w5) := Lib.hid (bnext (B4.out) (by have := B4.out.size; first | omega | (simp <;> omega)) hb5)
  clear hb5
  go_wp2_with fail
  refine (C5.out _ _ (Kept.new rfl)).mono ?_
  rintro e6 w6 ⟨rfl, hb6⟩
  have Ka : Hid (Kept w6 _ _ _) := Lib.hid ((Ka.out.alloc _).next hb6)
  have Kb : Hid (Kept w6 _ _ _) := Lib.hid ((Kb.out.alloc _).next hb6)
  have Ks : Hid (Kept w6 _ _ _) := Lib.hid ((Ks.out.alloc _).next hb6)
  have Kt : Hid (Kept w6 _ _ _) := Lib.hid ((Kt.out.alloc _).next hb6)
  have Kl : Hid (Kept w6 _ #[.int .i64 x, .int .i64 y, .int .i64 z] 2) := Lib.hid ((Kept.new (w := w5) (cs := #[.int .i64 x, .int .i64 y, .int .i64 z]) (t := 2) rfl).next hb6)
  have B6 : Hid (Below w.heap.size w w6) := Lib.hid (bnext (((B5.out).alloc (by have := B5.out.size; first | omega | (simp <;> omega)) _)) (by have := B5.out.size; first | omega | (simp <;> omega)) hb6)
  clear hb6
  go_wp2_with fail
  refine (C6.out _ _ (Kept.new rfl)).mono ?_
  rintro e7 w7 ⟨rfl, hb7⟩
  have Ka : Hid (Kept w7 _ _ _) := Lib.hid ((Ka.out.alloc _).next hb7)
  have Kb : Hid (Kept w7 _ _ _) := Lib.hid ((Kb.out.alloc _).next hb7)
  have Ks : Hid (Kept w7 _ _ _) := Lib.hid ((Ks.out.alloc _).next hb7)
  have Kt : Hid (Kept w7 _ _ _) := Lib.hid ((Kt.out.alloc _).next hb7)
  have Kl : Hid (Kept w7 _ _ _) := Lib.hid ((Kl.out.alloc _).next hb7)
  have Kn : Hid (Kept w7 _ #[.int .i64 z, .int .i64 x, .int .i64 y] 2) := Lib.hid ((Kept.new (w := w6) (cs := #[.int .i64 z, .int .i64 x, .int .i64 y]) (t := 2) rfl).next hb7)
  have B7 : Hid (Below w.heap.size w w7) := Lib.hid (bnext (((B6.out).alloc (by have := B6.out.size; first | omega | (simp <;> omega)) _)) (by have := B6.out.size; first | omega | (simp <;> omega)) hb7)
  clear hb7
  obtain ⟨s1, s2, -, -, sl⟩ := Ks.out.two
  obtain ⟨b1, b2, -, -, bl⟩ := Kb.out.two
  go_wp2_with fail
  refine (CD.out _).mono ?_
  rintro e8 w8 ⟨rfl, hb8⟩
  clear s1 s2 sl
  clear b1 b2 bl
  have Ka : Hid (Kept w8 _ _ _) := Lib.hid (Ka.out.next hb8)
  have Kb : Hid (Kept w8 _ _ _) := Lib.hid (Kb.out.next hb8)
  have Ks : Hid (Kept w8 _ _ _) := Lib.hid (Ks.out.next hb8)
  have Kt : Hid (Kept w8 _ _ _) := Lib.hid (Kt.out.next hb8)
  have Kl : Hid (Kept w8 _ _ _) := Lib.hid (Kl.out.next hb8)
  have Kn : Hid (Kept w8 _ _ _) := Lib.hid (Kn.out.next hb8)
  have B8 : Hid (Below w.heap.size w w8) := Lib.hid (bnext (B7.out) (by have := B7.out.size; first | omega | (simp <;> omega)) hb8)
  clear hb8
  obtain ⟨a1, a2, -, -, al⟩ := Ka.out.two
  go_wp2_with fail
  refine (C7.out _ _ (Kept.new (by simp))).mono ?_
  rintro e9 w9 ⟨rfl, hb9⟩
  clear a1 a2 al
  have Ka : Hid (Kept w9 _ _ _) := Lib.hid (((Ka.out.alloc _).alloc _).next hb9)
  have Kb : Hid (Kept w9 _ _ _) := Lib.hid (((Kb.out.alloc _).alloc _).next hb9)
  have Ks : Hid (Kept w9 _ _ _) := Lib.hid (((Ks.out.alloc _).alloc _).next hb9)
  have Kt : Hid (Kept w9 _ _ _) := Lib.hid (((Kt.out.alloc _).alloc _).next hb9)
  have Kl : Hid (Kept w9 _ _ _) := Lib.hid (((Kl.out.alloc _).alloc _).next hb9)
  have Kn : Hid (Kept w9 _ _ _) := Lib.hid (((Kn.out.alloc _).alloc _).next hb9)
  have Kd : Hid (Kept w9 _ #[.int .i64 h, .int .u64 l] 24) := Lib.hid (((Kept.new (w := w8) (cs := #[.int .i64 h, .int .u64 l]) (t := 24) rfl).alloc (.cells #[.int .i64 y, .int .i64 z] 2)).next hb9)
  have Kk : Hid (Kept w9 _ #[.int .i64 y, .int .i64 z] 2) := Lib.hid ((Kept.new (w := (w8.alloc (.cells #[.int .i64 h, .int .u64 l] 24))) (g := w8.heap.size + 1) (cs := #[.int .i64 y, .int .i64 z]) (t := 2) (by simp)).next hb9)
  have B9 : Hid (Below w.heap.size w w9) := Lib.hid (bnext (((((B8.out).alloc (by have := B8.out.size; first | omega | (simp <;> omega)) _)).alloc (by have := B8.out.size; first | omega | (simp <;> omega)) _)) (by have := B8.out.size; first | omega | (simp <;> omega)) hb9)
  clear hb9
  go_wp2_with fail
  refine (C8.out _).mono ?_
  rintro e10 w10 ⟨rfl, hb10⟩
  have Ka : Hid (Kept w10 _ _ _) := Lib.hid (Ka.out.next hb10)
  have Kb : Hid (Kept w10 _ _ _) := Lib.hid (Kb.out.next hb10)
  have Ks : Hid (Kept w10 _ _ _) := Lib.hid (Ks.out.next hb10)
  have Kt : Hid (Kept w10 _ _ _) := Lib.hid (Kt.out.next hb10)
  have Kl : Hid (Kept w10 _ _ _) := Lib.hid (Kl.out.next hb10)
  have Kn : Hid (Kept w10 _ _ _) := Lib.hid (Kn.out.next hb10)
  have Kd : Hid (Kept w10 _ _ _) := Lib.hid (Kd.out.next hb10)
  have Kk : Hid (Kept w10 _ _ _) := Lib.hid (Kk.out.next hb10)
  have B10 : Hid (Below w.heap.size w w10) := Lib.hid (bnext (B9.out) (by have := B9.out.size; first | omega | (simp <;> omega)) hb10)
  clear hb10
  go_wp2_with fail
  refine (C3.out _).mono ?_
  rintro e11 w11 ⟨rfl, hb11⟩
  have Ka : Hid (Kept w11 _ _ _) := Lib.hid (Ka.out.next hb11)
  have Kb : Hid (Kept w11 _ _ _) := Lib.hid (Kb.out.next hb11)
  have Ks : Hid (Kept w11 _ _ _) := Lib.hid (Ks.out.next hb11)
  have Kt : Hid (Kept w11 _ _ _) := Lib.hid (Kt.out.next hb11)
  have Kl : Hid (Kept w11 _ _ _) := Lib.hid (Kl.out.next hb11)
  have Kn : Hid (Kept w11 _ _ _) := Lib.hid (Kn.out.next hb11)
  have Kd : Hid (Kept w11 _ _ _) := Lib.hid (Kd.out.next hb11)
  have Kk : Hid (Kept w11 _ _ _) := Lib.hid (Kk.out.next hb11)
  have B11 : Hid (Below w.heap.size w w11) := Lib.hid (bnext (B10.out) (by have := B10.out.size; first | omega | (simp <;> omega)) hb11)
  clear hb11
  go_wp2_with fail
  refine (C9.out _).mono ?_
  rintro e12 w12 ⟨rfl, hb12⟩
  have Ka : Hid (Kept w12 _ _ _) := Lib.hid (Ka.out.next hb12)
  have Kb : Hid (Kept w12 _ _ _) := Lib.hid (Kb.out.next hb12)
  have Ks : Hid (Kept w12 _ _ _) := Lib.hid (Ks.out.next hb12)
  have Kt : Hid (Kept w12 _ _ _) := Lib.hid (Kt.out.next hb12)
  have Kl : Hid (Kept w12 _ _ _) := Lib.hid (Kl.out.next hb12)
  have Kn : Hid (Kept w12 _ _ _) := Lib.hid (Kn.out.next hb12)
  have Kd : Hid (Kept w12 _ _ _) := Lib.hid (Kd.out.next hb12)
  have Kk : Hid (Kept w12 _ _ _) := Lib.hid (Kk.out.next hb12)
  have B12 : Hid (Below w.heap.size w w12) := Lib.hid (bnext (B11.out) (by have := B11.out.size; first | omega | (simp <;> omega)) hb12)
  clear hb12
  go_wp2_with fail
  refine (CA.out _).mono ?_
  rintro e13 w13 ⟨rfl, hb13⟩
  have Ka : Hid (Kept w13 _ _ _) := Lib.hid (Ka.out.next hb13)
  have Kb : Hid (Kept w13 _ _ _) := Lib.hid (Kb.out.next hb13)
  have Ks : Hid (Kept w13 _ _ _) := Lib.hid (Ks.out.next hb13)
  have Kt : Hid (Kept w13 _ _ _) := Lib.hid (Kt.out.next hb13)
  have Kl : Hid (Kept w13 _ _ _) := Lib.hid (Kl.out.next hb13)
  have Kn : Hid (Kept w13 _ _ _) := Lib.hid (Kn.out.next hb13)
  have Kd : Hid (Kept w13 _ _ _) := Lib.hid (Kd.out.next hb13)
  have Kk : Hid (Kept w13 _ _ _) := Lib.hid (Kk.out.next hb13)
  have B13 : Hid (Below w.heap.size w w13) := Lib.hid (bnext (B12.out) (by have := B12.out.size; first | omega | (simp <;> omega)) hb13)
  clear hb13
  go_wp2
  have KP := Kept.new (w := w13) (cs := #[.int .i64 p1, .int .u64 p2]) (t := 24) (g := w13.heap.size) rfl
  have BP : Below w.heap.size w (w13.alloc (.cells #[.int .i64 p1, .int .u64 p2] 24)) := B13.out.alloc B13.out.size _
  obtain ⟨V, hV⟩ : ∃ V, w13.alloc (.cells #[.int .i64 p1, .int .u64 p2] 24) = V := ⟨_, rfl⟩
  rw [hV] at KP BP ⊢
  obtain ⟨kp1, kp2, -, -, kpl⟩ := KP.two
  have HP := Lib.hid BP
  clear KP BP hV
  go_region_held3 (fun w' => Hid (Below w.heap.size w w') ∧ w'.cell? ⟨w13.heap.size, 0, none⟩ = some (.int .i64 p1) ∧ w'.cell? ⟨w13.heap.size, 1, none⟩ = some (.int .u64 p2))
    (first | exact keepB2 hbz (by assumption) | exact ⟨Lib.hid ⟨HP.out.os, HP.out.tape, HP.out.output, HP.out.size, HP.out.block⟩, kp1, kp2⟩ | go_keep)
    (first | (go_at_call 22; refine (CB.out _).mono ?_; rintro _ wz ⟨rfl, hbz⟩))
  all_goals
    go_wp2
    go_ret
    exact ⟨rfl, (show Hid (Below w.heap.size w _) ∧ _ ∧ _ from by assumption).1.out⟩
end Go.Proofs.Ytngjefoipdcldaa
