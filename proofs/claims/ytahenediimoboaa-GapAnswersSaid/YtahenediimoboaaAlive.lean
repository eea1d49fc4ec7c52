/- noonmarklaw03.alive returns true. -/
import Derived.Test.YtahenediimoboaaGapE
namespace Go.Proofs.Ytahenediimoboaa
open Go.RowKit
set_option linter.unusedVariables false

theorem gives_of {v v' : Value} {w w' : World} {e : Ending} (h : Gives v w e w') (hv : v = v') : Gives v' w e w' := by rw [← hv]; exact h
theorem al_new (a b x y : Int) (r : Bool) (w : World) (h1 : (if a ≤ b then a else 0) = x) (h2 : (if a ≤ b then b else 0) = y) (h3 : decide (a ≤ b) = r) : Calls Try.prog 8 #[.int .i64 a, .int .i64 b] w (Gives (.tuple #[.agg #[.int .i64 x, .int .i64 y], .bool r]) w) :=
  (new_any a b w).mono fun e w' h => ⟨by rw [h.1, h1, h2, h3], h.2⟩
theorem pair_two {w : World} {g : Nat} {p q r s : Int} {T : TypeId} (h : Kept w g #[.int .i64 p, .int .i64 q, .int .i64 r, .int .i64 s] T) : PairRow w (some ⟨g, 0, none⟩) [(p, q), (r, s)] := fun j hj => by
  simp only [List.length_cons, List.length_nil] at hj
  have : j = 0 ∨ j = 1 := by omega
  rcases this with rfl | rfl
  · exact ⟨g, 0, rfl, (h.at_ 0).1, (h.at_ 1).1⟩
  · exact ⟨g, 0, rfl, (h.at_ 2).1, (h.at_ 3).1⟩
theorem al_meet {g : Nat} {p q r s : Int} {T : TypeId} (x y e : Int) (w : World) (h : Kept w g #[.int .i64 p, .int .i64 q, .int .i64 r, .int .i64 s] T) (h1 : combL [(p, q), (r, s)] ([(p, q), (r, s)].foldl opM fullP) = x) (h2 : combH [(p, q), (r, s)] ([(p, q), (r, s)].foldl opM fullP) = y) (h3 : combE [(p, q), (r, s)] ([(p, q), (r, s)].foldl opM fullP) = e) :
    Calls Try.prog 20 #[.slice (some ⟨g, 0, none⟩) 2 2] w (Gives (.tuple #[.agg #[.int .i64 x, .int .i64 y], .int .i64 e]) w) :=
  (meet_any (some ⟨g, 0, none⟩) 2 [(p, q), (r, s)] w (pair_two h) (by simp)).mono fun e w' h => ⟨by rw [h.1, h1, h2, h3], h.2⟩
theorem al_hull {g : Nat} {p q r s : Int} {T : TypeId} (x y e : Int) (w : World) (h : Kept w g #[.int .i64 p, .int .i64 q, .int .i64 r, .int .i64 s] T) (h1 : combL [(p, q), (r, s)] ([(p, q), (r, s)].foldl opH noneP) = x) (h2 : combH [(p, q), (r, s)] ([(p, q), (r, s)].foldl opH noneP) = y) (h3 : combE [(p, q), (r, s)] ([(p, q), (r, s)].foldl opH noneP) = e) :
    Calls Try.prog 21 #[.slice (some ⟨g, 0, none⟩) 2 2] w (Gives (.tuple #[.agg #[.int .i64 x, .int .i64 y], .int .i64 e]) w) :=
  (hull_any (some ⟨g, 0, none⟩) 2 [(p, q), (r, s)] w (pair_two h) (by simp)).mono fun e w' h => ⟨by rw [h.1, h1, h2, h3], h.2⟩
theorem al_shift (a b d x y e : Int) (w : World) (ha : InI a) (hb : InI b) (hd : InI d) (h1 : shiftL a b d = x) (h2 : shiftH a b d = y) (h3 : shiftE a b d = e) : Calls Try.prog 9 #[.agg #[.int .i64 a, .int .i64 b], .int .i64 d] w (Gives (.tuple #[.agg #[.int .i64 x, .int .i64 y], .int .i64 e]) w) :=
  (shift_any a b d w ha hb hd).mono fun e w' h => ⟨by rw [h.1, h1, h2, h3], h.2⟩
theorem al_grow (a b u v x y e : Int) (w : World) (ha : InI a) (hb : InI b) (hu : InI u) (hv : InI v) (h1 : growL a b u v = x) (h2 : growH a b u v = y) (h3 : growE a b u v = e) : Calls Try.prog 10 #[.agg #[.int .i64 a, .int .i64 b], .int .i64 u, .int .i64 v] w (Gives (.tuple #[.agg #[.int .i64 x, .int .i64 y], .int .i64 e]) w) :=
  (grow_any a b u v w ha hb hu hv).mono fun e w' h => ⟨by rw [h.1, h1, h2, h3], h.2⟩
theorem al_width (a b r : Int) (w : World) (ha : InI a) (hb : InI b) (h : widI a b = r) : Calls Try.prog 19 #[.agg #[.int .i64 a, .int .i64 b]] w (Gives (.int .u64 r) w) := by rw [← h]; exact width_any a b w ha hb
theorem al_mid (a b r : Int) (w : World) (ha : InI a) (hb : InI b) (h : midI a b = r) : Calls Try.prog 15 #[.agg #[.int .i64 a, .int .i64 b]] w (Gives (.int .i64 r) w) := by rw [← h]; exact mid_any a b w ha hb
theorem al_right (a b : Int) (r : Bool) (w : World) (h : decide (a ≤ b) = r) : Calls Try.prog 14 #[.agg #[.int .i64 a, .int .i64 b]] w (Gives (.bool r) w) := by rw [← h]; exact right_any a b w
set_option maxHeartbeats 4000000 in
set_option maxRecDepth 100000 in
theorem alive_any (w : World) : Calls Try.prog 7 #[] w fun e w' => e = .returned (.bool true) ∧ Below w.heap.size w w' := by
  go_enter Try.func7, Try.ntmps7
  have B0 := Lib.hid (Below.refl w.heap.size w)
  go_wp2_with fail
  refine (al_new 1 5 1 5 true _ (by decide) (by decide) (by decide)).mono ?_
  rintro e1 w1 ⟨rfl, hb1⟩
  have B1 : Hid (Below w.heap.size w w1) := Lib.hid (by first | exact bnext B0.out B0.out.size hb1 | exact bnext (B0.out.alloc B0.out.size _) (by have := B0.out.size; simp; omega) hb1 | exact bnext ((B0.out.alloc B0.out.size _).alloc (by have := B0.out.size; simp; omega) _) (by have := B0.out.size; simp; omega) hb1)
  clear hb1
  have Ka : Hid (Kept (w1.alloc (.cells #[.int .i64 1, .int .i64 5] 23)) w1.heap.size #[.int .i64 1, .int .i64 5] 23) := Lib.hid (Kept.new rfl)
  go_wp2_with fail
  refine (al_new 2 1 0 0 false _ (by decide) (by decide) (by decide)).mono ?_
  rintro e2 w2 ⟨rfl, hb2⟩
  have Ka : Hid (Kept w2 _ _ _) := Lib.hid (by first | exact Ka.out.next hb2 | exact (Ka.out.alloc _).next hb2 | exact ((Ka.out.alloc _).alloc _).next hb2 | exact (((Ka.out.alloc _).alloc _).alloc _).next hb2)
  have B2 : Hid (Below w.heap.size w w2) := Lib.hid (by first | exact bnext B1.out B1.out.size hb2 | exact bnext (B1.out.alloc B1.out.size _) (by have := B1.out.size; simp; omega) hb2 | exact bnext ((B1.out.alloc B1.out.size _).alloc (by have := B1.out.size; simp; omega) _) (by have := B1.out.size; simp; omega) hb2)
  clear hb2
  have Kb : Hid (Kept (w2.alloc (.cells #[.int .i64 0, .int .i64 0] 23)) w2.heap.size #[.int .i64 0, .int .i64 0] 23) := Lib.hid (Kept.new rfl)
  obtain ⟨a1, a2, -, -, al⟩ := Ka.out.two
  go_wp2_with fail
  refine (al_meet 4 5 0 _ (by exact Kept.new (by simp)) (by decide) (by decide) (by decide)).mono ?_
  rintro e3 w3 ⟨rfl, hb3⟩
  clear a1 a2 al
  have Ka : Hid (Kept w3 _ _ _) := Lib.hid (by first | exact Ka.out.next hb3 | exact (Ka.out.alloc _).next hb3 | exact ((Ka.out.alloc _).alloc _).next hb3 | exact (((Ka.out.alloc _).alloc _).alloc _).next hb3)
  have Kb : Hid (Kept w3 _ _ _) := Lib.hid (by first | exact Kb.out.next hb3 | exact (Kb.out.alloc _).next hb3 | exact ((Kb.out.alloc _).alloc _).next hb3 | exact (((Kb.out.alloc _).alloc _).alloc _).next hb3)
  have B3 : Hid (Below w.heap.size w w3) := Lib.hid (by first | exact bnext B2.out B2.out.size hb3 | exact bnext (B2.out.alloc B2.out.size _) (by have := B2.out.size; simp; omega) hb3 | exact bnext ((B2.out.alloc B2.out.size _).alloc (by have := B2.out.size; simp; omega) _) (by have := B2.out.size; simp; omega) hb3)
  clear hb3
  have Km : Hid (Kept (w3.alloc (.cells #[.int .i64 4, .int .i64 5] 23)) w3.heap.size #[.int .i64 4, .int .i64 5] 23) := Lib.hid (Kept.new rfl)
  obtain ⟨a1, a2, -, -, al⟩ := Ka.out.two
  go_wp2_with fail
  refine (al_hull 1 9 0 _ (by exact Kept.new (by simp)) (by decide) (by decide) (by decide)).mono ?_
  rintro e4 w4 ⟨rfl, hb4⟩
  clear a1 a2 al
  have Ka : Hid (Kept w4 _ _ _) := Lib.hid (by first | exact Ka.out.next hb4 | exact (Ka.out.alloc _).next hb4 | exact ((Ka.out.alloc _).alloc _).next hb4 | exact (((Ka.out.alloc _).alloc _).alloc _).next hb4)
  have Kb : Hid (Kept w4 _ _ _) := Lib.hid (by first | exact Kb.out.next hb4 | exact (Kb.out.alloc _).next hb4 | exact ((Kb.out.alloc _).alloc _).next hb4 | exact (((Kb.out.alloc _).alloc _).alloc _).next hb4)
  have Km : Hid (Kept w4 _ _ _) := Lib.hid (by first | exact Km.out.next hb4 | exact (Km.out.alloc _).next hb4 | exact ((Km.out.alloc _).alloc _).next hb4 | exact (((Km.out.alloc _).alloc _).alloc _).next hb4)
  have B4 : Hid (Below w.heap.size w w4) := Lib.hid (by first | exact bnext B3.out B3.out.size hb4 | exact bnext (B3.out.alloc B3.out.size _) (by have := B3.out.size; simp; omega) hb4 | exact bnext ((B3.out.alloc B3.out.size _).alloc (by have := B3.out.size; simp; omega) _) (by have := B3.out.size; simp; omega) hb4)
  clear hb4
  have Kh : Hid (Kept (w4.alloc (.cells #[.int .i64 1, .int .i64 9] 23)) w4.heap.size #[.int .i64 1, .int .i64 9] 23) := Lib.hid (Kept.new rfl)
  obtain ⟨a1, a2, -, -, al⟩ := Ka.out.two
  go_wp2_with fail
  refine (al_meet 0 0 13 _ (by exact Kept.new (by simp)) (by decide) (by decide) (by decide)).mono ?_
  rintro e5 w5 ⟨rfl, hb5⟩
  clear a1 a2 al
  have Ka : Hid (Kept w5 _ _ _) := Lib.hid (by first | exact Ka.out.next hb5 | exact (Ka.out.alloc _).next hb5 | exact ((Ka.out.alloc _).alloc _).next hb5 | exact (((Ka.out.alloc _).alloc _).alloc _).next hb5)
  have Kb : Hid (Kept w5 _ _ _) := Lib.hid (by first | exact Kb.out.next hb5 | exact (Kb.out.alloc _).next hb5 | exact ((Kb.out.alloc _).alloc _).next hb5 | exact (((Kb.out.alloc _).alloc _).alloc _).next hb5)
  have Km : Hid (Kept w5 _ _ _) := Lib.hid (by first | exact Km.out.next hb5 | exact (Km.out.alloc _).next hb5 | exact ((Km.out.alloc _).alloc _).next hb5 | exact (((Km.out.alloc _).alloc _).alloc _).next hb5)
  have Kh : Hid (Kept w5 _ _ _) := Lib.hid (by first | exact Kh.out.next hb5 | exact (Kh.out.alloc _).next hb5 | exact ((Kh.out.alloc _).alloc _).next hb5 | exact (((Kh.out.alloc _).alloc _).alloc _).next hb5)
  have B5 : Hid (Below w.heap.size w w5) := Lib.hid (by first | exact bnext B4.out B4.out.size hb5 | exact bnext (B4.out.alloc B4.out.size _) (by have := B4.out.size; simp; omega) hb5 | exact bnext ((B4.out.alloc B4.out.size _).alloc (by have := B4.out.size; simp; omega) _) (by have := B4.out.size; simp; omega) hb5)
  clear hb5
  have Kn : Hid (Kept (w5.alloc (.cells #[.int .i64 0, .int .i64 0] 23)) w5.heap.size #[.int .i64 0, .int .i64 0] 23) := Lib.hid (Kept.new rfl)
  obtain ⟨a1, a2, -, -, al⟩ := Ka.out.two
  go_wp2_with fail
  refine (al_shift 1 5 (-3) (-2) 2 0 _ (by decide) (by decide) (by decide) (by decide) (by decide) (by decide)).mono ?_
  rintro e6 w6 ⟨rfl, hb6⟩
  clear a1 a2 al
  have Ka : Hid (Kept w6 _ _ _) := Lib.hid (by first | exact Ka.out.next hb6 | exact (Ka.out.alloc _).next hb6 | exact ((Ka.out.alloc _).alloc _).next hb6 | exact (((Ka.out.alloc _).alloc _).alloc _).next hb6)
  have Kb : Hid (Kept w6 _ _ _) := Lib.hid (by first | exact Kb.out.next hb6 | exact (Kb.out.alloc _).next hb6 | exact ((Kb.out.alloc _).alloc _).next hb6 | exact (((Kb.out.alloc _).alloc _).alloc _).next hb6)
  have Km : Hid (Kept w6 _ _ _) := Lib.hid (by first | exact Km.out.next hb6 | exact (Km.out.alloc _).next hb6 | exact ((Km.out.alloc _).alloc _).next hb6 | exact (((Km.out.alloc _).alloc _).alloc _).next hb6)
  have Kh : Hid (Kept w6 _ _ _) := Lib.hid (by first | exact Kh.out.next hb6 | exact (Kh.out.alloc _).next hb6 | exact ((Kh.out.alloc _).alloc _).next hb6 | exact (((Kh.out.alloc _).alloc _).alloc _).next hb6)
  have Kn : Hid (Kept w6 _ _ _) := Lib.hid (by first | exact Kn.out.next hb6 | exact (Kn.out.alloc _).next hb6 | exact ((Kn.out.alloc _).alloc _).next hb6 | exact (((Kn.out.alloc _).alloc _).alloc _).next hb6)
  have B6 : Hid (Below w.heap.size w w6) := Lib.hid (by first | exact bnext B5.out B5.out.size hb6 | exact bnext (B5.out.alloc B5.out.size _) (by have := B5.out.size; simp; omega) hb6 | exact bnext ((B5.out.alloc B5.out.size _).alloc (by have := B5.out.size; simp; omega) _) (by have := B5.out.size; simp; omega) hb6)
  clear hb6
  have Ks : Hid (Kept (w6.alloc (.cells #[.int .i64 (-2), .int .i64 2] 23)) w6.heap.size #[.int .i64 (-2), .int .i64 2] 23) := Lib.hid (Kept.new rfl)
  obtain ⟨a1, a2, -, -, al⟩ := Ka.out.two
  go_wp2_with fail
  refine (al_grow 1 5 1 2 0 7 0 _ (by decide) (by decide) (by decide) (by decide) (by decide) (by decide) (by decide)).mono ?_
  rintro e7 w7 ⟨rfl, hb7⟩
  clear a1 a2 al
  have Ka : Hid (Kept w7 _ _ _) := Lib.hid (by first | exact Ka.out.next hb7 | exact (Ka.out.alloc _).next hb7 | exact ((Ka.out.alloc _).alloc _).next hb7 | exact (((Ka.out.alloc _).alloc _).alloc _).next hb7)
  have Kb : Hid (Kept w7 _ _ _) := Lib.hid (by first | exact Kb.out.next hb7 | exact (Kb.out.alloc _).next hb7 | exact ((Kb.out.alloc _).alloc _).next hb7 | exact (((Kb.out.alloc _).alloc _).alloc _).next hb7)
  have Km : Hid (Kept w7 _ _ _) := Lib.hid (by first | exact Km.out.next hb7 | exact (Km.out.alloc _).next hb7 | exact ((Km.out.alloc _).alloc _).next hb7 | exact (((Km.out.alloc _).alloc _).alloc _).next hb7)
  have Kh : Hid (Kept w7 _ _ _) := Lib.hid (by first | exact Kh.out.next hb7 | exact (Kh.out.alloc _).next hb7 | exact ((Kh.out.alloc _).alloc _).next hb7 | exact (((Kh.out.alloc _).alloc _).alloc _).next hb7)
  have Kn : Hid (Kept w7 _ _ _) := Lib.hid (by first | exact Kn.out.next hb7 | exact (Kn.out.alloc _).next hb7 | exact ((Kn.out.alloc _).alloc _).next hb7 | exact (((Kn.out.alloc _).alloc _).alloc _).next hb7)
  have Ks : Hid (Kept w7 _ _ _) := Lib.hid (by first | exact Ks.out.next hb7 | exact (Ks.out.alloc _).next hb7 | exact ((Ks.out.alloc _).alloc _).next hb7 | exact (((Ks.out.alloc _).alloc _).alloc _).next hb7)
  have B7 : Hid (Below w.heap.size w w7) := Lib.hid (by first | exact bnext B6.out B6.out.size hb7 | exact bnext (B6.out.alloc B6.out.size _) (by have := B6.out.size; simp; omega) hb7 | exact bnext ((B6.out.alloc B6.out.size _).alloc (by have := B6.out.size; simp; omega) _) (by have := B6.out.size; simp; omega) hb7)
  clear hb7
  have Kg : Hid (Kept (w7.alloc (.cells #[.int .i64 0, .int .i64 7] 23)) w7.heap.size #[.int .i64 0, .int .i64 7] 23) := Lib.hid (Kept.new rfl)
  obtain ⟨a1, a2, -, -, al⟩ := Ka.out.two
  go_wp2_with fail
  refine (al_right 1 5 true _ (by decide)).mono ?_
  rintro e8 w8 ⟨rfl, hb8⟩
  clear a1 a2 al
  have Ka : Hid (Kept w8 _ _ _) := Lib.hid (by first | exact Ka.out.next hb8 | exact (Ka.out.alloc _).next hb8 | exact ((Ka.out.alloc _).alloc _).next hb8 | exact (((Ka.out.alloc _).alloc _).alloc _).next hb8)
  have Kb : Hid (Kept w8 _ _ _) := Lib.hid (by first | exact Kb.out.next hb8 | exact (Kb.out.alloc _).next hb8 | exact ((Kb.out.alloc _).alloc _).next hb8 | exact (((Kb.out.alloc _).alloc _).alloc _).next hb8)
  have Km : Hid (Kept w8 _ _ _) := Lib.hid (by first | exact Km.out.next hb8 | exact (Km.out.alloc _).next hb8 | exact ((Km.out.alloc _).alloc _).next hb8 | exact (((Km.out.alloc _).alloc _).alloc _).next hb8)
  have Kh : Hid (Kept w8 _ _ _) := Lib.hid (by first | exact Kh.out.next hb8 | exact (Kh.out.alloc _).next hb8 | exact ((Kh.out.alloc _).alloc _).next hb8 | exact (((Kh.out.alloc _).alloc _).alloc _).next hb8)
  have Kn : Hid (Kept w8 _ _ _) := Lib.hid (by first | exact Kn.out.next hb8 | exact (Kn.out.alloc _).next hb8 | exact ((Kn.out.alloc _).alloc _).next hb8 | exact (((Kn.out.alloc _).alloc _).alloc _).next hb8)
  have Ks : Hid (Kept w8 _ _ _) := Lib.hid (by first | exact Ks.out.next hb8 | exact (Ks.out.alloc _).next hb8 | exact ((Ks.out.alloc _).alloc _).next hb8 | exact (((Ks.out.alloc _).alloc _).alloc _).next hb8)
  have Kg : Hid (Kept w8 _ _ _) := Lib.hid (by first | exact Kg.out.next hb8 | exact (Kg.out.alloc _).next hb8 | exact ((Kg.out.alloc _).alloc _).next hb8 | exact (((Kg.out.alloc _).alloc _).alloc _).next hb8)
  have B8 : Hid (Below w.heap.size w w8) := Lib.hid (by first | exact bnext B7.out B7.out.size hb8 | exact bnext (B7.out.alloc B7.out.size _) (by have := B7.out.size; simp; omega) hb8 | exact bnext ((B7.out.alloc B7.out.size _).alloc (by have := B7.out.size; simp; omega) _) (by have := B7.out.size; simp; omega) hb8)
  clear hb8
  obtain ⟨a1, a2, -, -, al⟩ := Ka.out.two
  go_wp2_with fail
  refine (has_any 1 5 5 true (by decide) _).mono ?_
  rintro e9 w9 ⟨rfl, hb9⟩
  clear a1 a2 al
  have Ka : Hid (Kept w9 _ _ _) := Lib.hid (by first | exact Ka.out.next hb9 | exact (Ka.out.alloc _).next hb9 | exact ((Ka.out.alloc _).alloc _).next hb9 | exact (((Ka.out.alloc _).alloc _).alloc _).next hb9)
  have Kb : Hid (Kept w9 _ _ _) := Lib.hid (by first | exact Kb.out.next hb9 | exact (Kb.out.alloc _).next hb9 | exact ((Kb.out.alloc _).alloc _).next hb9 | exact (((Kb.out.alloc _).alloc _).alloc _).next hb9)
  have Km : Hid (Kept w9 _ _ _) := Lib.hid (by first | exact Km.out.next hb9 | exact (Km.out.alloc _).next hb9 | exact ((Km.out.alloc _).alloc _).next hb9 | exact (((Km.out.alloc _).alloc _).alloc _).next hb9)
  have Kh : Hid (Kept w9 _ _ _) := Lib.hid (by first | exact Kh.out.next hb9 | exact (Kh.out.alloc _).next hb9 | exact ((Kh.out.alloc _).alloc _).next hb9 | exact (((Kh.out.alloc _).alloc _).alloc _).next hb9)
  have Kn : Hid (Kept w9 _ _ _) := Lib.hid (by first | exact Kn.out.next hb9 | exact (Kn.out.alloc _).next hb9 | exact ((Kn.out.alloc _).alloc _).next hb9 | exact (((Kn.out.alloc _).alloc _).alloc _).next hb9)
  have Ks : Hid (Kept w9 _ _ _) := Lib.hid (by first | exact Ks.out.next hb9 | exact (Ks.out.alloc _).next hb9 | exact ((Ks.out.alloc _).alloc _).next hb9 | exact (((Ks.out.alloc _).alloc _).alloc _).next hb9)
  have Kg : Hid (Kept w9 _ _ _) := Lib.hid (by first | exact Kg.out.next hb9 | exact (Kg.out.alloc _).next hb9 | exact ((Kg.out.alloc _).alloc _).next hb9 | exact (((Kg.out.alloc _).alloc _).alloc _).next hb9)
  have B9 : Hid (Below w.heap.size w w9) := Lib.hid (by first | exact bnext B8.out B8.out.size hb9 | exact bnext (B8.out.alloc B8.out.size _) (by have := B8.out.size; simp; omega) hb9 | exact bnext ((B8.out.alloc B8.out.size _).alloc (by have := B8.out.size; simp; omega) _) (by have := B8.out.size; simp; omega) hb9)
  clear hb9
  obtain ⟨a1, a2, -, -, al⟩ := Ka.out.two
  go_wp2_with fail
  refine (has_any 1 5 6 false (by decide) _).mono ?_
  rintro e10 w10 ⟨rfl, hb10⟩
  clear a1 a2 al
  have Ka : Hid (Kept w10 _ _ _) := Lib.hid (by first | exact Ka.out.next hb10 | exact (Ka.out.alloc _).next hb10 | exact ((Ka.out.alloc _).alloc _).next hb10 | exact (((Ka.out.alloc _).alloc _).alloc _).next hb10)
  have Kb : Hid (Kept w10 _ _ _) := Lib.hid (by first | exact Kb.out.next hb10 | exact (Kb.out.alloc _).next hb10 | exact ((Kb.out.alloc _).alloc _).next hb10 | exact (((Kb.out.alloc _).alloc _).alloc _).next hb10)
  have Km : Hid (Kept w10 _ _ _) := Lib.hid (by first | exact Km.out.next hb10 | exact (Km.out.alloc _).next hb10 | exact ((Km.out.alloc _).alloc _).next hb10 | exact (((Km.out.alloc _).alloc _).alloc _).next hb10)
  have Kh : Hid (Kept w10 _ _ _) := Lib.hid (by first | exact Kh.out.next hb10 | exact (Kh.out.alloc _).next hb10 | exact ((Kh.out.alloc _).alloc _).next hb10 | exact (((Kh.out.alloc _).alloc _).alloc _).next hb10)
  have Kn : Hid (Kept w10 _ _ _) := Lib.hid (by first | exact Kn.out.next hb10 | exact (Kn.out.alloc _).next hb10 | exact ((Kn.out.alloc _).alloc _).next hb10 | exact (((Kn.out.alloc _).alloc _).alloc _).next hb10)
  have Ks : Hid (Kept w10 _ _ _) := Lib.hid (by first | exact Ks.out.next hb10 | exact (Ks.out.alloc _).next hb10 | exact ((Ks.out.alloc _).alloc _).next hb10 | exact (((Ks.out.alloc _).alloc _).alloc _).next hb10)
  have Kg : Hid (Kept w10 _ _ _) := Lib.hid (by first | exact Kg.out.next hb10 | exact (Kg.out.alloc _).next hb10 | exact ((Kg.out.alloc _).alloc _).next hb10 | exact (((Kg.out.alloc _).alloc _).alloc _).next hb10)
  have B10 : Hid (Below w.heap.size w w10) := Lib.hid (by first | exact bnext B9.out B9.out.size hb10 | exact bnext (B9.out.alloc B9.out.size _) (by have := B9.out.size; simp; omega) hb10 | exact bnext ((B9.out.alloc B9.out.size _).alloc (by have := B9.out.size; simp; omega) _) (by have := B9.out.size; simp; omega) hb10)
  clear hb10
  obtain ⟨a1, a2, -, -, al⟩ := Ka.out.two
  obtain ⟨h1, h2, -, -, hl⟩ := Kh.out.two
  go_wp2_with fail
  refine (within_any 1 5 1 9 true (by decide) _).mono ?_
  rintro e11 w11 ⟨rfl, hb11⟩
  clear a1 a2 al
  clear h1 h2 hl
  have Ka : Hid (Kept w11 _ _ _) := Lib.hid (by first | exact Ka.out.next hb11 | exact (Ka.out.alloc _).next hb11 | exact ((Ka.out.alloc _).alloc _).next hb11 | exact (((Ka.out.alloc _).alloc _).alloc _).next hb11)
  have Kb : Hid (Kept w11 _ _ _) := Lib.hid (by first | exact Kb.out.next hb11 | exact (Kb.out.alloc _).next hb11 | exact ((Kb.out.alloc _).alloc _).next hb11 | exact (((Kb.out.alloc _).alloc _).alloc _).next hb11)
  have Km : Hid (Kept w11 _ _ _) := Lib.hid (by first | exact Km.out.next hb11 | exact (Km.out.alloc _).next hb11 | exact ((Km.out.alloc _).alloc _).next hb11 | exact (((Km.out.alloc _).alloc _).alloc _).next hb11)
  have Kh : Hid (Kept w11 _ _ _) := Lib.hid (by first | exact Kh.out.next hb11 | exact (Kh.out.alloc _).next hb11 | exact ((Kh.out.alloc _).alloc _).next hb11 | exact (((Kh.out.alloc _).alloc _).alloc _).next hb11)
  have Kn : Hid (Kept w11 _ _ _) := Lib.hid (by first | exact Kn.out.next hb11 | exact (Kn.out.alloc _).next hb11 | exact ((Kn.out.alloc _).alloc _).next hb11 | exact (((Kn.out.alloc _).alloc _).alloc _).next hb11)
  have Ks : Hid (Kept w11 _ _ _) := Lib.hid (by first | exact Ks.out.next hb11 | exact (Ks.out.alloc _).next hb11 | exact ((Ks.out.alloc _).alloc _).next hb11 | exact (((Ks.out.alloc _).alloc _).alloc _).next hb11)
  have Kg : Hid (Kept w11 _ _ _) := Lib.hid (by first | exact Kg.out.next hb11 | exact (Kg.out.alloc _).next hb11 | exact ((Kg.out.alloc _).alloc _).next hb11 | exact (((Kg.out.alloc _).alloc _).alloc _).next hb11)
  have B11 : Hid (Below w.heap.size w w11) := Lib.hid (by first | exact bnext B10.out B10.out.size hb11 | exact bnext (B10.out.alloc B10.out.size _) (by have := B10.out.size; simp; omega) hb11 | exact bnext ((B10.out.alloc B10.out.size _).alloc (by have := B10.out.size; simp; omega) _) (by have := B10.out.size; simp; omega) hb11)
  clear hb11
  obtain ⟨a1, a2, -, -, al⟩ := Ka.out.two
  go_wp2_with fail
  refine (al_width 1 5 4 _ (by decide) (by decide) (by decide)).mono ?_
  rintro e12 w12 ⟨rfl, hb12⟩
  clear a1 a2 al
  have Ka : Hid (Kept w12 _ _ _) := Lib.hid (by first | exact Ka.out.next hb12 | exact (Ka.out.alloc _).next hb12 | exact ((Ka.out.alloc _).alloc _).next hb12 | exact (((Ka.out.alloc _).alloc _).alloc _).next hb12)
  have Kb : Hid (Kept w12 _ _ _) := Lib.hid (by first | exact Kb.out.next hb12 | exact (Kb.out.alloc _).next hb12 | exact ((Kb.out.alloc _).alloc _).next hb12 | exact (((Kb.out.alloc _).alloc _).alloc _).next hb12)
  have Km : Hid (Kept w12 _ _ _) := Lib.hid (by first | exact Km.out.next hb12 | exact (Km.out.alloc _).next hb12 | exact ((Km.out.alloc _).alloc _).next hb12 | exact (((Km.out.alloc _).alloc _).alloc _).next hb12)
  have Kh : Hid (Kept w12 _ _ _) := Lib.hid (by first | exact Kh.out.next hb12 | exact (Kh.out.alloc _).next hb12 | exact ((Kh.out.alloc _).alloc _).next hb12 | exact (((Kh.out.alloc _).alloc _).alloc _).next hb12)
  have Kn : Hid (Kept w12 _ _ _) := Lib.hid (by first | exact Kn.out.next hb12 | exact (Kn.out.alloc _).next hb12 | exact ((Kn.out.alloc _).alloc _).next hb12 | exact (((Kn.out.alloc _).alloc _).alloc _).next hb12)
  have Ks : Hid (Kept w12 _ _ _) := Lib.hid (by first | exact Ks.out.next hb12 | exact (Ks.out.alloc _).next hb12 | exact ((Ks.out.alloc _).alloc _).next hb12 | exact (((Ks.out.alloc _).alloc _).alloc _).next hb12)
  have Kg : Hid (Kept w12 _ _ _) := Lib.hid (by first | exact Kg.out.next hb12 | exact (Kg.out.alloc _).next hb12 | exact ((Kg.out.alloc _).alloc _).next hb12 | exact (((Kg.out.alloc _).alloc _).alloc _).next hb12)
  have B12 : Hid (Below w.heap.size w w12) := Lib.hid (by first | exact bnext B11.out B11.out.size hb12 | exact bnext (B11.out.alloc B11.out.size _) (by have := B11.out.size; simp; omega) hb12 | exact bnext ((B11.out.alloc B11.out.size _).alloc (by have := B11.out.size; simp; omega) _) (by have := B11.out.size; simp; omega) hb12)
  clear hb12
  go_wp2_with fail
  refine (al_mid (-3) 0 (-2) _ (by decide) (by decide) (by decide)).mono ?_
  rintro e13 w13 ⟨rfl, hb13⟩
  have Ka : Hid (Kept w13 _ _ _) := Lib.hid (by first | exact Ka.out.next hb13 | exact (Ka.out.alloc _).next hb13 | exact ((Ka.out.alloc _).alloc _).next hb13 | exact (((Ka.out.alloc _).alloc _).alloc _).next hb13)
  have Kb : Hid (Kept w13 _ _ _) := Lib.hid (by first | exact Kb.out.next hb13 | exact (Kb.out.alloc _).next hb13 | exact ((Kb.out.alloc _).alloc _).next hb13 | exact (((Kb.out.alloc _).alloc _).alloc _).next hb13)
  have Km : Hid (Kept w13 _ _ _) := Lib.hid (by first | exact Km.out.next hb13 | exact (Km.out.alloc _).next hb13 | exact ((Km.out.alloc _).alloc _).next hb13 | exact (((Km.out.alloc _).alloc _).alloc _).next hb13)
  have Kh : Hid (Kept w13 _ _ _) := Lib.hid (by first | exact Kh.out.next hb13 | exact (Kh.out.alloc _).next hb13 | exact ((Kh.out.alloc _).alloc _).next hb13 | exact (((Kh.out.alloc _).alloc _).alloc _).next hb13)
  have Kn : Hid (Kept w13 _ _ _) := Lib.hid (by first | exact Kn.out.next hb13 | exact (Kn.out.alloc _).next hb13 | exact ((Kn.out.alloc _).alloc _).next hb13 | exact (((Kn.out.alloc _).alloc _).alloc _).next hb13)
  have Ks : Hid (Kept w13 _ _ _) := Lib.hid (by first | exact Ks.out.next hb13 | exact (Ks.out.alloc _).next hb13 | exact ((Ks.out.alloc _).alloc _).next hb13 | exact (((Ks.out.alloc _).alloc _).alloc _).next hb13)
  have Kg : Hid (Kept w13 _ _ _) := Lib.hid (by first | exact Kg.out.next hb13 | exact (Kg.out.alloc _).next hb13 | exact ((Kg.out.alloc _).alloc _).next hb13 | exact (((Kg.out.alloc _).alloc _).alloc _).next hb13)
  have B13 : Hid (Below w.heap.size w w13) := Lib.hid (by first | exact bnext B12.out B12.out.size hb13 | exact bnext (B12.out.alloc B12.out.size _) (by have := B12.out.size; simp; omega) hb13 | exact bnext ((B12.out.alloc B12.out.size _).alloc (by have := B12.out.size; simp; omega) _) (by have := B12.out.size; simp; omega) hb13)
  clear hb13
  obtain ⟨m1, m2, -, -, ml⟩ := Km.out.two
  obtain ⟨h1, h2, -, -, hl⟩ := Kh.out.two
  obtain ⟨s1, s2, -, -, sl⟩ := Ks.out.two
  obtain ⟨g1, g2, -, -, gl⟩ := Kg.out.two
  go_wp2
  go_ret
  exact ⟨rfl, B13.out⟩
end Go.Proofs.Ytahenediimoboaa
