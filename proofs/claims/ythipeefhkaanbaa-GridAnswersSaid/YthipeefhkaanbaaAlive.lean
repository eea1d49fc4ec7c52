/- noonmarklaw19.alive returns true; of, Right. -/
import Derived.Test.YthipeefhkaanbaaGridE
namespace Go.Proofs.Ythipeefhkaanbaa
open Go.RowKit
set_option linter.unusedVariables false

theorem lawof_any (w p m : Int) (W : World) : Calls Try.prog 10 #[.agg #[.int .i64 w, .int .i64 p, .int .i64 m]] W (Gives (.agg #[.int .i64 w, .int .i64 p, .int .i64 m]) W) := by
  go_enter Try.func10, Try.ntmps10
  go_wp2
  refine bodyPost_ret (v := .agg #[.int .i64 w, .int .i64 p, .int .i64 m]) (by simp [results, Try.results10, go_sem]) rfl ?_
  exact ⟨rfl, (one_alloc W _).alloc (by simp) _⟩
theorem al_span (w p m v x y e : Int) (W : World) (hr : rgB w p m = true) (hv : InI v) (h1 : spL v w = x) (h2 : spH v w = y) (h3 : spE v w = e) : Calls Try.prog 11 #[.agg #[.int .i64 w, .int .i64 p, .int .i64 m], .int .i64 v] W (GapRes x y e W) := by
  subst h1 h2 h3; exact span_any w p m v W hr hv
theorem al_meets (w p m a b x y e : Int) (W : World) (ha : InI a) (hb : InI b) (h1 : mtA w p m a b = x) (h2 : mtB w p m a b = y) (h3 : mtE w p m a b = e) : Calls Try.prog 15 #[.agg #[.int .i64 w, .int .i64 p, .int .i64 m], .agg #[.int .i64 a, .int .i64 b]] W (MeetRes x y e W) := by
  subst h1 h2 h3; exact meets_any w p m a b W ha hb
theorem al_pick (w p m a b x e : Int) (W : World) (ha : InI a) (hb : InI b) (h1 : pkV w p m a b = x) (h3 : pkE w p m a b = e) : Calls Try.prog 13 #[.agg #[.int .i64 w, .int .i64 p, .int .i64 m], .agg #[.int .i64 a, .int .i64 b]] W (Gives (.tuple #[.int .i64 x, .int .i64 e]) W) := by
  subst h1 h3; exact pick_any w p m a b W ha hb
theorem al_window (w p m t x : Int) (W : World) (hr : rgB w p m = true) (ht : InI t) (h : t / w = x) : Calls Try.prog 16 #[.agg #[.int .i64 w, .int .i64 p, .int .i64 m], .int .i64 t] W (Gives (.int .i64 x) W) := by
  subst h; exact window_yes w p m t W hr ht
set_option maxHeartbeats 4000000 in
set_option maxRecDepth 100000 in
theorem alive_any (w : World) : Calls Try.prog 7 #[] w fun e w' => e = .returned (.bool true) ∧ Below w.heap.size w w' := by
  go_enter Try.func7, Try.ntmps7
  have B0 : Hid (Below w.heap.size w w) := Lib.hid (Below.refl w.heap.size w)
  go_wp2_with fail
  refine (gnew_yes 10 2 20 _ (by decide)).mono ?_
  rintro e1 w1 ⟨rfl, hb1⟩
  have B1 : Hid (Below w.heap.size w w1) := Lib.hid (bnext (B0.out) (by have := B0.out.size; simp; try omega) hb1)
  clear hb1
  go_wp2_with fail
  refine (gnew_no 0 0 0 _ (by decide)).mono ?_
  rintro e2 w2 ⟨rfl, hb2⟩
  have Kg : Hid (Kept w2 _ #[.int .i64 10, .int .i64 2, .int .i64 20] 23) := Lib.hid ((Kept.new (w := w1) (cs := #[.int .i64 10, .int .i64 2, .int .i64 20]) (t := 23) rfl).next hb2)
  have B2 : Hid (Below w.heap.size w w2) := Lib.hid (bnext (((B1.out).alloc (by have := B1.out.size; simp; omega) _)) (by have := B1.out.size; simp; try omega) hb2)
  clear hb2
  obtain ⟨g1, g2, g3, -, -, -, gl⟩ := Kg.out.three
  go_wp2_with fail
  refine (al_span 10 2 20 2 20 29 0 _ (by decide) (by decide) (by decide) (by decide) (by decide)).mono ?_
  rintro e3 w3 ⟨rfl, hb3⟩
  clear g1 g2 g3 gl
  have Kg : Hid (Kept w3 _ _ _) := Lib.hid ((Kg.out.alloc _).next hb3)
  have Kh : Hid (Kept w3 _ #[.int .i64 0, .int .i64 0, .int .i64 0] 23) := Lib.hid ((Kept.new (w := w2) (cs := #[.int .i64 0, .int .i64 0, .int .i64 0]) (t := 23) rfl).next hb3)
  have B3 : Hid (Below w.heap.size w w3) := Lib.hid (bnext (((B2.out).alloc (by have := B2.out.size; simp; omega) _)) (by have := B2.out.size; simp; try omega) hb3)
  clear hb3
  obtain ⟨g1, g2, g3, -, -, -, gl⟩ := Kg.out.three
  go_wp2_with fail
  refine (al_meets 10 2 20 18 31 1 3 0 _ (by decide) (by decide) (by decide) (by decide) (by decide)).mono ?_
  rintro e4 w4 ⟨rfl, hb4⟩
  clear g1 g2 g3 gl
  have Kg : Hid (Kept w4 _ _ _) := Lib.hid ((Kg.out.alloc _).next hb4)
  have Kh : Hid (Kept w4 _ _ _) := Lib.hid ((Kh.out.alloc _).next hb4)
  have Ks : Hid (Kept w4 _ #[.int .i64 20, .int .i64 29] 25) := Lib.hid ((Kept.new (w := w3) (cs := #[.int .i64 20, .int .i64 29]) (t := 25) rfl).next hb4)
  have B4 : Hid (Below w.heap.size w w4) := Lib.hid (bnext (((B3.out).alloc (by have := B3.out.size; simp; omega) _)) (by have := B3.out.size; simp; try omega) hb4)
  clear hb4
  obtain ⟨g1, g2, g3, -, -, -, gl⟩ := Kg.out.three
  go_wp2_with fail
  refine (al_pick 10 2 20 18 31 2 0 _ (by decide) (by decide) (by decide) (by decide)).mono ?_
  rintro e5 w5 ⟨rfl, hb5⟩
  clear g1 g2 g3 gl
  have Kg : Hid (Kept w5 _ _ _) := Lib.hid (Kg.out.next hb5)
  have Kh : Hid (Kept w5 _ _ _) := Lib.hid (Kh.out.next hb5)
  have Ks : Hid (Kept w5 _ _ _) := Lib.hid (Ks.out.next hb5)
  have B5 : Hid (Below w.heap.size w w5) := Lib.hid (bnext (B4.out) (by have := B4.out.size; simp; try omega) hb5)
  clear hb5
  obtain ⟨g1, g2, g3, -, -, -, gl⟩ := Kg.out.three
  go_wp2_with fail
  refine (al_pick 10 2 20 18 39 0 17 _ (by decide) (by decide) (by decide) (by decide)).mono ?_
  rintro e6 w6 ⟨rfl, hb6⟩
  clear g1 g2 g3 gl
  have Kg : Hid (Kept w6 _ _ _) := Lib.hid (Kg.out.next hb6)
  have Kh : Hid (Kept w6 _ _ _) := Lib.hid (Kh.out.next hb6)
  have Ks : Hid (Kept w6 _ _ _) := Lib.hid (Ks.out.next hb6)
  have B6 : Hid (Below w.heap.size w w6) := Lib.hid (bnext (B5.out) (by have := B5.out.size; simp; try omega) hb6)
  clear hb6
  obtain ⟨g1, g2, g3, -, -, -, gl⟩ := Kg.out.three
  go_wp2_with fail
  refine (al_window 10 2 20 (-1) (-1) _ (by decide) (by decide) (by decide)).mono ?_
  rintro e7 w7 ⟨rfl, hb7⟩
  clear g1 g2 g3 gl
  have Kg : Hid (Kept w7 _ _ _) := Lib.hid (Kg.out.next hb7)
  have Kh : Hid (Kept w7 _ _ _) := Lib.hid (Kh.out.next hb7)
  have Ks : Hid (Kept w7 _ _ _) := Lib.hid (Ks.out.next hb7)
  have B7 : Hid (Below w.heap.size w w7) := Lib.hid (bnext (B6.out) (by have := B6.out.size; simp; try omega) hb7)
  clear hb7
  obtain ⟨g1, g2, g3, -, -, -, gl⟩ := Kg.out.three
  obtain ⟨s1, s2, -, -, sl⟩ := Ks.out.two
  go_wp2_with fail
  refine (certain_any 10 2 20 20 29 true _ (by decide) (by decide) (by decide)).mono ?_
  rintro e8 w8 ⟨rfl, hb8⟩
  clear g1 g2 g3 gl
  clear s1 s2 sl
  have Kg : Hid (Kept w8 _ _ _) := Lib.hid (Kg.out.next hb8)
  have Kh : Hid (Kept w8 _ _ _) := Lib.hid (Kh.out.next hb8)
  have Ks : Hid (Kept w8 _ _ _) := Lib.hid (Ks.out.next hb8)
  have B8 : Hid (Below w.heap.size w w8) := Lib.hid (bnext (B7.out) (by have := B7.out.size; simp; try omega) hb8)
  clear hb8
  obtain ⟨g1, g2, g3, -, -, -, gl⟩ := Kg.out.three
  go_wp2_with fail
  refine (certain_any 10 2 20 19 20 false _ (by decide) (by decide) (by decide)).mono ?_
  rintro e9 w9 ⟨rfl, hb9⟩
  clear g1 g2 g3 gl
  have Kg : Hid (Kept w9 _ _ _) := Lib.hid (Kg.out.next hb9)
  have Kh : Hid (Kept w9 _ _ _) := Lib.hid (Kh.out.next hb9)
  have Ks : Hid (Kept w9 _ _ _) := Lib.hid (Ks.out.next hb9)
  have B9 : Hid (Below w.heap.size w w9) := Lib.hid (bnext (B8.out) (by have := B8.out.size; simp; try omega) hb9)
  clear hb9
  go_wp2
  go_ret
  exact ⟨rfl, B9.out⟩
end Go.Proofs.Ythipeefhkaanbaa
