/- The walk of GapBack. -/
import Derived.Test.YtahenediimoboaaAlive
namespace Go.Proofs.Ytahenediimoboaa
open Go.RowKit
set_option linter.unusedVariables false

theorem pair_three {w : World} {g : Nat} {p q r s t u : Int} {T : TypeId} (h : Kept w g #[.int .i64 p, .int .i64 q, .int .i64 r, .int .i64 s, .int .i64 t, .int .i64 u] T) : PairRow w (some ⟨g, 0, none⟩) [(p, q), (r, s), (t, u)] := fun j hj => by
  simp only [List.length_cons, List.length_nil] at hj
  have : j = 0 ∨ j = 1 ∨ j = 2 := by omega
  rcases this with rfl | rfl | rfl
  · exact ⟨g, 0, rfl, (h.at_ 0).1, (h.at_ 1).1⟩
  · exact ⟨g, 0, rfl, (h.at_ 2).1, (h.at_ 3).1⟩
  · exact ⟨g, 0, rfl, (h.at_ 4).1, (h.at_ 5).1⟩
theorem combE3 (p q r s t u : Int) (z : Int × Int) : combE [(p, q), (r, s), (t, u)] z = if q < p ∨ s < r ∨ u < t then 10 else if z.1 ≤ z.2 then 0 else 13 := by
  unfold combE
  have h : (∃ j, j < [(p, q), (r, s), (t, u)].length ∧ ([(p, q), (r, s), (t, u)].getD j (0, 0)).2 < ([(p, q), (r, s), (t, u)].getD j (0, 0)).1) ↔ (q < p ∨ s < r ∨ u < t) := by
    constructor
    · rintro ⟨j, hj, h⟩
      simp only [List.length_cons, List.length_nil] at hj
      have : j = 0 ∨ j = 1 ∨ j = 2 := by omega
      rcases this with rfl | rfl | rfl
      · exact .inl h
      · exact .inr (.inl h)
      · exact .inr (.inr h)
    · rintro (h | h | h)
      · exact ⟨0, by simp, h⟩
      · exact ⟨1, by simp, h⟩
      · exact ⟨2, by simp, h⟩
  by_cases hc : q < p ∨ s < r ∨ u < t
  · rw [if_pos hc, if_pos (h.2 hc)]
  · rw [if_neg hc, if_neg (fun e => hc (h.1 e))]
theorem combE2 (p q r s : Int) (z : Int × Int) : combE [(p, q), (r, s)] z = if q < p ∨ s < r then 10 else if z.1 ≤ z.2 then 0 else 13 := by
  unfold combE
  have h : (∃ j, j < [(p, q), (r, s)].length ∧ ([(p, q), (r, s)].getD j (0, 0)).2 < ([(p, q), (r, s)].getD j (0, 0)).1) ↔ (q < p ∨ s < r) := by
    constructor
    · rintro ⟨j, hj, h⟩
      simp only [List.length_cons, List.length_nil] at hj
      have : j = 0 ∨ j = 1 := by omega
      rcases this with rfl | rfl
      · exact .inl h
      · exact .inr h
    · rintro (h | h)
      · exact ⟨0, by simp, h⟩
      · exact ⟨1, by simp, h⟩
  by_cases hc : q < p ∨ s < r
  · rw [if_pos hc, if_pos (h.2 hc)]
  · rw [if_neg hc, if_neg (fun e => hc (h.1 e))]
/-- a call of Meet or Hull with n intervals that lie in a new block -/
def On (f : Nat) (n : Nat) (cs : Array Value) (x y e : Int) : Prop := ∀ (W : World) (g : Nat), Kept W g cs 23 → Calls Try.prog f #[.slice (some ⟨g, 0, none⟩) n n] W (Gives (.tuple #[.agg #[.int .i64 x, .int .i64 y], .int .i64 e]) W)
theorem On.at_ {f n : Nat} {cs : Array Value} {x y e : Int} (h : On f n cs x y e) (W : World) (g : Nat) (k : Kept W g cs 23) : Calls Try.prog f #[.slice (some ⟨g, 0, none⟩) n n] W (Gives (.tuple #[.agg #[.int .i64 x, .int .i64 y], .int .i64 e]) W) := h W g k

set_option maxHeartbeats 8000000 in
set_option maxRecDepth 100000 in
theorem gb_err_bad (a1 a2 b1 b2 c1 c2 d s1 s2 e wd m1 m2 g x1 x2 i p1 p2 : Int) (w : World)
    (Cs : Hid (∀ W, Calls Try.prog 9 #[.agg #[.int .i64 a1, .int .i64 a2], .int .i64 d] W (Gives (.tuple #[.agg #[.int .i64 s1, .int .i64 s2], .int .i64 e]) W)))
    (d1 : (e == 0) = false)
    (Cm1 : Hid (On 20 3 #[.int .i64 a1, .int .i64 a2, .int .i64 b1, .int .i64 b2, .int .i64 c1, .int .i64 c2] m1 m2 g))
    (Cm2 : Hid (On 20 3 #[.int .i64 c1, .int .i64 c2, .int .i64 b1, .int .i64 b2, .int .i64 a1, .int .i64 a2] m1 m2 g))
    (Ch1 : Hid (On 21 3 #[.int .i64 a1, .int .i64 a2, .int .i64 b1, .int .i64 b2, .int .i64 c1, .int .i64 c2] x1 x2 i))
    (Ch2 : Hid (On 21 3 #[.int .i64 b1, .int .i64 b2, .int .i64 c1, .int .i64 c2, .int .i64 a1, .int .i64 a2] x1 x2 i))
    (d3 : (g != 0) = true) :
    Calls Try.prog 6 #[.agg #[.int .i64 a1, .int .i64 a2], .agg #[.int .i64 b1, .int .i64 b2], .agg #[.int .i64 c1, .int .i64 c2], .int .i64 d] w fun e w' => e = .returned (.bool true) ∧ Below w.heap.size w w' := by
  obtain ⟨w0, hW⟩ : ∃ W, ((w.alloc (.cells #[.int .i64 a1, .int .i64 a2] 23)).alloc (.cells #[.int .i64 b1, .int .i64 b2] 23)).alloc (.cells #[.int .i64 c1, .int .i64 c2] 23) = W := ⟨_, rfl⟩
  have Ka : Hid (Kept w0 w.heap.size #[.int .i64 a1, .int .i64 a2] 23) := Lib.hid (by rw [← hW]; exact ((Kept.new rfl).alloc _).alloc _)
  have Kb : Hid (Kept w0 (w.heap.size + 1) #[.int .i64 b1, .int .i64 b2] 23) := Lib.hid (by rw [← hW]; exact (Kept.new (by simp)).alloc _)
  have Kc : Hid (Kept w0 (w.heap.size + 1 + 1) #[.int .i64 c1, .int .i64 c2] 23) := Lib.hid (by rw [← hW]; exact Kept.new (by simp))
  have BB : Hid (Below w.heap.size w w0) := Lib.hid (by rw [← hW]; exact ((one_alloc _ _).alloc (by simp) _).alloc (by simp; omega) _)
  have HW := Lib.hid hW
  clear hW
  go_enter Try.func6, Try.ntmps6
  go_wp2_with fail
  rw [HW.out]
  refine (alive_any _).mono ?_
  rintro ee w1 ⟨rfl, hb⟩
  have Ka : Hid (Kept w1 _ _ _) := Lib.hid (by first | exact Ka.out.next hb | exact (Ka.out.alloc _).next hb | exact ((Ka.out.alloc _).alloc _).next hb)
  have Kb : Hid (Kept w1 _ _ _) := Lib.hid (by first | exact Kb.out.next hb | exact (Kb.out.alloc _).next hb | exact ((Kb.out.alloc _).alloc _).next hb)
  have Kc : Hid (Kept w1 _ _ _) := Lib.hid (by first | exact Kc.out.next hb | exact (Kc.out.alloc _).next hb | exact ((Kc.out.alloc _).alloc _).next hb)
  have BB : Hid (Below w.heap.size w w1) := Lib.hid (by first | exact bnext BB.out BB.out.size hb | exact bnext (BB.out.alloc BB.out.size _) (by have := BB.out.size; simp; omega) hb | exact bnext ((BB.out.alloc BB.out.size _).alloc (by have := BB.out.size; simp; omega) _) (by have := BB.out.size; simp; omega) hb)
  clear hb
  obtain ⟨a_1, a_2, a_3, a_4, a_5⟩ := Ka.out.two
  go_wp2_with fail
  refine (Cs.out _).mono ?_
  rintro ee w2 ⟨rfl, hb⟩
  clear a_1 a_2 a_3 a_4 a_5
  have Ka : Hid (Kept w2 _ _ _) := Lib.hid (by first | exact Ka.out.next hb | exact (Ka.out.alloc _).next hb | exact ((Ka.out.alloc _).alloc _).next hb)
  have Kb : Hid (Kept w2 _ _ _) := Lib.hid (by first | exact Kb.out.next hb | exact (Kb.out.alloc _).next hb | exact ((Kb.out.alloc _).alloc _).next hb)
  have Kc : Hid (Kept w2 _ _ _) := Lib.hid (by first | exact Kc.out.next hb | exact (Kc.out.alloc _).next hb | exact ((Kc.out.alloc _).alloc _).next hb)
  have BB : Hid (Below w.heap.size w w2) := Lib.hid (by first | exact bnext BB.out BB.out.size hb | exact bnext (BB.out.alloc BB.out.size _) (by have := BB.out.size; simp; omega) hb | exact bnext ((BB.out.alloc BB.out.size _).alloc (by have := BB.out.size; simp; omega) _) (by have := BB.out.size; simp; omega) hb)
  clear hb
  have Ks : Hid (Kept (w2.alloc (.cells #[.int .i64 s1, .int .i64 s2] 23)) w2.heap.size #[.int .i64 s1, .int .i64 s2] 23) := Lib.hid (Kept.new rfl)
  obtain ⟨a_1, a_2, a_3, a_4, a_5⟩ := Ka.out.two
  obtain ⟨b_1, b_2, b_3, b_4, b_5⟩ := Kb.out.two
  obtain ⟨c_1, c_2, c_3, c_4, c_5⟩ := Kc.out.two
  go_wp2_with fail
  refine (Cm1.out.at_ _ _ (by exact Kept.new (by simp))).mono ?_
  rintro ee w3 ⟨rfl, hb⟩
  clear a_1 a_2 a_3 a_4 a_5
  clear b_1 b_2 b_3 b_4 b_5
  clear c_1 c_2 c_3 c_4 c_5
  have Ka : Hid (Kept w3 _ _ _) := Lib.hid (by first | exact Ka.out.next hb | exact (Ka.out.alloc _).next hb | exact ((Ka.out.alloc _).alloc _).next hb)
  have Kb : Hid (Kept w3 _ _ _) := Lib.hid (by first | exact Kb.out.next hb | exact (Kb.out.alloc _).next hb | exact ((Kb.out.alloc _).alloc _).next hb)
  have Kc : Hid (Kept w3 _ _ _) := Lib.hid (by first | exact Kc.out.next hb | exact (Kc.out.alloc _).next hb | exact ((Kc.out.alloc _).alloc _).next hb)
  have Ks : Hid (Kept w3 _ _ _) := Lib.hid (by first | exact Ks.out.next hb | exact (Ks.out.alloc _).next hb | exact ((Ks.out.alloc _).alloc _).next hb)
  have BB : Hid (Below w.heap.size w w3) := Lib.hid (by first | exact bnext BB.out BB.out.size hb | exact bnext (BB.out.alloc BB.out.size _) (by have := BB.out.size; simp; omega) hb | exact bnext ((BB.out.alloc BB.out.size _).alloc (by have := BB.out.size; simp; omega) _) (by have := BB.out.size; simp; omega) hb)
  clear hb
  have Km : Hid (Kept (w3.alloc (.cells #[.int .i64 m1, .int .i64 m2] 23)) w3.heap.size #[.int .i64 m1, .int .i64 m2] 23) := Lib.hid (Kept.new rfl)
  obtain ⟨a_1, a_2, a_3, a_4, a_5⟩ := Ka.out.two
  obtain ⟨b_1, b_2, b_3, b_4, b_5⟩ := Kb.out.two
  obtain ⟨c_1, c_2, c_3, c_4, c_5⟩ := Kc.out.two
  go_wp2_with fail
  refine (Cm2.out.at_ _ _ (by exact Kept.new (by simp))).mono ?_
  rintro ee w4 ⟨rfl, hb⟩
  clear a_1 a_2 a_3 a_4 a_5
  clear b_1 b_2 b_3 b_4 b_5
  clear c_1 c_2 c_3 c_4 c_5
  have Ka : Hid (Kept w4 _ _ _) := Lib.hid (by first | exact Ka.out.next hb | exact (Ka.out.alloc _).next hb | exact ((Ka.out.alloc _).alloc _).next hb)
  have Kb : Hid (Kept w4 _ _ _) := Lib.hid (by first | exact Kb.out.next hb | exact (Kb.out.alloc _).next hb | exact ((Kb.out.alloc _).alloc _).next hb)
  have Kc : Hid (Kept w4 _ _ _) := Lib.hid (by first | exact Kc.out.next hb | exact (Kc.out.alloc _).next hb | exact ((Kc.out.alloc _).alloc _).next hb)
  have Ks : Hid (Kept w4 _ _ _) := Lib.hid (by first | exact Ks.out.next hb | exact (Ks.out.alloc _).next hb | exact ((Ks.out.alloc _).alloc _).next hb)
  have Km : Hid (Kept w4 _ _ _) := Lib.hid (by first | exact Km.out.next hb | exact (Km.out.alloc _).next hb | exact ((Km.out.alloc _).alloc _).next hb)
  have BB : Hid (Below w.heap.size w w4) := Lib.hid (by first | exact bnext BB.out BB.out.size hb | exact bnext (BB.out.alloc BB.out.size _) (by have := BB.out.size; simp; omega) hb | exact bnext ((BB.out.alloc BB.out.size _).alloc (by have := BB.out.size; simp; omega) _) (by have := BB.out.size; simp; omega) hb)
  clear hb
  have Kn : Hid (Kept (w4.alloc (.cells #[.int .i64 m1, .int .i64 m2] 23)) w4.heap.size #[.int .i64 m1, .int .i64 m2] 23) := Lib.hid (Kept.new rfl)
  obtain ⟨a_1, a_2, a_3, a_4, a_5⟩ := Ka.out.two
  obtain ⟨b_1, b_2, b_3, b_4, b_5⟩ := Kb.out.two
  obtain ⟨c_1, c_2, c_3, c_4, c_5⟩ := Kc.out.two
  go_wp2_with fail
  refine (Ch1.out.at_ _ _ (by exact Kept.new (by simp))).mono ?_
  rintro ee w5 ⟨rfl, hb⟩
  clear a_1 a_2 a_3 a_4 a_5
  clear b_1 b_2 b_3 b_4 b_5
  clear c_1 c_2 c_3 c_4 c_5
  have Ka : Hid (Kept w5 _ _ _) := Lib.hid (by first | exact Ka.out.next hb | exact (Ka.out.alloc _).next hb | exact ((Ka.out.alloc _).alloc _).next hb)
  have Kb : Hid (Kept w5 _ _ _) := Lib.hid (by first | exact Kb.out.next hb | exact (Kb.out.alloc _).next hb | exact ((Kb.out.alloc _).alloc _).next hb)
  have Kc : Hid (Kept w5 _ _ _) := Lib.hid (by first | exact Kc.out.next hb | exact (Kc.out.alloc _).next hb | exact ((Kc.out.alloc _).alloc _).next hb)
  have Ks : Hid (Kept w5 _ _ _) := Lib.hid (by first | exact Ks.out.next hb | exact (Ks.out.alloc _).next hb | exact ((Ks.out.alloc _).alloc _).next hb)
  have Km : Hid (Kept w5 _ _ _) := Lib.hid (by first | exact Km.out.next hb | exact (Km.out.alloc _).next hb | exact ((Km.out.alloc _).alloc _).next hb)
  have Kn : Hid (Kept w5 _ _ _) := Lib.hid (by first | exact Kn.out.next hb | exact (Kn.out.alloc _).next hb | exact ((Kn.out.alloc _).alloc _).next hb)
  have BB : Hid (Below w.heap.size w w5) := Lib.hid (by first | exact bnext BB.out BB.out.size hb | exact bnext (BB.out.alloc BB.out.size _) (by have := BB.out.size; simp; omega) hb | exact bnext ((BB.out.alloc BB.out.size _).alloc (by have := BB.out.size; simp; omega) _) (by have := BB.out.size; simp; omega) hb)
  clear hb
  have Kx : Hid (Kept (w5.alloc (.cells #[.int .i64 x1, .int .i64 x2] 23)) w5.heap.size #[.int .i64 x1, .int .i64 x2] 23) := Lib.hid (Kept.new rfl)
  obtain ⟨a_1, a_2, a_3, a_4, a_5⟩ := Ka.out.two
  obtain ⟨b_1, b_2, b_3, b_4, b_5⟩ := Kb.out.two
  obtain ⟨c_1, c_2, c_3, c_4, c_5⟩ := Kc.out.two
  go_wp2_with fail
  refine (Ch2.out.at_ _ _ (by exact Kept.new (by simp))).mono ?_
  rintro ee w6 ⟨rfl, hb⟩
  clear a_1 a_2 a_3 a_4 a_5
  clear b_1 b_2 b_3 b_4 b_5
  clear c_1 c_2 c_3 c_4 c_5
  have Ka : Hid (Kept w6 _ _ _) := Lib.hid (by first | exact Ka.out.next hb | exact (Ka.out.alloc _).next hb | exact ((Ka.out.alloc _).alloc _).next hb)
  have Kb : Hid (Kept w6 _ _ _) := Lib.hid (by first | exact Kb.out.next hb | exact (Kb.out.alloc _).next hb | exact ((Kb.out.alloc _).alloc _).next hb)
  have Kc : Hid (Kept w6 _ _ _) := Lib.hid (by first | exact Kc.out.next hb | exact (Kc.out.alloc _).next hb | exact ((Kc.out.alloc _).alloc _).next hb)
  have Ks : Hid (Kept w6 _ _ _) := Lib.hid (by first | exact Ks.out.next hb | exact (Ks.out.alloc _).next hb | exact ((Ks.out.alloc _).alloc _).next hb)
  have Km : Hid (Kept w6 _ _ _) := Lib.hid (by first | exact Km.out.next hb | exact (Km.out.alloc _).next hb | exact ((Km.out.alloc _).alloc _).next hb)
  have Kn : Hid (Kept w6 _ _ _) := Lib.hid (by first | exact Kn.out.next hb | exact (Kn.out.alloc _).next hb | exact ((Kn.out.alloc _).alloc _).next hb)
  have Kx : Hid (Kept w6 _ _ _) := Lib.hid (by first | exact Kx.out.next hb | exact (Kx.out.alloc _).next hb | exact ((Kx.out.alloc _).alloc _).next hb)
  have BB : Hid (Below w.heap.size w w6) := Lib.hid (by first | exact bnext BB.out BB.out.size hb | exact bnext (BB.out.alloc BB.out.size _) (by have := BB.out.size; simp; omega) hb | exact bnext ((BB.out.alloc BB.out.size _).alloc (by have := BB.out.size; simp; omega) _) (by have := BB.out.size; simp; omega) hb)
  clear hb
  have Ky : Hid (Kept (w6.alloc (.cells #[.int .i64 x1, .int .i64 x2] 23)) w6.heap.size #[.int .i64 x1, .int .i64 x2] 23) := Lib.hid (Kept.new rfl)
  obtain ⟨m_1, m_2, m_3, m_4, m_5⟩ := Km.out.two
  obtain ⟨n_1, n_2, n_3, n_4, n_5⟩ := Kn.out.two
  obtain ⟨x_1, x_2, x_3, x_4, x_5⟩ := Kx.out.two
  obtain ⟨y_1, y_2, y_3, y_4, y_5⟩ := Ky.out.two
  go_wp2
  go_ret
  exact ⟨rfl, by first | exact BB.out | exact BB.out.alloc BB.out.size _⟩

set_option maxHeartbeats 8000000 in
set_option maxRecDepth 100000 in
theorem gb_err_good (a1 a2 b1 b2 c1 c2 d s1 s2 e wd m1 m2 g x1 x2 i p1 p2 : Int) (w : World)
    (Cs : Hid (∀ W, Calls Try.prog 9 #[.agg #[.int .i64 a1, .int .i64 a2], .int .i64 d] W (Gives (.tuple #[.agg #[.int .i64 s1, .int .i64 s2], .int .i64 e]) W)))
    (d1 : (e == 0) = false)
    (Cm1 : Hid (On 20 3 #[.int .i64 a1, .int .i64 a2, .int .i64 b1, .int .i64 b2, .int .i64 c1, .int .i64 c2] m1 m2 g))
    (Cm2 : Hid (On 20 3 #[.int .i64 c1, .int .i64 c2, .int .i64 b1, .int .i64 b2, .int .i64 a1, .int .i64 a2] m1 m2 g))
    (Ch1 : Hid (On 21 3 #[.int .i64 a1, .int .i64 a2, .int .i64 b1, .int .i64 b2, .int .i64 c1, .int .i64 c2] x1 x2 i))
    (Ch2 : Hid (On 21 3 #[.int .i64 b1, .int .i64 b2, .int .i64 c1, .int .i64 c2, .int .i64 a1, .int .i64 a2] x1 x2 i))
    (d3 : (g != 0) = false)
    (Cp : Hid (On 20 2 #[.int .i64 a1, .int .i64 a2, .int .i64 b1, .int .i64 b2] p1 p2 0))
    (Cq : Hid (On 20 2 #[.int .i64 p1, .int .i64 p2, .int .i64 c1, .int .i64 c2] m1 m2 0))
    (Cx : Hid (∀ W, Calls Try.prog 18 #[.agg #[.int .i64 m1, .int .i64 m2], .agg #[.int .i64 x1, .int .i64 x2]] W (Gives (.bool true) W))) :
    Calls Try.prog 6 #[.agg #[.int .i64 a1, .int .i64 a2], .agg #[.int .i64 b1, .int .i64 b2], .agg #[.int .i64 c1, .int .i64 c2], .int .i64 d] w fun e w' => e = .returned (.bool true) ∧ Below w.heap.size w w' := by
  obtain ⟨w0, hW⟩ : ∃ W, ((w.alloc (.cells #[.int .i64 a1, .int .i64 a2] 23)).alloc (.cells #[.int .i64 b1, .int .i64 b2] 23)).alloc (.cells #[.int .i64 c1, .int .i64 c2] 23) = W := ⟨_, rfl⟩
  have Ka : Hid (Kept w0 w.heap.size #[.int .i64 a1, .int .i64 a2] 23) := Lib.hid (by rw [← hW]; exact ((Kept.new rfl).alloc _).alloc _)
  have Kb : Hid (Kept w0 (w.heap.size + 1) #[.int .i64 b1, .int .i64 b2] 23) := Lib.hid (by rw [← hW]; exact (Kept.new (by simp)).alloc _)
  have Kc : Hid (Kept w0 (w.heap.size + 1 + 1) #[.int .i64 c1, .int .i64 c2] 23) := Lib.hid (by rw [← hW]; exact Kept.new (by simp))
  have BB : Hid (Below w.heap.size w w0) := Lib.hid (by rw [← hW]; exact ((one_alloc _ _).alloc (by simp) _).alloc (by simp; omega) _)
  have HW := Lib.hid hW
  clear hW
  go_enter Try.func6, Try.ntmps6
  go_wp2_with fail
  rw [HW.out]
  refine (alive_any _).mono ?_
  rintro ee w1 ⟨rfl, hb⟩
  have Ka : Hid (Kept w1 _ _ _) := Lib.hid (by first | exact Ka.out.next hb | exact (Ka.out.alloc _).next hb | exact ((Ka.out.alloc _).alloc _).next hb)
  have Kb : Hid (Kept w1 _ _ _) := Lib.hid (by first | exact Kb.out.next hb | exact (Kb.out.alloc _).next hb | exact ((Kb.out.alloc _).alloc _).next hb)
  have Kc : Hid (Kept w1 _ _ _) := Lib.hid (by first | exact Kc.out.next hb | exact (Kc.out.alloc _).next hb | exact ((Kc.out.alloc _).alloc _).next hb)
  have BB : Hid (Below w.heap.size w w1) := Lib.hid (by first | exact bnext BB.out BB.out.size hb | exact bnext (BB.out.alloc BB.out.size _) (by have := BB.out.size; simp; omega) hb | exact bnext ((BB.out.alloc BB.out.size _).alloc (by have := BB.out.size; simp; omega) _) (by have := BB.out.size; simp; omega) hb)
  clear hb
  obtain ⟨a_1, a_2, a_3, a_4, a_5⟩ := Ka.out.two
  go_wp2_with fail
  refine (Cs.out _).mono ?_
  rintro ee w2 ⟨rfl, hb⟩
  clear a_1 a_2 a_3 a_4 a_5
  have Ka : Hid (Kept w2 _ _ _) := Lib.hid (by first | exact Ka.out.next hb | exact (Ka.out.alloc _).next hb | exact ((Ka.out.alloc _).alloc _).next hb)
  have Kb : Hid (Kept w2 _ _ _) := Lib.hid (by first | exact Kb.out.next hb | exact (Kb.out.alloc _).next hb | exact ((Kb.out.alloc _).alloc _).next hb)
  have Kc : Hid (Kept w2 _ _ _) := Lib.hid (by first | exact Kc.out.next hb | exact (Kc.out.alloc _).next hb | exact ((Kc.out.alloc _).alloc _).next hb)
  have BB : Hid (Below w.heap.size w w2) := Lib.hid (by first | exact bnext BB.out BB.out.size hb | exact bnext (BB.out.alloc BB.out.size _) (by have := BB.out.size; simp; omega) hb | exact bnext ((BB.out.alloc BB.out.size _).alloc (by have := BB.out.size; simp; omega) _) (by have := BB.out.size; simp; omega) hb)
  clear hb
  have Ks : Hid (Kept (w2.alloc (.cells #[.int .i64 s1, .int .i64 s2] 23)) w2.heap.size #[.int .i64 s1, .int .i64 s2] 23) := Lib.hid (Kept.new rfl)
  obtain ⟨a_1, a_2, a_3, a_4, a_5⟩ := Ka.out.two
  obtain ⟨b_1, b_2, b_3, b_4, b_5⟩ := Kb.out.two
  obtain ⟨c_1, c_2, c_3, c_4, c_5⟩ := Kc.out.two
  go_wp2_with fail
  refine (Cm1.out.at_ _ _ (by exact Kept.new (by simp))).mono ?_
  rintro ee w3 ⟨rfl, hb⟩
  clear a_1 a_2 a_3 a_4 a_5
  clear b_1 b_2 b_3 b_4 b_5
  clear c_1 c_2 c_3 c_4 c_5
  have Ka : Hid (Kept w3 _ _ _) := Lib.hid (by first | exact Ka.out.next hb | exact (Ka.out.alloc _).next hb | exact ((Ka.out.alloc _).alloc _).next hb)
  have Kb : Hid (Kept w3 _ _ _) := Lib.hid (by first | exact Kb.out.next hb | exact (Kb.out.alloc _).next hb | exact ((Kb.out.alloc _).alloc _).next hb)
  have Kc : Hid (Kept w3 _ _ _) := Lib.hid (by first | exact Kc.out.next hb | exact (Kc.out.alloc _).next hb | exact ((Kc.out.alloc _).alloc _).next hb)
  have Ks : Hid (Kept w3 _ _ _) := Lib.hid (by first | exact Ks.out.next hb | exact (Ks.out.alloc _).next hb | exact ((Ks.out.alloc _).alloc _).next hb)
  have BB : Hid (Below w.heap.size w w3) := Lib.hid (by first | exact bnext BB.out BB.out.size hb | exact bnext (BB.out.alloc BB.out.size _) (by have := BB.out.size; simp; omega) hb | exact bnext ((BB.out.alloc BB.out.size _).alloc (by have := BB.out.size; simp; omega) _) (by have := BB.out.size; simp; omega) hb)
  clear hb
  have Km : Hid (Kept (w3.alloc (.cells #[.int .i64 m1, .int .i64 m2] 23)) w3.heap.size #[.int .i64 m1, .int .i64 m2] 23) := Lib.hid (Kept.new rfl)
  obtain ⟨a_1, a_2, a_3, a_4, a_5⟩ := Ka.out.two
  obtain ⟨b_1, b_2, b_3, b_4, b_5⟩ := Kb.out.two
  obtain ⟨c_1, c_2, c_3, c_4, c_5⟩ := Kc.out.two
  go_wp2_with fail
  refine (Cm2.out.at_ _ _ (by exact Kept.new (by simp))).mono ?_
  rintro ee w4 ⟨rfl, hb⟩
  clear a_1 a_2 a_3 a_4 a_5
  clear b_1 b_2 b_3 b_4 b_5
  clear c_1 c_2 c_3 c_4 c_5
  have Ka : Hid (Kept w4 _ _ _) := Lib.hid (by first | exact Ka.out.next hb | exact (Ka.out.alloc _).next hb | exact ((Ka.out.alloc _).alloc _).next hb)
  have Kb : Hid (Kept w4 _ _ _) := Lib.hid (by first | exact Kb.out.next hb | exact (Kb.out.alloc _).next hb | exact ((Kb.out.alloc _).alloc _).next hb)
  have Kc : Hid (Kept w4 _ _ _) := Lib.hid (by first | exact Kc.out.next hb | exact (Kc.out.alloc _).next hb | exact ((Kc.out.alloc _).alloc _).next hb)
  have Ks : Hid (Kept w4 _ _ _) := Lib.hid (by first | exact Ks.out.next hb | exact (Ks.out.alloc _).next hb | exact ((Ks.out.alloc _).alloc _).next hb)
  have Km : Hid (Kept w4 _ _ _) := Lib.hid (by first | exact Km.out.next hb | exact (Km.out.alloc _).next hb | exact ((Km.out.alloc _).alloc _).next hb)
  have BB : Hid (Below w.heap.size w w4) := Lib.hid (by first | exact bnext BB.out BB.out.size hb | exact bnext (BB.out.alloc BB.out.size _) (by have := BB.out.size; simp; omega) hb | exact bnext ((BB.out.alloc BB.out.size _).alloc (by have := BB.out.size; simp; omega) _) (by have := BB.out.size; simp; omega) hb)
  clear hb
  have Kn : Hid (Kept (w4.alloc (.cells #[.int .i64 m1, .int .i64 m2] 23)) w4.heap.size #[.int .i64 m1, .int .i64 m2] 23) := Lib.hid (Kept.new rfl)
  obtain ⟨a_1, a_2, a_3, a_4, a_5⟩ := Ka.out.two
  obtain ⟨b_1, b_2, b_3, b_4, b_5⟩ := Kb.out.two
  obtain ⟨c_1, c_2, c_3, c_4, c_5⟩ := Kc.out.two
  go_wp2_with fail
  refine (Ch1.out.at_ _ _ (by exact Kept.new (by simp))).mono ?_
  rintro ee w5 ⟨rfl, hb⟩
  clear a_1 a_2 a_3 a_4 a_5
  clear b_1 b_2 b_3 b_4 b_5
  clear c_1 c_2 c_3 c_4 c_5
  have Ka : Hid (Kept w5 _ _ _) := Lib.hid (by first | exact Ka.out.next hb | exact (Ka.out.alloc _).next hb | exact ((Ka.out.alloc _).alloc _).next hb)
  have Kb : Hid (Kept w5 _ _ _) := Lib.hid (by first | exact Kb.out.next hb | exact (Kb.out.alloc _).next hb | exact ((Kb.out.alloc _).alloc _).next hb)
  have Kc : Hid (Kept w5 _ _ _) := Lib.hid (by first | exact Kc.out.next hb | exact (Kc.out.alloc _).next hb | exact ((Kc.out.alloc _).alloc _).next hb)
  have Ks : Hid (Kept w5 _ _ _) := Lib.hid (by first | exact Ks.out.next hb | exact (Ks.out.alloc _).next hb | exact ((Ks.out.alloc _).alloc _).next hb)
  have Km : Hid (Kept w5 _ _ _) := Lib.hid (by first | exact Km.out.next hb | exact (Km.out.alloc _).next hb | exact ((Km.out.alloc _).alloc _).next hb)
  have Kn : Hid (Kept w5 _ _ _) := Lib.hid (by first | exact Kn.out.next hb | exact (Kn.out.alloc _).next hb | exact ((Kn.out.alloc _).alloc _).next hb)
  have BB : Hid (Below w.heap.size w w5) := Lib.hid (by first | exact bnext BB.out BB.out.size hb | exact bnext (BB.out.alloc BB.out.size _) (by have := BB.out.size; simp; omega) hb | exact bnext ((BB.out.alloc BB.out.size _).alloc (by have := BB.out.size; simp; omega) _) (by have := BB.out.size; simp; omega) hb)
  clear hb
  have Kx : Hid (Kept (w5.alloc (.cells #[.int .i64 x1, .int .i64 x2] 23)) w5.heap.size #[.int .i64 x1, .int .i64 x2] 23) := Lib.hid (Kept.new rfl)
  obtain ⟨a_1, a_2, a_3, a_4, a_5⟩ := Ka.out.two
  obtain ⟨b_1, b_2, b_3, b_4, b_5⟩ := Kb.out.two
  obtain ⟨c_1, c_2, c_3, c_4, c_5⟩ := Kc.out.two
  go_wp2_with fail
  refine (Ch2.out.at_ _ _ (by exact Kept.new (by simp))).mono ?_
  rintro ee w6 ⟨rfl, hb⟩
  clear a_1 a_2 a_3 a_4 a_5
  clear b_1 b_2 b_3 b_4 b_5
  clear c_1 c_2 c_3 c_4 c_5
  have Ka : Hid (Kept w6 _ _ _) := Lib.hid (by first | exact Ka.out.next hb | exact (Ka.out.alloc _).next hb | exact ((Ka.out.alloc _).alloc _).next hb)
  have Kb : Hid (Kept w6 _ _ _) := Lib.hid (by first | exact Kb.out.next hb | exact (Kb.out.alloc _).next hb | exact ((Kb.out.alloc _).alloc _).next hb)
  have Kc : Hid (Kept w6 _ _ _) := Lib.hid (by first | exact Kc.out.next hb | exact (Kc.out.alloc _).next hb | exact ((Kc.out.alloc _).alloc _).next hb)
  have Ks : Hid (Kept w6 _ _ _) := Lib.hid (by first | exact Ks.out.next hb | exact (Ks.out.alloc _).next hb | exact ((Ks.out.alloc _).alloc _).next hb)
  have Km : Hid (Kept w6 _ _ _) := Lib.hid (by first | exact Km.out.next hb | exact (Km.out.alloc _).next hb | exact ((Km.out.alloc _).alloc _).next hb)
  have Kn : Hid (Kept w6 _ _ _) := Lib.hid (by first | exact Kn.out.next hb | exact (Kn.out.alloc _).next hb | exact ((Kn.out.alloc _).alloc _).next hb)
  have Kx : Hid (Kept w6 _ _ _) := Lib.hid (by first | exact Kx.out.next hb | exact (Kx.out.alloc _).next hb | exact ((Kx.out.alloc _).alloc _).next hb)
  have BB : Hid (Below w.heap.size w w6) := Lib.hid (by first | exact bnext BB.out BB.out.size hb | exact bnext (BB.out.alloc BB.out.size _) (by have := BB.out.size; simp; omega) hb | exact bnext ((BB.out.alloc BB.out.size _).alloc (by have := BB.out.size; simp; omega) _) (by have := BB.out.size; simp; omega) hb)
  clear hb
  have Ky : Hid (Kept (w6.alloc (.cells #[.int .i64 x1, .int .i64 x2] 23)) w6.heap.size #[.int .i64 x1, .int .i64 x2] 23) := Lib.hid (Kept.new rfl)
  obtain ⟨m_1, m_2, m_3, m_4, m_5⟩ := Km.out.two
  obtain ⟨n_1, n_2, n_3, n_4, n_5⟩ := Kn.out.two
  obtain ⟨x_1, x_2, x_3, x_4, x_5⟩ := Kx.out.two
  obtain ⟨y_1, y_2, y_3, y_4, y_5⟩ := Ky.out.two
  obtain ⟨a_1, a_2, a_3, a_4, a_5⟩ := Ka.out.two
  obtain ⟨b_1, b_2, b_3, b_4, b_5⟩ := Kb.out.two
  go_wp2_with fail
  refine (Cp.out.at_ _ _ (by exact Kept.new (by simp))).mono ?_
  rintro ee w7 ⟨rfl, hb⟩
  clear a_1 a_2 a_3 a_4 a_5
  clear b_1 b_2 b_3 b_4 b_5
  have Ka : Hid (Kept w7 _ _ _) := Lib.hid (by first | exact Ka.out.next hb | exact (Ka.out.alloc _).next hb | exact ((Ka.out.alloc _).alloc _).next hb)
  have Kb : Hid (Kept w7 _ _ _) := Lib.hid (by first | exact Kb.out.next hb | exact (Kb.out.alloc _).next hb | exact ((Kb.out.alloc _).alloc _).next hb)
  have Kc : Hid (Kept w7 _ _ _) := Lib.hid (by first | exact Kc.out.next hb | exact (Kc.out.alloc _).next hb | exact ((Kc.out.alloc _).alloc _).next hb)
  have Ks : Hid (Kept w7 _ _ _) := Lib.hid (by first | exact Ks.out.next hb | exact (Ks.out.alloc _).next hb | exact ((Ks.out.alloc _).alloc _).next hb)
  have Km : Hid (Kept w7 _ _ _) := Lib.hid (by first | exact Km.out.next hb | exact (Km.out.alloc _).next hb | exact ((Km.out.alloc _).alloc _).next hb)
  have Kn : Hid (Kept w7 _ _ _) := Lib.hid (by first | exact Kn.out.next hb | exact (Kn.out.alloc _).next hb | exact ((Kn.out.alloc _).alloc _).next hb)
  have Kx : Hid (Kept w7 _ _ _) := Lib.hid (by first | exact Kx.out.next hb | exact (Kx.out.alloc _).next hb | exact ((Kx.out.alloc _).alloc _).next hb)
  have Ky : Hid (Kept w7 _ _ _) := Lib.hid (by first | exact Ky.out.next hb | exact (Ky.out.alloc _).next hb | exact ((Ky.out.alloc _).alloc _).next hb)
  have BB : Hid (Below w.heap.size w w7) := Lib.hid (by first | exact bnext BB.out BB.out.size hb | exact bnext (BB.out.alloc BB.out.size _) (by have := BB.out.size; simp; omega) hb | exact bnext ((BB.out.alloc BB.out.size _).alloc (by have := BB.out.size; simp; omega) _) (by have := BB.out.size; simp; omega) hb)
  clear hb
  have Kp : Hid (Kept (w7.alloc (.cells #[.int .i64 p1, .int .i64 p2] 23)) w7.heap.size #[.int .i64 p1, .int .i64 p2] 23) := Lib.hid (Kept.new rfl)
  obtain ⟨p_1, p_2, p_3, p_4, p_5⟩ := Kp.out.two
  obtain ⟨c_1, c_2, c_3, c_4, c_5⟩ := Kc.out.two
  go_wp2_with fail
  refine (Cq.out.at_ _ _ (by exact Kept.new (by simp))).mono ?_
  rintro ee w8 ⟨rfl, hb⟩
  clear p_1 p_2 p_3 p_4 p_5
  clear c_1 c_2 c_3 c_4 c_5
  have Ka : Hid (Kept w8 _ _ _) := Lib.hid (by first | exact Ka.out.next hb | exact (Ka.out.alloc _).next hb | exact ((Ka.out.alloc _).alloc _).next hb)
  have Kb : Hid (Kept w8 _ _ _) := Lib.hid (by first | exact Kb.out.next hb | exact (Kb.out.alloc _).next hb | exact ((Kb.out.alloc _).alloc _).next hb)
  have Kc : Hid (Kept w8 _ _ _) := Lib.hid (by first | exact Kc.out.next hb | exact (Kc.out.alloc _).next hb | exact ((Kc.out.alloc _).alloc _).next hb)
  have Ks : Hid (Kept w8 _ _ _) := Lib.hid (by first | exact Ks.out.next hb | exact (Ks.out.alloc _).next hb | exact ((Ks.out.alloc _).alloc _).next hb)
  have Km : Hid (Kept w8 _ _ _) := Lib.hid (by first | exact Km.out.next hb | exact (Km.out.alloc _).next hb | exact ((Km.out.alloc _).alloc _).next hb)
  have Kn : Hid (Kept w8 _ _ _) := Lib.hid (by first | exact Kn.out.next hb | exact (Kn.out.alloc _).next hb | exact ((Kn.out.alloc _).alloc _).next hb)
  have Kx : Hid (Kept w8 _ _ _) := Lib.hid (by first | exact Kx.out.next hb | exact (Kx.out.alloc _).next hb | exact ((Kx.out.alloc _).alloc _).next hb)
  have Ky : Hid (Kept w8 _ _ _) := Lib.hid (by first | exact Ky.out.next hb | exact (Ky.out.alloc _).next hb | exact ((Ky.out.alloc _).alloc _).next hb)
  have Kp : Hid (Kept w8 _ _ _) := Lib.hid (by first | exact Kp.out.next hb | exact (Kp.out.alloc _).next hb | exact ((Kp.out.alloc _).alloc _).next hb)
  have BB : Hid (Below w.heap.size w w8) := Lib.hid (by first | exact bnext BB.out BB.out.size hb | exact bnext (BB.out.alloc BB.out.size _) (by have := BB.out.size; simp; omega) hb | exact bnext ((BB.out.alloc BB.out.size _).alloc (by have := BB.out.size; simp; omega) _) (by have := BB.out.size; simp; omega) hb)
  clear hb
  have Kq : Hid (Kept (w8.alloc (.cells #[.int .i64 m1, .int .i64 m2] 23)) w8.heap.size #[.int .i64 m1, .int .i64 m2] 23) := Lib.hid (Kept.new rfl)
  obtain ⟨q_1, q_2, q_3, q_4, q_5⟩ := Kq.out.two
  obtain ⟨m_1, m_2, m_3, m_4, m_5⟩ := Km.out.two
  obtain ⟨x_1, x_2, x_3, x_4, x_5⟩ := Kx.out.two
  go_wp2_with fail
  refine (Cx.out _).mono ?_
  rintro ee w9 ⟨rfl, hb⟩
  clear q_1 q_2 q_3 q_4 q_5
  clear m_1 m_2 m_3 m_4 m_5
  clear x_1 x_2 x_3 x_4 x_5
  have Ka : Hid (Kept w9 _ _ _) := Lib.hid (by first | exact Ka.out.next hb | exact (Ka.out.alloc _).next hb | exact ((Ka.out.alloc _).alloc _).next hb)
  have Kb : Hid (Kept w9 _ _ _) := Lib.hid (by first | exact Kb.out.next hb | exact (Kb.out.alloc _).next hb | exact ((Kb.out.alloc _).alloc _).next hb)
  have Kc : Hid (Kept w9 _ _ _) := Lib.hid (by first | exact Kc.out.next hb | exact (Kc.out.alloc _).next hb | exact ((Kc.out.alloc _).alloc _).next hb)
  have Ks : Hid (Kept w9 _ _ _) := Lib.hid (by first | exact Ks.out.next hb | exact (Ks.out.alloc _).next hb | exact ((Ks.out.alloc _).alloc _).next hb)
  have Km : Hid (Kept w9 _ _ _) := Lib.hid (by first | exact Km.out.next hb | exact (Km.out.alloc _).next hb | exact ((Km.out.alloc _).alloc _).next hb)
  have Kn : Hid (Kept w9 _ _ _) := Lib.hid (by first | exact Kn.out.next hb | exact (Kn.out.alloc _).next hb | exact ((Kn.out.alloc _).alloc _).next hb)
  have Kx : Hid (Kept w9 _ _ _) := Lib.hid (by first | exact Kx.out.next hb | exact (Kx.out.alloc _).next hb | exact ((Kx.out.alloc _).alloc _).next hb)
  have Ky : Hid (Kept w9 _ _ _) := Lib.hid (by first | exact Ky.out.next hb | exact (Ky.out.alloc _).next hb | exact ((Ky.out.alloc _).alloc _).next hb)
  have Kp : Hid (Kept w9 _ _ _) := Lib.hid (by first | exact Kp.out.next hb | exact (Kp.out.alloc _).next hb | exact ((Kp.out.alloc _).alloc _).next hb)
  have Kq : Hid (Kept w9 _ _ _) := Lib.hid (by first | exact Kq.out.next hb | exact (Kq.out.alloc _).next hb | exact ((Kq.out.alloc _).alloc _).next hb)
  have BB : Hid (Below w.heap.size w w9) := Lib.hid (by first | exact bnext BB.out BB.out.size hb | exact bnext (BB.out.alloc BB.out.size _) (by have := BB.out.size; simp; omega) hb | exact bnext ((BB.out.alloc BB.out.size _).alloc (by have := BB.out.size; simp; omega) _) (by have := BB.out.size; simp; omega) hb)
  clear hb
  go_wp2
  go_ret
  exact ⟨rfl, BB.out⟩

set_option maxHeartbeats 8000000 in
set_option maxRecDepth 100000 in
theorem gb_min_bad (a1 a2 b1 b2 c1 c2 d s1 s2 e wd m1 m2 g x1 x2 i p1 p2 : Int) (w : World)
    (Cs : Hid (∀ W, Calls Try.prog 9 #[.agg #[.int .i64 a1, .int .i64 a2], .int .i64 d] W (Gives (.tuple #[.agg #[.int .i64 s1, .int .i64 s2], .int .i64 e]) W)))
    (d1 : (e == 0) = true)
    (d2 : decide (-9223372036854775808 < d) = false)
    (Cm1 : Hid (On 20 3 #[.int .i64 a1, .int .i64 a2, .int .i64 b1, .int .i64 b2, .int .i64 c1, .int .i64 c2] m1 m2 g))
    (Cm2 : Hid (On 20 3 #[.int .i64 c1, .int .i64 c2, .int .i64 b1, .int .i64 b2, .int .i64 a1, .int .i64 a2] m1 m2 g))
    (Ch1 : Hid (On 21 3 #[.int .i64 a1, .int .i64 a2, .int .i64 b1, .int .i64 b2, .int .i64 c1, .int .i64 c2] x1 x2 i))
    (Ch2 : Hid (On 21 3 #[.int .i64 b1, .int .i64 b2, .int .i64 c1, .int .i64 c2, .int .i64 a1, .int .i64 a2] x1 x2 i))
    (d3 : (g != 0) = true) :
    Calls Try.prog 6 #[.agg #[.int .i64 a1, .int .i64 a2], .agg #[.int .i64 b1, .int .i64 b2], .agg #[.int .i64 c1, .int .i64 c2], .int .i64 d] w fun e w' => e = .returned (.bool true) ∧ Below w.heap.size w w' := by
  obtain ⟨w0, hW⟩ : ∃ W, ((w.alloc (.cells #[.int .i64 a1, .int .i64 a2] 23)).alloc (.cells #[.int .i64 b1, .int .i64 b2] 23)).alloc (.cells #[.int .i64 c1, .int .i64 c2] 23) = W := ⟨_, rfl⟩
  have Ka : Hid (Kept w0 w.heap.size #[.int .i64 a1, .int .i64 a2] 23) := Lib.hid (by rw [← hW]; exact ((Kept.new rfl).alloc _).alloc _)
  have Kb : Hid (Kept w0 (w.heap.size + 1) #[.int .i64 b1, .int .i64 b2] 23) := Lib.hid (by rw [← hW]; exact (Kept.new (by simp)).alloc _)
  have Kc : Hid (Kept w0 (w.heap.size + 1 + 1) #[.int .i64 c1, .int .i64 c2] 23) := Lib.hid (by rw [← hW]; exact Kept.new (by simp))
  have BB : Hid (Below w.heap.size w w0) := Lib.hid (by rw [← hW]; exact ((one_alloc _ _).alloc (by simp) _).alloc (by simp; omega) _)
  have HW := Lib.hid hW
  clear hW
  go_enter Try.func6, Try.ntmps6
  go_wp2_with fail
  rw [HW.out]
  refine (alive_any _).mono ?_
  rintro ee w1 ⟨rfl, hb⟩
  have Ka : Hid (Kept w1 _ _ _) := Lib.hid (by first | exact Ka.out.next hb | exact (Ka.out.alloc _).next hb | exact ((Ka.out.alloc _).alloc _).next hb)
  have Kb : Hid (Kept w1 _ _ _) := Lib.hid (by first | exact Kb.out.next hb | exact (Kb.out.alloc _).next hb | exact ((Kb.out.alloc _).alloc _).next hb)
  have Kc : Hid (Kept w1 _ _ _) := Lib.hid (by first | exact Kc.out.next hb | exact (Kc.out.alloc _).next hb | exact ((Kc.out.alloc _).alloc _).next hb)
  have BB : Hid (Below w.heap.size w w1) := Lib.hid (by first | exact bnext BB.out BB.out.size hb | exact bnext (BB.out.alloc BB.out.size _) (by have := BB.out.size; simp; omega) hb | exact bnext ((BB.out.alloc BB.out.size _).alloc (by have := BB.out.size; simp; omega) _) (by have := BB.out.size; simp; omega) hb)
  clear hb
  obtain ⟨a_1, a_2, a_3, a_4, a_5⟩ := Ka.out.two
  go_wp2_with fail
  refine (Cs.out _).mono ?_
  rintro ee w2 ⟨rfl, hb⟩
  clear a_1 a_2 a_3 a_4 a_5
  have Ka : Hid (Kept w2 _ _ _) := Lib.hid (by first | exact Ka.out.next hb | exact (Ka.out.alloc _).next hb | exact ((Ka.out.alloc _).alloc _).next hb)
  have Kb : Hid (Kept w2 _ _ _) := Lib.hid (by first | exact Kb.out.next hb | exact (Kb.out.alloc _).next hb | exact ((Kb.out.alloc _).alloc _).next hb)
  have Kc : Hid (Kept w2 _ _ _) := Lib.hid (by first | exact Kc.out.next hb | exact (Kc.out.alloc _).next hb | exact ((Kc.out.alloc _).alloc _).next hb)
  have BB : Hid (Below w.heap.size w w2) := Lib.hid (by first | exact bnext BB.out BB.out.size hb | exact bnext (BB.out.alloc BB.out.size _) (by have := BB.out.size; simp; omega) hb | exact bnext ((BB.out.alloc BB.out.size _).alloc (by have := BB.out.size; simp; omega) _) (by have := BB.out.size; simp; omega) hb)
  clear hb
  have Ks : Hid (Kept (w2.alloc (.cells #[.int .i64 s1, .int .i64 s2] 23)) w2.heap.size #[.int .i64 s1, .int .i64 s2] 23) := Lib.hid (Kept.new rfl)
  obtain ⟨a_1, a_2, a_3, a_4, a_5⟩ := Ka.out.two
  obtain ⟨b_1, b_2, b_3, b_4, b_5⟩ := Kb.out.two
  obtain ⟨c_1, c_2, c_3, c_4, c_5⟩ := Kc.out.two
  go_wp2_with fail
  refine (Cm1.out.at_ _ _ (by exact Kept.new (by simp))).mono ?_
  rintro ee w3 ⟨rfl, hb⟩
  clear a_1 a_2 a_3 a_4 a_5
  clear b_1 b_2 b_3 b_4 b_5
  clear c_1 c_2 c_3 c_4 c_5
  have Ka : Hid (Kept w3 _ _ _) := Lib.hid (by first | exact Ka.out.next hb | exact (Ka.out.alloc _).next hb | exact ((Ka.out.alloc _).alloc _).next hb)
  have Kb : Hid (Kept w3 _ _ _) := Lib.hid (by first | exact Kb.out.next hb | exact (Kb.out.alloc _).next hb | exact ((Kb.out.alloc _).alloc _).next hb)
  have Kc : Hid (Kept w3 _ _ _) := Lib.hid (by first | exact Kc.out.next hb | exact (Kc.out.alloc _).next hb | exact ((Kc.out.alloc _).alloc _).next hb)
  have Ks : Hid (Kept w3 _ _ _) := Lib.hid (by first | exact Ks.out.next hb | exact (Ks.out.alloc _).next hb | exact ((Ks.out.alloc _).alloc _).next hb)
  have BB : Hid (Below w.heap.size w w3) := Lib.hid (by first | exact bnext BB.out BB.out.size hb | exact bnext (BB.out.alloc BB.out.size _) (by have := BB.out.size; simp; omega) hb | exact bnext ((BB.out.alloc BB.out.size _).alloc (by have := BB.out.size; simp; omega) _) (by have := BB.out.size; simp; omega) hb)
  clear hb
  have Km : Hid (Kept (w3.alloc (.cells #[.int .i64 m1, .int .i64 m2] 23)) w3.heap.size #[.int .i64 m1, .int .i64 m2] 23) := Lib.hid (Kept.new rfl)
  obtain ⟨a_1, a_2, a_3, a_4, a_5⟩ := Ka.out.two
  obtain ⟨b_1, b_2, b_3, b_4, b_5⟩ := Kb.out.two
  obtain ⟨c_1, c_2, c_3, c_4, c_5⟩ := Kc.out.two
  go_wp2_with fail
  refine (Cm2.out.at_ _ _ (by exact Kept.new (by simp))).mono ?_
  rintro ee w4 ⟨rfl, hb⟩
  clear a_1 a_2 a_3 a_4 a_5
  clear b_1 b_2 b_3 b_4 b_5
  clear c_1 c_2 c_3 c_4 c_5
  have Ka : Hid (Kept w4 _ _ _) := Lib.hid (by first | exact Ka.out.next hb | exact (Ka.out.alloc _).next hb | exact ((Ka.out.alloc _).alloc _).next hb)
  have Kb : Hid (Kept w4 _ _ _) := Lib.hid (by first | exact Kb.out.next hb | exact (Kb.out.alloc _).next hb | exact ((Kb.out.alloc _).alloc _).next hb)
  have Kc : Hid (Kept w4 _ _ _) := Lib.hid (by first | exact Kc.out.next hb | exact (Kc.out.alloc _).next hb | exact ((Kc.out.alloc _).alloc _).next hb)
  have Ks : Hid (Kept w4 _ _ _) := Lib.hid (by first | exact Ks.out.next hb | exact (Ks.out.alloc _).next hb | exact ((Ks.out.alloc _).alloc _).next hb)
  have Km : Hid (Kept w4 _ _ _) := Lib.hid (by first | exact Km.out.next hb | exact (Km.out.alloc _).next hb | exact ((Km.out.alloc _).alloc _).next hb)
  have BB : Hid (Below w.heap.size w w4) := Lib.hid (by first | exact bnext BB.out BB.out.size hb | exact bnext (BB.out.alloc BB.out.size _) (by have := BB.out.size; simp; omega) hb | exact bnext ((BB.out.alloc BB.out.size _).alloc (by have := BB.out.size; simp; omega) _) (by have := BB.out.size; simp; omega) hb)
  clear hb
  have Kn : Hid (Kept (w4.alloc (.cells #[.int .i64 m1, .int .i64 m2] 23)) w4.heap.size #[.int .i64 m1, .int .i64 m2] 23) := Lib.hid (Kept.new rfl)
  obtain ⟨a_1, a_2, a_3, a_4, a_5⟩ := Ka.out.two
  obtain ⟨b_1, b_2, b_3, b_4, b_5⟩ := Kb.out.two
  obtain ⟨c_1, c_2, c_3, c_4, c_5⟩ := Kc.out.two
  go_wp2_with fail
  refine (Ch1.out.at_ _ _ (by exact Kept.new (by simp))).mono ?_
  rintro ee w5 ⟨rfl, hb⟩
  clear a_1 a_2 a_3 a_4 a_5
  clear b_1 b_2 b_3 b_4 b_5
  clear c_1 c_2 c_3 c_4 c_5
  have Ka : Hid (Kept w5 _ _ _) := Lib.hid (by first | exact Ka.out.next hb | exact (Ka.out.alloc _).next hb | exact ((Ka.out.alloc _).alloc _).next hb)
  have Kb : Hid (Kept w5 _ _ _) := Lib.hid (by first | exact Kb.out.next hb | exact (Kb.out.alloc _).next hb | exact ((Kb.out.alloc _).alloc _).next hb)
  have Kc : Hid (Kept w5 _ _ _) := Lib.hid (by first | exact Kc.out.next hb | exact (Kc.out.alloc _).next hb | exact ((Kc.out.alloc _).alloc _).next hb)
  have Ks : Hid (Kept w5 _ _ _) := Lib.hid (by first | exact Ks.out.next hb | exact (Ks.out.alloc _).next hb | exact ((Ks.out.alloc _).alloc _).next hb)
  have Km : Hid (Kept w5 _ _ _) := Lib.hid (by first | exact Km.out.next hb | exact (Km.out.alloc _).next hb | exact ((Km.out.alloc _).alloc _).next hb)
  have Kn : Hid (Kept w5 _ _ _) := Lib.hid (by first | exact Kn.out.next hb | exact (Kn.out.alloc _).next hb | exact ((Kn.out.alloc _).alloc _).next hb)
  have BB : Hid (Below w.heap.size w w5) := Lib.hid (by first | exact bnext BB.out BB.out.size hb | exact bnext (BB.out.alloc BB.out.size _) (by have := BB.out.size; simp; omega) hb | exact bnext ((BB.out.alloc BB.out.size _).alloc (by have := BB.out.size; simp; omega) _) (by have := BB.out.size; simp; omega) hb)
  clear hb
  have Kx : Hid (Kept (w5.alloc (.cells #[.int .i64 x1, .int .i64 x2] 23)) w5.heap.size #[.int .i64 x1, .int .i64 x2] 23) := Lib.hid (Kept.new rfl)
  obtain ⟨a_1, a_2, a_3, a_4, a_5⟩ := Ka.out.two
  obtain ⟨b_1, b_2, b_3, b_4, b_5⟩ := Kb.out.two
  obtain ⟨c_1, c_2, c_3, c_4, c_5⟩ := Kc.out.two
  go_wp2_with fail
  refine (Ch2.out.at_ _ _ (by exact Kept.new (by simp))).mono ?_
  rintro ee w6 ⟨rfl, hb⟩
  clear a_1 a_2 a_3 a_4 a_5
  clear b_1 b_2 b_3 b_4 b_5
  clear c_1 c_2 c_3 c_4 c_5
  have Ka : Hid (Kept w6 _ _ _) := Lib.hid (by first | exact Ka.out.next hb | exact (Ka.out.alloc _).next hb | exact ((Ka.out.alloc _).alloc _).next hb)
  have Kb : Hid (Kept w6 _ _ _) := Lib.hid (by first | exact Kb.out.next hb | exact (Kb.out.alloc _).next hb | exact ((Kb.out.alloc _).alloc _).next hb)
  have Kc : Hid (Kept w6 _ _ _) := Lib.hid (by first | exact Kc.out.next hb | exact (Kc.out.alloc _).next hb | exact ((Kc.out.alloc _).alloc _).next hb)
  have Ks : Hid (Kept w6 _ _ _) := Lib.hid (by first | exact Ks.out.next hb | exact (Ks.out.alloc _).next hb | exact ((Ks.out.alloc _).alloc _).next hb)
  have Km : Hid (Kept w6 _ _ _) := Lib.hid (by first | exact Km.out.next hb | exact (Km.out.alloc _).next hb | exact ((Km.out.alloc _).alloc _).next hb)
  have Kn : Hid (Kept w6 _ _ _) := Lib.hid (by first | exact Kn.out.next hb | exact (Kn.out.alloc _).next hb | exact ((Kn.out.alloc _).alloc _).next hb)
  have Kx : Hid (Kept w6 _ _ _) := Lib.hid (by first | exact Kx.out.next hb | exact (Kx.out.alloc _).next hb | exact ((Kx.out.alloc _).alloc _).next hb)
  have BB : Hid (Below w.heap.size w w6) := Lib.hid (by first | exact bnext BB.out BB.out.size hb | exact bnext (BB.out.alloc BB.out.size _) (by have := BB.out.size; simp; omega) hb | exact bnext ((BB.out.alloc BB.out.size _).alloc (by have := BB.out.size; simp; omega) _) (by have := BB.out.size; simp; omega) hb)
  clear hb
  have Ky : Hid (Kept (w6.alloc (.cells #[.int .i64 x1, .int .i64 x2] 23)) w6.heap.size #[.int .i64 x1, .int .i64 x2] 23) := Lib.hid (Kept.new rfl)
  obtain ⟨m_1, m_2, m_3, m_4, m_5⟩ := Km.out.two
  obtain ⟨n_1, n_2, n_3, n_4, n_5⟩ := Kn.out.two
  obtain ⟨x_1, x_2, x_3, x_4, x_5⟩ := Kx.out.two
  obtain ⟨y_1, y_2, y_3, y_4, y_5⟩ := Ky.out.two
  go_wp2
  go_ret
  exact ⟨rfl, by first | exact BB.out | exact BB.out.alloc BB.out.size _⟩

set_option maxHeartbeats 8000000 in
set_option maxRecDepth 100000 in
theorem gb_min_good (a1 a2 b1 b2 c1 c2 d s1 s2 e wd m1 m2 g x1 x2 i p1 p2 : Int) (w : World)
    (Cs : Hid (∀ W, Calls Try.prog 9 #[.agg #[.int .i64 a1, .int .i64 a2], .int .i64 d] W (Gives (.tuple #[.agg #[.int .i64 s1, .int .i64 s2], .int .i64 e]) W)))
    (d1 : (e == 0) = true)
    (d2 : decide (-9223372036854775808 < d) = false)
    (Cm1 : Hid (On 20 3 #[.int .i64 a1, .int .i64 a2, .int .i64 b1, .int .i64 b2, .int .i64 c1, .int .i64 c2] m1 m2 g))
    (Cm2 : Hid (On 20 3 #[.int .i64 c1, .int .i64 c2, .int .i64 b1, .int .i64 b2, .int .i64 a1, .int .i64 a2] m1 m2 g))
    (Ch1 : Hid (On 21 3 #[.int .i64 a1, .int .i64 a2, .int .i64 b1, .int .i64 b2, .int .i64 c1, .int .i64 c2] x1 x2 i))
    (Ch2 : Hid (On 21 3 #[.int .i64 b1, .int .i64 b2, .int .i64 c1, .int .i64 c2, .int .i64 a1, .int .i64 a2] x1 x2 i))
    (d3 : (g != 0) = false)
    (Cp : Hid (On 20 2 #[.int .i64 a1, .int .i64 a2, .int .i64 b1, .int .i64 b2] p1 p2 0))
    (Cq : Hid (On 20 2 #[.int .i64 p1, .int .i64 p2, .int .i64 c1, .int .i64 c2] m1 m2 0))
    (Cx : Hid (∀ W, Calls Try.prog 18 #[.agg #[.int .i64 m1, .int .i64 m2], .agg #[.int .i64 x1, .int .i64 x2]] W (Gives (.bool true) W))) :
    Calls Try.prog 6 #[.agg #[.int .i64 a1, .int .i64 a2], .agg #[.int .i64 b1, .int .i64 b2], .agg #[.int .i64 c1, .int .i64 c2], .int .i64 d] w fun e w' => e = .returned (.bool true) ∧ Below w.heap.size w w' := by
  obtain ⟨w0, hW⟩ : ∃ W, ((w.alloc (.cells #[.int .i64 a1, .int .i64 a2] 23)).alloc (.cells #[.int .i64 b1, .int .i64 b2] 23)).alloc (.cells #[.int .i64 c1, .int .i64 c2] 23) = W := ⟨_, rfl⟩
  have Ka : Hid (Kept w0 w.heap.size #[.int .i64 a1, .int .i64 a2] 23) := Lib.hid (by rw [← hW]; exact ((Kept.new rfl).alloc _).alloc _)
  have Kb : Hid (Kept w0 (w.heap.size + 1) #[.int .i64 b1, .int .i64 b2] 23) := Lib.hid (by rw [← hW]; exact (Kept.new (by simp)).alloc _)
  have Kc : Hid (Kept w0 (w.heap.size + 1 + 1) #[.int .i64 c1, .int .i64 c2] 23) := Lib.hid (by rw [← hW]; exact Kept.new (by simp))
  have BB : Hid (Below w.heap.size w w0) := Lib.hid (by rw [← hW]; exact ((one_alloc _ _).alloc (by simp) _).alloc (by simp; omega) _)
  have HW := Lib.hid hW
  clear hW
  go_enter Try.func6, Try.ntmps6
  go_wp2_with fail
  rw [HW.out]
  refine (alive_any _).mono ?_
  rintro ee w1 ⟨rfl, hb⟩
  have Ka : Hid (Kept w1 _ _ _) := Lib.hid (by first | exact Ka.out.next hb | exact (Ka.out.alloc _).next hb | exact ((Ka.out.alloc _).alloc _).next hb)
  have Kb : Hid (Kept w1 _ _ _) := Lib.hid (by first | exact Kb.out.next hb | exact (Kb.out.alloc _).next hb | exact ((Kb.out.alloc _).alloc _).next hb)
  have Kc : Hid (Kept w1 _ _ _) := Lib.hid (by first | exact Kc.out.next hb | exact (Kc.out.alloc _).next hb | exact ((Kc.out.alloc _).alloc _).next hb)
  have BB : Hid (Below w.heap.size w w1) := Lib.hid (by first | exact bnext BB.out BB.out.size hb | exact bnext (BB.out.alloc BB.out.size _) (by have := BB.out.size; simp; omega) hb | exact bnext ((BB.out.alloc BB.out.size _).alloc (by have := BB.out.size; simp; omega) _) (by have := BB.out.size; simp; omega) hb)
  clear hb
  obtain ⟨a_1, a_2, a_3, a_4, a_5⟩ := Ka.out.two
  go_wp2_with fail
  refine (Cs.out _).mono ?_
  rintro ee w2 ⟨rfl, hb⟩
  clear a_1 a_2 a_3 a_4 a_5
  have Ka : Hid (Kept w2 _ _ _) := Lib.hid (by first | exact Ka.out.next hb | exact (Ka.out.alloc _).next hb | exact ((Ka.out.alloc _).alloc _).next hb)
  have Kb : Hid (Kept w2 _ _ _) := Lib.hid (by first | exact Kb.out.next hb | exact (Kb.out.alloc _).next hb | exact ((Kb.out.alloc _).alloc _).next hb)
  have Kc : Hid (Kept w2 _ _ _) := Lib.hid (by first | exact Kc.out.next hb | exact (Kc.out.alloc _).next hb | exact ((Kc.out.alloc _).alloc _).next hb)
  have BB : Hid (Below w.heap.size w w2) := Lib.hid (by first | exact bnext BB.out BB.out.size hb | exact bnext (BB.out.alloc BB.out.size _) (by have := BB.out.size; simp; omega) hb | exact bnext ((BB.out.alloc BB.out.size _).alloc (by have := BB.out.size; simp; omega) _) (by have := BB.out.size; simp; omega) hb)
  clear hb
  have Ks : Hid (Kept (w2.alloc (.cells #[.int .i64 s1, .int .i64 s2] 23)) w2.heap.size #[.int .i64 s1, .int .i64 s2] 23) := Lib.hid (Kept.new rfl)
  obtain ⟨a_1, a_2, a_3, a_4, a_5⟩ := Ka.out.two
  obtain ⟨b_1, b_2, b_3, b_4, b_5⟩ := Kb.out.two
  obtain ⟨c_1, c_2, c_3, c_4, c_5⟩ := Kc.out.two
  go_wp2_with fail
  refine (Cm1.out.at_ _ _ (by exact Kept.new (by simp))).mono ?_
  rintro ee w3 ⟨rfl, hb⟩
  clear a_1 a_2 a_3 a_4 a_5
  clear b_1 b_2 b_3 b_4 b_5
  clear c_1 c_2 c_3 c_4 c_5
  have Ka : Hid (Kept w3 _ _ _) := Lib.hid (by first | exact Ka.out.next hb | exact (Ka.out.alloc _).next hb | exact ((Ka.out.alloc _).alloc _).next hb)
  have Kb : Hid (Kept w3 _ _ _) := Lib.hid (by first | exact Kb.out.next hb | exact (Kb.out.alloc _).next hb | exact ((Kb.out.alloc _).alloc _).next hb)
  have Kc : Hid (Kept w3 _ _ _) := Lib.hid (by first | exact Kc.out.next hb | exact (Kc.out.alloc _).next hb | exact ((Kc.out.alloc _).alloc _).next hb)
  have Ks : Hid (Kept w3 _ _ _) := Lib.hid (by first | exact Ks.out.next hb | exact (Ks.out.alloc _).next hb | exact ((Ks.out.alloc _).alloc _).next hb)
  have BB : Hid (Below w.heap.size w w3) := Lib.hid (by first | exact bnext BB.out BB.out.size hb | exact bnext (BB.out.alloc BB.out.size _) (by have := BB.out.size; simp; omega) hb | exact bnext ((BB.out.alloc BB.out.size _).alloc (by have := BB.out.size; simp; omega) _) (by have := BB.out.size; simp; omega) hb)
  clear hb
  have Km : Hid (Kept (w3.alloc (.cells #[.int .i64 m1, .int .i64 m2] 23)) w3.heap.size #[.int .i64 m1, .int .i64 m2] 23) := Lib.hid (Kept.new rfl)
  obtain ⟨a_1, a_2, a_3, a_4, a_5⟩ := Ka.out.two
  obtain ⟨b_1, b_2, b_3, b_4, b_5⟩ := Kb.out.two
  obtain ⟨c_1, c_2, c_3, c_4, c_5⟩ := Kc.out.two
  go_wp2_with fail
  refine (Cm2.out.at_ _ _ (by exact Kept.new (by simp))).mono ?_
  rintro ee w4 ⟨rfl, hb⟩
  clear a_1 a_2 a_3 a_4 a_5
  clear b_1 b_2 b_3 b_4 b_5
  clear c_1 c_2 c_3 c_4 c_5
  have Ka : Hid (Kept w4 _ _ _) := Lib.hid (by first | exact Ka.out.next hb | exact (Ka.out.alloc _).next hb | exact ((Ka.out.alloc _).alloc _).next hb)
  have Kb : Hid (Kept w4 _ _ _) := Lib.hid (by first | exact Kb.out.next hb | exact (Kb.out.alloc _).next hb | exact ((Kb.out.alloc _).alloc _).next hb)
  have Kc : Hid (Kept w4 _ _ _) := Lib.hid (by first | exact Kc.out.next hb | exact (Kc.out.alloc _).next hb | exact ((Kc.out.alloc _).alloc _).next hb)
  have Ks : Hid (Kept w4 _ _ _) := Lib.hid (by first | exact Ks.out.next hb | exact (Ks.out.alloc _).next hb | exact ((Ks.out.alloc _).alloc _).next hb)
  have Km : Hid (Kept w4 _ _ _) := Lib.hid (by first | exact Km.out.next hb | exact (Km.out.alloc _).next hb | exact ((Km.out.alloc _).alloc _).next hb)
  have BB : Hid (Below w.heap.size w w4) := Lib.hid (by first | exact bnext BB.out BB.out.size hb | exact bnext (BB.out.alloc BB.out.size _) (by have := BB.out.size; simp; omega) hb | exact bnext ((BB.out.alloc BB.out.size _).alloc (by have := BB.out.size; simp; omega) _) (by have := BB.out.size; simp; omega) hb)
  clear hb
  have Kn : Hid (Kept (w4.alloc (.cells #[.int .i64 m1, .int .i64 m2] 23)) w4.heap.size #[.int .i64 m1, .int .i64 m2] 23) := Lib.hid (Kept.new rfl)
  obtain ⟨a_1, a_2, a_3, a_4, a_5⟩ := Ka.out.two
  obtain ⟨b_1, b_2, b_3, b_4, b_5⟩ := Kb.out.two
  obtain ⟨c_1, c_2, c_3, c_4, c_5⟩ := Kc.out.two
  go_wp2_with fail
  refine (Ch1.out.at_ _ _ (by exact Kept.new (by simp))).mono ?_
  rintro ee w5 ⟨rfl, hb⟩
  clear a_1 a_2 a_3 a_4 a_5
  clear b_1 b_2 b_3 b_4 b_5
  clear c_1 c_2 c_3 c_4 c_5
  have Ka : Hid (Kept w5 _ _ _) := Lib.hid (by first | exact Ka.out.next hb | exact (Ka.out.alloc _).next hb | exact ((Ka.out.alloc _).alloc _).next hb)
  have Kb : Hid (Kept w5 _ _ _) := Lib.hid (by first | exact Kb.out.next hb | exact (Kb.out.alloc _).next hb | exact ((Kb.out.alloc _).alloc _).next hb)
  have Kc : Hid (Kept w5 _ _ _) := Lib.hid (by first | exact Kc.out.next hb | exact (Kc.out.alloc _).next hb | exact ((Kc.out.alloc _).alloc _).next hb)
  have Ks : Hid (Kept w5 _ _ _) := Lib.hid (by first | exact Ks.out.next hb | exact (Ks.out.alloc _).next hb | exact ((Ks.out.alloc _).alloc _).next hb)
  have Km : Hid (Kept w5 _ _ _) := Lib.hid (by first | exact Km.out.next hb | exact (Km.out.alloc _).next hb | exact ((Km.out.alloc _).alloc _).next hb)
  have Kn : Hid (Kept w5 _ _ _) := Lib.hid (by first | exact Kn.out.next hb | exact (Kn.out.alloc _).next hb | exact ((Kn.out.alloc _).alloc _).next hb)
  have BB : Hid (Below w.heap.size w w5) := Lib.hid (by first | exact bnext BB.out BB.out.size hb | exact bnext (BB.out.alloc BB.out.size _) (by have := BB.out.size; simp; omega) hb | exact bnext ((BB.out.alloc BB.out.size _).alloc (by have := BB.out.size; simp; omega) _) (by have := BB.out.size; simp; omega) hb)
  clear hb
  have Kx : Hid (Kept (w5.alloc (.cells #[.int .i64 x1, .int .i64 x2] 23)) w5.heap.size #[.int .i64 x1, .int .i64 x2] 23) := Lib.hid (Kept.new rfl)
  obtain ⟨a_1, a_2, a_3, a_4, a_5⟩ := Ka.out.two
  obtain ⟨b_1, b_2, b_3, b_4, b_5⟩ := Kb.out.two
  obtain ⟨c_1, c_2, c_3, c_4, c_5⟩ := Kc.out.two
  go_wp2_with fail
  refine (Ch2.out.at_ _ _ (by exact Kept.new (by simp))).mono ?_
  rintro ee w6 ⟨rfl, hb⟩
  clear a_1 a_2 a_3 a_4 a_5
  clear b_1 b_2 b_3 b_4 b_5
  clear c_1 c_2 c_3 c_4 c_5
  have Ka : Hid (Kept w6 _ _ _) := Lib.hid (by first | exact Ka.out.next hb | exact (Ka.out.alloc _).next hb | exact ((Ka.out.alloc _).alloc _).next hb)
  have Kb : Hid (Kept w6 _ _ _) := Lib.hid (by first | exact Kb.out.next hb | exact (Kb.out.alloc _).next hb | exact ((Kb.out.alloc _).alloc _).next hb)
  have Kc : Hid (Kept w6 _ _ _) := Lib.hid (by first | exact Kc.out.next hb | exact (Kc.out.alloc _).next hb | exact ((Kc.out.alloc _).alloc _).next hb)
  have Ks : Hid (Kept w6 _ _ _) := Lib.hid (by first | exact Ks.out.next hb | exact (Ks.out.alloc _).next hb | exact ((Ks.out.alloc _).alloc _).next hb)
  have Km : Hid (Kept w6 _ _ _) := Lib.hid (by first | exact Km.out.next hb | exact (Km.out.alloc _).next hb | exact ((Km.out.alloc _).alloc _).next hb)
  have Kn : Hid (Kept w6 _ _ _) := Lib.hid (by first | exact Kn.out.next hb | exact (Kn.out.alloc _).next hb | exact ((Kn.out.alloc _).alloc _).next hb)
  have Kx : Hid (Kept w6 _ _ _) := Lib.hid (by first | exact Kx.out.next hb | exact (Kx.out.alloc _).next hb | exact ((Kx.out.alloc _).alloc _).next hb)
  have BB : Hid (Below w.heap.size w w6) := Lib.hid (by first | exact bnext BB.out BB.out.size hb | exact bnext (BB.out.alloc BB.out.size _) (by have := BB.out.size; simp; omega) hb | exact bnext ((BB.out.alloc BB.out.size _).alloc (by have := BB.out.size; simp; omega) _) (by have := BB.out.size; simp; omega) hb)
  clear hb
  have Ky : Hid (Kept (w6.alloc (.cells #[.int .i64 x1, .int .i64 x2] 23)) w6.heap.size #[.int .i64 x1, .int .i64 x2] 23) := Lib.hid (Kept.new rfl)
  obtain ⟨m_1, m_2, m_3, m_4, m_5⟩ := Km.out.two
  obtain ⟨n_1, n_2, n_3, n_4, n_5⟩ := Kn.out.two
  obtain ⟨x_1, x_2, x_3, x_4, x_5⟩ := Kx.out.two
  obtain ⟨y_1, y_2, y_3, y_4, y_5⟩ := Ky.out.two
  obtain ⟨a_1, a_2, a_3, a_4, a_5⟩ := Ka.out.two
  obtain ⟨b_1, b_2, b_3, b_4, b_5⟩ := Kb.out.two
  go_wp2_with fail
  refine (Cp.out.at_ _ _ (by exact Kept.new (by simp))).mono ?_
  rintro ee w7 ⟨rfl, hb⟩
  clear a_1 a_2 a_3 a_4 a_5
  clear b_1 b_2 b_3 b_4 b_5
  have Ka : Hid (Kept w7 _ _ _) := Lib.hid (by first | exact Ka.out.next hb | exact (Ka.out.alloc _).next hb | exact ((Ka.out.alloc _).alloc _).next hb)
  have Kb : Hid (Kept w7 _ _ _) := Lib.hid (by first | exact Kb.out.next hb | exact (Kb.out.alloc _).next hb | exact ((Kb.out.alloc _).alloc _).next hb)
  have Kc : Hid (Kept w7 _ _ _) := Lib.hid (by first | exact Kc.out.next hb | exact (Kc.out.alloc _).next hb | exact ((Kc.out.alloc _).alloc _).next hb)
  have Ks : Hid (Kept w7 _ _ _) := Lib.hid (by first | exact Ks.out.next hb | exact (Ks.out.alloc _).next hb | exact ((Ks.out.alloc _).alloc _).next hb)
  have Km : Hid (Kept w7 _ _ _) := Lib.hid (by first | exact Km.out.next hb | exact (Km.out.alloc _).next hb | exact ((Km.out.alloc _).alloc _).next hb)
  have Kn : Hid (Kept w7 _ _ _) := Lib.hid (by first | exact Kn.out.next hb | exact (Kn.out.alloc _).next hb | exact ((Kn.out.alloc _).alloc _).next hb)
  have Kx : Hid (Kept w7 _ _ _) := Lib.hid (by first | exact Kx.out.next hb | exact (Kx.out.alloc _).next hb | exact ((Kx.out.alloc _).alloc _).next hb)
  have Ky : Hid (Kept w7 _ _ _) := Lib.hid (by first | exact Ky.out.next hb | exact (Ky.out.alloc _).next hb | exact ((Ky.out.alloc _).alloc _).next hb)
  have BB : Hid (Below w.heap.size w w7) := Lib.hid (by first | exact bnext BB.out BB.out.size hb | exact bnext (BB.out.alloc BB.out.size _) (by have := BB.out.size; simp; omega) hb | exact bnext ((BB.out.alloc BB.out.size _).alloc (by have := BB.out.size; simp; omega) _) (by have := BB.out.size; simp; omega) hb)
  clear hb
  have Kp : Hid (Kept (w7.alloc (.cells #[.int .i64 p1, .int .i64 p2] 23)) w7.heap.size #[.int .i64 p1, .int .i64 p2] 23) := Lib.hid (Kept.new rfl)
  obtain ⟨p_1, p_2, p_3, p_4, p_5⟩ := Kp.out.two
  obtain ⟨c_1, c_2, c_3, c_4, c_5⟩ := Kc.out.two
  go_wp2_with fail
  refine (Cq.out.at_ _ _ (by exact Kept.new (by simp))).mono ?_
  rintro ee w8 ⟨rfl, hb⟩
  clear p_1 p_2 p_3 p_4 p_5
  clear c_1 c_2 c_3 c_4 c_5
  have Ka : Hid (Kept w8 _ _ _) := Lib.hid (by first | exact Ka.out.next hb | exact (Ka.out.alloc _).next hb | exact ((Ka.out.alloc _).alloc _).next hb)
  have Kb : Hid (Kept w8 _ _ _) := Lib.hid (by first | exact Kb.out.next hb | exact (Kb.out.alloc _).next hb | exact ((Kb.out.alloc _).alloc _).next hb)
  have Kc : Hid (Kept w8 _ _ _) := Lib.hid (by first | exact Kc.out.next hb | exact (Kc.out.alloc _).next hb | exact ((Kc.out.alloc _).alloc _).next hb)
  have Ks : Hid (Kept w8 _ _ _) := Lib.hid (by first | exact Ks.out.next hb | exact (Ks.out.alloc _).next hb | exact ((Ks.out.alloc _).alloc _).next hb)
  have Km : Hid (Kept w8 _ _ _) := Lib.hid (by first | exact Km.out.next hb | exact (Km.out.alloc _).next hb | exact ((Km.out.alloc _).alloc _).next hb)
  have Kn : Hid (Kept w8 _ _ _) := Lib.hid (by first | exact Kn.out.next hb | exact (Kn.out.alloc _).next hb | exact ((Kn.out.alloc _).alloc _).next hb)
  have Kx : Hid (Kept w8 _ _ _) := Lib.hid (by first | exact Kx.out.next hb | exact (Kx.out.alloc _).next hb | exact ((Kx.out.alloc _).alloc _).next hb)
  have Ky : Hid (Kept w8 _ _ _) := Lib.hid (by first | exact Ky.out.next hb | exact (Ky.out.alloc _).next hb | exact ((Ky.out.alloc _).alloc _).next hb)
  have Kp : Hid (Kept w8 _ _ _) := Lib.hid (by first | exact Kp.out.next hb | exact (Kp.out.alloc _).next hb | exact ((Kp.out.alloc _).alloc _).next hb)
  have BB : Hid (Below w.heap.size w w8) := Lib.hid (by first | exact bnext BB.out BB.out.size hb | exact bnext (BB.out.alloc BB.out.size _) (by have := BB.out.size; simp; omega) hb | exact bnext ((BB.out.alloc BB.out.size _).alloc (by have := BB.out.size; simp; omega) _) (by have := BB.out.size; simp; omega) hb)
  clear hb
  have Kq : Hid (Kept (w8.alloc (.cells #[.int .i64 m1, .int .i64 m2] 23)) w8.heap.size #[.int .i64 m1, .int .i64 m2] 23) := Lib.hid (Kept.new rfl)
  obtain ⟨q_1, q_2, q_3, q_4, q_5⟩ := Kq.out.two
  obtain ⟨m_1, m_2, m_3, m_4, m_5⟩ := Km.out.two
  obtain ⟨x_1, x_2, x_3, x_4, x_5⟩ := Kx.out.two
  go_wp2_with fail
  refine (Cx.out _).mono ?_
  rintro ee w9 ⟨rfl, hb⟩
  clear q_1 q_2 q_3 q_4 q_5
  clear m_1 m_2 m_3 m_4 m_5
  clear x_1 x_2 x_3 x_4 x_5
  have Ka : Hid (Kept w9 _ _ _) := Lib.hid (by first | exact Ka.out.next hb | exact (Ka.out.alloc _).next hb | exact ((Ka.out.alloc _).alloc _).next hb)
  have Kb : Hid (Kept w9 _ _ _) := Lib.hid (by first | exact Kb.out.next hb | exact (Kb.out.alloc _).next hb | exact ((Kb.out.alloc _).alloc _).next hb)
  have Kc : Hid (Kept w9 _ _ _) := Lib.hid (by first | exact Kc.out.next hb | exact (Kc.out.alloc _).next hb | exact ((Kc.out.alloc _).alloc _).next hb)
  have Ks : Hid (Kept w9 _ _ _) := Lib.hid (by first | exact Ks.out.next hb | exact (Ks.out.alloc _).next hb | exact ((Ks.out.alloc _).alloc _).next hb)
  have Km : Hid (Kept w9 _ _ _) := Lib.hid (by first | exact Km.out.next hb | exact (Km.out.alloc _).next hb | exact ((Km.out.alloc _).alloc _).next hb)
  have Kn : Hid (Kept w9 _ _ _) := Lib.hid (by first | exact Kn.out.next hb | exact (Kn.out.alloc _).next hb | exact ((Kn.out.alloc _).alloc _).next hb)
  have Kx : Hid (Kept w9 _ _ _) := Lib.hid (by first | exact Kx.out.next hb | exact (Kx.out.alloc _).next hb | exact ((Kx.out.alloc _).alloc _).next hb)
  have Ky : Hid (Kept w9 _ _ _) := Lib.hid (by first | exact Ky.out.next hb | exact (Ky.out.alloc _).next hb | exact ((Ky.out.alloc _).alloc _).next hb)
  have Kp : Hid (Kept w9 _ _ _) := Lib.hid (by first | exact Kp.out.next hb | exact (Kp.out.alloc _).next hb | exact ((Kp.out.alloc _).alloc _).next hb)
  have Kq : Hid (Kept w9 _ _ _) := Lib.hid (by first | exact Kq.out.next hb | exact (Kq.out.alloc _).next hb | exact ((Kq.out.alloc _).alloc _).next hb)
  have BB : Hid (Below w.heap.size w w9) := Lib.hid (by first | exact bnext BB.out BB.out.size hb | exact bnext (BB.out.alloc BB.out.size _) (by have := BB.out.size; simp; omega) hb | exact bnext ((BB.out.alloc BB.out.size _).alloc (by have := BB.out.size; simp; omega) _) (by have := BB.out.size; simp; omega) hb)
  clear hb
  go_wp2
  go_ret
  exact ⟨rfl, BB.out⟩

set_option maxHeartbeats 8000000 in
set_option maxRecDepth 100000 in
theorem gb_ok_bad (a1 a2 b1 b2 c1 c2 d s1 s2 e wd m1 m2 g x1 x2 i p1 p2 : Int) (w : World)
    (Cs : Hid (∀ W, Calls Try.prog 9 #[.agg #[.int .i64 a1, .int .i64 a2], .int .i64 d] W (Gives (.tuple #[.agg #[.int .i64 s1, .int .i64 s2], .int .i64 e]) W)))
    (d1 : (e == 0) = true)
    (d2 : -9223372036854775808 < d)
    (d2' : d ≤ 9223372036854775807)
    (Ct : Hid (∀ W, Calls Try.prog 9 #[.agg #[.int .i64 s1, .int .i64 s2], .int .i64 (-d)] W (Gives (.tuple #[.agg #[.int .i64 a1, .int .i64 a2], .int .i64 0]) W)))
    (Cw1 : Hid (∀ W, Calls Try.prog 19 #[.agg #[.int .i64 s1, .int .i64 s2]] W (Gives (.int .u64 wd) W)))
    (Cw2 : Hid (∀ W, Calls Try.prog 19 #[.agg #[.int .i64 a1, .int .i64 a2]] W (Gives (.int .u64 wd) W)))
    (Cm1 : Hid (On 20 3 #[.int .i64 a1, .int .i64 a2, .int .i64 b1, .int .i64 b2, .int .i64 c1, .int .i64 c2] m1 m2 g))
    (Cm2 : Hid (On 20 3 #[.int .i64 c1, .int .i64 c2, .int .i64 b1, .int .i64 b2, .int .i64 a1, .int .i64 a2] m1 m2 g))
    (Ch1 : Hid (On 21 3 #[.int .i64 a1, .int .i64 a2, .int .i64 b1, .int .i64 b2, .int .i64 c1, .int .i64 c2] x1 x2 i))
    (Ch2 : Hid (On 21 3 #[.int .i64 b1, .int .i64 b2, .int .i64 c1, .int .i64 c2, .int .i64 a1, .int .i64 a2] x1 x2 i))
    (d3 : (g != 0) = true) :
    Calls Try.prog 6 #[.agg #[.int .i64 a1, .int .i64 a2], .agg #[.int .i64 b1, .int .i64 b2], .agg #[.int .i64 c1, .int .i64 c2], .int .i64 d] w fun e w' => e = .returned (.bool true) ∧ Below w.heap.size w w' := by
  obtain ⟨w0, hW⟩ : ∃ W, ((w.alloc (.cells #[.int .i64 a1, .int .i64 a2] 23)).alloc (.cells #[.int .i64 b1, .int .i64 b2] 23)).alloc (.cells #[.int .i64 c1, .int .i64 c2] 23) = W := ⟨_, rfl⟩
  have Ka : Hid (Kept w0 w.heap.size #[.int .i64 a1, .int .i64 a2] 23) := Lib.hid (by rw [← hW]; exact ((Kept.new rfl).alloc _).alloc _)
  have Kb : Hid (Kept w0 (w.heap.size + 1) #[.int .i64 b1, .int .i64 b2] 23) := Lib.hid (by rw [← hW]; exact (Kept.new (by simp)).alloc _)
  have Kc : Hid (Kept w0 (w.heap.size + 1 + 1) #[.int .i64 c1, .int .i64 c2] 23) := Lib.hid (by rw [← hW]; exact Kept.new (by simp))
  have BB : Hid (Below w.heap.size w w0) := Lib.hid (by rw [← hW]; exact ((one_alloc _ _).alloc (by simp) _).alloc (by simp; omega) _)
  have HW := Lib.hid hW
  clear hW
  go_enter Try.func6, Try.ntmps6
  go_wp2_with fail
  rw [HW.out]
  refine (alive_any _).mono ?_
  rintro ee w1 ⟨rfl, hb⟩
  have Ka : Hid (Kept w1 _ _ _) := Lib.hid (by first | exact Ka.out.next hb | exact (Ka.out.alloc _).next hb | exact ((Ka.out.alloc _).alloc _).next hb)
  have Kb : Hid (Kept w1 _ _ _) := Lib.hid (by first | exact Kb.out.next hb | exact (Kb.out.alloc _).next hb | exact ((Kb.out.alloc _).alloc _).next hb)
  have Kc : Hid (Kept w1 _ _ _) := Lib.hid (by first | exact Kc.out.next hb | exact (Kc.out.alloc _).next hb | exact ((Kc.out.alloc _).alloc _).next hb)
  have BB : Hid (Below w.heap.size w w1) := Lib.hid (by first | exact bnext BB.out BB.out.size hb | exact bnext (BB.out.alloc BB.out.size _) (by have := BB.out.size; simp; omega) hb | exact bnext ((BB.out.alloc BB.out.size _).alloc (by have := BB.out.size; simp; omega) _) (by have := BB.out.size; simp; omega) hb)
  clear hb
  obtain ⟨a_1, a_2, a_3, a_4, a_5⟩ := Ka.out.two
  go_wp2_with fail
  refine (Cs.out _).mono ?_
  rintro ee w2 ⟨rfl, hb⟩
  clear a_1 a_2 a_3 a_4 a_5
  have Ka : Hid (Kept w2 _ _ _) := Lib.hid (by first | exact Ka.out.next hb | exact (Ka.out.alloc _).next hb | exact ((Ka.out.alloc _).alloc _).next hb)
  have Kb : Hid (Kept w2 _ _ _) := Lib.hid (by first | exact Kb.out.next hb | exact (Kb.out.alloc _).next hb | exact ((Kb.out.alloc _).alloc _).next hb)
  have Kc : Hid (Kept w2 _ _ _) := Lib.hid (by first | exact Kc.out.next hb | exact (Kc.out.alloc _).next hb | exact ((Kc.out.alloc _).alloc _).next hb)
  have BB : Hid (Below w.heap.size w w2) := Lib.hid (by first | exact bnext BB.out BB.out.size hb | exact bnext (BB.out.alloc BB.out.size _) (by have := BB.out.size; simp; omega) hb | exact bnext ((BB.out.alloc BB.out.size _).alloc (by have := BB.out.size; simp; omega) _) (by have := BB.out.size; simp; omega) hb)
  clear hb
  have Ks : Hid (Kept (w2.alloc (.cells #[.int .i64 s1, .int .i64 s2] 23)) w2.heap.size #[.int .i64 s1, .int .i64 s2] 23) := Lib.hid (Kept.new rfl)
  obtain ⟨s_1, s_2, s_3, s_4, s_5⟩ := Ks.out.two
  go_wp2_with fail
  refine (Ct.out _).mono ?_
  rintro ee w3 ⟨rfl, hb⟩
  clear s_1 s_2 s_3 s_4 s_5
  have Ka : Hid (Kept w3 _ _ _) := Lib.hid (by first | exact Ka.out.next hb | exact (Ka.out.alloc _).next hb | exact ((Ka.out.alloc _).alloc _).next hb)
  have Kb : Hid (Kept w3 _ _ _) := Lib.hid (by first | exact Kb.out.next hb | exact (Kb.out.alloc _).next hb | exact ((Kb.out.alloc _).alloc _).next hb)
  have Kc : Hid (Kept w3 _ _ _) := Lib.hid (by first | exact Kc.out.next hb | exact (Kc.out.alloc _).next hb | exact ((Kc.out.alloc _).alloc _).next hb)
  have Ks : Hid (Kept w3 _ _ _) := Lib.hid (by first | exact Ks.out.next hb | exact (Ks.out.alloc _).next hb | exact ((Ks.out.alloc _).alloc _).next hb)
  have BB : Hid (Below w.heap.size w w3) := Lib.hid (by first | exact bnext BB.out BB.out.size hb | exact bnext (BB.out.alloc BB.out.size _) (by have := BB.out.size; simp; omega) hb | exact bnext ((BB.out.alloc BB.out.size _).alloc (by have := BB.out.size; simp; omega) _) (by have := BB.out.size; simp; omega) hb)
  clear hb
  have Kt : Hid (Kept (w3.alloc (.cells #[.int .i64 a1, .int .i64 a2] 23)) w3.heap.size #[.int .i64 a1, .int .i64 a2] 23) := Lib.hid (Kept.new rfl)
  obtain ⟨W3, hW3⟩ : ∃ W, w3.alloc (.cells #[.int .i64 a1, .int .i64 a2] 23) = W := ⟨_, rfl⟩
  have Ka : Hid (Kept W3 _ _ _) := Lib.hid (by rw [← hW3]; first | exact Ka.out | exact Ka.out.alloc _)
  have Kb : Hid (Kept W3 _ _ _) := Lib.hid (by rw [← hW3]; first | exact Kb.out | exact Kb.out.alloc _)
  have Kc : Hid (Kept W3 _ _ _) := Lib.hid (by rw [← hW3]; first | exact Kc.out | exact Kc.out.alloc _)
  have Ks : Hid (Kept W3 _ _ _) := Lib.hid (by rw [← hW3]; first | exact Ks.out | exact Ks.out.alloc _)
  have Kt : Hid (Kept W3 _ _ _) := Lib.hid (by rw [← hW3]; first | exact Kt.out | exact Kt.out.alloc _)
  have BB : Hid (Below w.heap.size w W3) := Lib.hid (by rw [← hW3]; exact BB.out.alloc BB.out.size _)
  have HW3 := Lib.hid hW3
  clear hW3
  go_wp2
  rw [HW3.out]
  obtain ⟨a_1, a_2, a_3, a_4, a_5⟩ := Ka.out.two
  obtain ⟨s_1, s_2, s_3, s_4, s_5⟩ := Ks.out.two
  obtain ⟨t_1, t_2, t_3, t_4, t_5⟩ := Kt.out.two
  go_region_held3 (fun W' => W'.cell? ⟨w.heap.size, 0, none⟩ = some (.int .i64 a1) ∧ W'.cell? ⟨w.heap.size, 1, none⟩ = some (.int .i64 a2) ∧ W'.cell? ⟨w2.heap.size, 0, none⟩ = some (.int .i64 s1) ∧ W'.cell? ⟨w2.heap.size, 1, none⟩ = some (.int .i64 s2) ∧ W'.cell? ⟨w3.heap.size, 0, none⟩ = some (.int .i64 a1) ∧ W'.cell? ⟨w3.heap.size, 1, none⟩ = some (.int .i64 a2))
    (first | exact ⟨a_1, a_2, s_1, s_2, t_1, t_2⟩ | go_keep)
    (first | (go_at_call_of 19 (Value.agg #[Value.int IntKind.i64 s1, Value.int IntKind.i64 s2]); refine (Cw1.out _).mono ?_; rintro ee w4 ⟨rfl, hb⟩; have Ka : Hid (Kept w4 _ _ _) := Lib.hid (by first | exact Ka.out.next hb | exact (Ka.out.drewN 1).next hb); have Kb : Hid (Kept w4 _ _ _) := Lib.hid (by first | exact Kb.out.next hb | exact (Kb.out.drewN 1).next hb); have Kc : Hid (Kept w4 _ _ _) := Lib.hid (by first | exact Kc.out.next hb | exact (Kc.out.drewN 1).next hb); have Ks : Hid (Kept w4 _ _ _) := Lib.hid (by first | exact Ks.out.next hb | exact (Ks.out.drewN 1).next hb); have Kt : Hid (Kept w4 _ _ _) := Lib.hid (by first | exact Kt.out.next hb | exact (Kt.out.drewN 1).next hb); have BB : Hid (Below w.heap.size w w4) := Lib.hid (by first | exact bnext BB.out BB.out.size hb | exact bnext (below_drewN BB.out 1) BB.out.size hb); obtain ⟨a_1, a_2, a_3, a_4, a_5⟩ := Ka.out.two; obtain ⟨s_1, s_2, s_3, s_4, s_5⟩ := Ks.out.two; obtain ⟨t_1, t_2, t_3, t_4, t_5⟩ := Kt.out.two) | (go_at_call_of 19 (Value.agg #[Value.int IntKind.i64 a1, Value.int IntKind.i64 a2]); refine (Cw2.out _).mono ?_; rintro ee w4 ⟨rfl, hb⟩; have Ka : Hid (Kept w4 _ _ _) := Lib.hid (by first | exact Ka.out.next hb | exact (Ka.out.drewN 1).next hb); have Kb : Hid (Kept w4 _ _ _) := Lib.hid (by first | exact Kb.out.next hb | exact (Kb.out.drewN 1).next hb); have Kc : Hid (Kept w4 _ _ _) := Lib.hid (by first | exact Kc.out.next hb | exact (Kc.out.drewN 1).next hb); have Ks : Hid (Kept w4 _ _ _) := Lib.hid (by first | exact Ks.out.next hb | exact (Ks.out.drewN 1).next hb); have Kt : Hid (Kept w4 _ _ _) := Lib.hid (by first | exact Kt.out.next hb | exact (Kt.out.drewN 1).next hb); have BB : Hid (Below w.heap.size w w4) := Lib.hid (by first | exact bnext BB.out BB.out.size hb | exact bnext (below_drewN BB.out 1) BB.out.size hb); obtain ⟨a_1, a_2, a_3, a_4, a_5⟩ := Ka.out.two; obtain ⟨s_1, s_2, s_3, s_4, s_5⟩ := Ks.out.two; obtain ⟨t_1, t_2, t_3, t_4, t_5⟩ := Kt.out.two))
  all_goals
    clear a_1 a_2 a_3 a_4 a_5 s_1 s_2 s_3 s_4 s_5 t_1 t_2 t_3 t_4 t_5
    obtain ⟨a_1, a_2, a_3, a_4, a_5⟩ := Ka.out.two
    obtain ⟨b_1, b_2, b_3, b_4, b_5⟩ := Kb.out.two
    obtain ⟨c_1, c_2, c_3, c_4, c_5⟩ := Kc.out.two
    go_wp2_with fail
    refine (Cm1.out.at_ _ _ (by exact Kept.new (by simp))).mono ?_
    rintro ee w4 ⟨rfl, hb⟩
    clear a_1 a_2 a_3 a_4 a_5
    clear b_1 b_2 b_3 b_4 b_5
    clear c_1 c_2 c_3 c_4 c_5
    have Ka : Hid (Kept w4 _ _ _) := Lib.hid (by first | exact Ka.out.next hb | exact (Ka.out.alloc _).next hb | exact ((Ka.out.alloc _).alloc _).next hb)
    have Kb : Hid (Kept w4 _ _ _) := Lib.hid (by first | exact Kb.out.next hb | exact (Kb.out.alloc _).next hb | exact ((Kb.out.alloc _).alloc _).next hb)
    have Kc : Hid (Kept w4 _ _ _) := Lib.hid (by first | exact Kc.out.next hb | exact (Kc.out.alloc _).next hb | exact ((Kc.out.alloc _).alloc _).next hb)
    have BB : Hid (Below w.heap.size w w4) := Lib.hid (by first | exact bnext BB.out BB.out.size hb | exact bnext (BB.out.alloc BB.out.size _) (by have := BB.out.size; simp; omega) hb | exact bnext ((BB.out.alloc BB.out.size _).alloc (by have := BB.out.size; simp; omega) _) (by have := BB.out.size; simp; omega) hb)
    clear hb
    have Km : Hid (Kept (w4.alloc (.cells #[.int .i64 m1, .int .i64 m2] 23)) w4.heap.size #[.int .i64 m1, .int .i64 m2] 23) := Lib.hid (Kept.new rfl)
    obtain ⟨a_1, a_2, a_3, a_4, a_5⟩ := Ka.out.two
    obtain ⟨b_1, b_2, b_3, b_4, b_5⟩ := Kb.out.two
    obtain ⟨c_1, c_2, c_3, c_4, c_5⟩ := Kc.out.two
    go_wp2_with fail
    refine (Cm2.out.at_ _ _ (by exact Kept.new (by simp))).mono ?_
    rintro ee w5 ⟨rfl, hb⟩
    clear a_1 a_2 a_3 a_4 a_5
    clear b_1 b_2 b_3 b_4 b_5
    clear c_1 c_2 c_3 c_4 c_5
    have Ka : Hid (Kept w5 _ _ _) := Lib.hid (by first | exact Ka.out.next hb | exact (Ka.out.alloc _).next hb | exact ((Ka.out.alloc _).alloc _).next hb)
    have Kb : Hid (Kept w5 _ _ _) := Lib.hid (by first | exact Kb.out.next hb | exact (Kb.out.alloc _).next hb | exact ((Kb.out.alloc _).alloc _).next hb)
    have Kc : Hid (Kept w5 _ _ _) := Lib.hid (by first | exact Kc.out.next hb | exact (Kc.out.alloc _).next hb | exact ((Kc.out.alloc _).alloc _).next hb)
    have Km : Hid (Kept w5 _ _ _) := Lib.hid (by first | exact Km.out.next hb | exact (Km.out.alloc _).next hb | exact ((Km.out.alloc _).alloc _).next hb)
    have BB : Hid (Below w.heap.size w w5) := Lib.hid (by first | exact bnext BB.out BB.out.size hb | exact bnext (BB.out.alloc BB.out.size _) (by have := BB.out.size; simp; omega) hb | exact bnext ((BB.out.alloc BB.out.size _).alloc (by have := BB.out.size; simp; omega) _) (by have := BB.out.size; simp; omega) hb)
    clear hb
    have Kn : Hid (Kept (w5.alloc (.cells #[.int .i64 m1, .int .i64 m2] 23)) w5.heap.size #[.int .i64 m1, .int .i64 m2] 23) := Lib.hid (Kept.new rfl)
    obtain ⟨a_1, a_2, a_3, a_4, a_5⟩ := Ka.out.two
    obtain ⟨b_1, b_2, b_3, b_4, b_5⟩ := Kb.out.two
    obtain ⟨c_1, c_2, c_3, c_4, c_5⟩ := Kc.out.two
    go_wp2_with fail
    refine (Ch1.out.at_ _ _ (by exact Kept.new (by simp))).mono ?_
    rintro ee w6 ⟨rfl, hb⟩
    clear a_1 a_2 a_3 a_4 a_5
    clear b_1 b_2 b_3 b_4 b_5
    clear c_1 c_2 c_3 c_4 c_5
    have Ka : Hid (Kept w6 _ _ _) := Lib.hid (by first | exact Ka.out.next hb | exact (Ka.out.alloc _).next hb | exact ((Ka.out.alloc _).alloc _).next hb)
    have Kb : Hid (Kept w6 _ _ _) := Lib.hid (by first | exact Kb.out.next hb | exact (Kb.out.alloc _).next hb | exact ((Kb.out.alloc _).alloc _).next hb)
    have Kc : Hid (Kept w6 _ _ _) := Lib.hid (by first | exact Kc.out.next hb | exact (Kc.out.alloc _).next hb | exact ((Kc.out.alloc _).alloc _).next hb)
    have Km : Hid (Kept w6 _ _ _) := Lib.hid (by first | exact Km.out.next hb | exact (Km.out.alloc _).next hb | exact ((Km.out.alloc _).alloc _).next hb)
    have Kn : Hid (Kept w6 _ _ _) := Lib.hid (by first | exact Kn.out.next hb | exact (Kn.out.alloc _).next hb | exact ((Kn.out.alloc _).alloc _).next hb)
    have BB : Hid (Below w.heap.size w w6) := Lib.hid (by first | exact bnext BB.out BB.out.size hb | exact bnext (BB.out.alloc BB.out.size _) (by have := BB.out.size; simp; omega) hb | exact bnext ((BB.out.alloc BB.out.size _).alloc (by have := BB.out.size; simp; omega) _) (by have := BB.out.size; simp; omega) hb)
    clear hb
    have Kx : Hid (Kept (w6.alloc (.cells #[.int .i64 x1, .int .i64 x2] 23)) w6.heap.size #[.int .i64 x1, .int .i64 x2] 23) := Lib.hid (Kept.new rfl)
    obtain ⟨a_1, a_2, a_3, a_4, a_5⟩ := Ka.out.two
    obtain ⟨b_1, b_2, b_3, b_4, b_5⟩ := Kb.out.two
    obtain ⟨c_1, c_2, c_3, c_4, c_5⟩ := Kc.out.two
    go_wp2_with fail
    refine (Ch2.out.at_ _ _ (by exact Kept.new (by simp))).mono ?_
    rintro ee w7 ⟨rfl, hb⟩
    clear a_1 a_2 a_3 a_4 a_5
    clear b_1 b_2 b_3 b_4 b_5
    clear c_1 c_2 c_3 c_4 c_5
    have Ka : Hid (Kept w7 _ _ _) := Lib.hid (by first | exact Ka.out.next hb | exact (Ka.out.alloc _).next hb | exact ((Ka.out.alloc _).alloc _).next hb)
    have Kb : Hid (Kept w7 _ _ _) := Lib.hid (by first | exact Kb.out.next hb | exact (Kb.out.alloc _).next hb | exact ((Kb.out.alloc _).alloc _).next hb)
    have Kc : Hid (Kept w7 _ _ _) := Lib.hid (by first | exact Kc.out.next hb | exact (Kc.out.alloc _).next hb | exact ((Kc.out.alloc _).alloc _).next hb)
    have Km : Hid (Kept w7 _ _ _) := Lib.hid (by first | exact Km.out.next hb | exact (Km.out.alloc _).next hb | exact ((Km.out.alloc _).alloc _).next hb)
    have Kn : Hid (Kept w7 _ _ _) := Lib.hid (by first | exact Kn.out.next hb | exact (Kn.out.alloc _).next hb | exact ((Kn.out.alloc _).alloc _).next hb)
    have Kx : Hid (Kept w7 _ _ _) := Lib.hid (by first | exact Kx.out.next hb | exact (Kx.out.alloc _).next hb | exact ((Kx.out.alloc _).alloc _).next hb)
    have BB : Hid (Below w.heap.size w w7) := Lib.hid (by first | exact bnext BB.out BB.out.size hb | exact bnext (BB.out.alloc BB.out.size _) (by have := BB.out.size; simp; omega) hb | exact bnext ((BB.out.alloc BB.out.size _).alloc (by have := BB.out.size; simp; omega) _) (by have := BB.out.size; simp; omega) hb)
    clear hb
    have Ky : Hid (Kept (w7.alloc (.cells #[.int .i64 x1, .int .i64 x2] 23)) w7.heap.size #[.int .i64 x1, .int .i64 x2] 23) := Lib.hid (Kept.new rfl)
    obtain ⟨m_1, m_2, m_3, m_4, m_5⟩ := Km.out.two
    obtain ⟨n_1, n_2, n_3, n_4, n_5⟩ := Kn.out.two
    obtain ⟨x_1, x_2, x_3, x_4, x_5⟩ := Kx.out.two
    obtain ⟨y_1, y_2, y_3, y_4, y_5⟩ := Ky.out.two
    go_wp2
    go_ret
    exact ⟨rfl, by first | exact BB.out | exact BB.out.alloc BB.out.size _⟩

set_option maxHeartbeats 8000000 in
set_option maxRecDepth 100000 in
theorem gb_ok_good (a1 a2 b1 b2 c1 c2 d s1 s2 e wd m1 m2 g x1 x2 i p1 p2 : Int) (w : World)
    (Cs : Hid (∀ W, Calls Try.prog 9 #[.agg #[.int .i64 a1, .int .i64 a2], .int .i64 d] W (Gives (.tuple #[.agg #[.int .i64 s1, .int .i64 s2], .int .i64 e]) W)))
    (d1 : (e == 0) = true)
    (d2 : -9223372036854775808 < d)
    (d2' : d ≤ 9223372036854775807)
    (Ct : Hid (∀ W, Calls Try.prog 9 #[.agg #[.int .i64 s1, .int .i64 s2], .int .i64 (-d)] W (Gives (.tuple #[.agg #[.int .i64 a1, .int .i64 a2], .int .i64 0]) W)))
    (Cw1 : Hid (∀ W, Calls Try.prog 19 #[.agg #[.int .i64 s1, .int .i64 s2]] W (Gives (.int .u64 wd) W)))
    (Cw2 : Hid (∀ W, Calls Try.prog 19 #[.agg #[.int .i64 a1, .int .i64 a2]] W (Gives (.int .u64 wd) W)))
    (Cm1 : Hid (On 20 3 #[.int .i64 a1, .int .i64 a2, .int .i64 b1, .int .i64 b2, .int .i64 c1, .int .i64 c2] m1 m2 g))
    (Cm2 : Hid (On 20 3 #[.int .i64 c1, .int .i64 c2, .int .i64 b1, .int .i64 b2, .int .i64 a1, .int .i64 a2] m1 m2 g))
    (Ch1 : Hid (On 21 3 #[.int .i64 a1, .int .i64 a2, .int .i64 b1, .int .i64 b2, .int .i64 c1, .int .i64 c2] x1 x2 i))
    (Ch2 : Hid (On 21 3 #[.int .i64 b1, .int .i64 b2, .int .i64 c1, .int .i64 c2, .int .i64 a1, .int .i64 a2] x1 x2 i))
    (d3 : (g != 0) = false)
    (Cp : Hid (On 20 2 #[.int .i64 a1, .int .i64 a2, .int .i64 b1, .int .i64 b2] p1 p2 0))
    (Cq : Hid (On 20 2 #[.int .i64 p1, .int .i64 p2, .int .i64 c1, .int .i64 c2] m1 m2 0))
    (Cx : Hid (∀ W, Calls Try.prog 18 #[.agg #[.int .i64 m1, .int .i64 m2], .agg #[.int .i64 x1, .int .i64 x2]] W (Gives (.bool true) W))) :
    Calls Try.prog 6 #[.agg #[.int .i64 a1, .int .i64 a2], .agg #[.int .i64 b1, .int .i64 b2], .agg #[.int .i64 c1, .int .i64 c2], .int .i64 d] w fun e w' => e = .returned (.bool true) ∧ Below w.heap.size w w' := by
  obtain ⟨w0, hW⟩ : ∃ W, ((w.alloc (.cells #[.int .i64 a1, .int .i64 a2] 23)).alloc (.cells #[.int .i64 b1, .int .i64 b2] 23)).alloc (.cells #[.int .i64 c1, .int .i64 c2] 23) = W := ⟨_, rfl⟩
  have Ka : Hid (Kept w0 w.heap.size #[.int .i64 a1, .int .i64 a2] 23) := Lib.hid (by rw [← hW]; exact ((Kept.new rfl).alloc _).alloc _)
  have Kb : Hid (Kept w0 (w.heap.size + 1) #[.int .i64 b1, .int .i64 b2] 23) := Lib.hid (by rw [← hW]; exact (Kept.new (by simp)).alloc _)
  have Kc : Hid (Kept w0 (w.heap.size + 1 + 1) #[.int .i64 c1, .int .i64 c2] 23) := Lib.hid (by rw [← hW]; exact Kept.new (by simp))
  have BB : Hid (Below w.heap.size w w0) := Lib.hid (by rw [← hW]; exact ((one_alloc _ _).alloc (by simp) _).alloc (by simp; omega) _)
  have HW := Lib.hid hW
  clear hW
  go_enter Try.func6, Try.ntmps6
  go_wp2_with fail
  rw [HW.out]
  refine (alive_any _).mono ?_
  rintro ee w1 ⟨rfl, hb⟩
  have Ka : Hid (Kept w1 _ _ _) := Lib.hid (by first | exact Ka.out.next hb | exact (Ka.out.alloc _).next hb | exact ((Ka.out.alloc _).alloc _).next hb)
  have Kb : Hid (Kept w1 _ _ _) := Lib.hid (by first | exact Kb.out.next hb | exact (Kb.out.alloc _).next hb | exact ((Kb.out.alloc _).alloc _).next hb)
  have Kc : Hid (Kept w1 _ _ _) := Lib.hid (by first | exact Kc.out.next hb | exact (Kc.out.alloc _).next hb | exact ((Kc.out.alloc _).alloc _).next hb)
  have BB : Hid (Below w.heap.size w w1) := Lib.hid (by first | exact bnext BB.out BB.out.size hb | exact bnext (BB.out.alloc BB.out.size _) (by have := BB.out.size; simp; omega) hb | exact bnext ((BB.out.alloc BB.out.size _).alloc (by have := BB.out.size; simp; omega) _) (by have := BB.out.size; simp; omega) hb)
  clear hb
  obtain ⟨a_1, a_2, a_3, a_4, a_5⟩ := Ka.out.two
  go_wp2_with fail
  refine (Cs.out _).mono ?_
  rintro ee w2 ⟨rfl, hb⟩
  clear a_1 a_2 a_3 a_4 a_5
  have Ka : Hid (Kept w2 _ _ _) := Lib.hid (by first | exact Ka.out.next hb | exact (Ka.out.alloc _).next hb | exact ((Ka.out.alloc _).alloc _).next hb)
  have Kb : Hid (Kept w2 _ _ _) := Lib.hid (by first | exact Kb.out.next hb | exact (Kb.out.alloc _).next hb | exact ((Kb.out.alloc _).alloc _).next hb)
  have Kc : Hid (Kept w2 _ _ _) := Lib.hid (by first | exact Kc.out.next hb | exact (Kc.out.alloc _).next hb | exact ((Kc.out.alloc _).alloc _).next hb)
  have BB : Hid (Below w.heap.size w w2) := Lib.hid (by first | exact bnext BB.out BB.out.size hb | exact bnext (BB.out.alloc BB.out.size _) (by have := BB.out.size; simp; omega) hb | exact bnext ((BB.out.alloc BB.out.size _).alloc (by have := BB.out.size; simp; omega) _) (by have := BB.out.size; simp; omega) hb)
  clear hb
  have Ks : Hid (Kept (w2.alloc (.cells #[.int .i64 s1, .int .i64 s2] 23)) w2.heap.size #[.int .i64 s1, .int .i64 s2] 23) := Lib.hid (Kept.new rfl)
  obtain ⟨s_1, s_2, s_3, s_4, s_5⟩ := Ks.out.two
  go_wp2_with fail
  refine (Ct.out _).mono ?_
  rintro ee w3 ⟨rfl, hb⟩
  clear s_1 s_2 s_3 s_4 s_5
  have Ka : Hid (Kept w3 _ _ _) := Lib.hid (by first | exact Ka.out.next hb | exact (Ka.out.alloc _).next hb | exact ((Ka.out.alloc _).alloc _).next hb)
  have Kb : Hid (Kept w3 _ _ _) := Lib.hid (by first | exact Kb.out.next hb | exact (Kb.out.alloc _).next hb | exact ((Kb.out.alloc _).alloc _).next hb)
  have Kc : Hid (Kept w3 _ _ _) := Lib.hid (by first | exact Kc.out.next hb | exact (Kc.out.alloc _).next hb | exact ((Kc.out.alloc _).alloc _).next hb)
  have Ks : Hid (Kept w3 _ _ _) := Lib.hid (by first | exact Ks.out.next hb | exact (Ks.out.alloc _).next hb | exact ((Ks.out.alloc _).alloc _).next hb)
  have BB : Hid (Below w.heap.size w w3) := Lib.hid (by first | exact bnext BB.out BB.out.size hb | exact bnext (BB.out.alloc BB.out.size _) (by have := BB.out.size; simp; omega) hb | exact bnext ((BB.out.alloc BB.out.size _).alloc (by have := BB.out.size; simp; omega) _) (by have := BB.out.size; simp; omega) hb)
  clear hb
  have Kt : Hid (Kept (w3.alloc (.cells #[.int .i64 a1, .int .i64 a2] 23)) w3.heap.size #[.int .i64 a1, .int .i64 a2] 23) := Lib.hid (Kept.new rfl)
  obtain ⟨W3, hW3⟩ : ∃ W, w3.alloc (.cells #[.int .i64 a1, .int .i64 a2] 23) = W := ⟨_, rfl⟩
  have Ka : Hid (Kept W3 _ _ _) := Lib.hid (by rw [← hW3]; first | exact Ka.out | exact Ka.out.alloc _)
  have Kb : Hid (Kept W3 _ _ _) := Lib.hid (by rw [← hW3]; first | exact Kb.out | exact Kb.out.alloc _)
  have Kc : Hid (Kept W3 _ _ _) := Lib.hid (by rw [← hW3]; first | exact Kc.out | exact Kc.out.alloc _)
  have Ks : Hid (Kept W3 _ _ _) := Lib.hid (by rw [← hW3]; first | exact Ks.out | exact Ks.out.alloc _)
  have Kt : Hid (Kept W3 _ _ _) := Lib.hid (by rw [← hW3]; first | exact Kt.out | exact Kt.out.alloc _)
  have BB : Hid (Below w.heap.size w W3) := Lib.hid (by rw [← hW3]; exact BB.out.alloc BB.out.size _)
  have HW3 := Lib.hid hW3
  clear hW3
  go_wp2
  rw [HW3.out]
  obtain ⟨a_1, a_2, a_3, a_4, a_5⟩ := Ka.out.two
  obtain ⟨s_1, s_2, s_3, s_4, s_5⟩ := Ks.out.two
  obtain ⟨t_1, t_2, t_3, t_4, t_5⟩ := Kt.out.two
  go_region_held3 (fun W' => W'.cell? ⟨w.heap.size, 0, none⟩ = some (.int .i64 a1) ∧ W'.cell? ⟨w.heap.size, 1, none⟩ = some (.int .i64 a2) ∧ W'.cell? ⟨w2.heap.size, 0, none⟩ = some (.int .i64 s1) ∧ W'.cell? ⟨w2.heap.size, 1, none⟩ = some (.int .i64 s2) ∧ W'.cell? ⟨w3.heap.size, 0, none⟩ = some (.int .i64 a1) ∧ W'.cell? ⟨w3.heap.size, 1, none⟩ = some (.int .i64 a2))
    (first | exact ⟨a_1, a_2, s_1, s_2, t_1, t_2⟩ | go_keep)
    (first | (go_at_call_of 19 (Value.agg #[Value.int IntKind.i64 s1, Value.int IntKind.i64 s2]); refine (Cw1.out _).mono ?_; rintro ee w4 ⟨rfl, hb⟩; have Ka : Hid (Kept w4 _ _ _) := Lib.hid (by first | exact Ka.out.next hb | exact (Ka.out.drewN 1).next hb); have Kb : Hid (Kept w4 _ _ _) := Lib.hid (by first | exact Kb.out.next hb | exact (Kb.out.drewN 1).next hb); have Kc : Hid (Kept w4 _ _ _) := Lib.hid (by first | exact Kc.out.next hb | exact (Kc.out.drewN 1).next hb); have Ks : Hid (Kept w4 _ _ _) := Lib.hid (by first | exact Ks.out.next hb | exact (Ks.out.drewN 1).next hb); have Kt : Hid (Kept w4 _ _ _) := Lib.hid (by first | exact Kt.out.next hb | exact (Kt.out.drewN 1).next hb); have BB : Hid (Below w.heap.size w w4) := Lib.hid (by first | exact bnext BB.out BB.out.size hb | exact bnext (below_drewN BB.out 1) BB.out.size hb); obtain ⟨a_1, a_2, a_3, a_4, a_5⟩ := Ka.out.two; obtain ⟨s_1, s_2, s_3, s_4, s_5⟩ := Ks.out.two; obtain ⟨t_1, t_2, t_3, t_4, t_5⟩ := Kt.out.two) | (go_at_call_of 19 (Value.agg #[Value.int IntKind.i64 a1, Value.int IntKind.i64 a2]); refine (Cw2.out _).mono ?_; rintro ee w4 ⟨rfl, hb⟩; have Ka : Hid (Kept w4 _ _ _) := Lib.hid (by first | exact Ka.out.next hb | exact (Ka.out.drewN 1).next hb); have Kb : Hid (Kept w4 _ _ _) := Lib.hid (by first | exact Kb.out.next hb | exact (Kb.out.drewN 1).next hb); have Kc : Hid (Kept w4 _ _ _) := Lib.hid (by first | exact Kc.out.next hb | exact (Kc.out.drewN 1).next hb); have Ks : Hid (Kept w4 _ _ _) := Lib.hid (by first | exact Ks.out.next hb | exact (Ks.out.drewN 1).next hb); have Kt : Hid (Kept w4 _ _ _) := Lib.hid (by first | exact Kt.out.next hb | exact (Kt.out.drewN 1).next hb); have BB : Hid (Below w.heap.size w w4) := Lib.hid (by first | exact bnext BB.out BB.out.size hb | exact bnext (below_drewN BB.out 1) BB.out.size hb); obtain ⟨a_1, a_2, a_3, a_4, a_5⟩ := Ka.out.two; obtain ⟨s_1, s_2, s_3, s_4, s_5⟩ := Ks.out.two; obtain ⟨t_1, t_2, t_3, t_4, t_5⟩ := Kt.out.two))
  all_goals
    clear a_1 a_2 a_3 a_4 a_5 s_1 s_2 s_3 s_4 s_5 t_1 t_2 t_3 t_4 t_5
    obtain ⟨a_1, a_2, a_3, a_4, a_5⟩ := Ka.out.two
    obtain ⟨b_1, b_2, b_3, b_4, b_5⟩ := Kb.out.two
    obtain ⟨c_1, c_2, c_3, c_4, c_5⟩ := Kc.out.two
    go_wp2_with fail
    refine (Cm1.out.at_ _ _ (by exact Kept.new (by simp))).mono ?_
    rintro ee w4 ⟨rfl, hb⟩
    clear a_1 a_2 a_3 a_4 a_5
    clear b_1 b_2 b_3 b_4 b_5
    clear c_1 c_2 c_3 c_4 c_5
    have Ka : Hid (Kept w4 _ _ _) := Lib.hid (by first | exact Ka.out.next hb | exact (Ka.out.alloc _).next hb | exact ((Ka.out.alloc _).alloc _).next hb)
    have Kb : Hid (Kept w4 _ _ _) := Lib.hid (by first | exact Kb.out.next hb | exact (Kb.out.alloc _).next hb | exact ((Kb.out.alloc _).alloc _).next hb)
    have Kc : Hid (Kept w4 _ _ _) := Lib.hid (by first | exact Kc.out.next hb | exact (Kc.out.alloc _).next hb | exact ((Kc.out.alloc _).alloc _).next hb)
    have BB : Hid (Below w.heap.size w w4) := Lib.hid (by first | exact bnext BB.out BB.out.size hb | exact bnext (BB.out.alloc BB.out.size _) (by have := BB.out.size; simp; omega) hb | exact bnext ((BB.out.alloc BB.out.size _).alloc (by have := BB.out.size; simp; omega) _) (by have := BB.out.size; simp; omega) hb)
    clear hb
    have Km : Hid (Kept (w4.alloc (.cells #[.int .i64 m1, .int .i64 m2] 23)) w4.heap.size #[.int .i64 m1, .int .i64 m2] 23) := Lib.hid (Kept.new rfl)
    obtain ⟨a_1, a_2, a_3, a_4, a_5⟩ := Ka.out.two
    obtain ⟨b_1, b_2, b_3, b_4, b_5⟩ := Kb.out.two
    obtain ⟨c_1, c_2, c_3, c_4, c_5⟩ := Kc.out.two
    go_wp2_with fail
    refine (Cm2.out.at_ _ _ (by exact Kept.new (by simp))).mono ?_
    rintro ee w5 ⟨rfl, hb⟩
    clear a_1 a_2 a_3 a_4 a_5
    clear b_1 b_2 b_3 b_4 b_5
    clear c_1 c_2 c_3 c_4 c_5
    have Ka : Hid (Kept w5 _ _ _) := Lib.hid (by first | exact Ka.out.next hb | exact (Ka.out.alloc _).next hb | exact ((Ka.out.alloc _).alloc _).next hb)
    have Kb : Hid (Kept w5 _ _ _) := Lib.hid (by first | exact Kb.out.next hb | exact (Kb.out.alloc _).next hb | exact ((Kb.out.alloc _).alloc _).next hb)
    have Kc : Hid (Kept w5 _ _ _) := Lib.hid (by first | exact Kc.out.next hb | exact (Kc.out.alloc _).next hb | exact ((Kc.out.alloc _).alloc _).next hb)
    have Km : Hid (Kept w5 _ _ _) := Lib.hid (by first | exact Km.out.next hb | exact (Km.out.alloc _).next hb | exact ((Km.out.alloc _).alloc _).next hb)
    have BB : Hid (Below w.heap.size w w5) := Lib.hid (by first | exact bnext BB.out BB.out.size hb | exact bnext (BB.out.alloc BB.out.size _) (by have := BB.out.size; simp; omega) hb | exact bnext ((BB.out.alloc BB.out.size _).alloc (by have := BB.out.size; simp; omega) _) (by have := BB.out.size; simp; omega) hb)
    clear hb
    have Kn : Hid (Kept (w5.alloc (.cells #[.int .i64 m1, .int .i64 m2] 23)) w5.heap.size #[.int .i64 m1, .int .i64 m2] 23) := Lib.hid (Kept.new rfl)
    obtain ⟨a_1, a_2, a_3, a_4, a_5⟩ := Ka.out.two
    obtain ⟨b_1, b_2, b_3, b_4, b_5⟩ := Kb.out.two
    obtain ⟨c_1, c_2, c_3, c_4, c_5⟩ := Kc.out.two
    go_wp2_with fail
    refine (Ch1.out.at_ _ _ (by exact Kept.new (by simp))).mono ?_
    rintro ee w6 ⟨rfl, hb⟩
    clear a_1 a_2 a_3 a_4 a_5
    clear b_1 b_2 b_3 b_4 b_5
    clear c_1 c_2 c_3 c_4 c_5
    have Ka : Hid (Kept w6 _ _ _) := Lib.hid (by first | exact Ka.out.next hb | exact (Ka.out.alloc _).next hb | exact ((Ka.out.alloc _).alloc _).next hb)
    have Kb : Hid (Kept w6 _ _ _) := Lib.hid (by first | exact Kb.out.next hb | exact (Kb.out.alloc _).next hb | exact ((Kb.out.alloc _).alloc _).next hb)
    have Kc : Hid (Kept w6 _ _ _) := Lib.hid (by first | exact Kc.out.next hb | exact (Kc.out.alloc _).next hb | exact ((Kc.out.alloc _).alloc _).next hb)
    have Km : Hid (Kept w6 _ _ _) := Lib.hid (by first | exact Km.out.next hb | exact (Km.out.alloc _).next hb | exact ((Km.out.alloc _).alloc _).next hb)
    have Kn : Hid (Kept w6 _ _ _) := Lib.hid (by first | exact Kn.out.next hb | exact (Kn.out.alloc _).next hb | exact ((Kn.out.alloc _).alloc _).next hb)
    have BB : Hid (Below w.heap.size w w6) := Lib.hid (by first | exact bnext BB.out BB.out.size hb | exact bnext (BB.out.alloc BB.out.size _) (by have := BB.out.size; simp; omega) hb | exact bnext ((BB.out.alloc BB.out.size _).alloc (by have := BB.out.size; simp; omega) _) (by have := BB.out.size; simp; omega) hb)
    clear hb
    have Kx : Hid (Kept (w6.alloc (.cells #[.int .i64 x1, .int .i64 x2] 23)) w6.heap.size #[.int .i64 x1, .int .i64 x2] 23) := Lib.hid (Kept.new rfl)
    obtain ⟨a_1, a_2, a_3, a_4, a_5⟩ := Ka.out.two
    obtain ⟨b_1, b_2, b_3, b_4, b_5⟩ := Kb.out.two
    obtain ⟨c_1, c_2, c_3, c_4, c_5⟩ := Kc.out.two
    go_wp2_with fail
    refine (Ch2.out.at_ _ _ (by exact Kept.new (by simp))).mono ?_
    rintro ee w7 ⟨rfl, hb⟩
    clear a_1 a_2 a_3 a_4 a_5
    clear b_1 b_2 b_3 b_4 b_5
    clear c_1 c_2 c_3 c_4 c_5
    have Ka : Hid (Kept w7 _ _ _) := Lib.hid (by first | exact Ka.out.next hb | exact (Ka.out.alloc _).next hb | exact ((Ka.out.alloc _).alloc _).next hb)
    have Kb : Hid (Kept w7 _ _ _) := Lib.hid (by first | exact Kb.out.next hb | exact (Kb.out.alloc _).next hb | exact ((Kb.out.alloc _).alloc _).next hb)
    have Kc : Hid (Kept w7 _ _ _) := Lib.hid (by first | exact Kc.out.next hb | exact (Kc.out.alloc _).next hb | exact ((Kc.out.alloc _).alloc _).next hb)
    have Km : Hid (Kept w7 _ _ _) := Lib.hid (by first | exact Km.out.next hb | exact (Km.out.alloc _).next hb | exact ((Km.out.alloc _).alloc _).next hb)
    have Kn : Hid (Kept w7 _ _ _) := Lib.hid (by first | exact Kn.out.next hb | exact (Kn.out.alloc _).next hb | exact ((Kn.out.alloc _).alloc _).next hb)
    have Kx : Hid (Kept w7 _ _ _) := Lib.hid (by first | exact Kx.out.next hb | exact (Kx.out.alloc _).next hb | exact ((Kx.out.alloc _).alloc _).next hb)
    have BB : Hid (Below w.heap.size w w7) := Lib.hid (by first | exact bnext BB.out BB.out.size hb | exact bnext (BB.out.alloc BB.out.size _) (by have := BB.out.size; simp; omega) hb | exact bnext ((BB.out.alloc BB.out.size _).alloc (by have := BB.out.size; simp; omega) _) (by have := BB.out.size; simp; omega) hb)
    clear hb
    have Ky : Hid (Kept (w7.alloc (.cells #[.int .i64 x1, .int .i64 x2] 23)) w7.heap.size #[.int .i64 x1, .int .i64 x2] 23) := Lib.hid (Kept.new rfl)
    obtain ⟨m_1, m_2, m_3, m_4, m_5⟩ := Km.out.two
    obtain ⟨n_1, n_2, n_3, n_4, n_5⟩ := Kn.out.two
    obtain ⟨x_1, x_2, x_3, x_4, x_5⟩ := Kx.out.two
    obtain ⟨y_1, y_2, y_3, y_4, y_5⟩ := Ky.out.two
    obtain ⟨a_1, a_2, a_3, a_4, a_5⟩ := Ka.out.two
    obtain ⟨b_1, b_2, b_3, b_4, b_5⟩ := Kb.out.two
    go_wp2_with fail
    refine (Cp.out.at_ _ _ (by exact Kept.new (by simp))).mono ?_
    rintro ee w8 ⟨rfl, hb⟩
    clear a_1 a_2 a_3 a_4 a_5
    clear b_1 b_2 b_3 b_4 b_5
    have Ka : Hid (Kept w8 _ _ _) := Lib.hid (by first | exact Ka.out.next hb | exact (Ka.out.alloc _).next hb | exact ((Ka.out.alloc _).alloc _).next hb)
    have Kb : Hid (Kept w8 _ _ _) := Lib.hid (by first | exact Kb.out.next hb | exact (Kb.out.alloc _).next hb | exact ((Kb.out.alloc _).alloc _).next hb)
    have Kc : Hid (Kept w8 _ _ _) := Lib.hid (by first | exact Kc.out.next hb | exact (Kc.out.alloc _).next hb | exact ((Kc.out.alloc _).alloc _).next hb)
    have Km : Hid (Kept w8 _ _ _) := Lib.hid (by first | exact Km.out.next hb | exact (Km.out.alloc _).next hb | exact ((Km.out.alloc _).alloc _).next hb)
    have Kn : Hid (Kept w8 _ _ _) := Lib.hid (by first | exact Kn.out.next hb | exact (Kn.out.alloc _).next hb | exact ((Kn.out.alloc _).alloc _).next hb)
    have Kx : Hid (Kept w8 _ _ _) := Lib.hid (by first | exact Kx.out.next hb | exact (Kx.out.alloc _).next hb | exact ((Kx.out.alloc _).alloc _).next hb)
    have Ky : Hid (Kept w8 _ _ _) := Lib.hid (by first | exact Ky.out.next hb | exact (Ky.out.alloc _).next hb | exact ((Ky.out.alloc _).alloc _).next hb)
    have BB : Hid (Below w.heap.size w w8) := Lib.hid (by first | exact bnext BB.out BB.out.size hb | exact bnext (BB.out.alloc BB.out.size _) (by have := BB.out.size; simp; omega) hb | exact bnext ((BB.out.alloc BB.out.size _).alloc (by have := BB.out.size; simp; omega) _) (by have := BB.out.size; simp; omega) hb)
    clear hb
    have Kp : Hid (Kept (w8.alloc (.cells #[.int .i64 p1, .int .i64 p2] 23)) w8.heap.size #[.int .i64 p1, .int .i64 p2] 23) := Lib.hid (Kept.new rfl)
    obtain ⟨p_1, p_2, p_3, p_4, p_5⟩ := Kp.out.two
    obtain ⟨c_1, c_2, c_3, c_4, c_5⟩ := Kc.out.two
    go_wp2_with fail
    refine (Cq.out.at_ _ _ (by exact Kept.new (by simp))).mono ?_
    rintro ee w9 ⟨rfl, hb⟩
    clear p_1 p_2 p_3 p_4 p_5
    clear c_1 c_2 c_3 c_4 c_5
    have Ka : Hid (Kept w9 _ _ _) := Lib.hid (by first | exact Ka.out.next hb | exact (Ka.out.alloc _).next hb | exact ((Ka.out.alloc _).alloc _).next hb)
    have Kb : Hid (Kept w9 _ _ _) := Lib.hid (by first | exact Kb.out.next hb | exact (Kb.out.alloc _).next hb | exact ((Kb.out.alloc _).alloc _).next hb)
    have Kc : Hid (Kept w9 _ _ _) := Lib.hid (by first | exact Kc.out.next hb | exact (Kc.out.alloc _).next hb | exact ((Kc.out.alloc _).alloc _).next hb)
    have Km : Hid (Kept w9 _ _ _) := Lib.hid (by first | exact Km.out.next hb | exact (Km.out.alloc _).next hb | exact ((Km.out.alloc _).alloc _).next hb)
    have Kn : Hid (Kept w9 _ _ _) := Lib.hid (by first | exact Kn.out.next hb | exact (Kn.out.alloc _).next hb | exact ((Kn.out.alloc _).alloc _).next hb)
    have Kx : Hid (Kept w9 _ _ _) := Lib.hid (by first | exact Kx.out.next hb | exact (Kx.out.alloc _).next hb | exact ((Kx.out.alloc _).alloc _).next hb)
    have Ky : Hid (Kept w9 _ _ _) := Lib.hid (by first | exact Ky.out.next hb | exact (Ky.out.alloc _).next hb | exact ((Ky.out.alloc _).alloc _).next hb)
    have Kp : Hid (Kept w9 _ _ _) := Lib.hid (by first | exact Kp.out.next hb | exact (Kp.out.alloc _).next hb | exact ((Kp.out.alloc _).alloc _).next hb)
    have BB : Hid (Below w.heap.size w w9) := Lib.hid (by first | exact bnext BB.out BB.out.size hb | exact bnext (BB.out.alloc BB.out.size _) (by have := BB.out.size; simp; omega) hb | exact bnext ((BB.out.alloc BB.out.size _).alloc (by have := BB.out.size; simp; omega) _) (by have := BB.out.size; simp; omega) hb)
    clear hb
    have Kq : Hid (Kept (w9.alloc (.cells #[.int .i64 m1, .int .i64 m2] 23)) w9.heap.size #[.int .i64 m1, .int .i64 m2] 23) := Lib.hid (Kept.new rfl)
    obtain ⟨q_1, q_2, q_3, q_4, q_5⟩ := Kq.out.two
    obtain ⟨m_1, m_2, m_3, m_4, m_5⟩ := Km.out.two
    obtain ⟨x_1, x_2, x_3, x_4, x_5⟩ := Kx.out.two
    go_wp2_with fail
    refine (Cx.out _).mono ?_
    rintro ee w10 ⟨rfl, hb⟩
    clear q_1 q_2 q_3 q_4 q_5
    clear m_1 m_2 m_3 m_4 m_5
    clear x_1 x_2 x_3 x_4 x_5
    have Ka : Hid (Kept w10 _ _ _) := Lib.hid (by first | exact Ka.out.next hb | exact (Ka.out.alloc _).next hb | exact ((Ka.out.alloc _).alloc _).next hb)
    have Kb : Hid (Kept w10 _ _ _) := Lib.hid (by first | exact Kb.out.next hb | exact (Kb.out.alloc _).next hb | exact ((Kb.out.alloc _).alloc _).next hb)
    have Kc : Hid (Kept w10 _ _ _) := Lib.hid (by first | exact Kc.out.next hb | exact (Kc.out.alloc _).next hb | exact ((Kc.out.alloc _).alloc _).next hb)
    have Km : Hid (Kept w10 _ _ _) := Lib.hid (by first | exact Km.out.next hb | exact (Km.out.alloc _).next hb | exact ((Km.out.alloc _).alloc _).next hb)
    have Kn : Hid (Kept w10 _ _ _) := Lib.hid (by first | exact Kn.out.next hb | exact (Kn.out.alloc _).next hb | exact ((Kn.out.alloc _).alloc _).next hb)
    have Kx : Hid (Kept w10 _ _ _) := Lib.hid (by first | exact Kx.out.next hb | exact (Kx.out.alloc _).next hb | exact ((Kx.out.alloc _).alloc _).next hb)
    have Ky : Hid (Kept w10 _ _ _) := Lib.hid (by first | exact Ky.out.next hb | exact (Ky.out.alloc _).next hb | exact ((Ky.out.alloc _).alloc _).next hb)
    have Kp : Hid (Kept w10 _ _ _) := Lib.hid (by first | exact Kp.out.next hb | exact (Kp.out.alloc _).next hb | exact ((Kp.out.alloc _).alloc _).next hb)
    have Kq : Hid (Kept w10 _ _ _) := Lib.hid (by first | exact Kq.out.next hb | exact (Kq.out.alloc _).next hb | exact ((Kq.out.alloc _).alloc _).next hb)
    have BB : Hid (Below w.heap.size w w10) := Lib.hid (by first | exact bnext BB.out BB.out.size hb | exact bnext (BB.out.alloc BB.out.size _) (by have := BB.out.size; simp; omega) hb | exact bnext ((BB.out.alloc BB.out.size _).alloc (by have := BB.out.size; simp; omega) _) (by have := BB.out.size; simp; omega) hb)
    clear hb
    go_wp2
    go_ret
    exact ⟨rfl, BB.out⟩
end Go.Proofs.Ytahenediimoboaa
