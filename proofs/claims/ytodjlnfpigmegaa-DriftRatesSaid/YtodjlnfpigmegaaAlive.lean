/- noonmarklaw04.alive. -/
import Derived.Test.YtodjlnfpigmegaaDriftH
namespace Go.Proofs.Ytodjlnfpigmegaa
open Go.RowKit
set_option linter.unusedVariables false

theorem al_low (x r v e : Int) (w : World) (h1 : lowV x r = v) (h2 : lowE x r = e) : Calls Try.prog 7 #[.int .i64 x, .int .i64 r] w (Gives (.tuple #[.int .i64 v, .int .i64 e]) w) := by subst h1 h2; exact low_any x r w
theorem al_high (x r v e : Int) (w : World) (hx : InI x) (h1 : highV x r = v) (h2 : lowE x r = e) : Calls Try.prog 8 #[.int .i64 x, .int .i64 r] w (Gives (.tuple #[.int .i64 v, .int .i64 e]) w) := by subst h1 h2; exact high_any x r w hx
theorem al_slack (x r v e : Int) (w : World) (h1 : slackV x r = v) (h2 : slackE x r = e) : Calls Try.prog 9 #[.int .i64 x, .int .i64 r] w (Gives (.tuple #[.int .i64 v, .int .i64 e]) w) := by subst h1 h2; exact slack_any x r w
theorem pair_two {w : World} {g : Nat} {p q r s : Int} {T : TypeId} (h : Kept w g #[.int .i64 p, .int .i64 q, .int .i64 r, .int .i64 s] T) : PairRow w (some ⟨g, 0, none⟩) [(p, q), (r, s)] := fun j hj => by
  simp only [List.length_cons, List.length_nil] at hj
  have : j = 0 ∨ j = 1 := by omega
  rcases this with rfl | rfl
  · exact ⟨g, 0, rfl, (h.at_ 0).1, (h.at_ 1).1⟩
  · exact ⟨g, 0, rfl, (h.at_ 2).1, (h.at_ 3).1⟩
theorem al_least (g : Nat) (w : World) (h : Kept w g #[.int .i64 5, .int .i64 7, .int .i64 105, .int .i64 110] 30) : Calls Try.prog 11 #[.slice (some ⟨g, 0, none⟩) 2 2] w (Gives (.tuple #[.int .i64 20000, .bool true]) w) := by
  refine (least_any (some ⟨g, 0, none⟩) 2 [(5, 7), (105, 110)] w (pair_two h) (by simp) (by simp)).mono fun e w' hh => ?_
  obtain ⟨⟨v, ok, he, hc⟩, hb⟩ := hh
  have o1 : okAll 20000 [(5, 7), (105, 110)] := by decide +kernel
  have o2 : ¬ okAll 19999 [(5, 7), (105, 110)] := by decide +kernel
  have o3 : soundP [(5, 7), (105, 110)] := by decide +kernel
  rcases hc with ⟨rfl, hv⟩ | ⟨rfl, -, hv⟩
  · obtain ⟨-, v0, v1, v2, v3⟩ := hv.out
    have a1 : ¬ 20000 < v := fun hlt => v3 20000 (by omega) hlt o1
    have a2 : ¬ v < 20000 := fun hlt => o2 (ok_mono v2 (by omega))
    obtain rfl : v = 20000 := by omega
    exact ⟨he, hb⟩
  · exact absurd o1 (hv.out o3 20000 (by omega) (by omega))
theorem al_honest (r : Int) (b : Bool) (g : Nat) (w : World) (h : Kept w g #[.int .i64 5, .int .i64 7, .int .i64 105, .int .i64 110] 30) (hb : hon r [(5, 7), (105, 110)] = b) : Calls Try.prog 10 #[.int .i64 r, .slice (some ⟨g, 0, none⟩) 2 2] w (Gives (.bool b) w) := by
  subst hb
  exact honest_any (some ⟨g, 0, none⟩) 2 [(5, 7), (105, 110)] r w (pair_two h) (by simp) (by simp)
set_option maxHeartbeats 4000000 in
theorem alive_any (w : World) : Calls Try.prog 6 #[] w fun e w' => e = .returned (.bool true) ∧ Below w.heap.size w w' := by
  go_enter Try.func6, Try.ntmps6
  go_wp2_with fail
  refine (al_low 101 10000 100 0 _ (by decide +kernel) (by decide +kernel)).mono ?_
  rintro _ w1 ⟨rfl, hb1⟩
  have B1 := Lib.hid hb1
  go_wp2_with fail
  refine (al_high 0 10000 1 0 _ (by decide) (by decide +kernel) (by decide +kernel)).mono ?_
  rintro _ w2 ⟨rfl, hb2⟩
  have B2 := Lib.hid (bnext B1.out B1.out.size hb2)
  go_wp2_with fail
  refine (al_slack 100 10000 2 0 _ (by decide +kernel) (by decide +kernel)).mono ?_
  rintro _ w3 ⟨rfl, hb3⟩
  have B3 := Lib.hid (bnext B2.out B2.out.size hb3)
  go_wp2_with fail
  refine (al_low 1 100001 0 11 _ (by decide +kernel) (by decide +kernel)).mono ?_
  rintro _ w4 ⟨rfl, hb4⟩
  have B4 := Lib.hid (bnext B3.out B3.out.size hb4)
  clear hb1 hb2 hb3 hb4 B1 B2 B3
  go_wp2_with fail
  refine (al_least _ _ (by exact Kept.new (by simp))).mono ?_
  rintro _ w5 ⟨rfl, hb5⟩
  have B5 := Lib.hid (bnext (B4.out.alloc B4.out.size _) (by have := B4.out.size; simp; omega) hb5)
  clear hb5 B4
  go_wp2_with fail
  refine (al_honest 20000 true _ _ (by exact Kept.new (by simp)) (by decide +kernel)).mono ?_
  rintro _ w6 ⟨rfl, hb6⟩
  have B6 := Lib.hid (bnext (B5.out.alloc B5.out.size _) (by have := B5.out.size; simp; omega) hb6)
  clear hb6 B5
  go_wp2_with fail
  refine (al_honest 19999 false _ _ (by exact Kept.new (by simp)) (by decide +kernel)).mono ?_
  rintro _ w7 ⟨rfl, hb7⟩
  have B7 := Lib.hid (bnext (B6.out.alloc B6.out.size _) (by have := B6.out.size; simp; omega) hb7)
  clear hb7 B6
  go_wp2
  go_ret
  exact ⟨rfl, B7.out⟩
end Go.Proofs.Ytodjlnfpigmegaa
