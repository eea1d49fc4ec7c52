/- Alive of layer 17. -/
import Derived.Test.YtllkdohomkofhaaSwW
namespace Go.Proofs.Ytllkdohomkofhaa
open Go.RowKit
set_option linter.unusedVariables false

def La : List (Int × Int) := [(0, 5), (3, 9), (4, 4)]
def Lb : List (Int × Int) := [(1, 2), (3, 4)]
theorem votesLa (y : Int) : votes La y = (if 0 ≤ y ∧ y ≤ 5 then 1 else 0) + (if 3 ≤ y ∧ y ≤ 9 then 1 else 0) + (if 4 ≤ y ∧ y ≤ 4 then 1 else 0) := by
  unfold votes La hasB
  simp only [List.countP_cons, List.countP_nil, decide_eq_true_eq]
  omega
theorem bestLa : BestP La (4, 4) 3 := by
  refine .inr ⟨by decide, ?_, fun y => ?_, fun y hy => ?_, by decide, fun p hp h => ?_, (4, 4), by decide, by decide, rfl⟩
  · rw [votesLa]; decide
  · rw [votesLa]; (repeat' split) <;> omega
  · rw [votesLa]; dsimp only at hy; (repeat' split) <;> omega
  · have := hasB_iff.1 h
    omega
theorem inLa : ∀ p ∈ La, InP p := by
  intro p hp
  simp [La] at hp
  rcases hp with rfl | rfl | rfl <;> exact ⟨by unfold InI; decide, by unfold InI; decide⟩
theorem al_best (a : Option Addr) (w : World) (h : PairRow w a La) : Calls Try.prog 8 #[.slice a 3 3] w (Gives (.tuple #[.agg #[.int .i64 4, .int .i64 4], .int .i64 3]) w) :=
  (best_any a 3 La w h inLa (by decide)).mono fun e w' ⟨b, n, he, hP, hb⟩ => by
    obtain ⟨rfl, rfl⟩ := best_uniq hP.out bestLa
    exact ⟨he, hb⟩
theorem rightsLa : rights La = 3 := by decide
theorem al_w1 (a : Option Addr) (w : World) (h : PairRow w a La) : Calls Try.prog 11 #[.int .i64 1, .slice a 3 3] w (Gives (.tuple #[.agg #[.int .i64 3, .int .i64 5], .bool true]) w) :=
  (without_any a 3 La 1 w (by unfold InI; decide) h inLa (by decide)).mono fun e w' ⟨⟨⟨lo, hi⟩, ok⟩, he, hP, hb⟩ => by
    have hp := hP.out
    unfold WithP at hp
    rw [rightsLa] at hp
    rcases hp with ⟨h1, _⟩ | ⟨_, ⟨_, h1⟩ | ⟨h1, h2, h3, h4, h5⟩⟩
    · omega
    · have := h1 4
      rw [votesLa] at this
      exact absurd this (by decide)
    · dsimp only at h1 h2 h3 h4 h5
      subst h1
      rw [votesLa] at h2 h3
      have e1 : lo = 3 := by
        have h6 := h4 3
        rw [votesLa] at h6
        have : ¬ 3 < lo := fun hlt => absurd (h6 hlt) (by decide)
        (repeat' split at h2) <;> omega
      have e2 : hi = 5 := by
        have h6 := h5 5
        rw [votesLa] at h6
        have : ¬ hi < 5 := fun hlt => absurd (h6 hlt) (by decide)
        (repeat' split at h3) <;> omega
      subst e1 e2
      exact ⟨he, hb⟩
theorem al_w3 (a : Option Addr) (w : World) (h : PairRow w a La) : Calls Try.prog 11 #[.int .i64 3, .slice a 3 3] w (Gives (.tuple #[.agg #[.int .i64 0, .int .i64 0], .bool false]) w) :=
  (without_any a 3 La 3 w (by unfold InI; decide) h inLa (by decide)).mono fun e w' ⟨r, he, hP, hb⟩ => by
    have hp := hP.out
    unfold WithP at hp
    rw [rightsLa] at hp
    rcases hp with ⟨_, rfl⟩ | ⟨h1, _⟩
    · exact ⟨he, hb⟩
    · omega
theorem al_votes (a : Option Addr) (w : World) (h : PairRow w a La) : Calls Try.prog 13 #[.int .i64 3, .slice a 3 3] w (Gives (.int .i64 2) w) := by
  have h1 := votes_any 3 a 3 La w h (by decide)
  have e : votes La 3 = 2 := by rw [votesLa]; decide
  rw [e] at h1
  exact h1
theorem al_agree (a : Option Addr) (w : World) (h : PairRow w a La) : Calls Try.prog 15 #[.slice a 3 3] w (Gives (.bool true) w) := by
  have h1 := agree_any a 3 La w h (by decide)
  have e : agreeB La = true := by
    unfold agreeB
    have hall : allR La := fun j hj => by
      have : j = 0 ∨ j = 1 ∨ j = 2 := by simp [La] at hj; omega
      rcases this with rfl | rfl | rfl <;> decide
    rw [(comb_ok hall (by decide)).1]
    decide
  rw [e] at h1
  exact h1
theorem al_agree2 (a : Option Addr) (w : World) (h : PairRow w a Lb) : Calls Try.prog 15 #[.slice a 2 2] w (Gives (.bool false) w) := by
  have h1 := agree_any a 2 Lb w h (by decide)
  have e : agreeB Lb = false := by
    unfold agreeB
    have hall : allR Lb := fun j hj => by
      have : j = 0 ∨ j = 1 := by simp [Lb] at hj; omega
      rcases this with rfl | rfl <;> decide
    rw [(comb_no hall (by decide)).1]
    decide
  rw [e] at h1
  exact h1
theorem row3 {w : World} {g : Nat} {a b c d e f : Int} {t : TypeId} (h : Kept w g #[.int .i64 a, .int .i64 b, .int .i64 c, .int .i64 d, .int .i64 e, .int .i64 f] t) : PairRow w (some ⟨g, 0, none⟩) [(a, b), (c, d), (e, f)] := fun j hj => ⟨g, 0, rfl, by
  have : j = 0 ∨ j = 1 ∨ j = 2 := by simp at hj; omega
  rcases this with rfl | rfl | rfl
  · exact ⟨(h.at_ 0).1, (h.at_ 1).1⟩
  · exact ⟨(h.at_ 2).1, (h.at_ 3).1⟩
  · exact ⟨(h.at_ 4).1, (h.at_ 5).1⟩⟩
theorem row2 {w : World} {g : Nat} {a b c d : Int} {t : TypeId} (h : Kept w g #[.int .i64 a, .int .i64 b, .int .i64 c, .int .i64 d] t) : PairRow w (some ⟨g, 0, none⟩) [(a, b), (c, d)] := fun j hj => ⟨g, 0, rfl, by
  have : j = 0 ∨ j = 1 := by simp at hj; omega
  rcases this with rfl | rfl
  · exact ⟨(h.at_ 0).1, (h.at_ 1).1⟩
  · exact ⟨(h.at_ 2).1, (h.at_ 3).1⟩⟩
set_option maxHeartbeats 1000000 in
theorem alive_any (w : World) : Calls Try.prog 7 #[] w fun e w' => e = .returned (.bool true) ∧ Below w.heap.size w w' := by
  have K0 : Hid (Kept (w.alloc (.cells #[.int .i64 0, .int .i64 5, .int .i64 3, .int .i64 9, .int .i64 4, .int .i64 4] 25)) w.heap.size #[.int .i64 0, .int .i64 5, .int .i64 3, .int .i64 9, .int .i64 4, .int .i64 4] 25) := Lib.hid (Kept.new rfl)
  have R0 := Lib.hid (row3 K0.out)
  have B0 := Lib.hid (one_alloc w (.cells #[.int .i64 0, .int .i64 5, .int .i64 3, .int .i64 9, .int .i64 4, .int .i64 4] 25))
  go_enter Try.func7, Try.ntmps7
  go_wp2_with fail
  refine (al_best _ _ R0.out).mono ?_
  rintro _ w1 ⟨rfl, b1⟩
  have R1 := Lib.hid ((R0.out.below b1).below (one_alloc w1 (.cells #[.int .i64 4, .int .i64 4] 25)))
  have B1x := Lib.hid (B0.out.trans (b1.mono (by simp)))
  have B1 := Lib.hid (B1x.out.alloc B1x.out.size (.cells #[.int .i64 4, .int .i64 4] 25))
  have K1 : Hid (Kept (w1.alloc (.cells #[.int .i64 4, .int .i64 4] 25)) w1.heap.size #[.int .i64 4, .int .i64 4] 25) := Lib.hid (Kept.new rfl)
  clear b1 B1x K0 R0 B0
  go_wp2_with fail
  refine (al_w1 _ _ R1.out).mono ?_
  rintro _ w2 ⟨rfl, b2⟩
  have R2 := Lib.hid ((R1.out.below b2).below (one_alloc w2 (.cells #[.int .i64 3, .int .i64 5] 25)))
  have B2x := Lib.hid (B1.out.trans (b2.mono B1.out.size))
  have B2 := Lib.hid (B2x.out.alloc B2x.out.size (.cells #[.int .i64 3, .int .i64 5] 25))
  have K2 := Lib.hid ((K1.out.next b2).alloc (.cells #[.int .i64 3, .int .i64 5] 25))
  have Q2 : Hid (Kept (w2.alloc (.cells #[.int .i64 3, .int .i64 5] 25)) w2.heap.size #[.int .i64 3, .int .i64 5] 25) := Lib.hid (Kept.new rfl)
  clear b2 B2x R1 B1 K1
  go_wp2_with fail
  refine (al_w3 _ _ R2.out).mono ?_
  rintro _ w3 ⟨rfl, b3⟩
  have R3 := Lib.hid ((R2.out.below b3).below (one_alloc w3 (.cells #[.int .i64 0, .int .i64 0] 25)))
  have B3x := Lib.hid (B2.out.trans (b3.mono B2.out.size))
  have B3 := Lib.hid (B3x.out.alloc B3x.out.size (.cells #[.int .i64 0, .int .i64 0] 25))
  have K3 := Lib.hid ((K2.out.next b3).alloc (.cells #[.int .i64 0, .int .i64 0] 25))
  have Q3 := Lib.hid ((Q2.out.next b3).alloc (.cells #[.int .i64 0, .int .i64 0] 25))
  clear b3 B3x R2 B2 K2 Q2
  obtain ⟨x1, x2, x3, x4, x5⟩ := K3.out.two
  obtain ⟨y1, y2, y3, y4, y5⟩ := Q3.out.two
  go_upto_region 5 with fail
  generalize w3.alloc (.cells #[.int .i64 0, .int .i64 0] 25) = W3 at *
  go_wp2_with fail
  refine (al_votes _ _ R3.out).mono ?_
  rintro _ w4 ⟨rfl, b4⟩
  have R4 := Lib.hid (R3.out.below b4)
  have B4 := Lib.hid (B3.out.trans (b4.mono B3.out.size))
  clear b4 R3 B3
  go_wp2_with fail
  refine (al_agree _ _ R4.out).mono ?_
  rintro _ w5 ⟨rfl, b5⟩
  have B5 := Lib.hid (B4.out.trans (b5.mono B4.out.size))
  have B6 := Lib.hid (B5.out.alloc B5.out.size (.cells #[.int .i64 1, .int .i64 2, .int .i64 3, .int .i64 4] 25))
  have R6 : Hid (PairRow (w5.alloc (.cells #[.int .i64 1, .int .i64 2, .int .i64 3, .int .i64 4] 25)) (some ⟨w5.heap.size, 0, none⟩) [(1, 2), (3, 4)]) := Lib.hid (row2 (t := 25) (Kept.new rfl))
  clear b5 B4 R4 B5
  go_wp2_with fail
  refine (al_agree2 _ _ R6.out).mono ?_
  rintro _ w6 ⟨rfl, b6⟩
  have B7 := Lib.hid (B6.out.trans (b6.mono B6.out.size))
  clear b6
  go_wp2
  go_ret
  exact ⟨rfl, B7.out⟩
end Go.Proofs.Ytllkdohomkofhaa
