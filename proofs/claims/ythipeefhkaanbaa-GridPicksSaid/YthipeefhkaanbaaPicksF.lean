/- GridPicks for every input. -/
import Derived.Test.YthipeefhkaanbaaPicksW
namespace Go.Proofs.Ythipeefhkaanbaa
open Go.RowKit
set_option linter.unusedVariables false

theorem gridpicks_any (w p m a b o : Int) (W : World) (ha : InI a) (hb : InI b) :
    Calls Try.prog 5 #[.agg #[.int .i64 w, .int .i64 p, .int .i64 m], .agg #[.int .i64 a, .int .i64 b], .int .i64 o] W fun e w' => e = .returned (.bool true) ∧ Below W.heap.size W w' := by
  have Cp := Lib.hid (fun W => pick_any w p m a b W ha hb)
  by_cases he : pkE w p m a b = 0
  · have hr : rgB w p m = true := by
      cases hr : rgB w p m
      · rw [(pk_state (a := a) (b := b) hr).1] at he; cases he
      · rfl
    have hab : a ≤ b := by
      by_cases h : a ≤ b
      · exact h
      · rw [(pk_form hr h).1] at he; cases he
    have hm : b - a ≤ m := by
      by_cases h : b - a ≤ m
      · exact h
      · rw [(pk_long hr hab h).1] at he; cases he
    have h3 : ¬ (p = 3 ∧ a / w ≠ b / w) := fun h => by
      rw [(pk_two hr hab hm h.1 h.2).1] at he; cases he
    obtain ⟨r1, r2, r3, r4, r5, r6⟩ := rgB_yes hr
    obtain ⟨g1, g2, g3⟩ := mt_ok hr hab
    obtain ⟨d1, d2⟩ := mid_in hab
    have dd : InI (midI a b) := by unfold InI at *; omega
    have k1 := win_mono (w := w) r1 hab
    have k2 := win_mono (w := w) r1 d1
    have k3 := win_mono (w := w) r1 d2
    have hv := (pk_ok hr hab hm h3).2
    have hx : a / w ≤ pkV w p m a b := by rw [hv]; split; exact k1; split; exact k2; exact Int.le_refl _
    have hy : pkV w p m a b ≤ b / w := by rw [hv]; split; exact Int.le_refl _; split; exact k3; exact k1
    have Cm := Lib.hid (fun W => meets_any w p m a b W ha hb)
    have Cd := Lib.hid (fun W => width_any a b W ha hb)
    have hw : widI a b = b - a := if_pos hab
    rw [hw] at Cd
    rw [g1, g2, g3] at Cm
    rw [he] at Cp
    have e1 : decide (pkV w p m a b < a / w) = false := decide_eq_false (by omega)
    have e2 : decide (b / w < pkV w p m a b) = false := decide_eq_false (by omega)
    have e5 : decide (m < b - a) = false := decide_eq_false (by omega)
    cases ho : rgB w o m
    · have Cn := Lib.hid (fun W => gnew_no w o m W ho)
      by_cases hp : p = 3
      · subst hp
        have hxy : a / w = b / w := by omega
        exact picks_three_none w m a b o _ _ _ _ W Cp Cm Cd e1 e2 r5 r6 e5 (by rw [hxy]; simp) Cn
      · exact picks_any_none w p m a b o _ _ _ _ W Cp Cm Cd e1 e2 r5 r6 e5 (by simpa using hp) Cn
    · have Cn := Lib.hid (fun W => gnew_yes w o m W ho)
      by_cases hxy : a / w = b / w
      · have Cc := Lib.hid (fun W => certain_any w p m a b true W ha hb (by rw [g1, g2, g3, hxy]; simp))
        have Cq := Lib.hid (fun W => pick_any w o m a b W ha hb)
        have hv2 := pk_ok ho hab hm (fun h => h.2 hxy)
        have ev : pkV w o m a b = pkV w p m a b := by
          rw [hv2.2]
          split
          · omega
          · split <;> omega
        rw [hv2.1, ev] at Cq
        by_cases hp : p = 3
        · subst hp
          exact picks_three_sure w m a b o _ _ _ _ W Cp Cm Cd e1 e2 r5 r6 e5 (by rw [hxy]; simp) Cn Cc Cq
        · exact picks_any_sure w p m a b o _ _ _ _ W Cp Cm Cd e1 e2 r5 r6 e5 (by simpa using hp) Cn Cc Cq
      · have Cc := Lib.hid (fun W => certain_any w p m a b false W ha hb (by rw [g1, g2, g3]; simp [hxy]))
        have hp : p ≠ 3 := fun hp => h3 ⟨hp, hxy⟩
        exact picks_any_unsure w p m a b o _ _ _ _ W Cp Cm Cd e1 e2 r5 r6 e5 (by simpa using hp) Cn Cc
  · have hv : pkV w p m a b = 0 := if_neg he
    rw [hv] at Cp
    exact picks_bad w p m a b o _ W Cp (by simpa using he)
end Go.Proofs.Ythipeefhkaanbaa
