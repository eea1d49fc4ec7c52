/- GridWithin for every input. -/
import Derived.Test.YthipeefhkaanbaaWithinW
namespace Go.Proofs.Ythipeefhkaanbaa
open Go.RowKit
set_option linter.unusedVariables false

theorem combE2 (p q r s : Int) (z : Int × Int) : combE [(p, q), (r, s)] z = if q < p ∨ s < r then 10 else if z.1 ≤ z.2 then 0 else 13 := by
  unfold combE
  have h : (∃ j, j < [(p, q), (r, s)].length ∧ ([(p, q), (r, s)].getD j (0, 0)).2 < ([(p, q), (r, s)].getD j (0, 0)).1) ↔ (q < p ∨ s < r) := by
    constructor
    · rintro ⟨j, hj, h⟩
      simp only [List.length_cons, List.length_nil] at hj
      have : j = 0 ∨ j = 1 := by omega
      rcases this with rfl | rfl
      · exact .inl h
      · exact .inr h
    · rintro (h | h)
      · exact ⟨0, by simp, h⟩
      · exact ⟨1, by simp, h⟩
  by_cases hc : q < p ∨ s < r
  · rw [if_pos hc, if_pos (h.2 hc)]
  · rw [if_neg hc, if_neg (fun e => hc (h.1 e))]
/-- a call of Meet or Hull with n intervals that lie in a new block -/
theorem meet2 {a b c d : Int} (ha : InI a) (hb : InI b) : [(a, b), (c, d)].foldl opM fullP = (max a c, min b d) := by
  show opM (opM fullP (a, b)) (c, d) = _
  unfold InI at ha hb
  unfold opM fullP
  ext <;> simp <;> omega
theorem gridwithin_any (w p m a b c d n : Int) (W : World) (ha : InI a) (hb : InI b) (hc : InI c) (hd : InI d) :
    Calls Try.prog 6 #[.agg #[.int .i64 w, .int .i64 p, .int .i64 m], .agg #[.int .i64 a, .int .i64 b], .agg #[.int .i64 c, .int .i64 d], .int .i64 n] W fun e w' => e = .returned (.bool true) ∧ Below W.heap.size W w' := by
  have Cg : Hid (On2 a b c d (combL [(a, b), (c, d)] (max a c, min b d)) (combH [(a, b), (c, d)] (max a c, min b d)) (combE [(a, b), (c, d)] (max a c, min b d))) := Lib.hid fun W g k => by
    have h := meet_any (some ⟨g, 0, none⟩) 2 [(a, b), (c, d)] W (pair_two k) (by simp)
    rw [meet2 ha hb] at h
    exact h
  have E2 := combE2 a b c d (max a c, min b d)
  by_cases he : combE [(a, b), (c, d)] (max a c, min b d) = 0
  · have hL : combL [(a, b), (c, d)] (max a c, min b d) = max a c := if_pos he
    have hH : combH [(a, b), (c, d)] (max a c, min b d) = min b d := if_pos he
    rw [hL, hH, he] at Cg
    rw [he] at E2
    have hn : ¬ (b < a ∨ d < c) := fun h => by rw [if_pos h] at E2; cases E2
    rw [if_neg hn] at E2
    have hxy : max a c ≤ min b d := by
      by_cases h : max a c ≤ min b d
      · exact h
      · rw [if_neg h] at E2; cases E2
    have hab : a ≤ b := by omega
    have hx : InI (max a c) := by unfold InI at *; omega
    have hy : InI (min b d) := by unfold InI at *; omega
    have lx : a ≤ max a c := by omega
    have ly : min b d ≤ b := by omega
    generalize max a c = x at *
    generalize min b d = y at *
    clear E2 hn he hL hH
    have C1 := Lib.hid (fun W => meets_any w p m a b W ha hb)
    have C2 := Lib.hid (fun W => meets_any w p m x y W hx hy)
    cases hr : rgB w p m
    · rw [(mt_state hr).1] at C1 C2
      exact within_state w p m a b c d n x y _ _ _ _ W Cg C1 C2
    · obtain ⟨e1, e2, e3⟩ := mt_ok hr hab
      obtain ⟨f1, f2, f3⟩ := mt_ok hr hxy
      obtain ⟨r1, r2, r3, r4, r5, r6⟩ := rgB_yes hr
      have k1 := win_mono (w := w) r1 lx
      have k2 := win_mono (w := w) r1 hxy
      have k3 := win_mono (w := w) r1 ly
      have q1 : decide (x / w < a / w) = false := decide_eq_false (by omega)
      have q2 : decide (b / w < y / w) = false := decide_eq_false (by omega)
      have q3 : decide (y / w < x / w) = false := decide_eq_false (by omega)
      have q4 : decide (b / w < a / w) = false := decide_eq_false (by omega)
      rw [e1, e2, e3] at C1
      rw [f1, f2, f3] at C2
      have Ca := Lib.hid (fun W => window_yes w p m a W hr ha)
      have Cb := Lib.hid (fun W => window_yes w p m b W hr hb)
      have Cp := Lib.hid (fun W => pick_any w p m a b W ha hb)
      have Cq := Lib.hid (fun W => pick_any w p n a b W ha hb)
      have same : pkE w p m a b = 0 → rgB w p n = true → decide (n < m) = false → pkE w p n a b = 0 ∧ pkV w p n a b = pkV w p m a b := fun h0 ho hl => by
        have hl' : ¬ n < m := of_decide_eq_false hl
        have hm : b - a ≤ m := by
          by_cases h : b - a ≤ m
          · exact h
          · rw [(pk_long hr hab h).1] at h0; cases h0
        have h3 : ¬ (p = 3 ∧ a / w ≠ b / w) := fun h => by
          rw [(pk_two hr hab hm h.1 h.2).1] at h0; cases h0
        obtain ⟨z1, z2⟩ := pk_ok hr hab hm h3
        obtain ⟨y1, y2⟩ := pk_ok ho hab (show b - a ≤ n by omega) h3
        exact ⟨y1, by rw [y2, z2]⟩
      by_cases hu : a / w = b / w
      · have Cx := Lib.hid (fun W => certain_any w p m a b true W ha hb (by rw [e1, e2, e3, hu]; simp))
        have Cm := Lib.hid (fun W => certain_any w p m x y true W hx hy (by rw [f1, f2, f3, show x / w = y / w by omega]; simp))
        cases ho : rgB w p n
        · exact within_sure_none w p m a b c d n x y _ _ _ _ W Cg C1 C2 q1 q2 q3 q4 Ca Cb Cx Cm (Lib.hid fun W => gnew_no w p n W ho)
        · have Cn := Lib.hid (fun W => gnew_yes w p n W ho)
          cases hl : decide (n < m)
          · by_cases h0 : pkE w p m a b = 0
            · obtain ⟨z1, z2⟩ := same h0 ho hl
              rw [h0] at Cp
              rw [z1, z2] at Cq
              exact within_sure_good w p m a b c d n x y _ _ _ _ _ W Cg C1 C2 q1 q2 q3 q4 Ca Cb Cx Cm Cn hl Cp Cq
            · exact within_sure_bad w p m a b c d n x y _ _ _ _ _ _ _ _ W Cg C1 C2 q1 q2 q3 q4 Ca Cb Cx Cm Cn hl Cp (by simpa using h0) Cq
          · exact within_sure_less w p m a b c d n x y _ _ _ _ W Cg C1 C2 q1 q2 q3 q4 Ca Cb Cx Cm Cn (of_decide_eq_true hl)
      · have Cx := Lib.hid (fun W => certain_any w p m a b false W ha hb (by rw [e1, e2, e3]; simp [hu]))
        cases ho : rgB w p n
        · exact within_unsure_none w p m a b c d n x y _ _ _ _ W Cg C1 C2 q1 q2 q3 q4 Ca Cb Cx (Lib.hid fun W => gnew_no w p n W ho)
        · have Cn := Lib.hid (fun W => gnew_yes w p n W ho)
          cases hl : decide (n < m)
          · by_cases h0 : pkE w p m a b = 0
            · obtain ⟨z1, z2⟩ := same h0 ho hl
              rw [h0] at Cp
              rw [z1, z2] at Cq
              exact within_unsure_good w p m a b c d n x y _ _ _ _ _ W Cg C1 C2 q1 q2 q3 q4 Ca Cb Cx Cn hl Cp Cq
            · exact within_unsure_bad w p m a b c d n x y _ _ _ _ _ _ _ _ W Cg C1 C2 q1 q2 q3 q4 Ca Cb Cx Cn hl Cp (by simpa using h0) Cq
          · exact within_unsure_less w p m a b c d n x y _ _ _ _ W Cg C1 C2 q1 q2 q3 q4 Ca Cb Cx Cn (of_decide_eq_true hl)
  · exact within_none w p m a b c d n _ _ _ W Cg (by simpa using he)
end Go.Proofs.Ythipeefhkaanbaa
