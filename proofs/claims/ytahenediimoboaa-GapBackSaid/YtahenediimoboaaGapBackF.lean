/- GapBack for every input. -/
import Derived.Test.YtahenediimoboaaGapBackW
namespace Go.Proofs.Ytahenediimoboaa
open Go.RowKit
set_option linter.unusedVariables false

theorem shiftE_cases (a b d : Int) : shiftE a b d ≠ 0 ∨ (shiftE a b d = 0 ∧ a ≤ b ∧ InI (a + d) ∧ InI (b + d) ∧ shiftL a b d = a + d ∧ shiftH a b d = b + d) := by
  unfold shiftE shiftL shiftH movE movL movH
  by_cases h : a ≤ b
  · by_cases h1 : InI (a + d)
    · by_cases h2 : InI (b + d)
      · right
        simp only [if_pos h, eI_in h1, eI_in h2, vI_in h1, vI_in h2, if_true]
        rw [if_pos (by omega), if_pos (by omega), if_pos (by omega)]
        exact ⟨rfl, h, h1, h2, rfl, rfl⟩
      · left; simp only [if_pos h, eI_in h1, eI_out h2, if_true]; simp
    · left; simp only [if_pos h, eI_out h1]; simp
  · left; simp only [if_neg h]; simp
theorem on_meet3 (p q r s t u x y e : Int) (h1 : combL [(p, q), (r, s), (t, u)] ([(p, q), (r, s), (t, u)].foldl opM fullP) = x) (h2 : combH [(p, q), (r, s), (t, u)] ([(p, q), (r, s), (t, u)].foldl opM fullP) = y) (h3 : combE [(p, q), (r, s), (t, u)] ([(p, q), (r, s), (t, u)].foldl opM fullP) = e) :
    Hid (On 20 3 #[.int .i64 p, .int .i64 q, .int .i64 r, .int .i64 s, .int .i64 t, .int .i64 u] x y e) := Lib.hid fun W g k =>
  (meet_any (some ⟨g, 0, none⟩) 3 [(p, q), (r, s), (t, u)] W (pair_three k) (by simp)).mono fun e w' h => ⟨by rw [h.1, h1, h2, h3], h.2⟩
theorem on_hull3 (p q r s t u x y e : Int) (h1 : combL [(p, q), (r, s), (t, u)] ([(p, q), (r, s), (t, u)].foldl opH noneP) = x) (h2 : combH [(p, q), (r, s), (t, u)] ([(p, q), (r, s), (t, u)].foldl opH noneP) = y) (h3 : combE [(p, q), (r, s), (t, u)] ([(p, q), (r, s), (t, u)].foldl opH noneP) = e) :
    Hid (On 21 3 #[.int .i64 p, .int .i64 q, .int .i64 r, .int .i64 s, .int .i64 t, .int .i64 u] x y e) := Lib.hid fun W g k =>
  (hull_any (some ⟨g, 0, none⟩) 3 [(p, q), (r, s), (t, u)] W (pair_three k) (by simp)).mono fun e w' h => ⟨by rw [h.1, h1, h2, h3], h.2⟩
theorem on_meet2 (p q r s x y e : Int) (h1 : combL [(p, q), (r, s)] ([(p, q), (r, s)].foldl opM fullP) = x) (h2 : combH [(p, q), (r, s)] ([(p, q), (r, s)].foldl opM fullP) = y) (h3 : combE [(p, q), (r, s)] ([(p, q), (r, s)].foldl opM fullP) = e) :
    Hid (On 20 2 #[.int .i64 p, .int .i64 q, .int .i64 r, .int .i64 s] x y e) := Lib.hid fun W g k =>
  (meet_any (some ⟨g, 0, none⟩) 2 [(p, q), (r, s)] W (pair_two k) (by simp)).mono fun e w' h => ⟨by rw [h.1, h1, h2, h3], h.2⟩
theorem comb_same {l l' : List (Int × Int)} {r r' : Int × Int} (hr : r = r') (he : combE l r = combE l' r') : combL l r = combL l' r' ∧ combH l r = combH l' r' := by
  subst hr
  unfold combL combH
  rw [he]
  exact ⟨rfl, rfl⟩
theorem fold3 (op : Int × Int → Int × Int → Int × Int) (z a b c : Int × Int) : [a, b, c].foldl op z = op (op (op z a) b) c := rfl
theorem fold2 (op : Int × Int → Int × Int → Int × Int) (z a b : Int × Int) : [a, b].foldl op z = op (op z a) b := rfl
theorem gapback_any (a1 a2 b1 b2 c1 c2 d : Int) (w : World) (ha1 : InI a1) (ha2 : InI a2) (hb1 : InI b1) (hb2 : InI b2) (hc1 : InI c1) (hc2 : InI c2) (hd : InI d) :
    Calls Try.prog 6 #[.agg #[.int .i64 a1, .int .i64 a2], .agg #[.int .i64 b1, .int .i64 b2], .agg #[.int .i64 c1, .int .i64 c2], .int .i64 d] w fun e w' => e = .returned (.bool true) ∧ Below w.heap.size w w' := by
  have Cs : Hid (∀ W, Calls Try.prog 9 #[.agg #[.int .i64 a1, .int .i64 a2], .int .i64 d] W (Gives (.tuple #[.agg #[.int .i64 (shiftL a1 a2 d), .int .i64 (shiftH a1 a2 d)], .int .i64 (shiftE a1 a2 d)]) W)) := Lib.hid fun W => al_shift a1 a2 d _ _ _ W ha1 ha2 hd rfl rfl rfl
  have eM : [(c1, c2), (b1, b2), (a1, a2)].foldl opM fullP = [(a1, a2), (b1, b2), (c1, c2)].foldl opM fullP := by
    rw [fold3, fold3]; unfold opM fullP; ext <;> simp <;> omega
  have eH : [(b1, b2), (c1, c2), (a1, a2)].foldl opH noneP = [(a1, a2), (b1, b2), (c1, c2)].foldl opH noneP := by
    rw [fold3, fold3]; unfold opH noneP; ext <;> simp <;> omega
  have gM : combE [(c1, c2), (b1, b2), (a1, a2)] ([(c1, c2), (b1, b2), (a1, a2)].foldl opM fullP) = combE [(a1, a2), (b1, b2), (c1, c2)] ([(a1, a2), (b1, b2), (c1, c2)].foldl opM fullP) := by
    rw [eM, combE3, combE3]
    by_cases h : a2 < a1 ∨ b2 < b1 ∨ c2 < c1
    · rw [if_pos h, if_pos (by omega)]
    · rw [if_neg h, if_neg (by omega)]
  have gH : combE [(b1, b2), (c1, c2), (a1, a2)] ([(b1, b2), (c1, c2), (a1, a2)].foldl opH noneP) = combE [(a1, a2), (b1, b2), (c1, c2)] ([(a1, a2), (b1, b2), (c1, c2)].foldl opH noneP) := by
    rw [eH, combE3, combE3]
    by_cases h : a2 < a1 ∨ b2 < b1 ∨ c2 < c1
    · rw [if_pos h, if_pos (by omega)]
    · rw [if_neg h, if_neg (by omega)]
  obtain ⟨lM, hM⟩ := comb_same eM gM
  obtain ⟨lH, hH⟩ := comb_same eH gH
  have Cm1 := on_meet3 a1 a2 b1 b2 c1 c2 _ _ _ rfl rfl rfl
  have Cm2 := on_meet3 c1 c2 b1 b2 a1 a2 _ _ _ lM hM gM
  have Ch1 := on_hull3 a1 a2 b1 b2 c1 c2 _ _ _ rfl rfl rfl
  have Ch2 := on_hull3 b1 b2 c1 c2 a1 a2 _ _ _ lH hH gH
  have hg : (combE [(a1, a2), (b1, b2), (c1, c2)] ([(a1, a2), (b1, b2), (c1, c2)].foldl opM fullP) != 0) = true ∨
      ((combE [(a1, a2), (b1, b2), (c1, c2)] ([(a1, a2), (b1, b2), (c1, c2)].foldl opM fullP) != 0) = false ∧ ∃ p1 p2, Hid (On 20 2 #[.int .i64 a1, .int .i64 a2, .int .i64 b1, .int .i64 b2] p1 p2 0) ∧
        Hid (On 20 2 #[.int .i64 p1, .int .i64 p2, .int .i64 c1, .int .i64 c2] (combL [(a1, a2), (b1, b2), (c1, c2)] ([(a1, a2), (b1, b2), (c1, c2)].foldl opM fullP)) (combH [(a1, a2), (b1, b2), (c1, c2)] ([(a1, a2), (b1, b2), (c1, c2)].foldl opM fullP)) 0) ∧
        Hid (∀ W, Calls Try.prog 18 #[.agg #[.int .i64 (combL [(a1, a2), (b1, b2), (c1, c2)] ([(a1, a2), (b1, b2), (c1, c2)].foldl opM fullP)), .int .i64 (combH [(a1, a2), (b1, b2), (c1, c2)] ([(a1, a2), (b1, b2), (c1, c2)].foldl opM fullP))],
          .agg #[.int .i64 (combL [(a1, a2), (b1, b2), (c1, c2)] ([(a1, a2), (b1, b2), (c1, c2)].foldl opH noneP)), .int .i64 (combH [(a1, a2), (b1, b2), (c1, c2)] ([(a1, a2), (b1, b2), (c1, c2)].foldl opH noneP))]] W (Gives (.bool true) W))) := by
    by_cases hz : combE [(a1, a2), (b1, b2), (c1, c2)] ([(a1, a2), (b1, b2), (c1, c2)].foldl opM fullP) = 0
    · refine .inr ⟨by rw [hz]; rfl, ?_⟩
      have hz' := hz
      rw [combE3] at hz'
      by_cases hbad : a2 < a1 ∨ b2 < b1 ∨ c2 < c1
      · rw [if_pos hbad] at hz'; omega
      · rw [if_neg hbad] at hz'
        have hr : ([(a1, a2), (b1, b2), (c1, c2)].foldl opM fullP).1 ≤ ([(a1, a2), (b1, b2), (c1, c2)].foldl opM fullP).2 := by
          by_cases h : ([(a1, a2), (b1, b2), (c1, c2)].foldl opM fullP).1 ≤ ([(a1, a2), (b1, b2), (c1, c2)].foldl opM fullP).2
          · exact h
          · rw [if_neg h] at hz'; omega
        have hl : combL [(a1, a2), (b1, b2), (c1, c2)] ([(a1, a2), (b1, b2), (c1, c2)].foldl opM fullP) = max (max a1 b1) c1 := by
          unfold combL; rw [hz, fold3]; unfold opM fullP; unfold InI at ha1; simp; omega
        have hh : combH [(a1, a2), (b1, b2), (c1, c2)] ([(a1, a2), (b1, b2), (c1, c2)].foldl opM fullP) = min (min a2 b2) c2 := by
          unfold combH; rw [hz, fold3]; unfold opM fullP; unfold InI at ha2; simp; omega
        rw [fold3] at hr
        unfold opM fullP at hr
        simp only at hr
        unfold InI at ha1 ha2
        have hx : combE [(a1, a2), (b1, b2), (c1, c2)] ([(a1, a2), (b1, b2), (c1, c2)].foldl opH noneP) = 0 := by
          rw [combE3, if_neg hbad, fold3]; unfold opH noneP; simp only; rw [if_pos (by omega)]
        have hxl : combL [(a1, a2), (b1, b2), (c1, c2)] ([(a1, a2), (b1, b2), (c1, c2)].foldl opH noneP) = min (min a1 b1) c1 := by
          unfold combL; rw [hx, fold3]; unfold opH noneP; simp; omega
        have hxh : combH [(a1, a2), (b1, b2), (c1, c2)] ([(a1, a2), (b1, b2), (c1, c2)].foldl opH noneP) = max (max a2 b2) c2 := by
          unfold combH; rw [hx, fold3]; unfold opH noneP; simp; omega
        have e2 : combE [(a1, a2), (b1, b2)] ([(a1, a2), (b1, b2)].foldl opM fullP) = 0 := by
          rw [combE2, if_neg (by omega), fold2]; unfold opM fullP; simp only; rw [if_pos (by omega)]
        have e3 : combE [(max a1 b1, min a2 b2), (c1, c2)] ([(max a1 b1, min a2 b2), (c1, c2)].foldl opM fullP) = 0 := by
          rw [combE2, if_neg (by omega), fold2]; unfold opM fullP; simp only; rw [if_pos (by omega)]
        refine ⟨max a1 b1, min a2 b2, on_meet2 a1 a2 b1 b2 _ _ _ ?_ ?_ e2, on_meet2 _ _ c1 c2 _ _ _ ?_ ?_ e3, Lib.hid fun W => within_any _ _ _ _ true ?_ W⟩
        · unfold combL; rw [e2, fold2]; unfold opM fullP; simp; omega
        · unfold combH; rw [e2, fold2]; unfold opM fullP; simp; omega
        · rw [hl]; unfold combL; rw [e3, fold2]; unfold opM fullP; simp; omega
        · rw [hh]; unfold combH; rw [e3, fold2]; unfold opM fullP; simp; omega
        · rw [hl, hh, hxl, hxh]; exact decide_eq_true (by omega)
    · exact .inl (by rw [bne_iff_ne]; exact hz)
  rcases shiftE_cases a1 a2 d with he | ⟨he, hle, h1, h2, e1, e2⟩
  · have d1 : (shiftE a1 a2 d == 0) = false := by rw [beq_eq_false_iff_ne]; exact he
    rcases hg with hg | ⟨hg, p1, p2, Cp, Cq, Cx⟩
    · exact gb_err_bad a1 a2 b1 b2 c1 c2 d _ _ _ 0 _ _ _ _ _ _ 0 0 w Cs d1 Cm1 Cm2 Ch1 Ch2 hg
    · exact gb_err_good a1 a2 b1 b2 c1 c2 d _ _ _ 0 _ _ _ _ _ _ p1 p2 w Cs d1 Cm1 Cm2 Ch1 Ch2 hg Cp Cq Cx
  · have d1 : (shiftE a1 a2 d == 0) = true := by rw [he]; rfl
    by_cases hm : -9223372036854775808 < d
    · have hd' := hd
      unfold InI at hd'
      have hn : InI (-d) := by unfold InI; omega
      have x1 : a1 + d + -d = a1 := by omega
      have x2 : a2 + d + -d = a2 := by omega
      have Ct : Hid (∀ W, Calls Try.prog 9 #[.agg #[.int .i64 (shiftL a1 a2 d), .int .i64 (shiftH a1 a2 d)], .int .i64 (-d)] W (Gives (.tuple #[.agg #[.int .i64 a1, .int .i64 a2], .int .i64 0]) W)) := Lib.hid fun W => by
        rw [e1, e2]
        refine al_shift (a1 + d) (a2 + d) (-d) _ _ _ W h1 h2 hn ?_ ?_ ?_
        · unfold shiftL movL; rw [x1, x2, if_pos (by omega), eI_in ha1, eI_in ha2, vI_in ha1, vI_in ha2]; simp; omega
        · unfold shiftH movH; rw [x1, x2, if_pos (by omega), eI_in ha1, eI_in ha2, vI_in ha1, vI_in ha2]; simp; omega
        · unfold shiftE movE; rw [x1, x2, if_pos (by omega), eI_in ha1, eI_in ha2, vI_in ha1, vI_in ha2]; simp; omega
      have Cw1 : Hid (∀ W, Calls Try.prog 19 #[.agg #[.int .i64 (shiftL a1 a2 d), .int .i64 (shiftH a1 a2 d)]] W (Gives (.int .u64 (a2 - a1)) W)) := Lib.hid fun W => by
        rw [e1, e2]; exact al_width _ _ _ W h1 h2 (by unfold widI; rw [if_pos (by omega)]; omega)
      have Cw2 : Hid (∀ W, Calls Try.prog 19 #[.agg #[.int .i64 a1, .int .i64 a2]] W (Gives (.int .u64 (a2 - a1)) W)) := Lib.hid fun W => al_width _ _ _ W ha1 ha2 (by unfold widI; rw [if_pos hle])
      rcases hg with hg | ⟨hg, p1, p2, Cp, Cq, Cx⟩
      · exact gb_ok_bad a1 a2 b1 b2 c1 c2 d _ _ _ (a2 - a1) _ _ _ _ _ _ 0 0 w Cs d1 hm hd'.2 Ct Cw1 Cw2 Cm1 Cm2 Ch1 Ch2 hg
      · exact gb_ok_good a1 a2 b1 b2 c1 c2 d _ _ _ (a2 - a1) _ _ _ _ _ _ p1 p2 w Cs d1 hm hd'.2 Ct Cw1 Cw2 Cm1 Cm2 Ch1 Ch2 hg Cp Cq Cx
    · have d2 := decide_eq_false hm
      rcases hg with hg | ⟨hg, p1, p2, Cp, Cq, Cx⟩
      · exact gb_min_bad a1 a2 b1 b2 c1 c2 d _ _ _ 0 _ _ _ _ _ _ 0 0 w Cs d1 d2 Cm1 Cm2 Ch1 Ch2 hg
      · exact gb_min_good a1 a2 b1 b2 c1 c2 d _ _ _ 0 _ _ _ _ _ _ p1 p2 w Cs d1 d2 Cm1 Cm2 Ch1 Ch2 hg Cp Cq Cx
end Go.Proofs.Ytahenediimoboaa
