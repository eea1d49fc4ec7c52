/- Windows of a width: plain mathematics. -/
import Derived.Test.YthipeefhkaanbaaGridA
namespace Go.Proofs.Ythipeefhkaanbaa
set_option linter.unusedVariables false

theorem win_lo {t w : Int} (hw : 1 ≤ w) : t / w * w ≤ t ∧ t ≤ t / w * w + (w - 1) := by
  have h := Int.mul_ediv_add_emod t w
  have h1 := Int.emod_nonneg t (show w ≠ 0 by omega)
  have h2 := Int.emod_lt_of_pos t (show 0 < w by omega)
  rw [Int.mul_comm] at h
  omega
theorem win_first {v w : Int} (hw : 1 ≤ w) : v * w / w = v := Int.mul_ediv_cancel v (by omega)
theorem win_last {v w : Int} (hw : 1 ≤ w) : (v * w + (w - 1)) / w = v := by
  rw [Int.add_comm, Int.add_mul_ediv_right _ _ (by omega), Int.ediv_eq_zero_of_lt (by omega) (by omega)]; omega
theorem win_mono {a b w : Int} (hw : 1 ≤ w) (h : a ≤ b) : a / w ≤ b / w := Int.ediv_le_ediv (by omega) h
/-- a window's error: its times are no int64s -/
def spE (v w : Int) : Int := if InI (v * w) ∧ InI (v * w + (w - 1)) then 0 else 12
theorem spE_yes {v w : Int} (h1 : InI (v * w)) (h2 : InI (v * w + (w - 1))) : spE v w = 0 := if_pos ⟨h1, h2⟩
theorem spE_no1 {v w : Int} (h1 : ¬ InI (v * w)) : spE v w = 12 := if_neg fun h => h1 h.1
theorem spE_no2 {v w : Int} (h1 : ¬ InI (v * w + (w - 1))) : spE v w = 12 := if_neg fun h => h1 h.2
def spL (v w : Int) : Int := if spE v w = 0 then v * w else 0
def spH (v w : Int) : Int := if spE v w = 0 then v * w + (w - 1) else 0
theorem spE_cases (v w : Int) : (spE v w = 0 ∧ InI (v * w) ∧ InI (v * w + (w - 1)) ∧ spL v w = v * w ∧ spH v w = v * w + (w - 1)) ∨ (spE v w = 12 ∧ spL v w = 0 ∧ spH v w = 0) := by
  by_cases h : InI (v * w) ∧ InI (v * w + (w - 1))
  · have e : spE v w = 0 := if_pos h
    exact .inl ⟨e, h.1, h.2, if_pos e, if_pos e⟩
  · have e : spE v w = 12 := if_neg h
    exact .inr ⟨e, if_neg (by rw [e]; decide), if_neg (by rw [e]; decide)⟩
/-- what is answered of an interval that is picked -/
def pkE (w p m a b : Int) : Int := if rgB w p m then (if a ≤ b then (if b - a ≤ m then (if p = 3 ∧ a / w ≠ b / w then 17 else 0) else 17) else 10) else 21
def pkV (w p m a b : Int) : Int := if pkE w p m a b = 0 then (if p = 1 then b / w else if p = 2 then midI a b / w else a / w) else 0
theorem pk_state {w p m a b : Int} (h : rgB w p m = false) : pkE w p m a b = 21 ∧ pkV w p m a b = 0 := by
  have e : pkE w p m a b = 21 := by unfold pkE; rw [h]; rfl
  exact ⟨e, by unfold pkV; rw [e]; rfl⟩
theorem pk_form {w p m a b : Int} (h : rgB w p m = true) (h1 : ¬ a ≤ b) : pkE w p m a b = 10 ∧ pkV w p m a b = 0 := by
  have e : pkE w p m a b = 10 := by unfold pkE; rw [h, if_pos rfl, if_neg h1]
  exact ⟨e, by unfold pkV; rw [e]; rfl⟩
theorem pk_long {w p m a b : Int} (h : rgB w p m = true) (h1 : a ≤ b) (h2 : ¬ b - a ≤ m) : pkE w p m a b = 17 ∧ pkV w p m a b = 0 := by
  have e : pkE w p m a b = 17 := by unfold pkE; rw [h, if_pos rfl, if_pos h1, if_neg h2]
  exact ⟨e, by unfold pkV; rw [e]; rfl⟩
theorem pk_two {w p m a b : Int} (h : rgB w p m = true) (h1 : a ≤ b) (h2 : b - a ≤ m) (h3 : p = 3) (h4 : a / w ≠ b / w) : pkE w p m a b = 17 ∧ pkV w p m a b = 0 := by
  have e : pkE w p m a b = 17 := by unfold pkE; rw [h, if_pos rfl, if_pos h1, if_pos h2, if_pos ⟨h3, h4⟩]
  exact ⟨e, by unfold pkV; rw [e]; rfl⟩
theorem pk_ok {w p m a b : Int} (h : rgB w p m = true) (h1 : a ≤ b) (h2 : b - a ≤ m) (h3 : ¬ (p = 3 ∧ a / w ≠ b / w)) : pkE w p m a b = 0 ∧ pkV w p m a b = if p = 1 then b / w else if p = 2 then midI a b / w else a / w := by
  have e : pkE w p m a b = 0 := by unfold pkE; rw [h, if_pos rfl, if_pos h1, if_pos h2, if_neg h3]
  exact ⟨e, by unfold pkV; rw [if_pos e]⟩
theorem mid_in {a b : Int} (h : a ≤ b) : a ≤ midI a b ∧ midI a b ≤ b := by unfold midI; rw [if_pos h]; omega
end Go.Proofs.Ythipeefhkaanbaa
