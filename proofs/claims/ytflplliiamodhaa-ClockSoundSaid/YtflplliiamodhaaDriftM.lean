/- The numbers of layer 4: bounds, and what points keep to a rate. -/
import Derived.Test.YtflplliiamodhaaBase
namespace Go.Proofs.Ytflplliiamodhaa
open Go.RowKit
set_option linter.unusedVariables false

/-- a product divided, rounded down, or up -/
def ratM (p c : Int) (up : Bool) : Int := if up then -((-p) / c) else p / c
theorem down_spec {p c : Int} (hc : 1 ≤ c) : ratM p c false * c ≤ p ∧ p < ratM p c false * c + c := by
  unfold ratM
  have h := Int.mul_ediv_add_emod p c
  have h1 := Int.emod_nonneg p (show c ≠ 0 by omega)
  have h2 := Int.emod_lt_of_pos p (show 0 < c by omega)
  rw [Int.mul_comm] at h
  simp
  omega
theorem up_spec {p c : Int} (hc : 1 ≤ c) : p ≤ ratM p c true * c ∧ ratM p c true * c < p + c := by
  unfold ratM
  have h := Int.mul_ediv_add_emod (-p) c
  have h1 := Int.emod_nonneg (-p) (show c ≠ 0 by omega)
  have h2 := Int.emod_lt_of_pos (-p) (show 0 < c by omega)
  rw [Int.mul_comm] at h
  simp only [↓reduceIte, Int.neg_mul]
  omega
theorem mul_mono {a b c : Int} (h : a ≤ b) (hc : 0 ≤ c) : a * c ≤ b * c := Int.mul_le_mul_of_nonneg_right h hc
/-- a rate, and a distance that is looked at -/
def rateB (r : Int) : Bool := decide (0 ≤ r ∧ r ≤ 100000)
theorem rate_yes {r : Int} (h : rateB r = true) : 0 ≤ r ∧ r ≤ 100000 := of_decide_eq_true h
theorem rate_no {r : Int} (h : rateB r = false) : ¬ (0 ≤ r ∧ r ≤ 100000) := of_decide_eq_false h
def lowI (x r : Int) : Int := if 0 < x then max 1 (ratM ((x - 1) * 1000000) (1000000 + r) true) else -(ratM ((1 - x) * 1000000) (1000000 - r) false)
def lowE (x r : Int) : Int := if -4611686018427387904 ≤ x ∧ x ≤ 4611686018427387904 ∧ 0 ≤ r ∧ r ≤ 100000 then 0 else 11
def lowV (x r : Int) : Int := if lowE x r = 0 then lowI x r else 0
def highI (x r : Int) : Int := -(lowI (-x) r)
def highV (x r : Int) : Int := if lowE x r = 0 then highI x r else 0
def slackI (a r : Int) : Int := ratM (a * r) (1000000 - r) true
def slackE (a r : Int) : Int := if 0 ≤ a ∧ a ≤ 4611686018427387904 ∧ 0 ≤ r ∧ r ≤ 100000 then 0 else 11
def slackV (a r : Int) : Int := if slackE a r = 0 then slackI a r else 0
theorem lowE_neg (x r : Int) : lowE (-x) r = lowE x r := by unfold lowE; split <;> split <;> first | rfl | omega
theorem lowE_cases (x r : Int) : (lowE x r = 0 ∧ (-4611686018427387904 ≤ x ∧ x ≤ 4611686018427387904 ∧ 0 ≤ r ∧ r ≤ 100000)) ∨ (lowE x r = 11 ∧ ¬ (-4611686018427387904 ≤ x ∧ x ≤ 4611686018427387904 ∧ 0 ≤ r ∧ r ≤ 100000)) := by
  unfold lowE
  split
  · exact .inl ⟨rfl, by assumption⟩
  · exact .inr ⟨rfl, by assumption⟩
/-- the lower bound of a distance above 0: q -/
theorem low_pos {x r : Int} (h : 0 < x) (h1 : 0 ≤ r) : ∃ q, lowI x r = max 1 q ∧ (x - 1) * 1000000 ≤ q * (1000000 + r) ∧ q * (1000000 + r) < (x - 1) * 1000000 + (1000000 + r) := by
  refine ⟨ratM ((x - 1) * 1000000) (1000000 + r) true, if_pos h, ?_⟩
  exact up_spec (by omega)
theorem low_neg {x r : Int} (h : ¬ 0 < x) (h1 : r ≤ 100000) : ∃ q, lowI x r = -q ∧ q * (1000000 - r) ≤ (1 - x) * 1000000 ∧ (1 - x) * 1000000 < q * (1000000 - r) + (1000000 - r) := by
  refine ⟨ratM ((1 - x) * 1000000) (1000000 - r) false, if_neg h, ?_⟩
  exact down_spec (by omega)
theorem le_of_mul {a b c : Int} (hc : 0 < c) (h : a * c < b * c + c) : a ≤ b := by
  rw [show b * c + c = (b + 1) * c by rw [Int.add_mul, Int.one_mul]] at h
  have := Int.lt_of_mul_lt_mul_right h (by omega)
  omega
theorem lt_of_mul {a b c : Int} (hc : 0 < c) (h : a * c < b * c) : a < b := Int.lt_of_mul_lt_mul_right h (by omega)
/-- the lower bound rises -/
theorem low_mono {x y r : Int} (h : x ≤ y) (h1 : 0 ≤ r) (h2 : r ≤ 100000) : lowI x r ≤ lowI y r := by
  by_cases hx : 0 < x
  · obtain ⟨q, e, a1, a2⟩ := low_pos hx h1
    obtain ⟨s, f, b1, b2⟩ := low_pos (x := y) (r := r) (by omega) h1
    have := le_of_mul (a := q) (b := s) (c := 1000000 + r) (by omega) (by omega)
    rw [e, f]; omega
  · obtain ⟨q, e, a1, a2⟩ := low_neg hx h2
    have hq : 0 ≤ q := by
      have := lt_of_mul (a := 0) (b := q + 1) (c := 1000000 - r) (by omega) (by rw [Int.add_mul, Int.one_mul]; omega)
      omega
    by_cases hy : 0 < y
    · obtain ⟨s, f, b1, b2⟩ := low_pos hy h1
      rw [e, f]; omega
    · obtain ⟨s, f, b1, b2⟩ := low_neg hy h2
      have := le_of_mul (a := s) (b := q) (c := 1000000 - r) (by omega) (by omega)
      rw [e, f]; omega
theorem high_mono {x y r : Int} (h : x ≤ y) (h1 : 0 ≤ r) (h2 : r ≤ 100000) : highI x r ≤ highI y r := by
  unfold highI
  have := low_mono (show -y ≤ -x by omega) h1 h2
  omega
/-- near the distance -/
theorem low_near {x r : Int} (h1 : 0 ≤ r) (h2 : r ≤ 100000) : lowI x r ≤ x + 1 ∧ ∀ s, (if x < 0 then -x else x) * r ≤ s * (1000000 - r) → x - lowI x r ≤ s + 2 := by
  by_cases hx : 0 < x
  · obtain ⟨q, e, a1, a2⟩ := low_pos hx h1
    rw [e, if_neg (by omega)]
    have hxr : 0 ≤ (x - 1) * r := Int.mul_nonneg (by omega) h1
    refine ⟨?_, fun s hs => ?_⟩
    · have : q ≤ x := by
        refine le_of_mul (c := 1000000 + r) (by omega) ?_
        rw [Int.mul_add x]
        rw [Int.sub_mul] at hxr a2
        omega
      omega
    · have hs0 : 0 ≤ s := by
        have := lt_of_mul (a := 0) (b := s + 1) (c := 1000000 - r) (by omega) (by rw [Int.add_mul, Int.one_mul]; rw [Int.sub_mul] at hxr; omega)
        omega
      have hsr : 0 ≤ s * r := Int.mul_nonneg hs0 h1
      have : x - s - 2 ≤ q := by
        refine le_of_mul (c := 1000000 + r) (by omega) ?_
        rw [Int.mul_sub] at hs
        rw [Int.sub_mul, Int.sub_mul, Int.mul_add x, Int.mul_add s]
        omega
      omega
  · obtain ⟨q, e, a1, a2⟩ := low_neg hx h2
    rw [e]
    have hxr : 0 ≤ (1 - x) * r := Int.mul_nonneg (by omega) h1
    refine ⟨?_, fun s hs => ?_⟩
    · have : -x - 1 ≤ q := by
        refine le_of_mul (c := 1000000 - r) (by omega) ?_
        rw [Int.sub_mul, Int.mul_sub, Int.neg_mul, Int.neg_mul]
        rw [Int.sub_mul] at hxr a2
        omega
      omega
    · have hs2 : (-x) * r ≤ s * (1000000 - r) := by
        by_cases h0 : x < 0
        · rwa [if_pos h0] at hs
        · rw [if_neg h0] at hs
          have : x = 0 := by omega
          subst this
          simpa using hs
      have : q ≤ s + 2 - x := by
        refine le_of_mul (c := 1000000 - r) (by omega) ?_
        rw [Int.mul_sub, Int.neg_mul] at hs2
        rw [Int.mul_sub] at a1
        rw [Int.sub_mul, Int.add_mul, Int.mul_sub s, Int.mul_sub x, Int.mul_sub q]
        omega
      omega
theorem low_high {x r : Int} (h1 : 0 ≤ r) (h2 : r ≤ 100000) : lowI x r ≤ highI x r := by
  unfold highI
  have nn : ∀ y, ¬ 0 < y → lowI y r ≤ 0 := fun y hy => by
    obtain ⟨q, e, a1, a2⟩ := low_neg hy h2
    have := lt_of_mul (a := 0) (b := q + 1) (c := 1000000 - r) (by omega) (by rw [Int.add_mul, Int.one_mul]; omega)
    omega
  have key : ∀ y, 0 < y → lowI y r ≤ -(lowI (-y) r) := fun y hy => by
    obtain ⟨q, e, a1, a2⟩ := low_pos hy h1
    obtain ⟨s, f, b1, b2⟩ := low_neg (x := -y) (r := r) (by omega) h2
    rw [e, f]
    have hyr : 0 ≤ y * r := Int.mul_nonneg (by omega) h1
    have hq : q ≤ y := by
      refine le_of_mul (c := 1000000 + r) (by omega) ?_
      rw [Int.mul_add y]
      omega
    have hs : y + 1 ≤ s := by
      have : y + 1 ≤ s := by
        refine le_of_mul (c := 1000000 - r) (by omega) ?_
        rw [Int.add_mul, Int.mul_sub y, Int.one_mul]
        omega
      exact this
    omega
  by_cases hx : 0 < x
  · exact key x hx
  · by_cases h0 : x = 0
    · subst h0
      have := nn 0 (by omega)
      simpa using by omega
    · have := key (-x) (by omega)
      rw [Int.neg_neg] at this
      omega
end Go.Proofs.Ytflplliiamodhaa
