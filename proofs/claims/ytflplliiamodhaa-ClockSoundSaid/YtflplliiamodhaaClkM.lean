/- The numbers of layer 18: samples, and their intervals. -/
import Derived.Test.YtflplliiamodhaaDriftF
import Derived.Test.YtflplliiamodhaaSwA
namespace Go.Proofs.Ytflplliiamodhaa
open Go.RowKit
set_option linter.unusedVariables false

theorem Kept.four {w : World} {g : Nat} {x y z u : Value} {t : TypeId} (h : Kept w g #[x, y, z, u] t) : w.cell? ⟨g, 0, none⟩ = some x ∧ w.cell? ⟨g, 1, none⟩ = some y ∧ w.cell? ⟨g, 2, none⟩ = some z ∧ w.cell? ⟨g, 3, none⟩ = some u ∧ w.frozen? ⟨g, 0, none⟩ = false ∧ w.frozen? ⟨g, 1, none⟩ = false ∧ w.frozen? ⟨g, 2, none⟩ = false ∧ w.frozen? ⟨g, 3, none⟩ = false ∧ g < w.heap.size :=
  ⟨(h.at_ 0).1, (h.at_ 1).1, (h.at_ 2).1, (h.at_ 3).1, (h.at_ 0).2, (h.at_ 1).2, (h.at_ 2).2, (h.at_ 3).2, h.lt⟩
theorem Kept.five {w : World} {g : Nat} {x y z u v : Value} {t : TypeId} (h : Kept w g #[x, y, z, u, v] t) : w.cell? ⟨g, 0, none⟩ = some x ∧ w.cell? ⟨g, 1, none⟩ = some y ∧ w.cell? ⟨g, 2, none⟩ = some z ∧ w.cell? ⟨g, 3, none⟩ = some u ∧ w.cell? ⟨g, 4, none⟩ = some v ∧ w.frozen? ⟨g, 0, none⟩ = false ∧ w.frozen? ⟨g, 1, none⟩ = false ∧ w.frozen? ⟨g, 2, none⟩ = false ∧ w.frozen? ⟨g, 3, none⟩ = false ∧ w.frozen? ⟨g, 4, none⟩ = false ∧ g < w.heap.size :=
  ⟨(h.at_ 0).1, (h.at_ 1).1, (h.at_ 2).1, (h.at_ 3).1, (h.at_ 4).1, (h.at_ 0).2, (h.at_ 1).2, (h.at_ 2).2, (h.at_ 3).2, (h.at_ 4).2, h.lt⟩
/-- a sample: asked, got, sent, came -/
abbrev Sm := Int × Int × Int × Int
def rgtS (s : Sm) : Bool := decide (0 ≤ s.1 ∧ s.1 ≤ s.2.2.2 ∧ s.2.2.2 ≤ 4611686018427387903 ∧ 0 ≤ s.2.1 ∧ s.2.1 ≤ s.2.2.1 ∧ s.2.2.1 ≤ 4611686018427387903)
def RgtS (a g s c : Int) : Prop := 0 ≤ a ∧ a ≤ c ∧ c ≤ 4611686018427387903 ∧ 0 ≤ g ∧ g ≤ s ∧ s ≤ 4611686018427387903
instance (a g s c : Int) : Decidable (RgtS a g s c) := inferInstanceAs (Decidable (0 ≤ a ∧ a ≤ c ∧ c ≤ 4611686018427387903 ∧ 0 ≤ g ∧ g ≤ s ∧ s ≤ 4611686018427387903))
theorem rgt_iff {a g s c : Int} : decide (RgtS a g s c) = true ↔ (0 ≤ a ∧ a ≤ c ∧ c ≤ 4611686018427387903 ∧ 0 ≤ g ∧ g ≤ s ∧ s ≤ 4611686018427387903) := decide_eq_true_iff
theorem rgt_yes {a g s c : Int} (h : rgtS (a, g, s, c) = true) : RgtS a g s c := by unfold rgtS at h; exact of_decide_eq_true h
theorem rgt_no {a g s c : Int} (h : rgtS (a, g, s, c) = false) : ¬ RgtS a g s c := by unfold rgtS at h; exact of_decide_eq_false h
def tmI (t : Int) : Bool := decide (0 ≤ t ∧ t ≤ 4611686018427387903)
theorem tm_yes {t : Int} (h : tmI t = true) : 0 ≤ t ∧ t ≤ 4611686018427387903 := of_decide_eq_true h
theorem tm_no {t : Int} (h : tmI t = false) : ¬ (0 ≤ t ∧ t ≤ 4611686018427387903) := of_decide_eq_false h
def tripS (s : Sm) : Int := if rgtS s = true then (s.2.2.2 - s.1) - (s.2.2.1 - s.2.1) else 0
def atLo (s : Sm) (t r : Int) : Int := max 0 (s.1 + lowI (t - s.2.1) r)
def atHi (s : Sm) (t r : Int) : Int := min 4611686018427387903 (s.2.2.2 + highI (t - s.2.2.1) r)
def atE (s : Sm) (t r : Int) : Int := if rgtS s = true then (if tmI t = true ∧ rateB r = true then (if atLo s t r ≤ atHi s t r then 0 else 13) else 11) else 10
def atG (s : Sm) (t r : Int) : Int × Int := if atE s t r = 0 then (atLo s t r, atHi s t r) else (0, 0)
/-- what a clock lays for a sample: its interval, or none -/
def gapS (s : Sm) (t r : Int) : Int × Int := if atE s t r = 0 then (atLo s t r, atHi s t r) else (1, 0)
def gapsS (L : List Sm) (t r : Int) : List (Int × Int) := L.map fun s => gapS s t r
theorem low_range {x r : Int} (h : -4611686018427387904 ≤ x) (h' : x ≤ 4611686018427387904) (h1 : 0 ≤ r) (h2 : r ≤ 100000) : -6000000000000000000 ≤ lowI x r ∧ lowI x r ≤ x + 1 := by
  refine ⟨?_, (low_near h1 h2).1⟩
  by_cases hx : 0 < x
  · obtain ⟨q, e, a1, a2⟩ := low_pos hx h1
    rw [e]; omega
  · obtain ⟨q, e, a1, a2⟩ := low_neg hx h2
    rw [e]
    have : q ≤ 6000000000000000000 := by
      refine le_of_mul (c := 1000000 - r) (by omega) ?_
      have : (6000000000000000000 : Int) * (1000000 - r) ≥ 6000000000000000000 * 900000 := Int.mul_le_mul_of_nonneg_left (by omega) (by decide)
      omega
    omega
theorem high_range {x r : Int} (h : -4611686018427387904 ≤ x) (h' : x ≤ 4611686018427387904) (h1 : 0 ≤ r) (h2 : r ≤ 100000) : x - 1 ≤ highI x r ∧ highI x r ≤ 6000000000000000000 := by
  have := low_range (x := -x) (r := r) (by omega) (by omega) h1 h2
  unfold highI
  omega
theorem rate_lowE {x r : Int} (h : -4611686018427387904 ≤ x) (h' : x ≤ 4611686018427387904) : lowE x r = if rateB r = true then 0 else 11 := by
  unfold lowE rateB
  by_cases hr : 0 ≤ r ∧ r ≤ 100000
  · rw [if_pos (by omega), if_pos (decide_eq_true hr)]
  · rw [if_neg (by omega), decide_eq_false hr]; rfl
theorem atE_no {s : Sm} {t r : Int} (h : rgtS s = false) : atE s t r = 10 := by unfold atE; rw [if_neg (by rw [h]; exact Bool.false_ne_true)]
theorem atE_range {s : Sm} {t r : Int} (h : rgtS s = true) (h' : ¬ (tmI t = true ∧ rateB r = true)) : atE s t r = 11 := by unfold atE; rw [if_pos h, if_neg h']
theorem atE_form {s : Sm} {t r : Int} (h : rgtS s = true) (h' : tmI t = true ∧ rateB r = true) : atE s t r = if atLo s t r ≤ atHi s t r then 0 else 13 := by unfold atE; rw [if_pos h, if_pos h']
theorem atG_bad {s : Sm} {t r : Int} (h : atE s t r ≠ 0) : atG s t r = (0, 0) := if_neg h
theorem atG_ok {s : Sm} {t r : Int} (h : atE s t r = 0) : atG s t r = (atLo s t r, atHi s t r) := if_pos h
end Go.Proofs.Ytflplliiamodhaa
