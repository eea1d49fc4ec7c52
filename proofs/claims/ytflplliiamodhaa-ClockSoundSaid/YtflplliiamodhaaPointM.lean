/- Meets of intervals, point by point. -/
import Derived.Test.YtflplliiamodhaaListD
namespace Go.Proofs.Ytflplliiamodhaa
set_option linter.unusedVariables false

theorem foldM_has (x : Int) : ∀ (l : List (Int × Int)) (z : Int × Int), ((l.foldl opM z).1 ≤ x ∧ x ≤ (l.foldl opM z).2) ↔ ((z.1 ≤ x ∧ x ≤ z.2) ∧ ∀ p ∈ l, p.1 ≤ x ∧ x ≤ p.2)
  | [], z => by simp
  | p :: l, z => by
    rw [List.foldl_cons, foldM_has x l (opM z p)]
    simp only [List.mem_cons, forall_eq_or_imp]
    have h : ((opM z p).1 ≤ x ∧ x ≤ (opM z p).2) ↔ ((z.1 ≤ x ∧ x ≤ z.2) ∧ (p.1 ≤ x ∧ x ≤ p.2)) := by unfold opM; simp only; omega
    rw [h, and_assoc]
theorem foldM_le : ∀ (l : List (Int × Int)) (z : Int × Int), (z.1 ≤ (l.foldl opM z).1 ∧ (l.foldl opM z).2 ≤ z.2) ∧ ∀ p ∈ l, p.1 ≤ (l.foldl opM z).1 ∧ (l.foldl opM z).2 ≤ p.2
  | [], z => by simp
  | p :: l, z => by
    rw [List.foldl_cons]
    obtain ⟨h1, h2⟩ := foldM_le l (opM z p)
    have h3 : z.1 ≤ (opM z p).1 ∧ (opM z p).2 ≤ z.2 ∧ p.1 ≤ (opM z p).1 ∧ (opM z p).2 ≤ p.2 := by unfold opM; simp only; omega
    refine ⟨by omega, fun q hq => ?_⟩
    rcases List.mem_cons.1 hq with rfl | hq
    · omega
    · exact h2 q hq
theorem getP_mem {l : List (Int × Int)} {j : Nat} (h : j < l.length) : l.getD j (0, 0) ∈ l := by
  rw [List.getD_eq_getElem?_getD, List.getElem?_eq_getElem h]
  exact List.getElem_mem h
theorem all_iff {l : List (Int × Int)} {P : Int × Int → Prop} : (∀ p ∈ l, P p) ↔ ∀ j, j < l.length → P (l.getD j (0, 0)) := by
  constructor
  · exact fun h j hj => h _ (getP_mem hj)
  · intro h p hp
    obtain ⟨j, hj, rfl⟩ := List.mem_iff_getElem.1 hp
    have := h j hj
    rwa [List.getD_eq_getElem?_getD, List.getElem?_eq_getElem hj] at this
end Go.Proofs.Ytflplliiamodhaa
