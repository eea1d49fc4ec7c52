/- Intervals of a list together: the plain side of GapPoints. -/
import Derived.Test.YtahenediimoboaaAlive
namespace Go.Proofs.Ytahenediimoboaa
open Go.RowKit
set_option linter.unusedVariables false

theorem foldM_has (x : Int) : ∀ (l : List (Int × Int)) (z : Int × Int), ((l.foldl opM z).1 ≤ x ∧ x ≤ (l.foldl opM z).2) ↔ ((z.1 ≤ x ∧ x ≤ z.2) ∧ ∀ p ∈ l, p.1 ≤ x ∧ x ≤ p.2)
  | [], z => by simp
  | p :: l, z => by
    rw [List.foldl_cons, foldM_has x l (opM z p)]
    simp only [List.mem_cons, forall_eq_or_imp]
    have h : ((opM z p).1 ≤ x ∧ x ≤ (opM z p).2) ↔ ((z.1 ≤ x ∧ x ≤ z.2) ∧ (p.1 ≤ x ∧ x ≤ p.2)) := by unfold opM; simp only; omega
    rw [h, and_assoc]
theorem foldM_le : ∀ (l : List (Int × Int)) (z : Int × Int), (z.1 ≤ (l.foldl opM z).1 ∧ (l.foldl opM z).2 ≤ z.2) ∧ ∀ p ∈ l, p.1 ≤ (l.foldl opM z).1 ∧ (l.foldl opM z).2 ≤ p.2
  | [], z => by simp
  | p :: l, z => by
    rw [List.foldl_cons]
    obtain ⟨h1, h2⟩ := foldM_le l (opM z p)
    have h3 : z.1 ≤ (opM z p).1 ∧ (opM z p).2 ≤ z.2 ∧ p.1 ≤ (opM z p).1 ∧ (opM z p).2 ≤ p.2 := by unfold opM; simp only; omega
    refine ⟨by omega, fun q hq => ?_⟩
    rcases List.mem_cons.1 hq with rfl | hq
    · omega
    · exact h2 q hq
theorem foldH_ge : ∀ (l : List (Int × Int)) (z : Int × Int), ((l.foldl opH z).1 ≤ z.1 ∧ z.2 ≤ (l.foldl opH z).2) ∧ ∀ p ∈ l, (l.foldl opH z).1 ≤ p.1 ∧ p.2 ≤ (l.foldl opH z).2
  | [], z => by simp
  | p :: l, z => by
    rw [List.foldl_cons]
    obtain ⟨h1, h2⟩ := foldH_ge l (opH z p)
    have h3 : (opH z p).1 ≤ z.1 ∧ z.2 ≤ (opH z p).2 ∧ (opH z p).1 ≤ p.1 ∧ p.2 ≤ (opH z p).2 := by unfold opH; simp only; omega
    refine ⟨by omega, fun q hq => ?_⟩
    rcases List.mem_cons.1 hq with rfl | hq
    · omega
    · exact h2 q hq
theorem getP_mem {l : List (Int × Int)} {j : Nat} (h : j < l.length) : l.getD j (0, 0) ∈ l := by
  rw [List.getD_eq_getElem?_getD, List.getElem?_eq_getElem h]
  exact List.getElem_mem h
theorem all_iff {l : List (Int × Int)} {P : Int × Int → Prop} : (∀ p ∈ l, P p) ↔ ∀ j, j < l.length → P (l.getD j (0, 0)) := by
  constructor
  · exact fun h j hj => h _ (getP_mem hj)
  · intro h p hp
    obtain ⟨j, hj, rfl⟩ := List.mem_iff_getElem.1 hp
    have := h j hj
    rwa [List.getD_eq_getElem?_getD, List.getElem?_eq_getElem hj] at this
/-- does each of the first k have x? does one of them? -/
def eachB (l : List (Int × Int)) (x : Int) (k : Nat) : Bool := decide (∀ j, j < k → (l.getD j (0, 0)).1 ≤ x ∧ x ≤ (l.getD j (0, 0)).2)
def someB (l : List (Int × Int)) (x : Int) (k : Nat) : Bool := decide (∃ j, j < k ∧ (l.getD j (0, 0)).1 ≤ x ∧ x ≤ (l.getD j (0, 0)).2)
theorem eachB_succ (l : List (Int × Int)) (x : Int) (k : Nat) : eachB l x (k + 1) = (eachB l x k && decide ((l.getD k (0, 0)).1 ≤ x ∧ x ≤ (l.getD k (0, 0)).2)) := by
  unfold eachB
  rw [Bool.eq_iff_iff]
  simp only [Bool.and_eq_true, decide_eq_true_eq]
  constructor
  · exact fun h => ⟨fun j hj => h j (by omega), h k (by omega)⟩
  · intro h j hj
    by_cases e : j = k
    · rw [e]; exact h.2
    · exact h.1 j (by omega)
theorem someB_succ (l : List (Int × Int)) (x : Int) (k : Nat) : someB l x (k + 1) = (someB l x k || decide ((l.getD k (0, 0)).1 ≤ x ∧ x ≤ (l.getD k (0, 0)).2)) := by
  unfold someB
  rw [Bool.eq_iff_iff]
  simp only [Bool.or_eq_true, decide_eq_true_eq]
  constructor
  · rintro ⟨j, hj, h⟩
    by_cases e : j = k
    · rw [e] at h; exact .inr h
    · exact .inl ⟨j, by omega, h⟩
  · rintro (⟨j, hj, h⟩ | h)
    · exact ⟨j, by omega, h⟩
    · exact ⟨k, by omega, h⟩
/-- what the two lists' answers come to where all are right -/
theorem points_meet (l : List (Int × Int)) (x : Int) (hx : InI x) (hall : allR l) :
    (combE l (l.foldl opM fullP) = 13 ∧ eachB l x l.length = false) ∨
    (combE l (l.foldl opM fullP) = 0 ∧ decide (combL l (l.foldl opM fullP) ≤ x ∧ x ≤ combH l (l.foldl opM fullP)) = eachB l x l.length ∧ combL l (l.foldl opM fullP) ≤ combH l (l.foldl opM fullP) ∧ ∀ j, j < l.length → (l.getD j (0, 0)).1 ≤ combL l (l.foldl opM fullP) ∧ combH l (l.foldl opM fullP) ≤ (l.getD j (0, 0)).2) := by
  have hh := foldM_has x l fullP
  have hle := (foldM_le l fullP).2
  rw [all_iff] at hh hle
  unfold InI at hx
  have hfull : fullP.1 ≤ x ∧ x ≤ fullP.2 := by unfold fullP; simp only; omega
  by_cases hr : (l.foldl opM fullP).1 ≤ (l.foldl opM fullP).2
  · right
    obtain ⟨e1, e2, e3⟩ := comb_ok hall hr
    rw [e1, e2, e3]
    refine ⟨rfl, ?_, hr, hle⟩
    unfold eachB
    rw [decide_eq_decide, hh]
    exact ⟨fun h => h.2, fun h => ⟨hfull, h⟩⟩
  · left
    obtain ⟨e1, -, -⟩ := comb_no (r := l.foldl opM fullP) hall (by omega)
    rw [e1]
    refine ⟨rfl, ?_⟩
    unfold eachB
    rw [decide_eq_false_iff_not]
    intro h
    have := hh.2 ⟨hfull, h⟩
    omega
theorem points_hull (l : List (Int × Int)) (x : Int) (hall : allR l) :
    (l.length = 0 ∧ someB l x l.length = false) ∨
    (combE l (l.foldl opH noneP) = 0 ∧ (someB l x l.length = true → combL l (l.foldl opH noneP) ≤ x ∧ x ≤ combH l (l.foldl opH noneP)) ∧ ∀ j, j < l.length → combL l (l.foldl opH noneP) ≤ (l.getD j (0, 0)).1 ∧ (l.getD j (0, 0)).2 ≤ combH l (l.foldl opH noneP)) := by
  by_cases h0 : l.length = 0
  · left
    refine ⟨h0, ?_⟩
    unfold someB
    rw [decide_eq_false_iff_not]
    rintro ⟨j, hj, _⟩
    omega
  · right
    have hge := (foldH_ge l noneP).2
    rw [all_iff] at hge
    have h1 := hge 0 (by omega)
    have h2 := hall 0 (by omega)
    obtain ⟨e1, e2, e3⟩ := comb_ok (r := l.foldl opH noneP) hall (by omega)
    rw [e1, e2, e3]
    refine ⟨rfl, fun h => ?_, hge⟩
    unfold someB at h
    rw [decide_eq_true_eq] at h
    obtain ⟨j, hj, h3⟩ := h
    have := hge j hj
    omega
end Go.Proofs.Ytahenediimoboaa
