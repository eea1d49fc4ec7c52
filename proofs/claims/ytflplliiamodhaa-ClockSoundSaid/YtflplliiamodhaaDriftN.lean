/- What points keep to a rate, told without their order. -/
import Derived.Test.YtflplliiamodhaaDriftM
namespace Go.Proofs.Ytflplliiamodhaa
open Go.RowKit
set_option linter.unusedVariables false

def timeB (t : Int) : Bool := decide (0 ≤ t ∧ t ≤ 4611686018427387903)
def InT (p : Int × Int) : Prop := (0 ≤ p.1 ∧ p.1 ≤ 4611686018427387903) ∧ (0 ≤ p.2 ∧ p.2 ≤ 4611686018427387903)
def soundP (l : List (Int × Int)) : Prop := ∀ k, k < l.length → InT (l.getD k (0, 0))
instance (p : Int × Int) : Decidable (InT p) := by unfold InT; exact inferInstance
instance (l : List (Int × Int)) : Decidable (soundP l) := by unfold soundP; exact inferInstance
def fastV (r : Int) (p : Int × Int) : Int := p.2 * 1000000 + p.1 * (-1000000 - r)
def slowV (r : Int) (p : Int × Int) : Int := p.2 * (-1000000) + p.1 * (1000000 - r)
def adjP (s : List (Int × Int)) : Prop := ∀ k, k < s.length - 1 → ¬ ((s.getD (k + 1) (0, 0)).2 < (s.getD k (0, 0)).2 ∨ ((s.getD (k + 1) (0, 0)).1 = (s.getD k (0, 0)).1 ∧ (s.getD (k + 1) (0, 0)).2 ≠ (s.getD k (0, 0)).2))
instance (s : List (Int × Int)) : Decidable (adjP s) := by unfold adjP; exact inferInstance
def risesP (f : Int × Int → Int) (s : List (Int × Int)) : Prop := ∀ j, j < s.length → ∀ i, i < j + 1 → f (s.getD j (0, 0)) - f (s.getD i (0, 0)) ≤ 1000000
instance (f : Int × Int → Int) (s : List (Int × Int)) : Decidable (risesP f s) := by unfold risesP; exact inferInstance
def keepB (r : Int) (s : List (Int × Int)) : Bool := decide (adjP s) && (decide (risesP (fastV r) s) && decide (risesP (slowV r) s))
/-- p isn't behind q -/
def leP (p q : Int × Int) : Prop := p.1 < q.1 ∨ (p.1 = q.1 ∧ p.2 ≤ q.2)
instance (p q : Int × Int) : Decidable (leP p q) := by unfold leP; exact inferInstance
theorem leP_total (p q : Int × Int) : leP p q ∨ leP q p := by unfold leP; omega
theorem leP_anti {p q : Int × Int} (h : leP p q) (k : leP q p) : p = q := by
  unfold leP at h k
  exact Prod.ext (by omega) (by omega)
def okP (r : Int) (p q : Int × Int) : Prop := p.2 ≤ q.2 ∧ (p.1 = q.1 → p.2 = q.2) ∧ fastV r q - fastV r p ≤ 1000000 ∧ slowV r q - slowV r p ≤ 1000000
instance (r : Int) (p q : Int × Int) : Decidable (okP r p q) := by unfold okP; exact inferInstance
theorem okP_self (r : Int) (p : Int × Int) : okP r p p := ⟨by omega, fun _ => rfl, by omega, by omega⟩
def okAll (r : Int) (l : List (Int × Int)) : Prop := ∀ p ∈ l, ∀ q ∈ l, leP p q → okP r p q
instance (r : Int) (l : List (Int × Int)) : Decidable (okAll r l) := by unfold okAll; exact inferInstance
def sortedP (s : List (Int × Int)) : Prop := ∀ i j, i ≤ j → j < s.length → leP (s.getD i (0, 0)) (s.getD j (0, 0))
theorem getD_mem {s : List (Int × Int)} {i : Nat} (h : i < s.length) : s.getD i (0, 0) ∈ s := by
  rw [List.getD_eq_getElem?_getD, List.getElem?_eq_getElem h]
  exact List.getElem_mem h
theorem mem_getD {s : List (Int × Int)} {p : Int × Int} (h : p ∈ s) : ∃ i, i < s.length ∧ s.getD i (0, 0) = p := by
  obtain ⟨i, hi, e⟩ := List.getElem_of_mem h
  exact ⟨i, hi, by rw [List.getD_eq_getElem?_getD, List.getElem?_eq_getElem hi]; exact e⟩
theorem sound_iff {l : List (Int × Int)} : soundP l ↔ ∀ p ∈ l, InT p := by
  constructor
  · intro h p hp
    obtain ⟨i, hi, e⟩ := mem_getD hp
    rw [← e]; exact h i hi
  · exact fun h k hk => h _ (getD_mem hk)
theorem adj_chain {s : List (Int × Int)} (h : adjP s) (hs : sortedP s) (i : Nat) : ∀ d, i + d < s.length → (s.getD i (0, 0)).2 ≤ (s.getD (i + d) (0, 0)).2 ∧ ((s.getD i (0, 0)).1 = (s.getD (i + d) (0, 0)).1 → (s.getD i (0, 0)).2 = (s.getD (i + d) (0, 0)).2)
  | 0, _ => ⟨Int.le_refl _, fun _ => rfl⟩
  | d + 1, hd => by
    obtain ⟨a, b⟩ := adj_chain h hs i d (by omega)
    have c := h (i + d) (by omega)
    have s1 := hs i (i + d) (by omega) (by omega)
    have s2 := hs (i + d) (i + d + 1) (by omega) (by omega)
    rw [show i + (d + 1) = i + d + 1 from rfl]
    unfold leP at s1 s2
    constructor
    · omega
    · intro e
      have := b (by omega)
      omega
theorem keep_iff {r : Int} {s l : List (Int × Int)} (hp : s.Perm l) (hs : sortedP s) : keepB r s = true ↔ okAll r l := by
  unfold keepB
  rw [Bool.and_eq_true, Bool.and_eq_true, decide_eq_true_iff, decide_eq_true_iff, decide_eq_true_iff]
  constructor
  · rintro ⟨ha, hf, hw⟩ p hpl q hql hpq
    obtain ⟨i, hi, ei⟩ := mem_getD (hp.mem_iff.2 hpl)
    obtain ⟨j, hj, ej⟩ := mem_getD (hp.mem_iff.2 hql)
    by_cases hij : i ≤ j
    · obtain ⟨a, b⟩ := adj_chain ha hs i (j - i) (by omega)
      have f1 := hf j hj i (by omega)
      have w1 := hw j hj i (by omega)
      rw [show i + (j - i) = j by omega] at a b
      rw [ei, ej] at a b f1 w1
      exact ⟨a, b, f1, w1⟩
    · have := hs j i (by omega) hi
      rw [ei, ej] at this
      rw [leP_anti hpq this]
      exact okP_self r q
  · intro h
    refine ⟨fun k hk => ?_, fun j hj i hi => ?_, fun j hj i hi => ?_⟩
    · obtain ⟨a, b, -, -⟩ := h _ (hp.mem_iff.1 (getD_mem (i := k) (by omega))) _ (hp.mem_iff.1 (getD_mem (i := k + 1) (by omega))) (hs k (k + 1) (by omega) (by omega))
      omega
    · exact (h _ (hp.mem_iff.1 (getD_mem (i := i) (by omega))) _ (hp.mem_iff.1 (getD_mem hj)) (hs i j (by omega) hj)).2.2.1
    · exact (h _ (hp.mem_iff.1 (getD_mem (i := i) (by omega))) _ (hp.mem_iff.1 (getD_mem hj)) (hs i j (by omega) hj)).2.2.2
theorem ok_mono {r t : Int} {l : List (Int × Int)} (h : okAll r l) (hrt : r ≤ t) : okAll t l := fun p hp q hq hpq => by
  obtain ⟨a, b, c, d⟩ := h p hp q hq hpq
  refine ⟨a, b, ?_, ?_⟩
  · have e : (q.1 - p.1) * r ≤ (q.1 - p.1) * t := Int.mul_le_mul_of_nonneg_left hrt (by unfold leP at hpq; omega)
    unfold fastV at *
    simp only [Int.sub_mul, Int.mul_sub] at *
    omega
  · have e : (q.1 - p.1) * r ≤ (q.1 - p.1) * t := Int.mul_le_mul_of_nonneg_left hrt (by unfold leP at hpq; omega)
    unfold slowV at *
    simp only [Int.sub_mul, Int.mul_sub] at *
    omega
theorem ok_sub {r : Int} {l m : List (Int × Int)} (h : okAll r l) (hm : ∀ p ∈ m, p ∈ l) : okAll r m := fun p hp q hq => h p (hm p hp) q (hm q hq)
theorem low_zero {x r : Int} (h : ¬ 0 < x) (h2 : r ≤ 100000) : lowI x r ≤ 0 := by
  obtain ⟨q, e, a1, a2⟩ := low_neg h h2
  have := lt_of_mul (a := 0) (b := q + 1) (c := 1000000 - r) (by omega) (by rw [Int.add_mul, Int.one_mul]; omega)
  omega
theorem sound_ahead {r x d : Int} (h1 : 0 ≤ r) (h2 : r ≤ 100000) (hx : 0 ≤ x) (hd : 0 ≤ d) (h0 : d = 0 → x = 0) (hf : x * 1000000 - d * (1000000 + r) ≤ 1000000) (hs : d * (1000000 - r) - x * 1000000 ≤ 1000000) :
    lowI x r ≤ d ∧ d ≤ highI x r := by
  constructor
  · by_cases hp : 0 < x
    · obtain ⟨q, e, a1, a2⟩ := low_pos hp h1
      have : q ≤ d := le_of_mul (c := 1000000 + r) (by omega) (by omega)
      rw [e]; omega
    · have := low_zero hp h2
      omega
  · unfold highI
    obtain ⟨q, e, a1, a2⟩ := low_neg (x := -x) (r := r) (by omega) h2
    have : d ≤ q := le_of_mul (c := 1000000 - r) (by omega) (by omega)
    rw [e]; omega
theorem sound_pair {r : Int} {p q : Int × Int} (h1 : 0 ≤ r) (h2 : r ≤ 100000) (hpq : leP p q) (ho : okP r p q) : lowI (q.2 - p.2) r ≤ q.1 - p.1 ∧ q.1 - p.1 ≤ highI (q.2 - p.2) r := by
  obtain ⟨a, b, c, d⟩ := ho
  unfold leP at hpq
  unfold fastV at c
  unfold slowV at d
  refine sound_ahead h1 h2 (by omega) (by omega) (fun e => ?_) ?_ ?_
  · have := b (by omega); omega
  · simp only [Int.sub_mul, Int.mul_sub, Int.mul_add] at *
    omega
  · simp only [Int.sub_mul, Int.mul_sub] at *
    omega
theorem sound_any {r : Int} {l : List (Int × Int)} (h1 : 0 ≤ r) (h2 : r ≤ 100000) (h : okAll r l) {p q : Int × Int} (hp : p ∈ l) (hq : q ∈ l) : lowI (q.2 - p.2) r ≤ q.1 - p.1 ∧ q.1 - p.1 ≤ highI (q.2 - p.2) r := by
  rcases leP_total p q with k | k
  · exact sound_pair h1 h2 k (h p hp q hq k)
  · obtain ⟨a, b⟩ := sound_pair h1 h2 k (h q hq p hp k)
    unfold highI at *
    rw [show -(p.2 - q.2) = q.2 - p.2 by omega] at b
    rw [show -(q.2 - p.2) = p.2 - q.2 by omega]
    omega
end Go.Proofs.Ytflplliiamodhaa
