/- noonmarkref17.Without: what its loop finds. -/
import Derived.Test.YtllkdohomkofhaaRefG
namespace Go.Proofs.Ytllkdohomkofhaa
open Go.RowKit
set_option linter.unusedVariables false

def Lq (L : List (Int × Int)) (t : Int) (k : Nat) (lo : Int) : Prop :=
  (∀ j, j < k → (L.getD j (0, 0)).1 ≤ (L.getD j (0, 0)).2 → t ≤ (votes L (L.getD j (0, 0)).1 : Int) → lo ≤ (L.getD j (0, 0)).1) ∧ (lo = 9223372036854775807 ∨ ∃ j, j < k ∧ t ≤ (votes L (L.getD j (0, 0)).1 : Int) ∧ (L.getD j (0, 0)).1 = lo)
def Uq (L : List (Int × Int)) (t : Int) (k : Nat) (hi : Int) : Prop :=
  (∀ j, j < k → (L.getD j (0, 0)).1 ≤ (L.getD j (0, 0)).2 → t ≤ (votes L (L.getD j (0, 0)).2 : Int) → (L.getD j (0, 0)).2 ≤ hi) ∧ (hi = -9223372036854775808 ∨ ∃ j, j < k ∧ t ≤ (votes L (L.getD j (0, 0)).2 : Int) ∧ (L.getD j (0, 0)).2 = hi)
theorem lq_yes {L : List (Int × Int)} {t lo p q : Int} {k : Nat} (h : Lq L t k lo) (hp : L.getD k (0, 0) = (p, q)) (hv : t ≤ (votes L p : Int)) : Lq L t (k + 1) (min lo p) := by
  obtain ⟨h1, h2⟩ := h
  refine ⟨fun j hj hr hbj => ?_, ?_⟩
  · by_cases e : j = k
    · subst e; rw [hp]; exact Int.min_le_right _ _
    · exact Int.le_trans (Int.min_le_left _ _) (h1 j (by omega) hr hbj)
  · by_cases hh : p ≤ lo
    · exact .inr ⟨k, by omega, by rw [hp]; exact hv, by rw [hp]; exact (Int.min_eq_right hh).symm⟩
    · rw [Int.min_eq_left (by omega)]
      rcases h2 with h2 | ⟨j, a, b, c⟩
      · exact .inl h2
      · exact .inr ⟨j, by omega, b, c⟩
theorem lq_no {L : List (Int × Int)} {t lo p q : Int} {k : Nat} (h : Lq L t k lo) (hp : L.getD k (0, 0) = (p, q)) (hv : ¬ (p ≤ q ∧ t ≤ (votes L p : Int))) : Lq L t (k + 1) lo := by
  obtain ⟨h1, h2⟩ := h
  refine ⟨fun j hj hr hbj => ?_, ?_⟩
  · by_cases e : j = k
    · subst e; rw [hp] at hr hbj; exact absurd ⟨hr, hbj⟩ hv
    · exact h1 j (by omega) hr hbj
  · rcases h2 with h2 | ⟨j, a, b, c⟩
    · exact .inl h2
    · exact .inr ⟨j, by omega, b, c⟩
theorem uq_yes {L : List (Int × Int)} {t hi p q : Int} {k : Nat} (h : Uq L t k hi) (hp : L.getD k (0, 0) = (p, q)) (hv : t ≤ (votes L q : Int)) : Uq L t (k + 1) (max hi q) := by
  obtain ⟨h1, h2⟩ := h
  refine ⟨fun j hj hr hbj => ?_, ?_⟩
  · by_cases e : j = k
    · subst e; rw [hp]; exact Int.le_max_right _ _
    · exact Int.le_trans (h1 j (by omega) hr hbj) (Int.le_max_left _ _)
  · by_cases hh : hi ≤ q
    · exact .inr ⟨k, by omega, by rw [hp]; exact hv, by rw [hp]; exact (Int.max_eq_right hh).symm⟩
    · rw [Int.max_eq_left (by omega)]
      rcases h2 with h2 | ⟨j, a, b, c⟩
      · exact .inl h2
      · exact .inr ⟨j, by omega, b, c⟩
theorem uq_no {L : List (Int × Int)} {t hi p q : Int} {k : Nat} (h : Uq L t k hi) (hp : L.getD k (0, 0) = (p, q)) (hv : ¬ (p ≤ q ∧ t ≤ (votes L q : Int))) : Uq L t (k + 1) hi := by
  obtain ⟨h1, h2⟩ := h
  refine ⟨fun j hj hr hbj => ?_, ?_⟩
  · by_cases e : j = k
    · subst e; rw [hp] at hr hbj; exact absurd ⟨hr, hbj⟩ hv
    · exact h1 j (by omega) hr hbj
  · rcases h2 with h2 | ⟨j, a, b, c⟩
    · exact .inl h2
    · exact .inr ⟨j, by omega, b, c⟩
theorem lu_end {L : List (Int × Int)} (hin : ∀ p ∈ L, InP p) {t lo hi : Int} (ht : 0 < t) (h : Lq L t L.length lo) (u : Uq L t L.length hi) : (lo ≤ hi → WithX L t ((lo, hi), true)) ∧ (¬ lo ≤ hi → WithX L t ((0, 0), false)) := by
  have hl : ∀ p ∈ L, p.1 ≤ p.2 → t ≤ (votes L p.1 : Int) → lo ≤ p.1 := fun p hp hr hv => by
    obtain ⟨j, hj, he⟩ := pair_ix hp
    have := h.1 j hj
    rw [he] at this
    exact this hr hv
  have hu : ∀ p ∈ L, p.1 ≤ p.2 → t ≤ (votes L p.2 : Int) → p.2 ≤ hi := fun p hp hr hv => by
    obtain ⟨j, hj, he⟩ := pair_ix hp
    have := u.1 j hj
    rw [he] at this
    exact this hr hv
  have hy : ∀ y, t ≤ (votes L y : Int) → lo ≤ y ∧ y ≤ hi ∧ t ≤ (votes L lo : Int) ∧ t ≤ (votes L hi : Int) := fun y hv => by
    have hv0 : 0 < votes L y := by omega
    obtain ⟨p, hp, a, b, c⟩ := low_pt hv0
    obtain ⟨q, hq, a', b', c'⟩ := high_pt hv0
    have g1 := hl p hp a (by omega)
    have g2 := hu q hq a' (by omega)
    have i1 := hin p hp
    have i2 := hin q hq
    unfold InP InI at i1 i2
    refine ⟨by omega, by omega, ?_, ?_⟩
    · rcases h.2 with e | ⟨j, _, d, e⟩
      · rw [show lo = p.1 by omega]; omega
      · rw [← e]; exact d
    · rcases u.2 with e | ⟨j, _, d, e⟩
      · rw [show hi = q.2 by omega]; omega
      · rw [← e]; exact d
  by_cases hex : ∃ y, t ≤ (votes L y : Int)
  · obtain ⟨y, hv⟩ := hex
    obtain ⟨a, b, c, d⟩ := hy y hv
    exact ⟨fun _ => .inr ⟨rfl, c, d, fun z hz => Int.not_le.1 fun hv => by have := hy z hv; dsimp only at hz; omega, fun z hz => Int.not_le.1 fun hv => by have := hy z hv; dsimp only at hz; omega⟩, fun hn => absurd (show lo ≤ hi by omega) hn⟩
  · have hno : ∀ y, (votes L y : Int) < t := fun y => Int.not_le.1 fun hv => hex ⟨y, hv⟩
    refine ⟨fun hle => ?_, fun _ => .inl ⟨rfl, hno⟩⟩
    rcases h.2 with e | ⟨j, _, d, _⟩
    · rcases u.2 with e' | ⟨j, _, d, _⟩
      · omega
      · exact absurd ⟨_, d⟩ hex
    · exact absurd ⟨_, d⟩ hex
def WqRel (L : List (Int × Int)) (t : Int) (g : Nat) (w : World) (i : Value) (wr : World) : Prop := ∃ (k : Nat) (lo hi : Int), k ≤ L.length ∧ i = .int .i64 k ∧ Hid (Lq L t k lo) ∧ Hid (Uq L t k hi) ∧ Hid (Kept wr w.heap.size #[.int .i64 0, .int .i64 0] 28) ∧ Hid (Kept wr g #[.int .i64 lo, .int .i64 hi] 28) ∧ Hid (Below w.heap.size w wr)
end Go.Proofs.Ytllkdohomkofhaa
