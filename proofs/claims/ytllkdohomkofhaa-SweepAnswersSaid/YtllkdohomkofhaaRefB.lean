/- noonmarkref17.Best, Agree: for every input. -/
import Derived.Test.YtllkdohomkofhaaRefV
import Derived.Test.YtllkdohomkofhaaMostM
import Derived.Deep.QuietTactic
import Derived.BigQuiet
import Derived.StillTailTactics
import Derived.Deep.RegionHeld3
namespace Go.Proofs.Ytllkdohomkofhaa
open Go.RowKit
set_option linter.unusedVariables false
set_option linter.unusedSimpArgs false

/-- the best of the first k ends -/
def Bq (L : List (Int × Int)) (k : Nat) (lo n : Int) : Prop :=
  (n = 0 ∧ lo = 0 ∧ ∀ j, j < k → votes L (L.getD j (0, 0)).1 = 0) ∨
  (0 < n ∧ (votes L lo : Int) = n ∧ ∀ j, j < k → (votes L (L.getD j (0, 0)).1 : Int) ≤ n ∧ ((votes L (L.getD j (0, 0)).1 : Int) = n → lo ≤ (L.getD j (0, 0)).1))
theorem bq_yes {L : List (Int × Int)} {k : Nat} {lo n p : Int} (h : Bq L k lo n) (hp : (L.getD k (0, 0)).1 = p) (hc : n < (votes L p : Int) ∨ ((votes L p : Int) = n ∧ 0 < n ∧ p < lo)) : Bq L (k + 1) p (votes L p) := by
  rcases h with ⟨rfl, rfl, h⟩ | ⟨h0, h1, h2⟩
  · refine .inr ⟨by omega, rfl, fun j hj => ?_⟩
    by_cases e : j = k
    · subst e; rw [hp]; exact ⟨Int.le_refl _, fun _ => Int.le_refl _⟩
    · have := h j (by omega); omega
  · refine .inr ⟨by omega, rfl, fun j hj => ?_⟩
    by_cases e : j = k
    · subst e; rw [hp]; exact ⟨Int.le_refl _, fun _ => Int.le_refl _⟩
    · have := h2 j (by omega); omega
theorem bq_no {L : List (Int × Int)} {k : Nat} {lo n p : Int} (h : Bq L k lo n) (hp : (L.getD k (0, 0)).1 = p) (hc : ¬ (n < (votes L p : Int) ∨ ((votes L p : Int) = n ∧ 0 < n ∧ p < lo))) : Bq L (k + 1) lo n := by
  rcases h with ⟨rfl, rfl, h⟩ | ⟨h0, h1, h2⟩
  · refine .inl ⟨rfl, rfl, fun j hj => ?_⟩
    by_cases e : j = k
    · subst e; rw [hp]; omega
    · exact h j (by omega)
  · refine .inr ⟨h0, h1, fun j hj => ?_⟩
    by_cases e : j = k
    · subst e; rw [hp]; omega
    · exact h2 j (by omega)
theorem pair_ix {L : List (Int × Int)} {p : Int × Int} (h : p ∈ L) : ∃ j, j < L.length ∧ L.getD j (0, 0) = p := by
  obtain ⟨i, hi, he⟩ := List.getElem_of_mem h
  exact ⟨i, hi, by rw [List.getD_eq_getElem?_getD, List.getElem?_eq_getElem hi]; exact he⟩
theorem bq_none {L : List (Int × Int)} {lo n : Int} (h : Bq L L.length lo n) (hn : n = 0) : BestP L (0, 0) 0 := by
  rcases h with ⟨_, _, h⟩ | ⟨h, _⟩
  · refine .inl ⟨rfl, rfl, fun p hp hr => ?_⟩
    obtain ⟨j, hj, he⟩ := pair_ix hp
    have := h j hj
    rw [he] at this
    have := votes_pos.2 ⟨p, hp, hasB_iff.2 ⟨Int.le_refl _, hr⟩⟩
    omega
  · omega
/-- the least end above 'lo' of those that hold it, of the first k -/
def Hq (L : List (Int × Int)) (lo : Int) (k : Nat) (hi : Int) : Prop :=
  (∀ j, j < k → hasB lo (L.getD j (0, 0)) = true → hi ≤ (L.getD j (0, 0)).2) ∧ (hi = 9223372036854775807 ∨ ∃ j, j < k ∧ hasB lo (L.getD j (0, 0)) = true ∧ (L.getD j (0, 0)).2 = hi)
theorem hq_yes {L : List (Int × Int)} {lo hi p q : Int} {k : Nat} (h : Hq L lo k hi) (hp : L.getD k (0, 0) = (p, q)) (hb : hasB lo (p, q) = true) : Hq L lo (k + 1) (min hi q) := by
  obtain ⟨h1, h2⟩ := h
  refine ⟨fun j hj hbj => ?_, ?_⟩
  · by_cases e : j = k
    · subst e; rw [hp]; exact Int.min_le_right _ _
    · exact Int.le_trans (Int.min_le_left _ _) (h1 j (by omega) hbj)
  · by_cases hh : q ≤ hi
    · exact .inr ⟨k, by omega, by rw [hp]; exact hb, by rw [hp]; exact (Int.min_eq_right hh).symm⟩
    · rw [Int.min_eq_left (by omega)]
      rcases h2 with h2 | ⟨j, a, b, c⟩
      · exact .inl h2
      · exact .inr ⟨j, by omega, b, c⟩
theorem hq_no {L : List (Int × Int)} {lo hi p q : Int} {k : Nat} (h : Hq L lo k hi) (hp : L.getD k (0, 0) = (p, q)) (hb : hasB lo (p, q) = false) : Hq L lo (k + 1) hi := by
  obtain ⟨h1, h2⟩ := h
  refine ⟨fun j hj hbj => ?_, ?_⟩
  · by_cases e : j = k
    · subst e; rw [hp, hb] at hbj; cases hbj
    · exact h1 j (by omega) hbj
  · rcases h2 with h2 | ⟨j, a, b, c⟩
    · exact .inl h2
    · exact .inr ⟨j, by omega, b, c⟩
theorem bq_best {L : List (Int × Int)} {lo n hi : Int} (hin : ∀ p ∈ L, InP p) (h : Bq L L.length lo n) (hn : n ≠ 0) (hh : Hq L lo L.length hi) : BestP L (lo, hi) n := by
  rcases h with ⟨h, _⟩ | ⟨h0, h1, h2⟩
  · exact absurd h hn
  obtain ⟨g1, g2⟩ := hh
  have hall : ∀ p ∈ L, (votes L p.1 : Int) ≤ n ∧ ((votes L p.1 : Int) = n → lo ≤ p.1) := fun p hp => by
    obtain ⟨j, hj, he⟩ := pair_ix hp
    have := h2 j hj
    rwa [he] at this
  have hy : ∀ y, (votes L y : Int) ≤ n ∧ (y < lo → (votes L y : Int) < n) := fun y => by
    by_cases hv : 0 < votes L y
    · obtain ⟨p, hp, a, b, c⟩ := low_pt hv
      have := hall p hp
      omega
    · omega
  have hmin : ∀ p ∈ L, hasB lo p = true → hi ≤ p.2 := fun p hp hb => by
    obtain ⟨j, hj, he⟩ := pair_ix hp
    have := g1 j hj
    rw [he] at this
    exact this hb
  have hex : ∃ p ∈ L, hasB lo p = true ∧ p.2 = hi := by
    rcases g2 with rfl | ⟨j, hj, a, b⟩
    · obtain ⟨p, hp, hb⟩ := votes_pos.1 (show 0 < votes L lo by omega)
      have i1 := hin p hp
      have := hmin p hp hb
      unfold InP InI at i1
      exact ⟨p, hp, hb, by omega⟩
    · exact ⟨_, getP_mem hj, a, b⟩
  obtain ⟨p, hp, hb, he⟩ := hex
  have := hasB_iff.1 hb
  exact .inr ⟨h0, h1, fun y => (hy y).1, fun y h => (hy y).2 h, by dsimp only; omega, hmin, p, hp, hb, he⟩
def B1Rel (L : List (Int × Int)) (w : World) (m i : Value) (wr : World) : Prop := ∃ (k : Nat) (lo n : Int), k ≤ L.length ∧ i = .int .i64 k ∧ m = .int .i64 n ∧ Hid (Bq L k lo n) ∧ Hid (Kept wr w.heap.size #[.int .i64 0, .int .i64 0] 28) ∧ Hid (Kept wr (w.heap.size + 1) #[.int .i64 lo, .int .i64 lo] 28) ∧ Hid (Below w.heap.size w wr)
def B2Rel (L : List (Int × Int)) (lo : Int) (w : World) (i : Value) (wr : World) : Prop := ∃ (k : Nat) (hi : Int), k ≤ L.length ∧ i = .int .i64 k ∧ Hid (Hq L lo k hi) ∧ Hid (Kept wr w.heap.size #[.int .i64 0, .int .i64 0] 28) ∧ Hid (Kept wr (w.heap.size + 1) #[.int .i64 lo, .int .i64 hi] 28) ∧ Hid (Below w.heap.size w wr)
end Go.Proofs.Ytllkdohomkofhaa
