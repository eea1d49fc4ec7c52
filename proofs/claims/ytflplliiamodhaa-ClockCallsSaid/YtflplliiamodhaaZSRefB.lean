import Derived.Test.YtflplliiamodhaaZSRefV
import Derived.Deep.QuietTactic
import Derived.BigQuiet
import Derived.StillTailTactics
import Derived.Deep.RegionHeld3
/- The best interval, where all agree. -/
namespace Go.Proofs.Ytflplliiamodhaa
set_option linter.unusedVariables false

theorem votes_lt {l : List (Int × Int)} {y : Int} (h : ∃ p ∈ l, ¬ hasB y p = true) : votes l y < l.length := by
  refine Nat.lt_of_le_of_ne (List.countP_le_length) fun e => ?_
  obtain ⟨p, hp, hn⟩ := h
  exact hn (List.countP_eq_length.1 e p hp)
theorem agree_best {L : List (Int × Int)} (hin : ∀ p ∈ L, InP p) (h0 : 0 < L.length) (he : combE L (L.foldl opM fullP) = 0) : BestP L (combL L (L.foldl opM fullP), combH L (L.foldl opM fullP)) (L.length : Int) := by
  obtain ⟨e1, e2⟩ := foldM_ex L fullP
  obtain ⟨_, e4⟩ := foldM_le L fullP
  obtain ⟨r, hr⟩ : ∃ r, L.foldl opM fullP = r := ⟨_, rfl⟩
  rw [hr] at e1 e2 e4 he ⊢
  have hall : allR L := fun j hj => Int.le_of_not_gt fun h => by rw [(comb_bad (r := r) hj h).1] at he; exact absurd he (by decide)
  have hle : r.1 ≤ r.2 := Int.le_of_not_gt fun h => by rw [(comb_no hall h).1] at he; exact absurd he (by decide)
  obtain ⟨c1, c2, c3⟩ := comb_ok hall hle
  rw [c2, c3]
  obtain ⟨p0, hp0⟩ : ∃ p, p ∈ L := ⟨L[0], List.getElem_mem h0⟩
  obtain ⟨i1, i2⟩ := hin p0 hp0
  unfold InI at i1 i2
  have a1 : ∃ p ∈ L, p.1 = r.1 := by
    rcases e1 with e1 | h
    · refine ⟨p0, hp0, ?_⟩
      have := (e4 p0 hp0).1
      rw [e1] at this ⊢
      unfold fullP at *
      dsimp only at *
      omega
    · exact h
  have a2 : ∃ p ∈ L, p.2 = r.2 := by
    rcases e2 with e2 | h
    · refine ⟨p0, hp0, ?_⟩
      have := (e4 p0 hp0).2
      rw [e2] at this ⊢
      unfold fullP at *
      dsimp only at *
      omega
    · exact h
  have hv : votes L r.1 = L.length := List.countP_eq_length.2 fun p hp => hasB_iff.2 ⟨(e4 p hp).1, by have := (e4 p hp).2; omega⟩
  refine .inr ⟨by omega, by rw [hv], fun y => by have := votes_le L y; omega, fun y hy => ?_, hle, fun p hp _ => (e4 p hp).2, ?_⟩
  · obtain ⟨p, hp, e⟩ := a1
    have := votes_lt (y := y) ⟨p, hp, fun h => by have := hasB_iff.1 h; dsimp only at hy; omega⟩
    omega
  · obtain ⟨p, hp, e⟩ := a2
    exact ⟨p, hp, hasB_iff.2 ⟨(e4 p hp).1, by have := (e4 p hp).2; dsimp only; omega⟩, e⟩
theorem best_in {L : List (Int × Int)} {b : Int × Int} {n : Int} (h0 : 0 < n) (h : BestP L b n) : b.1 ≤ b.2 ∧ (∀ y, (votes L y : Int) ≤ n) ∧ (∀ y, b.1 ≤ y → y ≤ b.2 → (votes L y : Int) = n) ∧ (∀ y, y < b.1 → (votes L y : Int) < n) ∧ 0 < L.length ∧ ∃ p ∈ L, ∃ q ∈ L, p.1 ≤ b.1 ∧ b.1 ≤ p.2 ∧ q.2 = b.2 := by
  rcases h with ⟨h1, _⟩ | ⟨_, h1, h2, h3, h4, h5, p, hp, h6, h7⟩
  · omega
  · refine ⟨h4, h2, fun y a b' => ?_, h3, by have := votes_le L b.1; omega, p, hp, p, hp, (hasB_iff.1 h6).1, (hasB_iff.1 h6).2, h7⟩
    have h8 : votes L b.1 ≤ votes L y := votes_mono fun q hq hb => by
      have := h5 q hq hb
      have h9 := hasB_iff.1 hb
      exact hasB_iff.2 ⟨by omega, by omega⟩
    have := h2 y
    omega
end Go.Proofs.Ytflplliiamodhaa

/- noonmarkref17.Best, Agree: for every input. -/
namespace Go.Proofs.Ytflplliiamodhaa
open Go.RowKit
set_option linter.unusedVariables false
set_option linter.unusedSimpArgs false

/-- the best of the first k ends -/
def Bq (L : List (Int × Int)) (k : Nat) (lo n : Int) : Prop :=
  (n = 0 ∧ lo = 0 ∧ ∀ j, j < k → votes L (L.getD j (0, 0)).1 = 0) ∨
  (0 < n ∧ (votes L lo : Int) = n ∧ ∀ j, j < k → (votes L (L.getD j (0, 0)).1 : Int) ≤ n ∧ ((votes L (L.getD j (0, 0)).1 : Int) = n → lo ≤ (L.getD j (0, 0)).1))
theorem bq_yes {L : List (Int × Int)} {k : Nat} {lo n p : Int} (h : Bq L k lo n) (hp : (L.getD k (0, 0)).1 = p) (hc : n < (votes L p : Int) ∨ ((votes L p : Int) = n ∧ 0 < n ∧ p < lo)) : Bq L (k + 1) p (votes L p) := by
  rcases h with ⟨rfl, rfl, h⟩ | ⟨h0, h1, h2⟩
  · refine .inr ⟨by omega, rfl, fun j hj => ?_⟩
    by_cases e : j = k
    · subst e; rw [hp]; exact ⟨Int.le_refl _, fun _ => Int.le_refl _⟩
    · have := h j (by omega); omega
  · refine .inr ⟨by omega, rfl, fun j hj => ?_⟩
    by_cases e : j = k
    · subst e; rw [hp]; exact ⟨Int.le_refl _, fun _ => Int.le_refl _⟩
    · have := h2 j (by omega); omega
theorem bq_no {L : List (Int × Int)} {k : Nat} {lo n p : Int} (h : Bq L k lo n) (hp : (L.getD k (0, 0)).1 = p) (hc : ¬ (n < (votes L p : Int) ∨ ((votes L p : Int) = n ∧ 0 < n ∧ p < lo))) : Bq L (k + 1) lo n := by
  rcases h with ⟨rfl, rfl, h⟩ | ⟨h0, h1, h2⟩
  · refine .inl ⟨rfl, rfl, fun j hj => ?_⟩
    by_cases e : j = k
    · subst e; rw [hp]; omega
    · exact h j (by omega)
  · refine .inr ⟨h0, h1, fun j hj => ?_⟩
    by_cases e : j = k
    · subst e; rw [hp]; omega
    · exact h2 j (by omega)
theorem pair_ix {L : List (Int × Int)} {p : Int × Int} (h : p ∈ L) : ∃ j, j < L.length ∧ L.getD j (0, 0) = p := by
  obtain ⟨i, hi, he⟩ := List.getElem_of_mem h
  exact ⟨i, hi, by rw [List.getD_eq_getElem?_getD, List.getElem?_eq_getElem hi]; exact he⟩
theorem bq_none {L : List (Int × Int)} {lo n : Int} (h : Bq L L.length lo n) (hn : n = 0) : BestP L (0, 0) 0 := by
  rcases h with ⟨_, _, h⟩ | ⟨h, _⟩
  · refine .inl ⟨rfl, rfl, fun p hp hr => ?_⟩
    obtain ⟨j, hj, he⟩ := pair_ix hp
    have := h j hj
    rw [he] at this
    have := votes_pos.2 ⟨p, hp, hasB_iff.2 ⟨Int.le_refl _, hr⟩⟩
    omega
  · omega
/-- the least end above 'lo' of those that hold it, of the first k -/
def Hq (L : List (Int × Int)) (lo : Int) (k : Nat) (hi : Int) : Prop :=
  (∀ j, j < k → hasB lo (L.getD j (0, 0)) = true → hi ≤ (L.getD j (0, 0)).2) ∧ (hi = 9223372036854775807 ∨ ∃ j, j < k ∧ hasB lo (L.getD j (0, 0)) = true ∧ (L.getD j (0, 0)).2 = hi)
theorem hq_yes {L : List (Int × Int)} {lo hi p q : Int} {k : Nat} (h : Hq L lo k hi) (hp : L.getD k (0, 0) = (p, q)) (hb : hasB lo (p, q) = true) : Hq L lo (k + 1) (min hi q) := by
  obtain ⟨h1, h2⟩ := h
  refine ⟨fun j hj hbj => ?_, ?_⟩
  · by_cases e : j = k
    · subst e; rw [hp]; exact Int.min_le_right _ _
    · exact Int.le_trans (Int.min_le_left _ _) (h1 j (by omega) hbj)
  · by_cases hh : q ≤ hi
    · exact .inr ⟨k, by omega, by rw [hp]; exact hb, by rw [hp]; exact (Int.min_eq_right hh).symm⟩
    · rw [Int.min_eq_left (by omega)]
      rcases h2 with h2 | ⟨j, a, b, c⟩
      · exact .inl h2
      · exact .inr ⟨j, by omega, b, c⟩
theorem hq_no {L : List (Int × Int)} {lo hi p q : Int} {k : Nat} (h : Hq L lo k hi) (hp : L.getD k (0, 0) = (p, q)) (hb : hasB lo (p, q) = false) : Hq L lo (k + 1) hi := by
  obtain ⟨h1, h2⟩ := h
  refine ⟨fun j hj hbj => ?_, ?_⟩
  · by_cases e : j = k
    · subst e; rw [hp, hb] at hbj; cases hbj
    · exact h1 j (by omega) hbj
  · rcases h2 with h2 | ⟨j, a, b, c⟩
    · exact .inl h2
    · exact .inr ⟨j, by omega, b, c⟩
theorem bq_best {L : List (Int × Int)} {lo n hi : Int} (hin : ∀ p ∈ L, InP p) (h : Bq L L.length lo n) (hn : n ≠ 0) (hh : Hq L lo L.length hi) : BestP L (lo, hi) n := by
  rcases h with ⟨h, _⟩ | ⟨h0, h1, h2⟩
  · exact absurd h hn
  obtain ⟨g1, g2⟩ := hh
  have hall : ∀ p ∈ L, (votes L p.1 : Int) ≤ n ∧ ((votes L p.1 : Int) = n → lo ≤ p.1) := fun p hp => by
    obtain ⟨j, hj, he⟩ := pair_ix hp
    have := h2 j hj
    rwa [he] at this
  have hy : ∀ y, (votes L y : Int) ≤ n ∧ (y < lo → (votes L y : Int) < n) := fun y => by
    by_cases hv : 0 < votes L y
    · obtain ⟨p, hp, a, b, c⟩ := low_pt hv
      have := hall p hp
      omega
    · omega
  have hmin : ∀ p ∈ L, hasB lo p = true → hi ≤ p.2 := fun p hp hb => by
    obtain ⟨j, hj, he⟩ := pair_ix hp
    have := g1 j hj
    rw [he] at this
    exact this hb
  have hex : ∃ p ∈ L, hasB lo p = true ∧ p.2 = hi := by
    rcases g2 with rfl | ⟨j, hj, a, b⟩
    · obtain ⟨p, hp, hb⟩ := votes_pos.1 (show 0 < votes L lo by omega)
      have i1 := hin p hp
      have := hmin p hp hb
      unfold InP InI at i1
      exact ⟨p, hp, hb, by omega⟩
    · exact ⟨_, getP_mem hj, a, b⟩
  obtain ⟨p, hp, hb, he⟩ := hex
  have := hasB_iff.1 hb
  exact .inr ⟨h0, h1, fun y => (hy y).1, fun y h => (hy y).2 h, by dsimp only; omega, hmin, p, hp, hb, he⟩
def B1Rel (L : List (Int × Int)) (w : World) (m i : Value) (wr : World) : Prop := ∃ (k : Nat) (lo n : Int), k ≤ L.length ∧ i = .int .i64 k ∧ m = .int .i64 n ∧ Hid (Bq L k lo n) ∧ Hid (Kept wr w.heap.size #[.int .i64 0, .int .i64 0] 42) ∧ Hid (Kept wr (w.heap.size + 1) #[.int .i64 lo, .int .i64 lo] 42) ∧ Hid (Below w.heap.size w wr)
def B2Rel (L : List (Int × Int)) (lo : Int) (w : World) (i : Value) (wr : World) : Prop := ∃ (k : Nat) (hi : Int), k ≤ L.length ∧ i = .int .i64 k ∧ Hid (Hq L lo k hi) ∧ Hid (Kept wr w.heap.size #[.int .i64 0, .int .i64 0] 42) ∧ Hid (Kept wr (w.heap.size + 1) #[.int .i64 lo, .int .i64 hi] 42) ∧ Hid (Below w.heap.size w wr)
end Go.Proofs.Ytflplliiamodhaa
