/- The best interval, where all agree. -/
import Derived.Test.YtllkdohomkofhaaSwW
namespace Go.Proofs.Ytllkdohomkofhaa
set_option linter.unusedVariables false

theorem votes_lt {l : List (Int × Int)} {y : Int} (h : ∃ p ∈ l, ¬ hasB y p = true) : votes l y < l.length := by
  refine Nat.lt_of_le_of_ne (List.countP_le_length) fun e => ?_
  obtain ⟨p, hp, hn⟩ := h
  exact hn (List.countP_eq_length.1 e p hp)
theorem agree_best {L : List (Int × Int)} (hin : ∀ p ∈ L, InP p) (h0 : 0 < L.length) (he : combE L (L.foldl opM fullP) = 0) : BestP L (combL L (L.foldl opM fullP), combH L (L.foldl opM fullP)) (L.length : Int) := by
  obtain ⟨e1, e2⟩ := foldM_ex L fullP
  obtain ⟨_, e4⟩ := foldM_le L fullP
  obtain ⟨r, hr⟩ : ∃ r, L.foldl opM fullP = r := ⟨_, rfl⟩
  rw [hr] at e1 e2 e4 he ⊢
  have hall : allR L := fun j hj => Int.le_of_not_gt fun h => by rw [(comb_bad (r := r) hj h).1] at he; exact absurd he (by decide)
  have hle : r.1 ≤ r.2 := Int.le_of_not_gt fun h => by rw [(comb_no hall h).1] at he; exact absurd he (by decide)
  obtain ⟨c1, c2, c3⟩ := comb_ok hall hle
  rw [c2, c3]
  obtain ⟨p0, hp0⟩ : ∃ p, p ∈ L := ⟨L[0], List.getElem_mem h0⟩
  obtain ⟨i1, i2⟩ := hin p0 hp0
  unfold InI at i1 i2
  have a1 : ∃ p ∈ L, p.1 = r.1 := by
    rcases e1 with e1 | h
    · refine ⟨p0, hp0, ?_⟩
      have := (e4 p0 hp0).1
      rw [e1] at this ⊢
      unfold fullP at *
      dsimp only at *
      omega
    · exact h
  have a2 : ∃ p ∈ L, p.2 = r.2 := by
    rcases e2 with e2 | h
    · refine ⟨p0, hp0, ?_⟩
      have := (e4 p0 hp0).2
      rw [e2] at this ⊢
      unfold fullP at *
      dsimp only at *
      omega
    · exact h
  have hv : votes L r.1 = L.length := List.countP_eq_length.2 fun p hp => hasB_iff.2 ⟨(e4 p hp).1, by have := (e4 p hp).2; omega⟩
  refine .inr ⟨by omega, by rw [hv], fun y => by have := votes_le L y; omega, fun y hy => ?_, hle, fun p hp _ => (e4 p hp).2, ?_⟩
  · obtain ⟨p, hp, e⟩ := a1
    have := votes_lt (y := y) ⟨p, hp, fun h => by have := hasB_iff.1 h; dsimp only at hy; omega⟩
    omega
  · obtain ⟨p, hp, e⟩ := a2
    exact ⟨p, hp, hasB_iff.2 ⟨(e4 p hp).1, by have := (e4 p hp).2; dsimp only; omega⟩, e⟩
theorem best_in {L : List (Int × Int)} {b : Int × Int} {n : Int} (h0 : 0 < n) (h : BestP L b n) : b.1 ≤ b.2 ∧ (∀ y, (votes L y : Int) ≤ n) ∧ (∀ y, b.1 ≤ y → y ≤ b.2 → (votes L y : Int) = n) ∧ (∀ y, y < b.1 → (votes L y : Int) < n) ∧ 0 < L.length ∧ ∃ p ∈ L, ∃ q ∈ L, p.1 ≤ b.1 ∧ b.1 ≤ p.2 ∧ q.2 = b.2 := by
  rcases h with ⟨h1, _⟩ | ⟨_, h1, h2, h3, h4, h5, p, hp, h6, h7⟩
  · omega
  · refine ⟨h4, h2, fun y a b' => ?_, h3, by have := votes_le L b.1; omega, p, hp, p, hp, (hasB_iff.1 h6).1, (hasB_iff.1 h6).2, h7⟩
    have h8 : votes L b.1 ≤ votes L y := votes_mono fun q hq hb => by
      have := h5 q hq hb
      have h9 := hasB_iff.1 hb
      exact hasB_iff.2 ⟨by omega, by omega⟩
    have := h2 y
    omega
end Go.Proofs.Ytllkdohomkofhaa
