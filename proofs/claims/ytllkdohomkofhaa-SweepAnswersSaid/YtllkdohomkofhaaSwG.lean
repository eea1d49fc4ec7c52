/- The best interval. -/
import Derived.Test.YtllkdohomkofhaaSwB
namespace Go.Proofs.Ytllkdohomkofhaa
set_option linter.unusedVariables false

theorem foldM_ex : ∀ (l : List (Int × Int)) (z : Int × Int), ((l.foldl opM z).1 = z.1 ∨ ∃ p ∈ l, p.1 = (l.foldl opM z).1) ∧ ((l.foldl opM z).2 = z.2 ∨ ∃ p ∈ l, p.2 = (l.foldl opM z).2)
  | [], z => ⟨.inl rfl, .inl rfl⟩
  | a :: l, z => by
    obtain ⟨h1, h2⟩ := foldM_ex l (opM z a)
    rw [List.foldl_cons]
    refine ⟨?_, ?_⟩
    · rcases h1 with h1 | ⟨p, hp, h1⟩
      · rw [h1]
        unfold opM
        rcases Int.le_total z.1 a.1 with h | h
        · exact .inr ⟨a, List.mem_cons_self .., by dsimp only; omega⟩
        · exact .inl (by dsimp only; omega)
      · exact .inr ⟨p, List.mem_cons_of_mem _ hp, h1⟩
    · rcases h2 with h2 | ⟨p, hp, h2⟩
      · rw [h2]
        unfold opM
        rcases Int.le_total z.2 a.2 with h | h
        · exact .inl (by dsimp only; omega)
        · exact .inr ⟨a, List.mem_cons_self .., by dsimp only; omega⟩
      · exact .inr ⟨p, List.mem_cons_of_mem _ hp, h2⟩
/-- the least number with the most votes, and where all that have it end -/
def BestP (l : List (Int × Int)) (b : Int × Int) (n : Int) : Prop := (n = 0 ∧ b = (0, 0) ∧ ∀ p ∈ l, ¬ p.1 ≤ p.2) ∨
  (0 < n ∧ (votes l b.1 : Int) = n ∧ (∀ y, (votes l y : Int) ≤ n) ∧ (∀ y, y < b.1 → (votes l y : Int) < n) ∧ b.1 ≤ b.2 ∧ (∀ p ∈ l, hasB b.1 p = true → b.2 ≤ p.2) ∧ ∃ p ∈ l, hasB b.1 p = true ∧ p.2 = b.2)
def withL (l : List (Int × Int)) (x : Int) : List (Int × Int) := l.filter (hasB x)
theorem best_none {l : List (Int × Int)} {x n : Int} (h : BestX l x n) (hn : n = 0) : BestP l (0, 0) 0 := by
  rcases h with ⟨_, _, h⟩ | ⟨h, _⟩
  · exact .inl ⟨rfl, rfl, h⟩
  · omega
theorem best_meet {l : List (Int × Int)} {x n : Int} (hin : ∀ p ∈ l, InP p) (h : BestX l x n) (hn : n ≠ 0) : combE (withL l x) ((withL l x).foldl opM fullP) = 0 ∧ BestP l (combL (withL l x) ((withL l x).foldl opM fullP), combH (withL l x) ((withL l x).foldl opM fullP)) n := by
  rcases h with ⟨h, _⟩ | ⟨h0, h1, h2, h3⟩
  · exact absurd h hn
  have hm : ∀ p, p ∈ withL l x ↔ p ∈ l ∧ hasB x p = true := fun p => List.mem_filter
  obtain ⟨p0, hp0, hx0⟩ := votes_pos.1 (show 0 < votes l x by omega)
  have hp0m := (hm p0).2 ⟨hp0, hx0⟩
  obtain ⟨a0, a1⟩ := hasB_iff.1 hx0
  obtain ⟨i1, i2⟩ := hin p0 hp0
  unfold InI at i1 i2
  obtain ⟨e1, e2⟩ := foldM_ex (withL l x) fullP
  obtain ⟨_, e4⟩ := foldM_le (withL l x) fullP
  obtain ⟨r, hr⟩ : ∃ r, (withL l x).foldl opM fullP = r := ⟨_, rfl⟩
  rw [hr] at e1 e2 e4 ⊢
  have hlo : r.1 ≤ x := by
    rcases e1 with e1 | ⟨p, hp, e1⟩
    · rw [e1]; unfold fullP; dsimp only; omega
    · have := hasB_iff.1 ((hm p).1 hp).2
      omega
  have hex : ∃ p ∈ withL l x, p.2 = r.2 := by
    rcases e2 with e2 | h
    · refine ⟨p0, hp0m, ?_⟩
      have := (e4 p0 hp0m).2
      rw [e2] at this ⊢
      unfold fullP at *
      dsimp only at *
      omega
    · exact h
  have hhi : x ≤ r.2 := by
    obtain ⟨p, hp, e⟩ := hex
    have := hasB_iff.1 ((hm p).1 hp).2
    omega
  have hx : r.1 = x := by
    refine Int.le_antisymm hlo (Int.le_of_not_gt fun hlt => ?_)
    have := h3 r.1 hlt
    have h5 : votes l x ≤ votes l r.1 := votes_mono fun q hq hqx => by
      have h6 := e4 q ((hm q).2 ⟨hq, hqx⟩)
      have h7 := hasB_iff.1 hqx
      exact hasB_iff.2 ⟨h6.1, by omega⟩
    omega
  have hall : allR (withL l x) := fun j hj => by
    have h8 : (withL l x).getD j (0, 0) ∈ withL l x := getP_mem hj
    have := hasB_iff.1 ((hm _).1 h8).2
    omega
  obtain ⟨c1, c2, c3⟩ := comb_ok hall (show r.1 ≤ r.2 by omega)
  refine ⟨c1, .inr ⟨h0, ?_, h2, ?_, ?_, ?_, ?_⟩⟩
  · rw [c2]; dsimp only; rw [hx]; exact h1
  · rw [c2]; dsimp only; rw [hx]; exact h3
  · rw [c2, c3]; dsimp only; omega
  · rw [c2, c3]; dsimp only
    rw [hx]
    intro p hp hpx
    exact (e4 p ((hm p).2 ⟨hp, hpx⟩)).2
  · rw [c2, c3]; dsimp only
    rw [hx]
    obtain ⟨p, hp, e⟩ := hex
    exact ⟨p, ((hm p).1 hp).1, ((hm p).1 hp).2, e⟩
/-- there is just one best interval -/
theorem best_uniq {l : List (Int × Int)} {b c : Int × Int} {n m : Int} (h : BestP l b n) (k : BestP l c m) : b = c ∧ n = m := by
  rcases h with ⟨rfl, rfl, h⟩ | ⟨h0, h1, h2, h3, h4, h5, p, hp, h6, h7⟩ <;> rcases k with ⟨rfl, rfl, k⟩ | ⟨k0, k1, k2, k3, k4, k5, q, hq, k6, k7⟩
  · exact ⟨rfl, rfl⟩
  · have := hasB_iff.1 k6
    exact absurd (show q.1 ≤ q.2 by omega) (h q hq)
  · have := hasB_iff.1 h6
    exact absurd (show p.1 ≤ p.2 by omega) (k p hp)
  · have e : n = m := by
      have := k2 b.1
      have := h2 c.1
      omega
    subst e
    have e1 : b.1 = c.1 := by
      rcases Int.lt_trichotomy b.1 c.1 with h | h | h
      · have := k3 _ h; omega
      · exact h
      · have := h3 _ h; omega
    refine ⟨Prod.ext e1 ?_, rfl⟩
    have g1 := h5 q hq (by rw [e1]; exact k6)
    have g2 := k5 p hp (by rw [← e1]; exact h6)
    omega
theorem withL_snoc (l : List (Int × Int)) (x : Int) (k : Nat) (hk : k < l.length) : withL (l.take (k + 1)) x = withL (l.take k) x ++ (if hasB x (l.getD k (0, 0)) = true then [l.getD k (0, 0)] else []) := by
  unfold withL
  rw [take_pair l k hk, List.filter_append]
  congr 1
  generalize l.getD k (0, 0) = p
  cases h : hasB x p <;> simp [List.filter, h]
theorem withL_len (l : List (Int × Int)) (x : Int) : (withL l x).length ≤ l.length := List.length_filter_le _ _
end Go.Proofs.Ytllkdohomkofhaa
