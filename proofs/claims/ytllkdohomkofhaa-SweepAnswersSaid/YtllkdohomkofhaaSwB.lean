/- What the sweep finds: the least number with the most votes; where so many have a number. -/
import Derived.Test.YtllkdohomkofhaaSwM
namespace Go.Proofs.Ytllkdohomkofhaa
set_option linter.unusedVariables false
set_option linter.unusedSimpArgs false

theorem votes_perm {l : List (Int × Int)} {s : List Ev} (hp : s.Perm (endsL l)) (x : Int) : (votes l x : Int) = (s.countP (stB x) : Int) - (s.countP (ltB x) : Int) := by
  rw [votes_ends, hp.countP_eq, hp.countP_eq]
theorem votes_mono {l : List (Int × Int)} {x y : Int} (h : ∀ q ∈ l, hasB y q = true → hasB x q = true) : votes l y ≤ votes l x := List.countP_mono_left h
theorem votes_pos {l : List (Int × Int)} {y : Int} : 0 < votes l y ↔ ∃ p ∈ l, hasB y p = true := List.countP_pos_iff
theorem hasB_iff {x : Int} {p : Int × Int} : hasB x p = true ↔ p.1 ≤ x ∧ x ≤ p.2 := by unfold hasB; exact decide_eq_true_iff
theorem max_lo (l : List (Int × Int)) (P : Int × Int → Prop) (h : ∃ p ∈ l, P p) : ∃ p ∈ l, P p ∧ ∀ q ∈ l, P q → q.1 ≤ p.1 := by
  induction l with
  | nil => obtain ⟨p, hp, _⟩ := h; cases hp
  | cons a l ih =>
    by_cases h1 : ∃ p ∈ l, P p
    · obtain ⟨p, hp, h2, h3⟩ := ih h1
      by_cases h4 : P a ∧ p.1 < a.1
      · refine ⟨a, List.mem_cons_self .., h4.1, fun q hq hPq => ?_⟩
        rcases List.mem_cons.1 hq with rfl | hq
        · omega
        · have := h3 q hq hPq; omega
      · refine ⟨p, List.mem_cons_of_mem _ hp, h2, fun q hq hPq => ?_⟩
        rcases List.mem_cons.1 hq with rfl | hq
        · exact Int.le_of_not_gt fun h => h4 ⟨hPq, h⟩
        · exact h3 q hq hPq
    · obtain ⟨p, hp, h2⟩ := h
      rcases List.mem_cons.1 hp with rfl | hp
      · refine ⟨p, List.mem_cons_self .., h2, fun q hq hPq => ?_⟩
        rcases List.mem_cons.1 hq with rfl | hq
        · omega
        · exact absurd ⟨q, hq, hPq⟩ h1
      · exact absurd ⟨p, hp, h2⟩ h1
theorem min_hi (l : List (Int × Int)) (P : Int × Int → Prop) (h : ∃ p ∈ l, P p) : ∃ p ∈ l, P p ∧ ∀ q ∈ l, P q → p.2 ≤ q.2 := by
  obtain ⟨p, hp, h1, h2⟩ := max_lo (l.map fun p => (-p.2, p.1)) (fun q => P (q.2, -q.1)) (by
    obtain ⟨p, hp, h1⟩ := h
    exact ⟨_, List.mem_map_of_mem hp, by simpa using h1⟩)
  obtain ⟨r, hr, rfl⟩ := List.mem_map.1 hp
  refine ⟨r, hr, by simpa using h1, fun q hq hPq => ?_⟩
  have := h2 _ (List.mem_map_of_mem hq) (by simpa using hPq)
  simp at this
  omega
theorem ev_mem {l : List (Int × Int)} {e : Ev} : e ∈ endsL l ↔ ∃ p ∈ l, p.1 ≤ p.2 ∧ (e = (p.1, false) ∨ e = (p.2, true)) := by
  unfold endsL
  rw [List.mem_flatMap]
  constructor
  · rintro ⟨p, hp, h⟩
    by_cases h1 : p.1 ≤ p.2
    · rw [if_pos h1] at h
      simp at h
      exact ⟨p, hp, h1, h⟩
    · rw [if_neg h1] at h; cases h
  · rintro ⟨p, hp, h1, h⟩
    refine ⟨p, hp, ?_⟩
    rw [if_pos h1]
    simpa using h
theorem ev_ix {l : List (Int × Int)} {s : List Ev} (hp : s.Perm (endsL l)) {e : Ev} (h : e ∈ endsL l) : ∃ i, i < s.length ∧ s.getD i (0, false) = e := by
  obtain ⟨i, hi, he⟩ := List.getElem_of_mem (hp.mem_iff.2 h)
  exact ⟨i, hi, by rw [getE hi]; exact he⟩
theorem ix_ev {l : List (Int × Int)} {s : List Ev} (hp : s.Perm (endsL l)) {i : Nat} (h : i < s.length) : s.getD i (0, false) ∈ endsL l := by
  rw [getE h]
  exact hp.mem_iff.1 (List.getElem_mem h)
/-- below a number with votes lies a beginning with as many -/
theorem low_pt {l : List (Int × Int)} {y : Int} (h : 0 < votes l y) : ∃ p ∈ l, p.1 ≤ p.2 ∧ p.1 ≤ y ∧ votes l y ≤ votes l p.1 := by
  obtain ⟨p, hp, h1, h2⟩ := max_lo l (fun q => hasB y q = true) (votes_pos.1 h)
  obtain ⟨a, b⟩ := hasB_iff.1 h1
  refine ⟨p, hp, by omega, a, votes_mono fun q hq hy => ?_⟩
  have h3 := h2 q hq hy
  have h4 := hasB_iff.1 hy
  exact hasB_iff.2 ⟨h3, by omega⟩
/-- above a number with votes lies an end with as many -/
theorem high_pt {l : List (Int × Int)} {y : Int} (h : 0 < votes l y) : ∃ p ∈ l, p.1 ≤ p.2 ∧ y ≤ p.2 ∧ votes l y ≤ votes l p.2 := by
  obtain ⟨p, hp, h1, h2⟩ := min_hi l (fun q => hasB y q = true) (votes_pos.1 h)
  obtain ⟨a, b⟩ := hasB_iff.1 h1
  refine ⟨p, hp, by omega, b, votes_mono fun q hq hy => ?_⟩
  have h3 := h2 q hq hy
  have h4 := hasB_iff.1 hy
  exact hasB_iff.2 ⟨by omega, h3⟩
/-- the number as the sweep keeps it: the place, and its votes -/
def stepB (r : Int × Int) (o : Ev × Int) : Int × Int := if r.2 < o.2 then (o.1.1, o.2) else r
def seqE (s : List Ev) (k : Nat) : List (Ev × Int) := (List.range k).map fun i => (s.getD i (0, false), openI s i)
theorem seqE_succ (s : List Ev) (k : Nat) : seqE s (k + 1) = seqE s k ++ [(s.getD k (0, false), openI s k)] := by
  unfold seqE
  rw [List.range_succ, List.map_append, List.map_singleton]
theorem foldB (s : List Ev) (k : Nat) : 0 ≤ ((seqE s k).foldl stepB (0, 0)).2 ∧ (∀ i, i < k → openI s i ≤ ((seqE s k).foldl stepB (0, 0)).2) ∧
    (((seqE s k).foldl stepB (0, 0) = (0, 0)) ∨ ∃ i, i < k ∧ openI s i = ((seqE s k).foldl stepB (0, 0)).2 ∧ (s.getD i (0, false)).1 = ((seqE s k).foldl stepB (0, 0)).1 ∧ 0 < ((seqE s k).foldl stepB (0, 0)).2 ∧ ∀ j, j < i → openI s j < ((seqE s k).foldl stepB (0, 0)).2) := by
  induction k with
  | zero => exact ⟨Int.le_refl _, fun i h => by omega, .inl rfl⟩
  | succ k ih =>
    rw [seqE_succ, List.foldl_append]
    obtain ⟨r, hr⟩ : ∃ r, (seqE s k).foldl stepB (0, 0) = r := ⟨_, rfl⟩
    rw [hr] at ih ⊢
    obtain ⟨h1, h2, h3⟩ := ih
    simp only [List.foldl_cons, List.foldl_nil]
    unfold stepB
    by_cases h : r.2 < openI s k
    · rw [if_pos h]
      refine ⟨by dsimp only; omega, fun i hi => ?_, .inr ⟨k, by omega, rfl, rfl, by dsimp only; omega, fun j hj => ?_⟩⟩
      · dsimp only
        by_cases e : i = k
        · rw [e]; exact Int.le_refl _
        · have := h2 i (by omega); omega
      · dsimp only
        have := h2 j hj; omega
    · rw [if_neg h]
      refine ⟨h1, fun i hi => ?_, ?_⟩
      · by_cases e : i = k
        · rw [e]; omega
        · exact h2 i (by omega)
      · rcases h3 with h3 | ⟨i, a, b, c, d, e⟩
        · exact .inl h3
        · exact .inr ⟨i, by omega, b, c, d, e⟩
/-- the least number with the most votes -/
def BestX (l : List (Int × Int)) (x n : Int) : Prop := (n = 0 ∧ x = 0 ∧ ∀ p ∈ l, ¬ p.1 ≤ p.2) ∨ (0 < n ∧ (votes l x : Int) = n ∧ (∀ y, (votes l y : Int) ≤ n) ∧ ∀ y, y < x → (votes l y : Int) < n)
theorem best_x {l : List (Int × Int)} {s : List Ev} (hp : s.Perm (endsL l)) (hs : sortE s) : BestX l ((seqE s s.length).foldl stepB (0, 0)).1 ((seqE s s.length).foldl stepB (0, 0)).2 := by
  obtain ⟨h1, h2, h3⟩ := foldB s s.length
  generalize (seqE s s.length).foldl stepB (0, 0) = r at *
  have ev : ∀ e ∈ endsL l, ∃ j, j < s.length ∧ (s.getD j (0, false)).1 = e.1 ∧ openI s j = (votes l e.1 : Int) := fun e he => by
    obtain ⟨i, hi, hie⟩ := ev_ix hp he
    obtain ⟨j, a, b, c⟩ := event_votes hs hi
    rw [hie] at b c
    exact ⟨j, a, b, by rw [c, votes_perm hp]⟩
  have all : ∀ y, (votes l y : Int) ≤ r.2 := fun y => by
    by_cases h0 : 0 < votes l y
    · obtain ⟨p, hpl, ha, hb, hc⟩ := low_pt h0
      obtain ⟨j, e1, e2, e3⟩ := ev _ (ev_mem.2 ⟨p, hpl, ha, .inl rfl⟩)
      have := h2 j e1
      dsimp only at e3
      omega
    · omega
  rcases h3 with rfl | ⟨i, a, b, c, d, e⟩
  · refine .inl ⟨rfl, rfl, fun p hpl hle => ?_⟩
    have h4 := all p.1
    have h5 : 0 < votes l p.1 := votes_pos.2 ⟨p, hpl, hasB_iff.2 ⟨Int.le_refl _, hle⟩⟩
    dsimp only at h4
    omega
  · refine .inr ⟨d, ?_, all, fun y hy => ?_⟩
    · have h4 := open_le hs a
      rw [← votes_perm hp, c] at h4
      have := all r.1
      omega
    · have h4 := all y
      by_cases h5 : (votes l y : Int) = r.2
      · obtain ⟨p, hpl, ha, hb, hc⟩ := low_pt (l := l) (y := y) (by omega)
        obtain ⟨j, e1, e2, e3⟩ := ev _ (ev_mem.2 ⟨p, hpl, ha, .inl rfl⟩)
        dsimp only at e2 e3
        have h6 := all p.1
        have h7 : j < i := Nat.lt_of_not_le fun hij => by
          have := le_at hs hij e1
          omega
        have := e j h7
        omega
      · omega
/-- where so many have a number: from the least to the greatest -/
def stepW (t : Int) (r : (Int × Int) × Bool) (o : Ev × Int) : (Int × Int) × Bool := if o.2 < t then r else ((if r.2 = true then r.1.1 else o.1.1, o.1.1), true)
theorem foldW (s : List Ev) (t : Int) (k : Nat) : ((seqE s k).foldl (stepW t) ((0, 0), false) = ((0, 0), false) ∧ ∀ i, i < k → openI s i < t) ∨
    ∃ i j, i < k ∧ j < k ∧ (seqE s k).foldl (stepW t) ((0, 0), false) = (((s.getD i (0, false)).1, (s.getD j (0, false)).1), true) ∧ t ≤ openI s i ∧ t ≤ openI s j ∧ (∀ q, q < i → openI s q < t) ∧ (∀ q, j < q → q < k → openI s q < t) := by
  induction k with
  | zero => exact .inl ⟨rfl, fun i h => by omega⟩
  | succ k ih =>
    rw [seqE_succ, List.foldl_append]
    obtain ⟨r, hr⟩ : ∃ r, (seqE s k).foldl (stepW t) ((0, 0), false) = r := ⟨_, rfl⟩
    rw [hr] at ih ⊢
    simp only [List.foldl_cons, List.foldl_nil]
    unfold stepW
    by_cases h : openI s k < t
    · rw [if_pos h]
      rcases ih with ⟨rfl, h2⟩ | ⟨i, j, a, b, c, d, e, f, g⟩
      · exact .inl ⟨rfl, fun i hi => by
          by_cases e : i = k
          · rw [e]; exact h
          · exact h2 i (by omega)⟩
      · exact .inr ⟨i, j, by omega, by omega, c, d, e, f, fun q h1 h2 => by
          by_cases e : q = k
          · rw [e]; exact h
          · exact g q h1 (by omega)⟩
    · rw [if_neg h]
      rcases ih with ⟨rfl, h2⟩ | ⟨i, j, a, b, rfl, d, e, f, g⟩
      · exact .inr ⟨k, k, by omega, by omega, rfl, by omega, by omega, h2, fun q h1 h2 => by omega⟩
      · exact .inr ⟨i, k, by omega, by omega, rfl, d, by omega, f, fun q h1 h2 => by omega⟩
def WithX (l : List (Int × Int)) (t : Int) (r : (Int × Int) × Bool) : Prop := (r = ((0, 0), false) ∧ ∀ y, (votes l y : Int) < t) ∨
  (r.2 = true ∧ t ≤ (votes l r.1.1 : Int) ∧ t ≤ (votes l r.1.2 : Int) ∧ (∀ y, y < r.1.1 → (votes l y : Int) < t) ∧ ∀ y, r.1.2 < y → (votes l y : Int) < t)
theorem with_x {l : List (Int × Int)} {s : List Ev} (hp : s.Perm (endsL l)) (hs : sortE s) {t : Int} (ht : 0 < t) : WithX l t ((seqE s s.length).foldl (stepW t) ((0, 0), false)) := by
  have ev : ∀ e ∈ endsL l, ∃ j, j < s.length ∧ (s.getD j (0, false)).1 = e.1 ∧ openI s j = (votes l e.1 : Int) := fun e he => by
    obtain ⟨i, hi, hie⟩ := ev_ix hp he
    obtain ⟨j, a, b, c⟩ := event_votes hs hi
    rw [hie] at b c
    exact ⟨j, a, b, by rw [c, votes_perm hp]⟩
  rcases foldW s t s.length with ⟨h1, h2⟩ | ⟨i, j, a, b, c, d, e, f, g⟩
  · rw [h1]
    refine .inl ⟨rfl, fun y => Int.lt_of_not_ge fun hy => ?_⟩
    obtain ⟨p, hpl, ha, hb, hc⟩ := low_pt (l := l) (y := y) (by omega)
    obtain ⟨j, e1, e2, e3⟩ := ev _ (ev_mem.2 ⟨p, hpl, ha, .inl rfl⟩)
    have := h2 j e1
    dsimp only at e3
    omega
  · rw [c]
    have o1 := open_le hs a
    have o2 := open_le hs b
    rw [← votes_perm hp] at o1 o2
    refine .inr ⟨rfl, by dsimp only; omega, by dsimp only; omega, fun y hy => Int.lt_of_not_ge fun hv => ?_, fun y hy => Int.lt_of_not_ge fun hv => ?_⟩
    · obtain ⟨p, hpl, ha, hb, hc⟩ := low_pt (l := l) (y := y) (by omega)
      obtain ⟨q, e1, e2, e3⟩ := ev _ (ev_mem.2 ⟨p, hpl, ha, .inl rfl⟩)
      dsimp only at e2 e3 hy
      have h7 : q < i := Nat.lt_of_not_le fun hij => by
        have := le_at hs hij e1
        omega
      have := f q h7
      omega
    · obtain ⟨p, hpl, ha, hb, hc⟩ := high_pt (l := l) (y := y) (by omega)
      obtain ⟨q, e1, e2, e3⟩ := ev _ (ev_mem.2 ⟨p, hpl, ha, .inr rfl⟩)
      dsimp only at e2 e3 hy
      have h7 : j < q := Nat.lt_of_not_le fun hij => by
        have := le_at hs hij b
        omega
      have := g q h7 e1
      omega
end Go.Proofs.Ytllkdohomkofhaa
