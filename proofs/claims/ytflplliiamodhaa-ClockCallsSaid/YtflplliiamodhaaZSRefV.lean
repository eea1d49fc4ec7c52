import Derived.Test.YtflplliiamodhaaZClkM
/- The sweep over the ends of intervals: how many are open, and how many have a number. -/
namespace Go.Proofs.Ytflplliiamodhaa
set_option linter.unusedVariables false
set_option linter.unusedSimpArgs false

abbrev Ev := Int × Bool
def hasB (x : Int) (p : Int × Int) : Bool := decide (p.1 ≤ x ∧ x ≤ p.2)
def votes (l : List (Int × Int)) (x : Int) : Nat := l.countP (hasB x)
def rgtB (p : Int × Int) : Bool := decide (p.1 ≤ p.2)
/-- the ends of the right intervals, not yet in order -/
def endsL (l : List (Int × Int)) : List Ev := l.flatMap fun p => if p.1 ≤ p.2 then [(p.1, false), (p.2, true)] else []
def leE (a b : Ev) : Prop := a.1 < b.1 ∨ (a.1 = b.1 ∧ (a.2 = true → b.2 = true))
def sortE (s : List Ev) : Prop := ∀ i j, i < j → j < s.length → leE (s.getD i (0, false)) (s.getD j (0, false))
def stB (x : Int) (e : Ev) : Bool := !e.2 && decide (e.1 ≤ x)
def ltB (x : Int) (e : Ev) : Bool := e.2 && decide (e.1 < x)
def opens (s : List Ev) (k : Nat) : Nat := (s.take k).countP fun e => !e.2
def shuts (s : List Ev) (k : Nat) : Nat := (s.take k).countP fun e => e.2
/-- how many are open at the k-th end: with the one that begins, with the one that ends -/
def openI (s : List Ev) (k : Nat) : Int := (opens s (k + 1) : Int) - (shuts s k : Int)
theorem votes_ends (l : List (Int × Int)) (x : Int) : (votes l x : Int) = ((endsL l).countP (stB x) : Int) - ((endsL l).countP (ltB x) : Int) := by
  induction l with
  | nil => rfl
  | cons p l ih =>
    unfold votes endsL at *
    rw [List.countP_cons, List.flatMap_cons, List.countP_append, List.countP_append]
    have h : ((if hasB x p = true then 1 else 0 : Nat) : Int) = ((if p.1 ≤ p.2 then [(p.1, false), (p.2, true)] else []).countP (stB x) : Int) - ((if p.1 ≤ p.2 then [(p.1, false), (p.2, true)] else []).countP (ltB x) : Int) := by
      unfold hasB stB ltB
      by_cases h1 : p.1 ≤ p.2
      · rw [if_pos h1]
        by_cases h2 : p.1 ≤ x <;> by_cases h3 : p.2 < x
        · have : ¬ (p.1 ≤ x ∧ x ≤ p.2) := by omega
          simp [List.countP_cons, h2, h3, this]
        · have : p.1 ≤ x ∧ x ≤ p.2 := by omega
          simp [List.countP_cons, h2, h3, this.2]
        · omega
        · have : ¬ (p.1 ≤ x ∧ x ≤ p.2) := by omega
          simp [List.countP_cons, h2, h3]
      · rw [if_neg h1]
        have : ¬ (p.1 ≤ x ∧ x ≤ p.2) := by omega
        rw [decide_eq_false this]
        rfl
    push_cast at *
    omega
theorem getE {s : List Ev} {i : Nat} (h : i < s.length) : s.getD i (0, false) = s[i] := by
  rw [List.getD_eq_getElem?_getD, List.getElem?_eq_getElem h]; rfl
theorem mem_take_get {s : List Ev} {k : Nat} {e : Ev} (h : e ∈ s.take k) : ∃ i, i < k ∧ i < s.length ∧ s.getD i (0, false) = e := by
  obtain ⟨i, hi, rfl⟩ := List.getElem_of_mem h
  rw [List.length_take] at hi
  exact ⟨i, by omega, by omega, by rw [getE (by omega), List.getElem_take]⟩
theorem mem_drop_get {s : List Ev} {k : Nat} {e : Ev} (h : e ∈ s.drop k) : ∃ i, k ≤ i ∧ i < s.length ∧ s.getD i (0, false) = e := by
  obtain ⟨i, hi, rfl⟩ := List.getElem_of_mem h
  rw [List.length_drop] at hi
  exact ⟨k + i, by omega, by omega, by rw [getE (by omega), List.getElem_drop]⟩
theorem le_at {s : List Ev} (hs : sortE s) {i j : Nat} (h : i ≤ j) (hj : j < s.length) : (s.getD i (0, false)).1 ≤ (s.getD j (0, false)).1 := by
  rcases Nat.lt_or_eq_of_le h with h | rfl
  · rcases hs i j h hj with h | h <;> omega
  · exact Int.le_refl _
theorem split_count (s : List Ev) (k : Nat) (p : Ev → Bool) : s.countP p = (s.take k).countP p + (s.drop k).countP p := by
  rw [← List.countP_append, List.take_append_drop]
theorem opens_succ (s : List Ev) (k : Nat) (h : k < s.length) : opens s (k + 1) = opens s k + (if (s.getD k (0, false)).2 = true then 0 else 1) := by
  unfold opens
  rw [List.take_add_one, List.countP_append, List.getElem?_eq_getElem h, getE h]
  cases h2 : s[k].2 <;> simp [List.countP_cons, h2]
theorem shuts_succ (s : List Ev) (k : Nat) (h : k < s.length) : shuts s (k + 1) = shuts s k + (if (s.getD k (0, false)).2 = true then 1 else 0) := by
  unfold shuts
  rw [List.take_add_one, List.countP_append, List.getElem?_eq_getElem h, getE h]
  cases h2 : s[k].2 <;> simp [List.countP_cons, h2]
theorem open_le {s : List Ev} (hs : sortE s) {i : Nat} (h : i < s.length) : openI s i ≤ (s.countP (stB (s.getD i (0, false)).1) : Int) - (s.countP (ltB (s.getD i (0, false)).1) : Int) := by
  obtain ⟨x, hx⟩ : ∃ x, (s.getD i (0, false)).1 = x := ⟨_, rfl⟩
  rw [hx]
  unfold openI
  have h1 : opens s (i + 1) ≤ s.countP (stB x) := by
    rw [split_count s (i + 1) (stB x)]
    have : opens s (i + 1) = (s.take (i + 1)).countP (stB x) := by
      unfold opens
      refine List.countP_congr fun e he => ?_
      obtain ⟨j, hj, hjl, rfl⟩ := mem_take_get he
      have := le_at hs (show j ≤ i by omega) h
      unfold stB
      rw [hx] at this
      generalize s.getD j (0, false) = e at *
      simp [this]
    omega
  have h2 : s.countP (ltB x) ≤ shuts s i := by
    rw [split_count s i (ltB x)]
    have e0 : (s.drop i).countP (ltB x) = 0 := by
      rw [List.countP_eq_zero]
      intro e he
      obtain ⟨j, hj, hjl, rfl⟩ := mem_drop_get he
      have := le_at hs hj hjl
      unfold ltB
      rw [hx] at this
      generalize s.getD j (0, false) = e at *
      simp; omega
    have : (s.take i).countP (ltB x) ≤ shuts s i := List.countP_mono_left fun e _ he => by
      unfold ltB at he
      simp at he
      exact he.1
    omega
  omega
theorem part_at (s : List Ev) (hs : sortE s) (q : Ev → Prop) (hq : ∀ a b, leE a b → q b → q a) : ∃ m, m ≤ s.length ∧ (∀ i, i < m → q (s.getD i (0, false))) ∧ (∀ i, m ≤ i → i < s.length → ¬ q (s.getD i (0, false))) := by
  have H : ∀ n, n ≤ s.length → (∃ m, m ≤ n ∧ (∀ i, i < m → q (s.getD i (0, false))) ∧ (∀ i, m ≤ i → i < n → ¬ q (s.getD i (0, false)))) := by
    intro n
    induction n with
    | zero => exact fun _ => ⟨0, Nat.le_refl _, fun i h => by omega, fun i _ h => by omega⟩
    | succ n ih =>
      intro hn
      obtain ⟨m, h1, h2, h3⟩ := ih (by omega)
      by_cases hqn : q (s.getD n (0, false))
      · have hm : m = n := by
          refine Nat.le_antisymm h1 (Nat.le_of_not_lt fun hlt => ?_)
          exact h3 m (Nat.le_refl _) hlt (hq _ _ (hs m n hlt (by omega)) hqn)
        subst hm
        exact ⟨m + 1, Nat.le_refl _, fun i hi => by
          by_cases e : i = m
          · rw [e]; exact hqn
          · exact h2 i (by omega), fun i _ _ => by omega⟩
      · exact ⟨m, by omega, h2, fun i hi1 hi2 => by
          by_cases e : i = n
          · rw [e]; exact hqn
          · exact h3 i hi1 (by omega)⟩
  exact H s.length (Nat.le_refl _)
theorem event_votes {s : List Ev} (hs : sortE s) {i0 : Nat} (hi : i0 < s.length) : ∃ j, j < s.length ∧ (s.getD j (0, false)).1 = (s.getD i0 (0, false)).1 ∧ openI s j = (s.countP (stB (s.getD i0 (0, false)).1) : Int) - (s.countP (ltB (s.getD i0 (0, false)).1) : Int) := by
  obtain ⟨x, hx⟩ : ∃ x, (s.getD i0 (0, false)).1 = x := ⟨_, rfl⟩
  rw [hx]
  obtain ⟨m, hm, h1, h2⟩ := part_at s hs (fun e => e.1 < x ∨ (e.1 = x ∧ e.2 = false)) (fun a b hab hb => by
    rcases hab with h | ⟨h, h'⟩
    · left; rcases hb with hb | hb <;> omega
    · rcases hb with hb | hb
      · left; omega
      · right
        refine ⟨by omega, ?_⟩
        cases ha : a.2 with
        | false => rfl
        | true => have := h' ha; rw [hb.2] at this; cases this)
  have hS : opens s m = s.countP (stB x) := by
    rw [split_count s m (stB x)]
    have e0 : (s.drop m).countP (stB x) = 0 := by
      rw [List.countP_eq_zero]
      intro e he
      obtain ⟨j, hj, hjl, rfl⟩ := mem_drop_get he
      have := h2 j hj hjl
      unfold stB
      clear he
      generalize s.getD j (0, false) = e at *
      cases hb : e.2
      · simp [hb] at this ⊢; omega
      · simp [hb]
    have : opens s m = (s.take m).countP (stB x) := by
      unfold opens
      refine List.countP_congr fun e he => ?_
      obtain ⟨j, hj, hjl, rfl⟩ := mem_take_get he
      have := h1 j hj
      unfold stB
      have h' : (s.getD j (0, false)).1 ≤ x := by rcases this with h | h <;> omega
      generalize s.getD j (0, false) = e at *
      simp [h']
    omega
  have hT : shuts s m = s.countP (ltB x) := by
    rw [split_count s m (ltB x)]
    have e0 : (s.drop m).countP (ltB x) = 0 := by
      rw [List.countP_eq_zero]
      intro e he
      obtain ⟨j, hj, hjl, rfl⟩ := mem_drop_get he
      have := h2 j hj hjl
      unfold ltB
      clear he
      generalize s.getD j (0, false) = e at *
      have h' : ¬ e.1 < x := fun h => this (.inl h)
      simp [h']
    have : shuts s m = (s.take m).countP (ltB x) := by
      unfold shuts
      refine List.countP_congr fun e he => ?_
      obtain ⟨j, hj, hjl, rfl⟩ := mem_take_get he
      have := h1 j hj
      unfold ltB
      clear he
      generalize s.getD j (0, false) = e at *
      cases hb : e.2
      · simp
      · rw [hb] at this
        simp at this
        simp [this]
    omega
  by_cases hA : 0 < m ∧ (s.getD (m - 1) (0, false)).1 = x ∧ (s.getD (m - 1) (0, false)).2 = false
  · obtain ⟨a1, a2, a3⟩ := hA
    refine ⟨m - 1, by omega, a2, ?_⟩
    unfold openI
    have := shuts_succ s (m - 1) (by omega)
    rw [a3, show m - 1 + 1 = m by omega] at this
    rw [show m - 1 + 1 = m by omega]
    simp at this
    omega
  · have hi0 : m ≤ i0 := Nat.le_of_not_lt fun hlt => by
      have h3 := h1 i0 hlt
      have hle := le_at hs (show i0 ≤ m - 1 by omega) (by omega)
      have hle' : leE (s.getD i0 (0, false)) (s.getD (m - 1) (0, false)) ∨ i0 = m - 1 := by
        by_cases e : i0 = m - 1
        · exact .inr e
        · exact .inl (hs i0 (m - 1) (by omega) (by omega))
      have h4 := h1 (m - 1) (by omega)
      refine hA ⟨by omega, ?_, ?_⟩
      · rcases h4 with h4 | h4 <;> omega
      · rcases h4 with h4 | h4
        · omega
        · exact h4.2
    have hml : m < s.length := by omega
    have h5 := le_at hs hi0 hi
    have h6 := h2 m (Nat.le_refl _) hml
    have h7 : (s.getD m (0, false)).1 = x := by
      rw [hx] at h5
      have : ¬ (s.getD m (0, false)).1 < x := fun h => h6 (.inl h)
      omega
    have h8 : (s.getD m (0, false)).2 = true := by
      cases h : (s.getD m (0, false)).2
      · exact absurd (.inr ⟨h7, h⟩) h6
      · rfl
    refine ⟨m, hml, h7, ?_⟩
    unfold openI
    have := opens_succ s m hml
    rw [h8] at this
    simp at this
    omega
end Go.Proofs.Ytflplliiamodhaa

/- What the sweep finds: the least number with the most votes; where so many have a number. -/
namespace Go.Proofs.Ytflplliiamodhaa
set_option linter.unusedVariables false
set_option linter.unusedSimpArgs false

theorem votes_perm {l : List (Int × Int)} {s : List Ev} (hp : s.Perm (endsL l)) (x : Int) : (votes l x : Int) = (s.countP (stB x) : Int) - (s.countP (ltB x) : Int) := by
  rw [votes_ends, hp.countP_eq, hp.countP_eq]
theorem votes_mono {l : List (Int × Int)} {x y : Int} (h : ∀ q ∈ l, hasB y q = true → hasB x q = true) : votes l y ≤ votes l x := List.countP_mono_left h
theorem votes_pos {l : List (Int × Int)} {y : Int} : 0 < votes l y ↔ ∃ p ∈ l, hasB y p = true := List.countP_pos_iff
theorem hasB_iff {x : Int} {p : Int × Int} : hasB x p = true ↔ p.1 ≤ x ∧ x ≤ p.2 := by unfold hasB; exact decide_eq_true_iff
theorem max_lo (l : List (Int × Int)) (P : Int × Int → Prop) (h : ∃ p ∈ l, P p) : ∃ p ∈ l, P p ∧ ∀ q ∈ l, P q → q.1 ≤ p.1 := by
  induction l with
  | nil => obtain ⟨p, hp, _⟩ := h; cases hp
  | cons a l ih =>
    by_cases h1 : ∃ p ∈ l, P p
    · obtain ⟨p, hp, h2, h3⟩ := ih h1
      by_cases h4 : P a ∧ p.1 < a.1
      · refine ⟨a, List.mem_cons_self .., h4.1, fun q hq hPq => ?_⟩
        rcases List.mem_cons.1 hq with rfl | hq
        · omega
        · have := h3 q hq hPq; omega
      · refine ⟨p, List.mem_cons_of_mem _ hp, h2, fun q hq hPq => ?_⟩
        rcases List.mem_cons.1 hq with rfl | hq
        · exact Int.le_of_not_gt fun h => h4 ⟨hPq, h⟩
        · exact h3 q hq hPq
    · obtain ⟨p, hp, h2⟩ := h
      rcases List.mem_cons.1 hp with rfl | hp
      · refine ⟨p, List.mem_cons_self .., h2, fun q hq hPq => ?_⟩
        rcases List.mem_cons.1 hq with rfl | hq
        · omega
        · exact absurd ⟨q, hq, hPq⟩ h1
      · exact absurd ⟨p, hp, h2⟩ h1
theorem min_hi (l : List (Int × Int)) (P : Int × Int → Prop) (h : ∃ p ∈ l, P p) : ∃ p ∈ l, P p ∧ ∀ q ∈ l, P q → p.2 ≤ q.2 := by
  obtain ⟨p, hp, h1, h2⟩ := max_lo (l.map fun p => (-p.2, p.1)) (fun q => P (q.2, -q.1)) (by
    obtain ⟨p, hp, h1⟩ := h
    exact ⟨_, List.mem_map_of_mem hp, by simpa using h1⟩)
  obtain ⟨r, hr, rfl⟩ := List.mem_map.1 hp
  refine ⟨r, hr, by simpa using h1, fun q hq hPq => ?_⟩
  have := h2 _ (List.mem_map_of_mem hq) (by simpa using hPq)
  simp at this
  omega
theorem ev_mem {l : List (Int × Int)} {e : Ev} : e ∈ endsL l ↔ ∃ p ∈ l, p.1 ≤ p.2 ∧ (e = (p.1, false) ∨ e = (p.2, true)) := by
  unfold endsL
  rw [List.mem_flatMap]
  constructor
  · rintro ⟨p, hp, h⟩
    by_cases h1 : p.1 ≤ p.2
    · rw [if_pos h1] at h
      simp at h
      exact ⟨p, hp, h1, h⟩
    · rw [if_neg h1] at h; cases h
  · rintro ⟨p, hp, h1, h⟩
    refine ⟨p, hp, ?_⟩
    rw [if_pos h1]
    simpa using h
theorem ev_ix {l : List (Int × Int)} {s : List Ev} (hp : s.Perm (endsL l)) {e : Ev} (h : e ∈ endsL l) : ∃ i, i < s.length ∧ s.getD i (0, false) = e := by
  obtain ⟨i, hi, he⟩ := List.getElem_of_mem (hp.mem_iff.2 h)
  exact ⟨i, hi, by rw [getE hi]; exact he⟩
theorem ix_ev {l : List (Int × Int)} {s : List Ev} (hp : s.Perm (endsL l)) {i : Nat} (h : i < s.length) : s.getD i (0, false) ∈ endsL l := by
  rw [getE h]
  exact hp.mem_iff.1 (List.getElem_mem h)
/-- below a number with votes lies a beginning with as many -/
theorem low_pt {l : List (Int × Int)} {y : Int} (h : 0 < votes l y) : ∃ p ∈ l, p.1 ≤ p.2 ∧ p.1 ≤ y ∧ votes l y ≤ votes l p.1 := by
  obtain ⟨p, hp, h1, h2⟩ := max_lo l (fun q => hasB y q = true) (votes_pos.1 h)
  obtain ⟨a, b⟩ := hasB_iff.1 h1
  refine ⟨p, hp, by omega, a, votes_mono fun q hq hy => ?_⟩
  have h3 := h2 q hq hy
  have h4 := hasB_iff.1 hy
  exact hasB_iff.2 ⟨h3, by omega⟩
/-- above a number with votes lies an end with as many -/
theorem high_pt {l : List (Int × Int)} {y : Int} (h : 0 < votes l y) : ∃ p ∈ l, p.1 ≤ p.2 ∧ y ≤ p.2 ∧ votes l y ≤ votes l p.2 := by
  obtain ⟨p, hp, h1, h2⟩ := min_hi l (fun q => hasB y q = true) (votes_pos.1 h)
  obtain ⟨a, b⟩ := hasB_iff.1 h1
  refine ⟨p, hp, by omega, b, votes_mono fun q hq hy => ?_⟩
  have h3 := h2 q hq hy
  have h4 := hasB_iff.1 hy
  exact hasB_iff.2 ⟨by omega, h3⟩
/-- the number as the sweep keeps it: the place, and its votes -/
def stepB (r : Int × Int) (o : Ev × Int) : Int × Int := if r.2 < o.2 then (o.1.1, o.2) else r
def seqE (s : List Ev) (k : Nat) : List (Ev × Int) := (List.range k).map fun i => (s.getD i (0, false), openI s i)
theorem seqE_succ (s : List Ev) (k : Nat) : seqE s (k + 1) = seqE s k ++ [(s.getD k (0, false), openI s k)] := by
  unfold seqE
  rw [List.range_succ, List.map_append, List.map_singleton]
theorem foldB (s : List Ev) (k : Nat) : 0 ≤ ((seqE s k).foldl stepB (0, 0)).2 ∧ (∀ i, i < k → openI s i ≤ ((seqE s k).foldl stepB (0, 0)).2) ∧
    (((seqE s k).foldl stepB (0, 0) = (0, 0)) ∨ ∃ i, i < k ∧ openI s i = ((seqE s k).foldl stepB (0, 0)).2 ∧ (s.getD i (0, false)).1 = ((seqE s k).foldl stepB (0, 0)).1 ∧ 0 < ((seqE s k).foldl stepB (0, 0)).2 ∧ ∀ j, j < i → openI s j < ((seqE s k).foldl stepB (0, 0)).2) := by
  induction k with
  | zero => exact ⟨Int.le_refl _, fun i h => by omega, .inl rfl⟩
  | succ k ih =>
    rw [seqE_succ, List.foldl_append]
    obtain ⟨r, hr⟩ : ∃ r, (seqE s k).foldl stepB (0, 0) = r := ⟨_, rfl⟩
    rw [hr] at ih ⊢
    obtain ⟨h1, h2, h3⟩ := ih
    simp only [List.foldl_cons, List.foldl_nil]
    unfold stepB
    by_cases h : r.2 < openI s k
    · rw [if_pos h]
      refine ⟨by dsimp only; omega, fun i hi => ?_, .inr ⟨k, by omega, rfl, rfl, by dsimp only; omega, fun j hj => ?_⟩⟩
      · dsimp only
        by_cases e : i = k
        · rw [e]; exact Int.le_refl _
        · have := h2 i (by omega); omega
      · dsimp only
        have := h2 j hj; omega
    · rw [if_neg h]
      refine ⟨h1, fun i hi => ?_, ?_⟩
      · by_cases e : i = k
        · rw [e]; omega
        · exact h2 i (by omega)
      · rcases h3 with h3 | ⟨i, a, b, c, d, e⟩
        · exact .inl h3
        · exact .inr ⟨i, by omega, b, c, d, e⟩
/-- the least number with the most votes -/
def BestX (l : List (Int × Int)) (x n : Int) : Prop := (n = 0 ∧ x = 0 ∧ ∀ p ∈ l, ¬ p.1 ≤ p.2) ∨ (0 < n ∧ (votes l x : Int) = n ∧ (∀ y, (votes l y : Int) ≤ n) ∧ ∀ y, y < x → (votes l y : Int) < n)
theorem best_x {l : List (Int × Int)} {s : List Ev} (hp : s.Perm (endsL l)) (hs : sortE s) : BestX l ((seqE s s.length).foldl stepB (0, 0)).1 ((seqE s s.length).foldl stepB (0, 0)).2 := by
  obtain ⟨h1, h2, h3⟩ := foldB s s.length
  generalize (seqE s s.length).foldl stepB (0, 0) = r at *
  have ev : ∀ e ∈ endsL l, ∃ j, j < s.length ∧ (s.getD j (0, false)).1 = e.1 ∧ openI s j = (votes l e.1 : Int) := fun e he => by
    obtain ⟨i, hi, hie⟩ := ev_ix hp he
    obtain ⟨j, a, b, c⟩ := event_votes hs hi
    rw [hie] at b c
    exact ⟨j, a, b, by rw [c, votes_perm hp]⟩
  have all : ∀ y, (votes l y : Int) ≤ r.2 := fun y => by
    by_cases h0 : 0 < votes l y
    · obtain ⟨p, hpl, ha, hb, hc⟩ := low_pt h0
      obtain ⟨j, e1, e2, e3⟩ := ev _ (ev_mem.2 ⟨p, hpl, ha, .inl rfl⟩)
      have := h2 j e1
      dsimp only at e3
      omega
    · omega
  rcases h3 with rfl | ⟨i, a, b, c, d, e⟩
  · refine .inl ⟨rfl, rfl, fun p hpl hle => ?_⟩
    have h4 := all p.1
    have h5 : 0 < votes l p.1 := votes_pos.2 ⟨p, hpl, hasB_iff.2 ⟨Int.le_refl _, hle⟩⟩
    dsimp only at h4
    omega
  · refine .inr ⟨d, ?_, all, fun y hy => ?_⟩
    · have h4 := open_le hs a
      rw [← votes_perm hp, c] at h4
      have := all r.1
      omega
    · have h4 := all y
      by_cases h5 : (votes l y : Int) = r.2
      · obtain ⟨p, hpl, ha, hb, hc⟩ := low_pt (l := l) (y := y) (by omega)
        obtain ⟨j, e1, e2, e3⟩ := ev _ (ev_mem.2 ⟨p, hpl, ha, .inl rfl⟩)
        dsimp only at e2 e3
        have h6 := all p.1
        have h7 : j < i := Nat.lt_of_not_le fun hij => by
          have := le_at hs hij e1
          omega
        have := e j h7
        omega
      · omega
/-- where so many have a number: from the least to the greatest -/
def stepW (t : Int) (r : (Int × Int) × Bool) (o : Ev × Int) : (Int × Int) × Bool := if o.2 < t then r else ((if r.2 = true then r.1.1 else o.1.1, o.1.1), true)
theorem foldW (s : List Ev) (t : Int) (k : Nat) : ((seqE s k).foldl (stepW t) ((0, 0), false) = ((0, 0), false) ∧ ∀ i, i < k → openI s i < t) ∨
    ∃ i j, i < k ∧ j < k ∧ (seqE s k).foldl (stepW t) ((0, 0), false) = (((s.getD i (0, false)).1, (s.getD j (0, false)).1), true) ∧ t ≤ openI s i ∧ t ≤ openI s j ∧ (∀ q, q < i → openI s q < t) ∧ (∀ q, j < q → q < k → openI s q < t) := by
  induction k with
  | zero => exact .inl ⟨rfl, fun i h => by omega⟩
  | succ k ih =>
    rw [seqE_succ, List.foldl_append]
    obtain ⟨r, hr⟩ : ∃ r, (seqE s k).foldl (stepW t) ((0, 0), false) = r := ⟨_, rfl⟩
    rw [hr] at ih ⊢
    simp only [List.foldl_cons, List.foldl_nil]
    unfold stepW
    by_cases h : openI s k < t
    · rw [if_pos h]
      rcases ih with ⟨rfl, h2⟩ | ⟨i, j, a, b, c, d, e, f, g⟩
      · exact .inl ⟨rfl, fun i hi => by
          by_cases e : i = k
          · rw [e]; exact h
          · exact h2 i (by omega)⟩
      · exact .inr ⟨i, j, by omega, by omega, c, d, e, f, fun q h1 h2 => by
          by_cases e : q = k
          · rw [e]; exact h
          · exact g q h1 (by omega)⟩
    · rw [if_neg h]
      rcases ih with ⟨rfl, h2⟩ | ⟨i, j, a, b, rfl, d, e, f, g⟩
      · exact .inr ⟨k, k, by omega, by omega, rfl, by omega, by omega, h2, fun q h1 h2 => by omega⟩
      · exact .inr ⟨i, k, by omega, by omega, rfl, d, by omega, f, fun q h1 h2 => by omega⟩
def WithX (l : List (Int × Int)) (t : Int) (r : (Int × Int) × Bool) : Prop := (r = ((0, 0), false) ∧ ∀ y, (votes l y : Int) < t) ∨
  (r.2 = true ∧ t ≤ (votes l r.1.1 : Int) ∧ t ≤ (votes l r.1.2 : Int) ∧ (∀ y, y < r.1.1 → (votes l y : Int) < t) ∧ ∀ y, r.1.2 < y → (votes l y : Int) < t)
theorem with_x {l : List (Int × Int)} {s : List Ev} (hp : s.Perm (endsL l)) (hs : sortE s) {t : Int} (ht : 0 < t) : WithX l t ((seqE s s.length).foldl (stepW t) ((0, 0), false)) := by
  have ev : ∀ e ∈ endsL l, ∃ j, j < s.length ∧ (s.getD j (0, false)).1 = e.1 ∧ openI s j = (votes l e.1 : Int) := fun e he => by
    obtain ⟨i, hi, hie⟩ := ev_ix hp he
    obtain ⟨j, a, b, c⟩ := event_votes hs hi
    rw [hie] at b c
    exact ⟨j, a, b, by rw [c, votes_perm hp]⟩
  rcases foldW s t s.length with ⟨h1, h2⟩ | ⟨i, j, a, b, c, d, e, f, g⟩
  · rw [h1]
    refine .inl ⟨rfl, fun y => Int.lt_of_not_ge fun hy => ?_⟩
    obtain ⟨p, hpl, ha, hb, hc⟩ := low_pt (l := l) (y := y) (by omega)
    obtain ⟨j, e1, e2, e3⟩ := ev _ (ev_mem.2 ⟨p, hpl, ha, .inl rfl⟩)
    have := h2 j e1
    dsimp only at e3
    omega
  · rw [c]
    have o1 := open_le hs a
    have o2 := open_le hs b
    rw [← votes_perm hp] at o1 o2
    refine .inr ⟨rfl, by dsimp only; omega, by dsimp only; omega, fun y hy => Int.lt_of_not_ge fun hv => ?_, fun y hy => Int.lt_of_not_ge fun hv => ?_⟩
    · obtain ⟨p, hpl, ha, hb, hc⟩ := low_pt (l := l) (y := y) (by omega)
      obtain ⟨q, e1, e2, e3⟩ := ev _ (ev_mem.2 ⟨p, hpl, ha, .inl rfl⟩)
      dsimp only at e2 e3 hy
      have h7 : q < i := Nat.lt_of_not_le fun hij => by
        have := le_at hs hij e1
        omega
      have := f q h7
      omega
    · obtain ⟨p, hpl, ha, hb, hc⟩ := high_pt (l := l) (y := y) (by omega)
      obtain ⟨q, e1, e2, e3⟩ := ev _ (ev_mem.2 ⟨p, hpl, ha, .inr rfl⟩)
      dsimp only at e2 e3 hy
      have h7 : j < q := Nat.lt_of_not_le fun hij => by
        have := le_at hs hij b
        omega
      have := g q h7 e1
      omega
end Go.Proofs.Ytflplliiamodhaa

/- The best interval. -/
namespace Go.Proofs.Ytflplliiamodhaa
set_option linter.unusedVariables false

theorem foldM_ex : ∀ (l : List (Int × Int)) (z : Int × Int), ((l.foldl opM z).1 = z.1 ∨ ∃ p ∈ l, p.1 = (l.foldl opM z).1) ∧ ((l.foldl opM z).2 = z.2 ∨ ∃ p ∈ l, p.2 = (l.foldl opM z).2)
  | [], z => ⟨.inl rfl, .inl rfl⟩
  | a :: l, z => by
    obtain ⟨h1, h2⟩ := foldM_ex l (opM z a)
    rw [List.foldl_cons]
    refine ⟨?_, ?_⟩
    · rcases h1 with h1 | ⟨p, hp, h1⟩
      · rw [h1]
        unfold opM
        rcases Int.le_total z.1 a.1 with h | h
        · exact .inr ⟨a, List.mem_cons_self .., by dsimp only; omega⟩
        · exact .inl (by dsimp only; omega)
      · exact .inr ⟨p, List.mem_cons_of_mem _ hp, h1⟩
    · rcases h2 with h2 | ⟨p, hp, h2⟩
      · rw [h2]
        unfold opM
        rcases Int.le_total z.2 a.2 with h | h
        · exact .inl (by dsimp only; omega)
        · exact .inr ⟨a, List.mem_cons_self .., by dsimp only; omega⟩
      · exact .inr ⟨p, List.mem_cons_of_mem _ hp, h2⟩
/-- the least number with the most votes, and where all that have it end -/
def BestP (l : List (Int × Int)) (b : Int × Int) (n : Int) : Prop := (n = 0 ∧ b = (0, 0) ∧ ∀ p ∈ l, ¬ p.1 ≤ p.2) ∨
  (0 < n ∧ (votes l b.1 : Int) = n ∧ (∀ y, (votes l y : Int) ≤ n) ∧ (∀ y, y < b.1 → (votes l y : Int) < n) ∧ b.1 ≤ b.2 ∧ (∀ p ∈ l, hasB b.1 p = true → b.2 ≤ p.2) ∧ ∃ p ∈ l, hasB b.1 p = true ∧ p.2 = b.2)
def withL (l : List (Int × Int)) (x : Int) : List (Int × Int) := l.filter (hasB x)
theorem best_none {l : List (Int × Int)} {x n : Int} (h : BestX l x n) (hn : n = 0) : BestP l (0, 0) 0 := by
  rcases h with ⟨_, _, h⟩ | ⟨h, _⟩
  · exact .inl ⟨rfl, rfl, h⟩
  · omega
theorem best_meet {l : List (Int × Int)} {x n : Int} (hin : ∀ p ∈ l, InP p) (h : BestX l x n) (hn : n ≠ 0) : combE (withL l x) ((withL l x).foldl opM fullP) = 0 ∧ BestP l (combL (withL l x) ((withL l x).foldl opM fullP), combH (withL l x) ((withL l x).foldl opM fullP)) n := by
  rcases h with ⟨h, _⟩ | ⟨h0, h1, h2, h3⟩
  · exact absurd h hn
  have hm : ∀ p, p ∈ withL l x ↔ p ∈ l ∧ hasB x p = true := fun p => List.mem_filter
  obtain ⟨p0, hp0, hx0⟩ := votes_pos.1 (show 0 < votes l x by omega)
  have hp0m := (hm p0).2 ⟨hp0, hx0⟩
  obtain ⟨a0, a1⟩ := hasB_iff.1 hx0
  obtain ⟨i1, i2⟩ := hin p0 hp0
  unfold InI at i1 i2
  obtain ⟨e1, e2⟩ := foldM_ex (withL l x) fullP
  obtain ⟨_, e4⟩ := foldM_le (withL l x) fullP
  obtain ⟨r, hr⟩ : ∃ r, (withL l x).foldl opM fullP = r := ⟨_, rfl⟩
  rw [hr] at e1 e2 e4 ⊢
  have hlo : r.1 ≤ x := by
    rcases e1 with e1 | ⟨p, hp, e1⟩
    · rw [e1]; unfold fullP; dsimp only; omega
    · have := hasB_iff.1 ((hm p).1 hp).2
      omega
  have hex : ∃ p ∈ withL l x, p.2 = r.2 := by
    rcases e2 with e2 | h
    · refine ⟨p0, hp0m, ?_⟩
      have := (e4 p0 hp0m).2
      rw [e2] at this ⊢
      unfold fullP at *
      dsimp only at *
      omega
    · exact h
  have hhi : x ≤ r.2 := by
    obtain ⟨p, hp, e⟩ := hex
    have := hasB_iff.1 ((hm p).1 hp).2
    omega
  have hx : r.1 = x := by
    refine Int.le_antisymm hlo (Int.le_of_not_gt fun hlt => ?_)
    have := h3 r.1 hlt
    have h5 : votes l x ≤ votes l r.1 := votes_mono fun q hq hqx => by
      have h6 := e4 q ((hm q).2 ⟨hq, hqx⟩)
      have h7 := hasB_iff.1 hqx
      exact hasB_iff.2 ⟨h6.1, by omega⟩
    omega
  have hall : allR (withL l x) := fun j hj => by
    have h8 : (withL l x).getD j (0, 0) ∈ withL l x := getP_mem hj
    have := hasB_iff.1 ((hm _).1 h8).2
    omega
  obtain ⟨c1, c2, c3⟩ := comb_ok hall (show r.1 ≤ r.2 by omega)
  refine ⟨c1, .inr ⟨h0, ?_, h2, ?_, ?_, ?_, ?_⟩⟩
  · rw [c2]; dsimp only; rw [hx]; exact h1
  · rw [c2]; dsimp only; rw [hx]; exact h3
  · rw [c2, c3]; dsimp only; omega
  · rw [c2, c3]; dsimp only
    rw [hx]
    intro p hp hpx
    exact (e4 p ((hm p).2 ⟨hp, hpx⟩)).2
  · rw [c2, c3]; dsimp only
    rw [hx]
    obtain ⟨p, hp, e⟩ := hex
    exact ⟨p, ((hm p).1 hp).1, ((hm p).1 hp).2, e⟩
/-- there is just one best interval -/
theorem best_uniq {l : List (Int × Int)} {b c : Int × Int} {n m : Int} (h : BestP l b n) (k : BestP l c m) : b = c ∧ n = m := by
  rcases h with ⟨rfl, rfl, h⟩ | ⟨h0, h1, h2, h3, h4, h5, p, hp, h6, h7⟩ <;> rcases k with ⟨rfl, rfl, k⟩ | ⟨k0, k1, k2, k3, k4, k5, q, hq, k6, k7⟩
  · exact ⟨rfl, rfl⟩
  · have := hasB_iff.1 k6
    exact absurd (show q.1 ≤ q.2 by omega) (h q hq)
  · have := hasB_iff.1 h6
    exact absurd (show p.1 ≤ p.2 by omega) (k p hp)
  · have e : n = m := by
      have := k2 b.1
      have := h2 c.1
      omega
    subst e
    have e1 : b.1 = c.1 := by
      rcases Int.lt_trichotomy b.1 c.1 with h | h | h
      · have := k3 _ h; omega
      · exact h
      · have := h3 _ h; omega
    refine ⟨Prod.ext e1 ?_, rfl⟩
    have g1 := h5 q hq (by rw [e1]; exact k6)
    have g2 := k5 p hp (by rw [← e1]; exact h6)
    omega
theorem withL_snoc (l : List (Int × Int)) (x : Int) (k : Nat) (hk : k < l.length) : withL (l.take (k + 1)) x = withL (l.take k) x ++ (if hasB x (l.getD k (0, 0)) = true then [l.getD k (0, 0)] else []) := by
  unfold withL
  rw [take_pair l k hk, List.filter_append]
  congr 1
  generalize l.getD k (0, 0) = p
  cases h : hasB x p <;> simp [List.filter, h]
theorem withL_len (l : List (Int × Int)) (x : Int) : (withL l x).length ≤ l.length := List.length_filter_le _ _
end Go.Proofs.Ytflplliiamodhaa

/- What the reference of the sweep stands on. -/
namespace Go.Proofs.Ytflplliiamodhaa
open Go.RowKit
set_option linter.unusedVariables false

theorem votes_snoc (l : List (Int × Int)) (x : Int) (k : Nat) (hk : k < l.length) : votes (l.take (k + 1)) x = votes (l.take k) x + (if hasB x (l.getD k (0, 0)) = true then 1 else 0) := by
  unfold votes
  rw [take_pair l k hk, List.countP_append]
  simp [List.countP_cons]
theorem votes_le (l : List (Int × Int)) (x : Int) : votes l x ≤ l.length := List.countP_le_length
def BestOut (L : List (Int × Int)) (w : World) (e : Ending) (w' : World) : Prop := ∃ b n, e = .returned (.tuple #[.agg #[.int .i64 (b : Int × Int).1, .int .i64 b.2], .int .i64 n]) ∧ Hid (BestP L b n) ∧ Below w.heap.size w w'
def rights (L : List (Int × Int)) : Nat := L.countP fun p => decide (p.1 ≤ p.2)
theorem rights_snoc (L : List (Int × Int)) (k : Nat) (hk : k < L.length) : rights (L.take (k + 1)) = rights (L.take k) + (if (L.getD k (0, 0)).1 ≤ (L.getD k (0, 0)).2 then 1 else 0) := by
  unfold rights
  rw [take_pair L k hk, List.countP_append]
  simp [List.countP_cons]
theorem rights_le (L : List (Int × Int)) : rights L ≤ L.length := List.countP_le_length
def WithP (L : List (Int × Int)) (f : Int) (r : (Int × Int) × Bool) : Prop := ((f < 0 ∨ (rights L : Int) ≤ f) ∧ r = ((0, 0), false)) ∨ ((0 ≤ f ∧ f < (rights L : Int)) ∧ WithX L ((rights L : Int) - f) r)
def VoRel (l : List (Int × Int)) (x : Int) (w : World) (n i : Value) (wr : World) : Prop := ∃ k : Nat, k ≤ l.length ∧ i = .int .i64 k ∧ n = .int .i64 (votes (l.take k) x : Int) ∧ Hid (Below w.heap.size w wr)
end Go.Proofs.Ytflplliiamodhaa

/- noonmarkref17: Votes, right; noonmarkref03's Right; noonmarklaw17.of: for every input. Of gen_refv17.py. -/
namespace Go.Proofs.Ytflplliiamodhaa
open Go.RowKit
set_option linter.unusedVariables false

theorem ref_right_any (a b : Int) (w : World) : Calls Try.prog 50 #[.agg #[.int .i64 a, .int .i64 b]] w (Gives (.bool (decide (a ≤ b))) w) := by
  go_enter Try.func50, Try.ntmps50
  go_wp2
  go_ret
  exact gives_bool rfl (one_alloc _ _)
set_option maxHeartbeats 1000000 in
theorem rvotes_any (x : Int) (xa : Option Addr) (xc : Nat) (l : List (Int × Int)) (w : World) (hx : PairRow w xa l) (hl : l.length ≤ 4000000000) :
    Calls Try.prog 92 #[.int .i64 x, .slice xa l.length xc] w (Gives (.int .i64 (votes l x : Int)) w) := by
  have HX := Lib.hid hx
  have HL := Lib.hid hl
  clear hx hl
  go_enter Try.func92, Try.ntmps92
  go_wp2
  go_loopw [5, 6] (fun n i wr => VoRel l x w n i wr) (fun _ i _ => l.length - (intOf i).toNat)
  case atStart => exact ⟨0, Nat.zero_le _, rfl, rfl, Lib.hid (Below.refl _ _)⟩
  case round =>
    obtain ⟨k, hk, rfl, rfl, HB⟩ := hrel
    by_cases hlt : k < l.length
    · have HLT := Lib.hid hlt
      obtain ⟨b, off, rfl, q1, q2⟩ := HX.out k hlt
      have c1 := (HB.out.cell (World.block_lt_of_cell? w _ q1)).trans q1
      have c2 := (HB.out.cell (World.block_lt_of_cell? w _ q2)).trans q2
      have hsn := votes_snoc l x k hlt
      have hle := votes_le (l.take k) x
      rw [List.length_take] at hle
      have hkk : (k : Int) < (l.length : Int) := by omega
      have hll := HL.out
      obtain ⟨⟨p, q⟩, hpq⟩ : ∃ pq, l.getD k (0, 0) = pq := ⟨_, rfl⟩
      rw [hpq] at c1 c2 hsn
      dsimp only at c1 c2
      have C1 := Lib.hid c1
      have C2 := Lib.hid c2
      have F : Hid (∀ n W, n = (votes (l.take (k + 1)) x : Int) → Below w.heap.size w W → VoRel l x w (.int .i64 n) (.int .i64 ((k : Int) + 1)) W) := Lib.hid fun n W hn hb => ⟨k + 1, hlt, rfl, by rw [hn], Lib.hid hb⟩
      generalize (votes (l.take k) x) = V at *
      have e1 : wrap64 ((V : Int) + 1) = (V : Int) + 1 := IntWalk.wrap64_in _ (by omega)
      have e2 : wrap64 ((k : Int) + 1) = (k : Int) + 1 := IntWalk.wrap64_in _ (by omega)
      by_cases h0 : p ≤ q
      · have d0 := decide_eq_true h0
        by_cases hp : p ≤ x
        · by_cases hq : x ≤ q
          · have hb : hasB x (p, q) = true := decide_eq_true (by dsimp only; omega)
            rw [if_pos hb] at hsn
            have G := Lib.hid (fun W hb => F.out ((V : Int) + 1) W (by omega) hb)
            clear h0
            clear hsn hle hll hpq hb F hlt hk q1 q2
            go_wp2_with fail
            refine (ref_right_any p q _).mono ?_
            rintro _ w2 ⟨rfl, b2⟩
            rw [d0]
            have GG := Lib.hid (G.out w2 (bnext HB.out HB.out.size b2))
            have c1 := (b2.cell (World.block_lt_of_cell? _ _ C1.out)).trans C1.out
            have c2 := (b2.cell (World.block_lt_of_cell? _ _ C2.out)).trans C2.out
            clear b2 d0 G C1 C2
            go_wp2
            go_roundw
            case rel => (try rw [e1]); (try rw [e2]); exact GG.out
            case measure => have := HLT.out; (try rw [e2]); simp [intOf]; omega
          · have hb : hasB x (p, q) = false := decide_eq_false (by dsimp only; omega)
            rw [hb, if_neg (by simp)] at hsn
            have G := Lib.hid (fun W hb => F.out ((V : Int)) W (by omega) hb)
            clear h0
            clear hsn hle hll hpq hb F hlt hk q1 q2
            go_wp2_with fail
            refine (ref_right_any p q _).mono ?_
            rintro _ w2 ⟨rfl, b2⟩
            rw [d0]
            have GG := Lib.hid (G.out w2 (bnext HB.out HB.out.size b2))
            have c1 := (b2.cell (World.block_lt_of_cell? _ _ C1.out)).trans C1.out
            have c2 := (b2.cell (World.block_lt_of_cell? _ _ C2.out)).trans C2.out
            clear b2 d0 G C1 C2
            go_wp2
            go_roundw
            case rel => (try rw [e2]); exact GG.out
            case measure => have := HLT.out; (try rw [e2]); simp [intOf]; omega
        · have hb : hasB x (p, q) = false := decide_eq_false (by dsimp only; omega)
          rw [hb, if_neg (by simp)] at hsn
          have G := Lib.hid (fun W hb => F.out ((V : Int)) W (by omega) hb)
          clear h0
          clear hsn hle hll hpq hb F hlt hk q1 q2
          go_wp2_with fail
          refine (ref_right_any p q _).mono ?_
          rintro _ w2 ⟨rfl, b2⟩
          rw [d0]
          have GG := Lib.hid (G.out w2 (bnext HB.out HB.out.size b2))
          have c1 := (b2.cell (World.block_lt_of_cell? _ _ C1.out)).trans C1.out
          have c2 := (b2.cell (World.block_lt_of_cell? _ _ C2.out)).trans C2.out
          clear b2 d0 G C1 C2
          go_wp2
          go_roundw
          case rel => (try rw [e2]); exact GG.out
          case measure => have := HLT.out; (try rw [e2]); simp [intOf]; omega
      · have hb : hasB x (p, q) = false := decide_eq_false (by dsimp only; omega)
        rw [hb, if_neg (by simp)] at hsn
        have G := Lib.hid (fun W hb => F.out ((V : Int)) W (by omega) hb)
        have d0 := decide_eq_false h0
        clear hsn hle hll hpq hb F hlt hk q1 q2
        go_wp2_with fail
        refine (ref_right_any p q _).mono ?_
        rintro _ w2 ⟨rfl, b2⟩
        rw [d0]
        have GG := Lib.hid (G.out w2 (bnext HB.out HB.out.size b2))
        have c1 := (b2.cell (World.block_lt_of_cell? _ _ C1.out)).trans C1.out
        have c2 := (b2.cell (World.block_lt_of_cell? _ _ C2.out)).trans C2.out
        clear b2 d0 G C1 C2
        go_wp2
        go_roundw
        case rel => (try rw [e2]); exact GG.out
        case measure => have := HLT.out; (try rw [e2]); simp [intOf]; omega
    · obtain rfl : k = l.length := by omega
      rw [List.take_length]
      clear hlt hk
      go_wp2
      go_ret
      exact ⟨rfl, HB.out⟩
def RgRel (l : List (Int × Int)) (w : World) (n i : Value) (wr : World) : Prop := ∃ k : Nat, k ≤ l.length ∧ i = .int .i64 k ∧ n = .int .i64 (rights (l.take k) : Int) ∧ Hid (Below w.heap.size w wr)
end Go.Proofs.Ytflplliiamodhaa
