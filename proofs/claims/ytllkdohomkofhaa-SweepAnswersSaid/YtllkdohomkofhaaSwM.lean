/- The sweep over the ends of intervals: how many are open, and how many have a number. -/
import Derived.Test.YtllkdohomkofhaaPointM
namespace Go.Proofs.Ytllkdohomkofhaa
set_option linter.unusedVariables false
set_option linter.unusedSimpArgs false

abbrev Ev := Int × Bool
def hasB (x : Int) (p : Int × Int) : Bool := decide (p.1 ≤ x ∧ x ≤ p.2)
def votes (l : List (Int × Int)) (x : Int) : Nat := l.countP (hasB x)
def rgtB (p : Int × Int) : Bool := decide (p.1 ≤ p.2)
/-- the ends of the right intervals, not yet in order -/
def endsL (l : List (Int × Int)) : List Ev := l.flatMap fun p => if p.1 ≤ p.2 then [(p.1, false), (p.2, true)] else []
def leE (a b : Ev) : Prop := a.1 < b.1 ∨ (a.1 = b.1 ∧ (a.2 = true → b.2 = true))
def sortE (s : List Ev) : Prop := ∀ i j, i < j → j < s.length → leE (s.getD i (0, false)) (s.getD j (0, false))
def stB (x : Int) (e : Ev) : Bool := !e.2 && decide (e.1 ≤ x)
def ltB (x : Int) (e : Ev) : Bool := e.2 && decide (e.1 < x)
def opens (s : List Ev) (k : Nat) : Nat := (s.take k).countP fun e => !e.2
def shuts (s : List Ev) (k : Nat) : Nat := (s.take k).countP fun e => e.2
/-- how many are open at the k-th end: with the one that begins, with the one that ends -/
def openI (s : List Ev) (k : Nat) : Int := (opens s (k + 1) : Int) - (shuts s k : Int)
theorem votes_ends (l : List (Int × Int)) (x : Int) : (votes l x : Int) = ((endsL l).countP (stB x) : Int) - ((endsL l).countP (ltB x) : Int) := by
  induction l with
  | nil => rfl
  | cons p l ih =>
    unfold votes endsL at *
    rw [List.countP_cons, List.flatMap_cons, List.countP_append, List.countP_append]
    have h : ((if hasB x p = true then 1 else 0 : Nat) : Int) = ((if p.1 ≤ p.2 then [(p.1, false), (p.2, true)] else []).countP (stB x) : Int) - ((if p.1 ≤ p.2 then [(p.1, false), (p.2, true)] else []).countP (ltB x) : Int) := by
      unfold hasB stB ltB
      by_cases h1 : p.1 ≤ p.2
      · rw [if_pos h1]
        by_cases h2 : p.1 ≤ x <;> by_cases h3 : p.2 < x
        · have : ¬ (p.1 ≤ x ∧ x ≤ p.2) := by omega
          simp [List.countP_cons, h2, h3, this]
        · have : p.1 ≤ x ∧ x ≤ p.2 := by omega
          simp [List.countP_cons, h2, h3, this.2]
        · omega
        · have : ¬ (p.1 ≤ x ∧ x ≤ p.2) := by omega
          simp [List.countP_cons, h2, h3]
      · rw [if_neg h1]
        have : ¬ (p.1 ≤ x ∧ x ≤ p.2) := by omega
        rw [decide_eq_false this]
        rfl
    push_cast at *
    omega
theorem getE {s : List Ev} {i : Nat} (h : i < s.length) : s.getD i (0, false) = s[i] := by
  rw [List.getD_eq_getElem?_getD, List.getElem?_eq_getElem h]; rfl
theorem mem_take_get {s : List Ev} {k : Nat} {e : Ev} (h : e ∈ s.take k) : ∃ i, i < k ∧ i < s.length ∧ s.getD i (0, false) = e := by
  obtain ⟨i, hi, rfl⟩ := List.getElem_of_mem h
  rw [List.length_take] at hi
  exact ⟨i, by omega, by omega, by rw [getE (by omega), List.getElem_take]⟩
theorem mem_drop_get {s : List Ev} {k : Nat} {e : Ev} (h : e ∈ s.drop k) : ∃ i, k ≤ i ∧ i < s.length ∧ s.getD i (0, false) = e := by
  obtain ⟨i, hi, rfl⟩ := List.getElem_of_mem h
  rw [List.length_drop] at hi
  exact ⟨k + i, by omega, by omega, by rw [getE (by omega), List.getElem_drop]⟩
theorem le_at {s : List Ev} (hs : sortE s) {i j : Nat} (h : i ≤ j) (hj : j < s.length) : (s.getD i (0, false)).1 ≤ (s.getD j (0, false)).1 := by
  rcases Nat.lt_or_eq_of_le h with h | rfl
  · rcases hs i j h hj with h | h <;> omega
  · exact Int.le_refl _
theorem split_count (s : List Ev) (k : Nat) (p : Ev → Bool) : s.countP p = (s.take k).countP p + (s.drop k).countP p := by
  rw [← List.countP_append, List.take_append_drop]
theorem opens_succ (s : List Ev) (k : Nat) (h : k < s.length) : opens s (k + 1) = opens s k + (if (s.getD k (0, false)).2 = true then 0 else 1) := by
  unfold opens
  rw [List.take_add_one, List.countP_append, List.getElem?_eq_getElem h, getE h]
  cases h2 : s[k].2 <;> simp [List.countP_cons, h2]
theorem shuts_succ (s : List Ev) (k : Nat) (h : k < s.length) : shuts s (k + 1) = shuts s k + (if (s.getD k (0, false)).2 = true then 1 else 0) := by
  unfold shuts
  rw [List.take_add_one, List.countP_append, List.getElem?_eq_getElem h, getE h]
  cases h2 : s[k].2 <;> simp [List.countP_cons, h2]
theorem open_le {s : List Ev} (hs : sortE s) {i : Nat} (h : i < s.length) : openI s i ≤ (s.countP (stB (s.getD i (0, false)).1) : Int) - (s.countP (ltB (s.getD i (0, false)).1) : Int) := by
  obtain ⟨x, hx⟩ : ∃ x, (s.getD i (0, false)).1 = x := ⟨_, rfl⟩
  rw [hx]
  unfold openI
  have h1 : opens s (i + 1) ≤ s.countP (stB x) := by
    rw [split_count s (i + 1) (stB x)]
    have : opens s (i + 1) = (s.take (i + 1)).countP (stB x) := by
      unfold opens
      refine List.countP_congr fun e he => ?_
      obtain ⟨j, hj, hjl, rfl⟩ := mem_take_get he
      have := le_at hs (show j ≤ i by omega) h
      unfold stB
      rw [hx] at this
      generalize s.getD j (0, false) = e at *
      simp [this]
    omega
  have h2 : s.countP (ltB x) ≤ shuts s i := by
    rw [split_count s i (ltB x)]
    have e0 : (s.drop i).countP (ltB x) = 0 := by
      rw [List.countP_eq_zero]
      intro e he
      obtain ⟨j, hj, hjl, rfl⟩ := mem_drop_get he
      have := le_at hs hj hjl
      unfold ltB
      rw [hx] at this
      generalize s.getD j (0, false) = e at *
      simp; omega
    have : (s.take i).countP (ltB x) ≤ shuts s i := List.countP_mono_left fun e _ he => by
      unfold ltB at he
      simp at he
      exact he.1
    omega
  omega
theorem part_at (s : List Ev) (hs : sortE s) (q : Ev → Prop) (hq : ∀ a b, leE a b → q b → q a) : ∃ m, m ≤ s.length ∧ (∀ i, i < m → q (s.getD i (0, false))) ∧ (∀ i, m ≤ i → i < s.length → ¬ q (s.getD i (0, false))) := by
  have H : ∀ n, n ≤ s.length → (∃ m, m ≤ n ∧ (∀ i, i < m → q (s.getD i (0, false))) ∧ (∀ i, m ≤ i → i < n → ¬ q (s.getD i (0, false)))) := by
    intro n
    induction n with
    | zero => exact fun _ => ⟨0, Nat.le_refl _, fun i h => by omega, fun i _ h => by omega⟩
    | succ n ih =>
      intro hn
      obtain ⟨m, h1, h2, h3⟩ := ih (by omega)
      by_cases hqn : q (s.getD n (0, false))
      · have hm : m = n := by
          refine Nat.le_antisymm h1 (Nat.le_of_not_lt fun hlt => ?_)
          exact h3 m (Nat.le_refl _) hlt (hq _ _ (hs m n hlt (by omega)) hqn)
        subst hm
        exact ⟨m + 1, Nat.le_refl _, fun i hi => by
          by_cases e : i = m
          · rw [e]; exact hqn
          · exact h2 i (by omega), fun i _ _ => by omega⟩
      · exact ⟨m, by omega, h2, fun i hi1 hi2 => by
          by_cases e : i = n
          · rw [e]; exact hqn
          · exact h3 i hi1 (by omega)⟩
  exact H s.length (Nat.le_refl _)
theorem event_votes {s : List Ev} (hs : sortE s) {i0 : Nat} (hi : i0 < s.length) : ∃ j, j < s.length ∧ (s.getD j (0, false)).1 = (s.getD i0 (0, false)).1 ∧ openI s j = (s.countP (stB (s.getD i0 (0, false)).1) : Int) - (s.countP (ltB (s.getD i0 (0, false)).1) : Int) := by
  obtain ⟨x, hx⟩ : ∃ x, (s.getD i0 (0, false)).1 = x := ⟨_, rfl⟩
  rw [hx]
  obtain ⟨m, hm, h1, h2⟩ := part_at s hs (fun e => e.1 < x ∨ (e.1 = x ∧ e.2 = false)) (fun a b hab hb => by
    rcases hab with h | ⟨h, h'⟩
    · left; rcases hb with hb | hb <;> omega
    · rcases hb with hb | hb
      · left; omega
      · right
        refine ⟨by omega, ?_⟩
        cases ha : a.2 with
        | false => rfl
        | true => have := h' ha; rw [hb.2] at this; cases this)
  have hS : opens s m = s.countP (stB x) := by
    rw [split_count s m (stB x)]
    have e0 : (s.drop m).countP (stB x) = 0 := by
      rw [List.countP_eq_zero]
      intro e he
      obtain ⟨j, hj, hjl, rfl⟩ := mem_drop_get he
      have := h2 j hj hjl
      unfold stB
      clear he
      generalize s.getD j (0, false) = e at *
      cases hb : e.2
      · simp [hb] at this ⊢; omega
      · simp [hb]
    have : opens s m = (s.take m).countP (stB x) := by
      unfold opens
      refine List.countP_congr fun e he => ?_
      obtain ⟨j, hj, hjl, rfl⟩ := mem_take_get he
      have := h1 j hj
      unfold stB
      have h' : (s.getD j (0, false)).1 ≤ x := by rcases this with h | h <;> omega
      generalize s.getD j (0, false) = e at *
      simp [h']
    omega
  have hT : shuts s m = s.countP (ltB x) := by
    rw [split_count s m (ltB x)]
    have e0 : (s.drop m).countP (ltB x) = 0 := by
      rw [List.countP_eq_zero]
      intro e he
      obtain ⟨j, hj, hjl, rfl⟩ := mem_drop_get he
      have := h2 j hj hjl
      unfold ltB
      clear he
      generalize s.getD j (0, false) = e at *
      have h' : ¬ e.1 < x := fun h => this (.inl h)
      simp [h']
    have : shuts s m = (s.take m).countP (ltB x) := by
      unfold shuts
      refine List.countP_congr fun e he => ?_
      obtain ⟨j, hj, hjl, rfl⟩ := mem_take_get he
      have := h1 j hj
      unfold ltB
      clear he
      generalize s.getD j (0, false) = e at *
      cases hb : e.2
      · simp
      · rw [hb] at this
        simp at this
        simp [this]
    omega
  by_cases hA : 0 < m ∧ (s.getD (m - 1) (0, false)).1 = x ∧ (s.getD (m - 1) (0, false)).2 = false
  · obtain ⟨a1, a2, a3⟩ := hA
    refine ⟨m - 1, by omega, a2, ?_⟩
    unfold openI
    have := shuts_succ s (m - 1) (by omega)
    rw [a3, show m - 1 + 1 = m by omega] at this
    rw [show m - 1 + 1 = m by omega]
    simp at this
    omega
  · have hi0 : m ≤ i0 := Nat.le_of_not_lt fun hlt => by
      have h3 := h1 i0 hlt
      have hle := le_at hs (show i0 ≤ m - 1 by omega) (by omega)
      have hle' : leE (s.getD i0 (0, false)) (s.getD (m - 1) (0, false)) ∨ i0 = m - 1 := by
        by_cases e : i0 = m - 1
        · exact .inr e
        · exact .inl (hs i0 (m - 1) (by omega) (by omega))
      have h4 := h1 (m - 1) (by omega)
      refine hA ⟨by omega, ?_, ?_⟩
      · rcases h4 with h4 | h4 <;> omega
      · rcases h4 with h4 | h4
        · omega
        · exact h4.2
    have hml : m < s.length := by omega
    have h5 := le_at hs hi0 hi
    have h6 := h2 m (Nat.le_refl _) hml
    have h7 : (s.getD m (0, false)).1 = x := by
      rw [hx] at h5
      have : ¬ (s.getD m (0, false)).1 < x := fun h => h6 (.inl h)
      omega
    have h8 : (s.getD m (0, false)).2 = true := by
      cases h : (s.getD m (0, false)).2
      · exact absurd (.inr ⟨h7, h⟩) h6
      · rfl
    refine ⟨m, hml, h7, ?_⟩
    unfold openI
    have := opens_succ s m hml
    rw [h8] at this
    simp at this
    omega
end Go.Proofs.Ytllkdohomkofhaa
