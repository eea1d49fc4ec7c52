/- HistOrder: how many of a list lie in the buckets below one. -/
import Derived.Test.YtldgdedfioigiaaAlA
namespace Go.Proofs.Ytldgdedfioigiaa
open Go.RowKit
set_option linter.unusedVariables false

/-- how many lie below bucket b, how many in it -/
def lowN (l : List Int) (b : Nat) : Nat := l.countP fun v => decide (bkt v < b)
def inN (l : List Int) (b : Nat) : Nat := l.countP fun v => bkt v == b
theorem lowN_succ (l : List Int) (b : Nat) : lowN l (b + 1) = lowN l b + inN l b := by
  unfold lowN inN
  induction l with
  | nil => rfl
  | cons x xs ih =>
    rw [List.countP_cons, List.countP_cons, List.countP_cons, ih]
    by_cases h1 : bkt x < b
    · have h2 : bkt x < b + 1 := by omega
      have h3 : (bkt x == b) = false := beq_eq_false_iff_ne.mpr (by omega)
      simp [h1, h2, h3]; omega
    · by_cases h4 : bkt x = b
      · have h3 : (bkt x == b) = true := by simp [h4]
        simp [h4]; omega
      · have h2 : ¬ bkt x < b + 1 := by omega
        have h3 : (bkt x == b) = false := beq_eq_false_iff_ne.mpr h4
        simp [h1, h2, h3]
theorem cnt_take (l : List Int) (b : Nat) (hb : b ≤ 65) : isum ((cntL l).take b) = (lowN l b : Int) := by
  induction b with
  | zero =>
    have e : lowN l 0 = 0 := by unfold lowN; rw [List.countP_eq_zero]; intro v hv; simp
    rw [e]; rfl
  | succ b ih =>
    rw [isum_snoc _ _ (by rw [cntL_len]; omega), ih (by omega), lowN_succ, cntL_get _ _ (by omega)]
    unfold inN
    omega
theorem lowN_all (l : List Int) (hin : ∀ x ∈ l, InI x) : lowN l 65 = l.length := by
  unfold lowN
  rw [List.countP_eq_length]
  intro x hx
  exact decide_eq_true (bkt_lt (hin x hx))
theorem cnt_all (l : List Int) (hin : ∀ x ∈ l, InI x) : isum (cntL l) = (l.length : Int) := by
  have h := cnt_take l 65 (Nat.le_refl _)
  rw [lowN_all l hin, List.take_of_length_le (by rw [cntL_len]; exact Nat.le_refl _)] at h
  exact h
theorem cnt_ok (l : List Int) : okL (cntL l) = true := okL_iff.2 fun k hk => (cntL_le l k hk).1
theorem rk_order {l : List Int} {k : Nat} {w w' : World} {e : Ending} (hin : ∀ x ∈ l, InI x) (hk : k < l.length) (h : RkOut (cntL l) (k : Int) w e w') :
    ∃ b : Nat, b < 65 ∧ e = .returned (.tuple #[.int .i64 (b : Int), .bool true]) ∧ lowN l b ≤ k ∧ k < lowN l b + inN l b ∧ Below w.heap.size w w' := by
  obtain ⟨⟨v, ok, rfl, H⟩, hb⟩ := h
  rcases H.out with ⟨_, _, rfl, b, h3, rfl, h4, h5⟩ | ⟨h3, _, _⟩
  · rw [cnt_take l b (by omega)] at h4
    rw [cnt_take l (b + 1) (by omega), lowN_succ] at h5
    exact ⟨b, h3, rfl, by omega, by omega, hb⟩
  · rw [cnt_ok, cnt_all l hin] at h3
    rcases h3 with h3 | h3 | h3
    · cases h3
    · omega
    · omega
theorem rk_beyond {l : List Int} {w w' : World} {e : Ending} (hin : ∀ x ∈ l, InI x) (h : RkOut (cntL l) (l.length : Int) w e w') :
    e = .returned (.tuple #[.int .i64 0, .bool false]) ∧ Below w.heap.size w w' := by
  obtain ⟨⟨v, ok, rfl, H⟩, hb⟩ := h
  rcases H.out with ⟨_, _, rfl, b, h3, rfl, h4, h5⟩ | ⟨_, rfl, rfl⟩
  · rw [cnt_take l (b + 1) (by omega)] at h5
    have : lowN l (b + 1) ≤ l.length := List.countP_le_length
    omega
  · exact ⟨rfl, hb⟩
theorem lowN_snoc (l : List Int) (k b : Nat) (hk : k < l.length) : lowN (l.take (k + 1)) b = lowN (l.take k) b + (if bkt (l.getD k 0) < b then 1 else 0) := by
  unfold lowN
  rw [take_int l k hk, List.countP_append]
  simp [List.countP_cons]
theorem inN_snoc (l : List Int) (k b : Nat) (hk : k < l.length) : inN (l.take (k + 1)) b = inN (l.take k) b + (if bkt (l.getD k 0) = b then 1 else 0) := by
  unfold inN
  rw [take_int l k hk, List.countP_append]
  simp [List.countP_cons]
end Go.Proofs.Ytldgdedfioigiaa
