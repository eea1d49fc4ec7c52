/- The arithmetic of numbers in limbs of 16 bits; nothing of any program. -/
import Derived.Test.YtpmoidpncpfnlaaBase
namespace Go.Proofs.Ytpmoidpncpfnlaa
open Go.RowKit
set_option linter.unusedVariables false

/-- 65536 to the i-th -/
def pw : Nat → Int
  | 0 => 1
  | i + 1 => pw i * 65536
theorem pw_pos : ∀ i, 0 < pw i
  | 0 => by decide
  | i + 1 => by have := pw_pos i; unfold pw; omega
theorem pw_le : ∀ i j, i ≤ j → pw i ≤ pw j
  | i, 0, h => by rw [Nat.le_zero.1 h]; exact Int.le_refl _
  | i, j + 1, h => by
    by_cases e : i = j + 1
    · rw [e]; exact Int.le_refl _
    · have := pw_le i j (by omega)
      have := pw_pos j
      show pw i ≤ pw j * 65536
      omega
/-- the value of the first i limbs -/
def pv (d : List Int) : Nat → Int
  | 0 => 0
  | i + 1 => pv d i + d.getD i 0 * pw i
theorem pw_succ (i : Nat) : pw (i + 1) = pw i * 65536 := rfl
theorem pv_succ (d : List Int) (i : Nat) : pv d (i + 1) = pv d i + d.getD i 0 * pw i := rfl
theorem pv_zero (d : List Int) : pv d 0 = 0 := rfl
/-- limbs of 16 bits -/
def Dig (d : List Int) : Prop := ∀ j, 0 ≤ d.getD j 0 ∧ d.getD j 0 ≤ 65535
/-- no nought at the top -/
def Top (d : List Int) : Prop := d.length = 0 ∨ d.getD (d.length - 1) 0 ≠ 0
def nv (d : List Int) : Int := pv d d.length
theorem pv_past (d : List Int) : ∀ i, d.length ≤ i → pv d i = nv d
  | 0, h => by unfold nv; rw [Nat.le_zero.1 h]
  | i + 1, h => by
    by_cases e : d.length = i + 1
    · unfold nv; rw [e]
    · have := pv_past d i (by omega)
      rw [pv_succ, getD_past d i (by omega), this]; omega
theorem pv_bd (d : List Int) (h : Dig d) : ∀ i, 0 ≤ pv d i ∧ pv d i < pw i
  | 0 => by simp [pv, pw]
  | i + 1 => by
    have := pv_bd d h i
    have hd := h i
    have hp := pw_pos i
    rw [pv_succ, pw_succ]
    have h1 : d.getD i 0 * pw i ≤ 65535 * pw i := Int.mul_le_mul_of_nonneg_right hd.2 (by omega)
    have h0 : 0 ≤ d.getD i 0 * pw i := Int.mul_nonneg hd.1 (by omega)
    omega
theorem pv_mono (d : List Int) (h : Dig d) (i j : Nat) (hij : i ≤ j) : pv d i ≤ pv d j := by
  induction j with
  | zero => rw [Nat.le_zero.1 hij]; exact Int.le_refl _
  | succ j ih =>
    by_cases e : i = j + 1
    · rw [e]; exact Int.le_refl _
    · have := ih (by omega)
      have h0 : 0 ≤ d.getD j 0 * pw j := Int.mul_nonneg (h j).1 (by have := pw_pos j; omega)
      rw [pv_succ]; omega
theorem nv_bd (d : List Int) (h : Dig d) : 0 ≤ nv d ∧ nv d < pw d.length := pv_bd d h _
theorem nv_ge (d : List Int) (h : Dig d) (t : Top d) (n : Nat) (e : d.length = n + 1) : pw n ≤ nv d := by
  rcases t with t | t
  · omega
  · rw [e, Nat.add_sub_cancel] at t
    have hb := pv_bd d h n
    have hd := h n
    have hp := pw_pos n
    unfold nv
    rw [e, pv_succ]
    have h1 : 1 * pw n ≤ d.getD n 0 * pw n := Int.mul_le_mul_of_nonneg_right (by omega) (by omega)
    omega
theorem nv_zero (d : List Int) (h : Dig d) (t : Top d) : nv d = 0 ↔ d.length = 0 := by
  constructor
  · intro hz
    rcases hn : d.length with _ | n
    · rfl
    · have := nv_ge d h t n hn; have := pw_pos n; omega
  · intro hz; unfold nv; rw [hz]; rfl
theorem nv_len (d : List Int) (h : Dig d) (t : Top d) (k : Nat) : nv d < pw k ↔ d.length ≤ k := by
  constructor
  · intro hz
    rcases hn : d.length with _ | n
    · omega
    · have := nv_ge d h t n hn
      refine Nat.le_of_not_lt fun hc => ?_
      have := pw_le k n (by omega)
      omega
  · intro hz
    have := nv_bd d h
    have := pw_le d.length k hz
    omega
theorem pv_snoc (d : List Int) (x : Int) : ∀ i, i ≤ d.length → pv (d ++ [x]) i = pv d i
  | 0, _ => rfl
  | i + 1, h => by rw [pv_succ, pv_succ, pv_snoc d x i (by omega), getD_snoc, if_neg (by omega)]
theorem pv_snoc_top (d : List Int) (x : Int) : pv (d ++ [x]) (d.length + 1) = pv d d.length + x * pw d.length := by
  show pv (d ++ [x]) d.length + (d ++ [x]).getD d.length 0 * pw d.length = _
  rw [pv_snoc d x _ (Nat.le_refl _), getD_snoc, if_pos rfl]
theorem dig_snoc (d : List Int) (x : Int) (h : Dig d) (hx : 0 ≤ x ∧ x ≤ 65535) : Dig (d ++ [x]) := fun j => by
  rw [getD_snoc]; split
  · exact hx
  · exact h j
theorem dig_nil : Dig [] := fun j => by simp
theorem dig_take (d : List Int) (n : Nat) (h : Dig d) : Dig (d.take n) := fun j => by
  rw [getD_take]; split
  · exact h j
  · omega
theorem pv_take (d : List Int) (n : Nat) : ∀ i, i ≤ n → pv (d.take n) i = pv d i
  | 0, _ => rfl
  | i + 1, h => by rw [pv_succ, pv_succ, pv_take d n i (by omega), getD_take, if_pos (by omega)]
theorem pv_flat (d : List Int) (n : Nat) (h : ∀ j, n ≤ j → d.getD j 0 = 0) : ∀ i, n ≤ i → pv d i = pv d n
  | 0, hi => by rw [Nat.le_zero.1 hi]
  | i + 1, hi => by
    by_cases e : n = i + 1
    · rw [e]
    · rw [pv_succ, pv_flat d n h i (by omega), h i (by omega)]; omega
/-- limbs without noughts at the top -/
theorem nv_take (d : List Int) (n : Nat) (hn : n ≤ d.length) (h : ∀ j, n ≤ j → d.getD j 0 = 0) : nv (d.take n) = nv d := by
  unfold nv
  rw [List.length_take, Nat.min_eq_left hn, pv_take d n n (Nat.le_refl _), pv_flat d n h _ hn]
theorem top_take (d : List Int) (n : Nat) (hn : n ≤ d.length) (h : n = 0 ∨ d.getD (n - 1) 0 ≠ 0) : Top (d.take n) := by
  unfold Top
  rw [List.length_take, Nat.min_eq_left hn, getD_take]
  rcases h with h | h
  · exact .inl h
  · by_cases e : n = 0
    · exact .inl e
    · exact .inr (by rw [if_pos (by omega)]; exact h)
/-- one limb of a sum -/
theorem plus_step (o a b P c s : Int) (h : o + c * P = a + b) (x y : Int) (e : s = c + (x + y)) : o + s % 65536 * P + s / 65536 * (P * 65536) = a + x * P + (b + y * P) := by
  have e2 := Int.mul_ediv_add_emod s 65536
  have : s / 65536 * (P * 65536) = (65536 * (s / 65536)) * P := by rw [Int.mul_comm P 65536, ← Int.mul_assoc, Int.mul_comm (s / 65536) 65536]
  rw [this]
  have e3 : s % 65536 * P + 65536 * (s / 65536) * P = s * P := by rw [← Int.add_mul]; congr 1; omega
  have e4 : s * P = c * P + (x * P + y * P) := by rw [e, Int.add_mul, Int.add_mul]
  omega
theorem plus_end (a b : List Int) (ha : Dig a) (hb : Dig b) (m : Nat) (hm : a.length ≤ m ∧ b.length ≤ m) (o c : Int) (ho : 0 ≤ o) (hc : 0 ≤ c) (h : o + c * pw (m + 1) = pv a (m + 1) + pv b (m + 1)) : c = 0 ∧ o = nv a + nv b := by
  rw [pv_past a _ (by omega), pv_past b _ (by omega)] at h
  have h1 := pv_bd a ha m
  have h2 := pv_bd b hb m
  rw [pv_past a _ hm.1] at h1
  rw [pv_past b _ hm.2] at h2
  have hp := pw_pos m
  have e : pw (m + 1) = pw m * 65536 := rfl
  have : c = 0 := by
    refine Int.le_antisymm (Int.le_of_lt_add_one (Int.lt_of_not_ge fun hc1 => ?_)) hc
    have h3 : 1 * pw (m + 1) ≤ c * pw (m + 1) := Int.mul_le_mul_of_nonneg_right (by omega) (by omega)
    omega
  subst this
  omega
/-- one limb of a difference -/
theorem minus_step (o a b P c : Int) (h : o + b = a + c * P) (x y v : Int) (e : v = x - y - c) : (o + v * P + (b + y * P) = a + x * P + 0 * (P * 65536)) ∧ (o + (v + 65536) * P + (b + y * P) = a + x * P + 1 * (P * 65536)) := by
  have e4 : v * P = x * P - y * P - c * P := by rw [e, Int.sub_mul, Int.sub_mul]
  have e5 : (v + 65536) * P = v * P + 65536 * P := Int.add_mul _ _ _
  constructor <;> omega
theorem minus_end (a b : List Int) (ha : Dig a) (hb : Dig b) (hl : nv b ≤ nv a) (tb : b.length ≤ a.length) (o c : Int) (ho : 0 ≤ o ∧ o < pw a.length) (hc : 0 ≤ c ∧ c ≤ 1) (h : o + pv b a.length = pv a a.length + c * pw a.length) : c = 0 ∧ o = nv a - nv b := by
  rw [pv_past b _ tb, pv_past a _ (Nat.le_refl _)] at h
  have : c = 0 ∨ c = 1 := by omega
  rcases this with rfl | rfl <;> omega
theorem len_le (a b : List Int) (ha : Dig a) (hb : Dig b) (tb : Top b) (hl : nv b ≤ nv a) : b.length ≤ a.length := by
  rw [← nv_len b hb tb]
  have := nv_bd a ha
  omega
/-- the highest limb in which two differ decides -/
theorem pv_diff (a b : List Int) (i : Nat) (h : ∀ j, i ≤ j → a.getD j 0 = b.getD j 0) : ∀ m, i ≤ m → pv a m - pv b m = pv a i - pv b i
  | 0, hm => by rw [Nat.le_zero.1 hm]
  | m + 1, hm => by
    by_cases e : i = m + 1
    · rw [e]
    · have := pv_diff a b i h m (by omega)
      rw [pv_succ, pv_succ, h m (by omega)]; omega
theorem nv_diff (a b : List Int) (i : Nat) (h : ∀ j, i ≤ j → a.getD j 0 = b.getD j 0) : nv a - nv b = pv a i - pv b i := by
  have h1 := pv_diff a b i h (i + (a.length + b.length)) (by omega)
  rw [pv_past a _ (by omega), pv_past b _ (by omega)] at h1
  exact h1
theorem above_gt (a b : List Int) (ha : Dig a) (hb : Dig b) (i : Nat) (h : ∀ j, i + 1 ≤ j → a.getD j 0 = b.getD j 0) (hgt : b.getD i 0 < a.getD i 0) : nv b < nv a := by
  have h1 := nv_diff a b (i + 1) h
  have h2 := pv_bd a ha i
  have h3 := pv_bd b hb i
  have h4 : (b.getD i 0 + 1) * pw i ≤ a.getD i 0 * pw i := Int.mul_le_mul_of_nonneg_right (by omega) (by have := pw_pos i; omega)
  rw [Int.add_mul] at h4
  rw [pv_succ, pv_succ] at h1
  omega
theorem above_eq (a b : List Int) (h : ∀ j, a.getD j 0 = b.getD j 0) : nv a = nv b := by
  have := nv_diff a b 0 (fun j _ => h j)
  rw [pv_zero, pv_zero] at this
  omega
/-- limbs read from the top -/
theorem horner (d : List Int) (i : Nat) (v N : Int) (h : v * pw (i + 1) + pv d (i + 1) = N) : (v * 65536 + d.getD i 0) * pw i + pv d i = N := by
  have e : pw (i + 1) = pw i * 65536 := rfl
  have e2 : pv d (i + 1) = pv d i + d.getD i 0 * pw i := rfl
  rw [e, e2, ← Int.mul_assoc, Int.mul_right_comm] at h
  rw [Int.add_mul]
  omega
theorem horner_le (d : List Int) (hd : Dig d) (i : Nat) (v N : Int) (hv : 0 ≤ v) (h : v * pw i + pv d i = N) : v ≤ N := by
  have h1 := pw_pos i
  have h2 := pv_bd d hd i
  have h3 : v * 1 ≤ v * pw i := Int.mul_le_mul_of_nonneg_left (by omega) hv
  omega
end Go.Proofs.Ytpmoidpncpfnlaa
