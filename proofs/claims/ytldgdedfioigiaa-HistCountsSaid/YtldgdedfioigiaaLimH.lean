/- noonmarkref01: Div: the arithmetic; nothing of any program. -/
import Derived.Test.YtldgdedfioigiaaLimM
namespace Go.Proofs.Ytldgdedfioigiaa
set_option linter.unusedVariables false

/-- two to the k-th -/
def p2 : Nat → Int
  | 0 => 1
  | k + 1 => p2 k * 2
theorem p2_pos : ∀ k, 0 < p2 k
  | 0 => by decide
  | k + 1 => by have := p2_pos k; unfold p2; omega
theorem p2_add (i : Nat) : ∀ j, p2 (i + j) = p2 i * p2 j
  | 0 => by simp [p2]
  | j + 1 => by show p2 (i + j) * 2 = p2 i * (p2 j * 2); rw [p2_add i j, Int.mul_assoc]
theorem p2_pw : ∀ j, p2 (16 * j) = pw j
  | 0 => rfl
  | j + 1 => by
    have e : p2 16 = 65536 := by decide +kernel
    rw [show 16 * (j + 1) = 16 * j + 16 by omega, p2_add, p2_pw j, e]; rfl
theorem half (A : Int) (k : Nat) : A / p2 k = 2 * (A / p2 (k + 1)) + A / p2 k % 2 := by
  have e : A / p2 (k + 1) = A / p2 k / 2 := by
    show A / (p2 k * 2) = _
    rw [Int.ediv_ediv_of_nonneg (by have := p2_pos k; omega)]
  omega
/-- the value of the limbs from the j-th on -/
theorem pv_top (d : List Int) (hd : Dig d) (j : Nat) : nv d / pw j = d.getD j 0 + 65536 * (nv d / pw (j + 1)) := by
  have h1 := pv_bd d hd j
  have hp := pw_pos j
  have hx := hd j
  -- nv d = pv d (j+1) + R * pw (j+1)
  have hR : ∀ m, ∃ R, pv d (j + 1 + m) = pv d (j + 1) + R * pw (j + 1) := by
    intro m
    induction m with
    | zero => exact ⟨0, by simp⟩
    | succ m ih =>
      obtain ⟨R, hR⟩ := ih
      have hw : pw (j + 1 + m) = pw m * pw (j + 1) := by
        clear hR
        induction m with
        | zero => simp [pw]
        | succ m ih => show pw (j + 1 + m) * 65536 = pw m * 65536 * pw (j + 1); rw [ih, Int.mul_right_comm]
      refine ⟨R + d.getD (j + 1 + m) 0 * pw m, ?_⟩
      show pv d (j + 1 + m) + d.getD (j + 1 + m) 0 * pw (j + 1 + m) = _
      rw [hR, hw, Int.add_mul, Int.mul_assoc]
      omega
  obtain ⟨R, hR⟩ := hR d.length
  rw [pv_past d _ (by omega), pv_succ] at hR
  have e1 : nv d = pv d j + (d.getD j 0 + 65536 * R) * pw j := by
    rw [hR, pw_succ, Int.add_mul, Int.mul_comm (pw j) 65536, ← Int.mul_assoc, Int.mul_comm R 65536]
    omega
  have e2 : nv d / pw j = d.getD j 0 + 65536 * R := by
    rw [e1, Int.add_mul_ediv_right _ _ (by omega), Int.ediv_eq_zero_of_lt h1.1 h1.2]
    omega
  have e3 : nv d / pw (j + 1) = nv d / pw j / 65536 := by
    show nv d / (pw j * 65536) = _
    rw [Int.ediv_ediv_of_nonneg (by omega)]
  rw [e3, e2]
  omega
/-- a bit of the limbs -/
theorem bit_at (d : List Int) (hd : Dig d) (j t : Nat) (ht : t < 16) : nv d / p2 (16 * j + t) % 2 = d.getD j 0 / 2 ^ t % 2 := by
  have e : nv d / p2 (16 * j + t) = nv d / pw j / p2 t := by
    rw [p2_add, p2_pw, Int.ediv_ediv_of_nonneg (by have := pw_pos j; omega)]
  rw [e, pv_top d hd j]
  generalize nv d / pw (j + 1) = R
  generalize d.getD j 0 = x
  have h : t = 0 ∨ t = 1 ∨ t = 2 ∨ t = 3 ∨ t = 4 ∨ t = 5 ∨ t = 6 ∨ t = 7 ∨ t = 8 ∨ t = 9 ∨ t = 10 ∨ t = 11 ∨ t = 12 ∨ t = 13 ∨ t = 14 ∨ t = 15 := by omega
  rcases h with h | h | h | h | h | h | h | h | h | h | h | h | h | h | h | h <;> subst h <;> simp only [p2] <;> omega
theorem nv_small (d : List Int) (hd : Dig d) : nv d / p2 (16 * d.length) = 0 := by
  rw [p2_pw]
  have := nv_bd d hd
  exact Int.ediv_eq_zero_of_lt this.1 this.2
/-- a number divided by one above 0, down, or up -/
def divZ (z c : Int) (up : Bool) : Int := if up then -((-z) / c) else z / c
theorem neg_div (A C : Int) (hC : 0 < C) : (-A) / C = -(A / C) - (if A % C = 0 then 0 else 1) := by
  have h1 := Int.mul_ediv_add_emod A C
  have h2 := Int.emod_nonneg A (by omega : C ≠ 0)
  have h3 := Int.emod_lt_of_pos A hC
  by_cases h : A % C = 0
  · rw [if_pos h]
    have := (Int.ediv_emod_unique (a := -A) (b := C) (r := 0) (q := -(A / C)) hC).2 ⟨by rw [Int.mul_neg]; omega, by omega, by omega⟩
    omega
  · rw [if_neg h]
    have := (Int.ediv_emod_unique (a := -A) (b := C) (r := C - A % C) (q := -(A / C) - 1) hC).2 ⟨by rw [Int.mul_sub, Int.mul_neg]; omega, by omega, by omega⟩
    omega
theorem div_end (A C q r : Int) (neg up : Bool) (hC : 0 < C) (h : q * C + r = A) (hr : 0 ≤ r ∧ r < C) : sg (q + if 0 < r ∧ up ≠ neg then 1 else 0) neg = divZ (sg A neg) C up := by
  have hq : A / C = q ∧ A % C = r := (Int.ediv_emod_unique hC).2 ⟨by rw [Int.mul_comm]; omega, hr.1, hr.2⟩
  have hn := neg_div A C hC
  rw [hq.1, hq.2] at hn
  unfold sg divZ
  cases neg <;> cases up <;> simp
  · exact hq.1.symm
  · rw [hn]; split <;> split <;> omega
  · rw [hn]; split <;> split <;> omega
  · exact hq.1.symm
/-- one bit of a quotient -/
theorem div_bit (A C q r : Int) (m : Nat) (h : q * C + r = A / p2 (m + 1)) : 2 * q * C + (2 * r + A / p2 m % 2) = A / p2 m ∧ (2 * q + 1) * C + (2 * r + A / p2 m % 2 - C) = A / p2 m := by
  have h1 := half A m
  have e1 : 2 * q * C = 2 * (q * C) := Int.mul_assoc 2 q C
  have e2 : (2 * q + 1) * C = 2 * (q * C) + C := by rw [Int.add_mul, e1]; omega
  constructor <;> omega
end Go.Proofs.Ytldgdedfioigiaa
