/- What first tells of numbers' bytes: plain mathematics. -/
import Derived.Test.YtpmoidpncpfnlaaCodeB
namespace Go.Proofs.Ytpmoidpncpfnlaa
open Go.RowKit
set_option linter.unusedVariables false

theorem fstF_case : ∀ (l : List Int) (i u : Nat), ByteL l → i ≤ 9 → u < 128 ^ i → (∃ v n : Nat, fstF i u l = (((u + v * 128 ^ i : Nat) : Int), ((i + n : Nat) : Int), 0) ∧ 1 ≤ n ∧ n ≤ l.length ∧ i + n ≤ 10 ∧ u + v * 128 ^ i < 18446744073709551616 ∧ l.take n = encF (9 - i) v ∧ (0 < i → v ≠ 0)) ∨ fstF i u l = (0, 0, 10) ∨ fstF i u l = (0, 0, 15)
  | [], i, u, _, _, _ => .inr (.inr rfl)
  | x :: l, i, u, hb, hi, hu => by
    have hx := hb x (by simp)
    obtain ⟨c, rfl⟩ := Int.eq_ofNat_of_zero_le hx.1
    have hP9 : (128 : Nat) ^ i ≤ 128 ^ 9 := Nat.pow_le_pow_right (by omega) hi
    have e9 : (128 : Nat) ^ 9 = 9223372036854775808 := rfl
    by_cases hA : ((c : Int) = 0 ∧ 0 < i) ∨ (i = 9 ∧ 1 < (c : Int))
    · exact .inr (.inl (by unfold fstF; rw [if_pos hA]))
    by_cases h128 : c < 128
    · refine .inl ⟨c, 1, ?_, by omega, by simp, by omega, ?_, ?_, by omega⟩
      · unfold fstF
        rw [if_neg hA, if_pos (by omega), Int.natCast_add, Int.natCast_mul, Int.natCast_pow]
        rfl
      · by_cases h9 : i = 9
        · have h1 : c ≤ 1 := by omega
          have h2 : c * 128 ^ i ≤ 1 * 128 ^ i := Nat.mul_le_mul_right _ h1
          omega
        · have hP8 : (128 : Nat) ^ i ≤ 128 ^ 8 := Nat.pow_le_pow_right (by omega) (by omega)
          have e8 : (128 : Nat) ^ 8 = 72057594037927936 := rfl
          have h2 : c * 128 ^ i ≤ 127 * 128 ^ i := Nat.mul_le_mul_right _ (by omega)
          omega
      · cases h : 9 - i with
        | zero => simp [encF]
        | succ f => simp [encF, h128]
    · have hi8 : i + 1 ≤ 9 := by omega
      have hu2 : u + (c - 128) * 128 ^ i < 128 ^ (i + 1) := by
        rw [Nat.pow_succ]
        have : (c - 128) * 128 ^ i ≤ 127 * 128 ^ i := Nat.mul_le_mul_right _ (by omega)
        omega
      have he : fstF i u ((c : Int) :: l) = fstF (i + 1) (u + (c - 128) * 128 ^ i) l := by
        conv => lhs; unfold fstF
        rw [if_neg hA, if_neg (by omega), Int.toNat_natCast]
      rw [he]
      rcases fstF_case l (i + 1) _ (fun y hy => hb y (by simp [hy])) hi8 hu2 with ⟨v, n, h1, h2, h3, h4, h5, h6, h7⟩ | h | h
      · refine .inl ⟨(c - 128) + 128 * v, n + 1, ?_, by omega, by simpa using h3, by omega, ?_, ?_, ?_⟩
        · rw [h1, show i + (n + 1) = i + 1 + n by omega]
          congr 2
          rw [Nat.pow_succ, Nat.add_mul, Nat.mul_comm (128 ^ i) 128, ← Nat.mul_assoc, Nat.mul_comm v 128]
          omega
        · rw [Nat.pow_succ, Nat.mul_comm (128 ^ i) 128, ← Nat.mul_assoc, Nat.mul_comm v 128] at h5
          rw [Nat.add_mul]
          omega
        · have hv := h7 (by omega)
          rw [List.take_succ_cons, h6, show 9 - i = (9 - (i + 1)) + 1 by omega]
          conv => rhs; unfold encF
          rw [if_neg (by omega), show (c - 128 + 128 * v) / 128 = v by omega, show (c - 128 + 128 * v) % 128 + 128 = c by omega]
        · intro _; have hv := h7 (by omega); omega
      · exact .inr (.inl h)
      · exact .inr (.inr h)
theorem fst_case (l : List Int) (hb : ByteL l) : (∃ v n : Nat, fstF 0 0 l = ((v : Int), (n : Int), 0) ∧ 1 ≤ n ∧ n ≤ l.length ∧ n ≤ 10 ∧ v < 18446744073709551616 ∧ l.take n = enc v) ∨ fstF 0 0 l = (0, 0, 10) ∨ fstF 0 0 l = (0, 0, 15) := by
  rcases fstF_case l 0 0 hb (by omega) (by decide) with ⟨v, n, h1, h2, h3, h4, h5, h6, h7⟩ | h | h
  · refine .inl ⟨v, n, by simpa using h1, h2, h3, by omega, by simpa using h5, h6⟩
  · exact .inr (.inl h)
  · exact .inr (.inr h)
theorem fstF_enc : ∀ (f i u v : Nat) (m : List Int), i + f = 9 → u < 128 ^ i → v < 128 ^ (f + 1) → u + v * 128 ^ i < 18446744073709551616 → (0 < i → v ≠ 0) → fstF i u (encF f v ++ m) = (((u + v * 128 ^ i : Nat) : Int), ((i + (encF f v).length : Nat) : Int), 0)
  | 0, i, u, v, m, hi, hu, hv, hs, h0 => by
    obtain rfl : i = 9 := by omega
    have e9 : (128 : Nat) ^ 9 = 9223372036854775808 := rfl
    rw [e9] at hs ⊢
    simp only [encF, List.cons_append, List.nil_append]
    unfold fstF
    have := h0 (by omega)
    rw [if_neg (by omega), if_pos (by omega)]
    simp
  | f + 1, i, u, v, m, hi, hu, hv, hs, h0 => by
    unfold encF
    split
    · rename_i h
      simp only [List.cons_append, List.nil_append]
      unfold fstF
      rw [if_neg (fun hh => by rcases hh with ⟨h1, h2⟩ | ⟨h1, h2⟩; exact h0 h2 (by omega); omega), if_pos (by omega)]
      simp
    · rename_i h
      simp only [List.cons_append]
      conv => lhs; unfold fstF
      rw [if_neg (by omega), if_neg (by omega), Int.toNat_natCast]
      have hu2 : u + (v % 128 + 128 - 128) * 128 ^ i < 128 ^ (i + 1) := by
        rw [Nat.pow_succ]
        have : (v % 128 + 128 - 128) * 128 ^ i ≤ 127 * 128 ^ i := Nat.mul_le_mul_right _ (by omega)
        omega
      have e1 : u + (v % 128 + 128 - 128) * 128 ^ i + v / 128 * 128 ^ (i + 1) = u + v * 128 ^ i := by
        rw [Nat.pow_succ, Nat.mul_comm (128 ^ i) 128, ← Nat.mul_assoc, Nat.add_assoc, ← Nat.add_mul, show v % 128 + 128 - 128 + v / 128 * 128 = v by omega]
      rw [fstF_enc f (i + 1) _ (v / 128) m (by omega) hu2 (Nat.div_lt_of_lt_mul (by rw [Nat.pow_succ, Nat.mul_comm] at hv; exact hv)) (by rw [e1]; exact hs) (by omega), e1]
      simp
      omega
theorem fst_enc (v : Nat) (m : List Int) (hv : v < 18446744073709551616) : fstF 0 0 (enc v ++ m) = ((v : Int), ((enc v).length : Int), 0) := by
  have h := fstF_enc 9 0 0 v m (by omega) (by decide) (by omega) (by simpa using hv) (by omega)
  simpa [enc] using h
theorem fstF_short : ∀ (f i u v : Nat) (l t : List Int) (x : Int), i + f = 9 → encF f v = l ++ x :: t → fstF i u l = (0, 0, 15)
  | 0, i, u, v, l, t, x, hi, he => by
    cases l with
    | nil => rfl
    | cons y l => simp [encF] at he
  | f + 1, i, u, v, l, t, x, hi, he => by
    cases l with
    | nil => rfl
    | cons y l =>
      unfold encF at he
      split at he
      · simp at he
      · simp only [List.cons_append, List.cons.injEq] at he
        obtain ⟨rfl, he⟩ := he
        unfold fstF
        rw [if_neg (by omega), if_neg (by omega)]
        exact fstF_short f (i + 1) _ (v / 128) l t x (by omega) he
theorem fst_short (v : Nat) (l t : List Int) (x : Int) (h : enc v = l ++ x :: t) : fstF 0 0 l = (0, 0, 15) := fstF_short 9 0 0 v l t x (by omega) h
/-- lengths -/
theorem encF_mono : ∀ (f u v : Nat), u ≤ v → (encF f u).length ≤ (encF f v).length
  | 0, u, v, h => by simp [encF]
  | f + 1, u, v, h => by
    unfold encF
    split
    · split <;> simp
    · rw [if_neg (by omega)]
      have := encF_mono f (u / 128) (v / 128) (Nat.div_le_div_right h)
      simpa using this
theorem enc_mono (u v : Nat) (h : u ≤ v) : (enc u).length ≤ (enc v).length := encF_mono 9 u v h
theorem enc_one (u : Nat) : (enc u).length = 1 ↔ u < 128 := by
  unfold enc encF
  split
  · simp; omega
  · have := encF_len 8 (u / 128)
    rw [List.length_cons]
    constructor <;> intro <;> omega
theorem enc_two (u : Nat) : (enc u).length ≤ 2 ↔ u < 16384 := by
  unfold enc encF
  split
  · simp; omega
  · unfold encF
    split
    · simp; omega
    · have := encF_len 7 (u / 128 / 128)
      rw [List.length_cons, List.length_cons]
      constructor <;> intro <;> omega
end Go.Proofs.Ytpmoidpncpfnlaa
