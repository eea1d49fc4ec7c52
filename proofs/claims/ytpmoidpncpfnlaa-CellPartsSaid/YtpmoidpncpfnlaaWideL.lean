/- wide.Bytes, Back: for every input. -/
import Derived.Test.YtpmoidpncpfnlaaWideG
import Derived.Test.YtpmoidpncpfnlaaBytes
import Derived.Laws.Bits64b
namespace Go.Proofs.Ytpmoidpncpfnlaa
open Go.RowKit
set_option linter.unusedVariables false

/-- the eight bytes of a word, the highest first -/
def by8 (x : Int) : List Int := [x / 72057594037927936 % 256, x / 281474976710656 % 256, x / 1099511627776 % 256, x / 4294967296 % 256, x / 16777216 % 256, x / 65536 % 256, x / 256 % 256, x / 1 % 256]
/-- the number of the first k bytes -/
def bv (l : List Int) : Nat → Int
  | 0 => 0
  | k + 1 => bv l k * 256 + l.getD k 0
def p8 : Nat → Int
  | 0 => 1
  | k + 1 => p8 k * 256
def WByteL (l : List Int) : Prop := ∀ j, 0 ≤ l.getD j 0 ∧ l.getD j 0 ≤ 255
theorem p8_pos : ∀ k, 0 < p8 k
  | 0 => by decide
  | k + 1 => by have := p8_pos k; unfold p8; omega
theorem p8_mono (n m : Nat) (h : n ≤ m) : p8 n ≤ p8 m := by
  obtain ⟨d, rfl⟩ : ∃ d, m = n + d := ⟨m - n, by omega⟩
  clear h
  induction d with
  | zero => exact Int.le_refl _
  | succ d ih => have := p8_pos (n + d); show p8 n ≤ p8 (n + d) * 256; omega
theorem bv_bd (l : List Int) (h : WByteL l) : ∀ k, 0 ≤ bv l k ∧ bv l k < p8 k
  | 0 => by simp [bv, p8]
  | k + 1 => by have := bv_bd l h k; have := h k; unfold bv p8; omega
theorem by8_byte (x : Int) : WByteL (by8 x) := fun j => by
  unfold by8
  rcases j with _ | _ | _ | _ | _ | _ | _ | _ | j
  all_goals first | (simp; omega) | (rw [List.getD_eq_getElem?_getD, List.getElem?_eq_none (by simp)]; simp)
theorem bytel_append (l m : List Int) (hl : WByteL l) (hm : WByteL m) : WByteL (l ++ m) := fun j => by
  rw [List.getD_eq_getElem?_getD]
  by_cases h : j < l.length
  · rw [List.getElem?_append_left h, ← List.getD_eq_getElem?_getD]; exact hl j
  · rw [List.getElem?_append_right (by omega), ← List.getD_eq_getElem?_getD]; exact hm _
theorem bv_by8 (x : Int) : bv (by8 x) 8 = x % 18446744073709551616 := by
  simp only [bv, by8, List.getD_cons_zero, List.getD_cons_succ]
  omega
theorem or_byte (x b : Int) (hx : 0 ≤ x ∧ x < 72057594037927936) (hb : 0 ≤ b ∧ b ≤ 255) : bits BinOp.or IntKind.u64 (x * 256) b = x * 256 + b := by
  obtain ⟨x, rfl⟩ := Int.eq_ofNat_of_zero_le hx.1
  obtain ⟨b, rfl⟩ := Int.eq_ofNat_of_zero_le hb.1
  have h := bits_or_u64_nat (x * 256) b (by omega) (by omega)
  rw [show ((x : Int) * 256) = ((x * 256 : Nat) : Int) by omega, h]
  have e : x * 256 ||| b = x * 256 + b := by
    have := Nat.shiftLeft_add_eq_or_of_lt (i := 8) (b := b) (by omega) x
    rw [Nat.shiftLeft_eq] at this
    exact this.symm
  rw [e]
  omega
/-- the first byte in which two rows differ decides -/
theorem bv_gt (l m : List Int) (hl : WByteL l) (hm : WByteL m) (j : Nat) (h : ∀ i, i < j → l.getD i 0 = m.getD i 0) (hgt : m.getD j 0 < l.getD j 0) (n : Nat) (hn : j < n) : bv m n < bv l n := by
  have he : ∀ k, k ≤ j → bv l k = bv m k := by
    intro k
    induction k with
    | zero => intro _; rfl
    | succ k ih => intro hk; unfold bv; rw [ih (by omega), h k (by omega)]
  obtain ⟨d, rfl⟩ : ∃ d, n = j + 1 + d := ⟨n - j - 1, by omega⟩
  clear hn
  induction d with
  | zero => show bv m j * 256 + m.getD j 0 < bv l j * 256 + l.getD j 0; rw [he j (Nat.le_refl _)]; omega
  | succ d ih =>
    have h1 := hl (j + 1 + d)
    have h2 := hm (j + 1 + d)
    show bv m (j + 1 + d) * 256 + m.getD (j + 1 + d) 0 < bv l (j + 1 + d) * 256 + l.getD (j + 1 + d) 0
    omega
theorem bv_eq (l m : List Int) (n : Nat) (h : ∀ i, i < n → l.getD i 0 = m.getD i 0) : bv l n = bv m n := by
  induction n with
  | zero => rfl
  | succ n ih => unfold bv; rw [ih (fun i hi => h i (by omega)), h n (by omega)]
theorem bv_add (l m : List Int) (hl : l.length = 8) : ∀ k, bv (l ++ m) (8 + k) = bv l 8 * p8 k + bv m k
  | 0 => by
    show bv (l ++ m) 8 = _
    rw [bv_eq (l ++ m) l 8 (fun i hi => by rw [List.getD_eq_getElem?_getD, List.getElem?_append_left (by omega), ← List.getD_eq_getElem?_getD])]
    simp [bv, p8]
  | k + 1 => by
    show bv (l ++ m) (8 + k) * 256 + (l ++ m).getD (8 + k) 0 = _
    rw [bv_add l m hl k, List.getD_eq_getElem?_getD, List.getElem?_append_right (by omega), hl, Nat.add_sub_cancel_left, ← List.getD_eq_getElem?_getD]
    show _ = bv l 8 * (p8 k * 256) + (bv m k * 256 + m.getD k 0)
    rw [← Int.mul_assoc]
    omega
/-- a number's bytes -/
def byL (z : Int) : List Int := by8 (hiW z) ++ by8 (loW z)
theorem byL_len (z : Int) : (byL z).length = 16 := rfl
theorem byL_byte (z : Int) : WByteL (byL z) := bytel_append _ _ (by8_byte _) (by8_byte _)
theorem bv_byL (z : Int) : bv (byL z) 16 = z % 340282366920938463463374607431768211456 := by
  have e : p8 8 = 18446744073709551616 := by decide +kernel
  have h := bv_add (by8 (hiW z)) (by8 (loW z)) rfl 8
  rw [e, bv_by8, bv_by8] at h
  show bv (by8 (hiW z) ++ by8 (loW z)) (8 + 8) = _
  rw [h]
  unfold hiW loW wrap64
  omega
end Go.Proofs.Ytpmoidpncpfnlaa
