/- A burst of bits changes the sum: plain mathematics. -/
import Derived.Test.YtgkgcbhlodohdaaCrcM
namespace Go.Proofs.Ytgkgcbhlodohdaa
open Go.RowKit
set_option linter.unusedVariables false

/-- bytes as one number, the first one the least -/
def valN : List Int → Nat
  | [] => 0
  | c :: l => c.toNat + 256 * valN l
theorem stepN_even (q : Nat) : stepN (2 * q) = q := by
  unfold stepN
  rw [if_neg (by omega), Nat.xor_zero]; omega
theorem xor_half (a b : Nat) : (a ^^^ b) / 2 = a / 2 ^^^ b / 2 := by
  have h := Nat.shiftRight_xor_distrib (a := a) (b := b) (i := 1)
  simpa [Nat.shiftRight_succ] using h
theorem stepN_xor (a b : Nat) : stepN (a ^^^ b) = stepN a ^^^ stepN b := by
  unfold stepN
  rw [xor_half]
  have h : (a ^^^ b) % 2 = (a % 2 + b % 2) % 2 := by
    have := Nat.xor_mod_two_pow (a := a) (b := b) (n := 1)
    rcases Nat.mod_two_eq_zero_or_one a with c | c <;> rcases Nat.mod_two_eq_zero_or_one b with d | d <;> simp [c, d] at this ⊢ <;> exact this
  rcases Nat.mod_two_eq_zero_or_one a with c | c <;> rcases Nat.mod_two_eq_zero_or_one b with d | d
  · rw [if_neg (by omega), if_neg (by omega), if_neg (by omega)]; simp
  · rw [if_pos (by omega), if_neg (by omega), if_pos (by omega)]; simp [Nat.xor_assoc]
  · rw [if_pos (by omega), if_pos (by omega), if_neg (by omega), Nat.xor_zero, Nat.xor_assoc, Nat.xor_assoc, Nat.xor_comm 3988292384 (b / 2)]
  · rw [if_neg (by omega), if_pos (by omega), if_pos (by omega)]
    simp only [Nat.xor_zero]
    rw [Nat.xor_assoc (a / 2) 3988292384, Nat.xor_comm 3988292384 (b / 2 ^^^ 3988292384), Nat.xor_assoc (b / 2), Nat.xor_self, Nat.xor_zero]
theorem itN_xor (a b : Nat) : ∀ n, itN (a ^^^ b) n = itN a n ^^^ itN b n
  | 0 => rfl
  | n + 1 => by show stepN (itN (a ^^^ b) n) = _; rw [itN_xor a b n, stepN_xor]; rfl
theorem itN_add (q m : Nat) : ∀ n, itN q (m + n) = itN (itN q m) n
  | 0 => rfl
  | n + 1 => by show stepN (itN q (m + n)) = _; rw [itN_add q m n]; rfl
theorem itN_shift (q : Nat) : ∀ n, itN (q * 2 ^ n) n = q
  | 0 => by simp [itN]
  | n + 1 => by
    rw [Nat.add_comm n 1, itN_add]
    have e : itN (q * 2 ^ (1 + n)) 1 = q * 2 ^ n := by
      show stepN (q * 2 ^ (1 + n)) = _
      rw [Nat.pow_add, ← Nat.mul_assoc, Nat.mul_comm q (2 ^ 1), Nat.mul_assoc]
      exact stepN_even _
    rw [e]
    exact itN_shift q n
theorem low_xor (c v : Nat) (h : c < 256) : c + 256 * v = c ^^^ v * 2 ^ 8 := by
  have h1 := Nat.two_pow_add_eq_or_of_lt (i := 8) h v
  have h2 : c ^^^ v * 2 ^ 8 = c + v * 2 ^ 8 := by
    have := Nat.xor_comm (v <<< 8) c
    apply Nat.eq_of_testBit_eq
    intro j
    rw [Nat.testBit_xor, show c + v * 2 ^ 8 = 2 ^ 8 * v + c by omega, Nat.testBit_two_pow_mul_add v h]
    rw [Nat.mul_comm v, Nat.testBit_two_pow_mul]
    by_cases hj : j < 8
    · simp [hj, show ¬ 8 ≤ j by omega]
    · have : c.testBit j = false := Nat.testBit_lt_two_pow (Nat.lt_of_lt_of_le h (Nat.pow_le_pow_right (n := 2) (by omega) (show 8 ≤ j by omega)))
      simp [hj, this, show 8 ≤ j by omega]
  omega
/-- the sum's register is that of the whole message at once -/
theorem foldN_val : ∀ (l : List Int) (r : Nat), ByteL l → foldN r l = itN (r ^^^ valN l) (8 * l.length)
  | [], r, _ => by simp [foldN, valN, itN]
  | c :: l, r, hb => by
    have h1 := hb c (by simp)
    show foldN (byteN r c.toNat) l = _
    rw [foldN_val l _ (fun x hx => hb x (by simp [hx]))]
    show itN (itN (r ^^^ c.toNat) 8 ^^^ valN l) _ = itN (r ^^^ (c.toNat + 256 * valN l)) (8 * (l.length + 1))
    rw [low_xor _ _ (show c.toNat < 256 by omega), ← Nat.xor_assoc, show 8 * (l.length + 1) = 8 + 8 * l.length from by omega, itN_add, itN_xor (r ^^^ c.toNat), itN_shift]
theorem stepN_zero {q : Nat} (h : q < 4294967296) (h0 : stepN q = 0) : q = 0 := by
  unfold stepN at h0
  rcases Nat.mod_two_eq_zero_or_one q with c | c
  · rw [if_neg (by omega), Nat.xor_zero] at h0; omega
  · rw [if_pos c] at h0
    have : q / 2 = 3988292384 := by
      have h1 : (q / 2 ^^^ 3988292384) ^^^ 3988292384 = 0 ^^^ 3988292384 := by rw [h0]
      rw [Nat.xor_assoc, Nat.xor_self, Nat.xor_zero, Nat.zero_xor] at h1
      exact h1
    omega
theorem itN_zero {q : Nat} (h : q < 4294967296) : ∀ n, itN q n = 0 → q = 0
  | 0, h0 => h0
  | n + 1, h0 => itN_zero h n (stepN_zero (itN_lt h n) h0)
theorem valN_lt : ∀ (l : List Int), ByteL l → valN l < 2 ^ (8 * l.length)
  | [], _ => by simp [valN]
  | c :: l, hb => by
    have h1 := hb c (by simp)
    have h2 := valN_lt l (fun x hx => hb x (by simp [hx]))
    show c.toNat + 256 * valN l < 2 ^ (8 * (l.length + 1))
    rw [Nat.mul_succ, Nat.pow_add]
    have : c.toNat < 256 := by omega
    have e : (2 : Nat) ^ 8 = 256 := rfl
    rw [e]
    omega
theorem xor_cancel {a b : Nat} (h : a = a ^^^ b) : b = 0 := by
  have h1 : a ^^^ a = a ^^^ (a ^^^ b) := by rw [← h]
  rw [Nat.xor_self, ← Nat.xor_assoc, Nat.xor_self, Nat.zero_xor] at h1
  exact h1.symm
theorem low_xorN (n c v : Nat) (h : c < 2 ^ n) : c + 2 ^ n * v = c ^^^ v * 2 ^ n := by
  apply Nat.eq_of_testBit_eq
  intro j
  rw [Nat.testBit_xor, Nat.add_comm, Nat.testBit_two_pow_mul_add v h, Nat.mul_comm v, Nat.testBit_two_pow_mul]
  by_cases hj : j < n
  · simp [hj, show ¬ n ≤ j by omega]
  · have : c.testBit j = false := Nat.testBit_lt_two_pow (Nat.lt_of_lt_of_le h (Nat.pow_le_pow_right (n := 2) (by omega) (show n ≤ j by omega)))
    simp [hj, this, show n ≤ j by omega]
theorem xor_mul_pow (a b n : Nat) : (a ^^^ b) * 2 ^ n = a * 2 ^ n ^^^ b * 2 ^ n := by
  rw [← Nat.shiftLeft_eq, ← Nat.shiftLeft_eq, ← Nat.shiftLeft_eq, Nat.shiftLeft_xor_distrib]
theorem valN_set : ∀ (l : List Int) (j m : Nat), ByteL l → j < l.length → m < 8 → valN (l.set j (((l.getD j 0).toNat ^^^ 2 ^ m : Nat) : Int)) = valN l ^^^ 2 ^ (8 * j + m)
  | [], j, m, _, h, _ => by simp at h
  | c :: l, 0, m, hb, _, hm => by
    have h1 := hb c (by simp)
    have h2 : 2 ^ m < 2 ^ 8 := Nat.pow_lt_pow_right (by omega) hm
    have h3 : c.toNat ^^^ 2 ^ m < 256 := Nat.xor_lt_two_pow (n := 8) (show c.toNat < 2 ^ 8 by omega) h2
    show (((c.toNat ^^^ 2 ^ m : Nat) : Int)).toNat + 256 * valN l = (c.toNat + 256 * valN l) ^^^ 2 ^ (8 * 0 + m)
    rw [Int.toNat_natCast, low_xor _ _ h3, low_xor _ _ (show c.toNat < 256 by omega), Nat.mul_zero, Nat.zero_add, Nat.xor_assoc, Nat.xor_assoc, Nat.xor_comm (2 ^ m)]
  | c :: l, j + 1, m, hb, hj, hm => by
    have h1 := hb c (by simp)
    have ih := valN_set l j m (fun x hx => hb x (by simp [hx])) (by simpa using hj) hm
    show c.toNat + 256 * valN (l.set j (((l.getD j 0).toNat ^^^ 2 ^ m : Nat) : Int)) = (c.toNat + 256 * valN l) ^^^ 2 ^ (8 * (j + 1) + m)
    rw [ih, low_xor _ _ (show c.toNat < 256 by omega), low_xor _ _ (show c.toNat < 256 by omega), xor_mul_pow, ← Nat.xor_assoc, ← Nat.pow_add, show 8 * j + m + 8 = 8 * (j + 1) + m by omega]
theorem pow8 (e : Nat) (h : e < 8) : (2 ^ e : Nat) < 256 := Nat.pow_lt_pow_right (a := 2) (by omega) h
theorem xor_bit_lt (z : Int) (e : Nat) (hz : 0 ≤ z ∧ z ≤ 255) (h : e < 8) : z.toNat ^^^ 2 ^ e < 256 := Nat.xor_lt_two_pow (n := 8) (show z.toNat < 2 ^ 8 by omega) (pow8 e h)
theorem xor_bit (z : Int) (e : Nat) (hz : 0 ≤ z ∧ z ≤ 255) (h : e < 8) : bits .xor .u8 z (2 ^ e % 256) = ((z.toNat ^^^ 2 ^ e : Nat) : Int) := by
  obtain ⟨n, rfl⟩ := Int.eq_ofNat_of_zero_le hz.1
  have hp := pow8 e h
  have e1 : (2 : Int) ^ e % 256 = ((2 ^ e : Nat) : Int) := by
    have : (2 : Int) ^ e = ((2 ^ e : Nat) : Int) := by rw [Int.natCast_pow]; rfl
    rw [this]
    generalize (2 ^ e : Nat) = q at *
    omega
  rw [e1, u8_xor_nat n (2 ^ e) (by omega) hp, Int.toNat_natCast]
theorem tbit (f k b : Nat) (h : f / 2 ^ k % 2 = b) : ((f : Int) / 2 ^ k).tmod 2 = (b : Int) := by
  have e : ((f : Int) / 2 ^ k) = ((f / 2 ^ k : Nat) : Int) := by rw [Int.natCast_ediv, Int.natCast_pow]; rfl
  rw [e, Int.tmod_eq_emod_of_nonneg (Int.natCast_nonneg _)]
  generalize f / 2 ^ k = z at h
  omega
/-- one bit more of the flips -/
theorem mod_one (f k : Nat) (h : f / 2 ^ k % 2 = 1) : f % 2 ^ (k + 1) = f % 2 ^ k ^^^ 2 ^ k := by
  rw [Nat.mod_pow_succ, h, low_xorN _ _ _ (Nat.mod_lt _ (Nat.two_pow_pos k)), Nat.one_mul]
theorem mod_zero' (f k : Nat) (h : f / 2 ^ k % 2 = 0) : f % 2 ^ (k + 1) = f % 2 ^ k := by
  rw [Nat.mod_pow_succ, h, Nat.mul_zero, Nat.add_zero]
theorem flip_step (l m : List Int) (a f k : Nat) (hm : ByteL m) (hv : valN m = valN l ^^^ (f % 2 ^ k) * 2 ^ a) (hb : f / 2 ^ k % 2 = 1) (hk : (a + k) / 8 < m.length) :
    valN (m.set ((a + k) / 8) (((m.getD ((a + k) / 8) 0).toNat ^^^ 2 ^ ((a + k) % 8) : Nat) : Int)) = valN l ^^^ (f % 2 ^ (k + 1)) * 2 ^ a := by
  rw [valN_set m _ _ hm hk (Nat.mod_lt _ (by omega)), hv, mod_one f k hb, xor_mul_pow, ← Nat.pow_add, Nat.xor_assoc, show 8 * ((a + k) / 8) + (a + k) % 8 = k + a by omega]
/-- a burst of up to 32 bits changes the sum -/
theorem burst (l t : List Int) (hl : ByteL l) (ht : ByteL t) (hlen : t.length = l.length) (at' f : Nat) (hf : f < 4294967296) (h0 : f ≠ 0) (hv : valN t = valN l ^^^ f * 2 ^ at') : crcN t ≠ crcN l := by
  have h1 := foldN_val l 4294967295 hl
  have h2 := foldN_val t 4294967295 ht
  have b1 := foldN_lt l 4294967295 hl (by omega)
  have b2 := foldN_lt t 4294967295 ht (by omega)
  rw [hlen, hv, ← Nat.xor_assoc, itN_xor, ← h1] at h2
  have v1 := valN_lt l hl
  have v2 := valN_lt t ht
  rw [hlen, hv] at v2
  have hF : f * 2 ^ at' < 2 ^ (8 * l.length) := by
    have : f * 2 ^ at' = valN l ^^^ (valN l ^^^ f * 2 ^ at') := by rw [← Nat.xor_assoc, Nat.xor_self, Nat.zero_xor]
    rw [this]
    exact Nat.xor_lt_two_pow v1 v2
  have hat : at' ≤ 8 * l.length := by
    refine Nat.le_of_not_lt fun hc => ?_
    have h3 : 2 ^ (8 * l.length) ≤ 2 ^ at' := Nat.pow_le_pow_right (by omega) (by omega)
    have h4 : 1 * 2 ^ at' ≤ f * 2 ^ at' := Nat.mul_le_mul_right _ (by omega)
    omega
  obtain ⟨m, hm⟩ : ∃ m, 8 * l.length = at' + m := ⟨8 * l.length - at', by omega⟩
  rw [hm, itN_add, itN_shift] at h2
  intro e
  unfold crcN at e
  have e2 : foldN 4294967295 t = foldN 4294967295 l := by omega
  rw [e2] at h2
  exact h0 (itN_zero hf m (xor_cancel h2))
end Go.Proofs.Ytgkgcbhlodohdaa
