/- Numbers as bytes, seven bits each: plain mathematics. -/
import Derived.Test.YtpmoidpncpfnlaaBytes
import Derived.Laws.BitsAllLaws
namespace Go.Proofs.Ytpmoidpncpfnlaa
open Go.RowKit
set_option linter.unusedVariables false

def ByteL (l : List Int) : Prop := ∀ x ∈ l, 0 ≤ x ∧ x ≤ 255
/-- a number's bytes; f: how many may follow the first one -/
def encF : Nat → Nat → List Int
  | 0, u => [(u : Int)]
  | f + 1, u => if u < 128 then [(u : Int)] else ((u % 128 + 128 : Nat) : Int) :: encF f (u / 128)
def enc (u : Nat) : List Int := encF 9 u
theorem encF_len : ∀ f u, 1 ≤ (encF f u).length ∧ (encF f u).length ≤ f + 1
  | 0, u => by simp [encF]
  | f + 1, u => by
    unfold encF
    split
    · simp
    · have := encF_len f (u / 128); simp; omega
theorem enc_len (u : Nat) : 1 ≤ (enc u).length ∧ (enc u).length ≤ 10 := encF_len 9 u
theorem encF_bytes : ∀ f u, u < 128 ^ (f + 1) → ByteL (encF f u)
  | 0, u, h => fun x hx => by simp [encF] at hx; omega
  | f + 1, u, h => fun x hx => by
    unfold encF at hx
    split at hx
    · simp at hx; omega
    · rcases List.mem_cons.1 hx with rfl | hx
      · omega
      · exact encF_bytes f (u / 128) (Nat.div_lt_of_lt_mul (by rw [Nat.pow_succ, Nat.mul_comm] at h; exact h)) x hx
theorem enc_bytes (u : Nat) (h : u < 18446744073709551616) : ByteL (enc u) := encF_bytes 9 u (by omega)
theorem or128 (x : Nat) : bits .or .u8 ((x : Int) % 256) 128 = ((x % 128 + 128 : Nat) : Int) := by
  have key : ∀ n, n < 256 → n ||| 128 = n % 128 + 128 := by decide +kernel
  rw [show ((x : Int) % 256) = ((x % 256 : Nat) : Int) by omega, show (128 : Int) = ((128 : Nat) : Int) from rfl, u8_or_nat (x % 256) 128 (by omega) (by omega), key _ (by omega)]
  omega
/-- the turn of a long: near 0 it is the least -/
def zig (v : Int) : Int := if 0 ≤ v then 2 * v else -2 * v - 1
def unzig (u : Int) : Int := if u % 2 = 0 then u / 2 else -(u / 2) - 1
theorem zig_bd {v : Int} (h : InI v) : 0 ≤ zig v ∧ zig v ≤ 18446744073709551615 := by unfold InI at h; unfold zig; split <;> omega
theorem unzig_bd {u : Int} (h : 0 ≤ u ∧ u ≤ 18446744073709551615) : InI (unzig u) := by unfold InI unzig; split <;> omega
theorem unzig_zig (v : Int) : unzig (zig v) = v := by unfold unzig zig; split <;> split <;> omega
theorem zig_unzig (u : Int) (h : 0 ≤ u) : zig (unzig u) = u := by unfold unzig zig; split <;> split <;> omega
theorem not64 (x : Nat) (h : x < 18446744073709551616) : x ^^^ 18446744073709551615 = 18446744073709551615 - x := by
  have h1 := BitVec.toNat_not (x := BitVec.ofNat 64 x)
  have h2 : BitVec.ofNat 64 x ^^^ BitVec.allOnes 64 = ~~~(BitVec.ofNat 64 x) := BitVec.xor_allOnes
  rw [← h2, BitVec.toNat_xor, BitVec.toNat_allOnes, BitVec.toNat_ofNat, Nat.mod_eq_of_lt (show x < 2 ^ 64 by omega)] at h1
  exact h1
theorem i64_xor_m1 (a : Nat) (h : a < 9223372036854775808) : bits .xor .i64 (a : Int) (-1) = -(a : Int) - 1 := by
  show IntKind.i64.wrap ((BitVec.ofInt 64 (a : Int) ^^^ BitVec.ofInt 64 (-1)).toNat : Int) = _
  have e : BitVec.ofInt 64 (-1) = BitVec.allOnes 64 := by decide
  rw [BitVec.ofInt_natCast, e, BitVec.xor_allOnes, BitVec.toNat_not, BitVec.toNat_ofNat, Nat.mod_eq_of_lt (show a < 2 ^ 64 by omega)]
  simp only [IntKind.wrap_i64]
  omega
theorem i64_xor_0 (a : Nat) (h : a < 9223372036854775808) : bits .xor .i64 (a : Int) 0 = (a : Int) := by
  show IntKind.i64.wrap ((BitVec.ofInt 64 (a : Int) ^^^ BitVec.ofInt 64 0).toNat : Int) = _
  have e : BitVec.ofInt 64 0 = 0#64 := by decide
  rw [BitVec.ofInt_natCast, e, BitVec.xor_zero, BitVec.toNat_ofNat, Nat.mod_eq_of_lt (show a < 2 ^ 64 by omega)]
  simp only [IntKind.wrap_i64]
  omega
theorem turnP (v : Int) (h0 : 0 ≤ v) (h : v ≤ 9223372036854775807) : bits .xor .u64 (v * 2) (v / 9223372036854775808) = zig v := by
  obtain ⟨n, rfl⟩ := Int.eq_ofNat_of_zero_le h0
  have e1 : (n : Int) / 9223372036854775808 = ((0 : Nat) : Int) := by omega
  have e2 : (n : Int) * 2 = ((n * 2 : Nat) : Int) := by omega
  rw [e1, e2, u64_xor_nat (n * 2) 0 (by omega) (by omega), Nat.xor_zero]
  unfold zig
  rw [if_pos h0]
  omega
theorem turnN (v : Int) (h0 : v < 0) (h : -9223372036854775808 ≤ v) : bits .xor .u64 (IntKind.u64.wrap (IntKind.u64.wrap v * 2)) (IntKind.u64.wrap (v / 9223372036854775808)) = zig v := by
  have e1 : IntKind.u64.wrap (v / 9223372036854775808) = ((18446744073709551615 : Nat) : Int) := by simp only [IntKind.wrap_u64]; omega
  obtain ⟨n, hn⟩ : ∃ n : Nat, 2 * v + 18446744073709551616 = (n : Int) := Int.eq_ofNat_of_zero_le (by omega)
  have e2 : IntKind.u64.wrap (IntKind.u64.wrap v * 2) = (n : Int) := by simp only [IntKind.wrap_u64]; omega
  rw [e1, e2, u64_xor_nat n 18446744073709551615 (by omega) (by omega), not64 n (by omega)]
  unfold zig
  rw [if_neg (by omega)]
  omega
theorem unturnW (u : Nat) (h : u < 18446744073709551616) : bits .xor .i64 ((u : Int) / 2) (wrap64 (-wrap64 (bits .and .u64 (u : Int) 1))) = unzig u := by
  have e1 : bits .and .u64 (u : Int) 1 = ((u % 2 : Nat) : Int) := by
    rw [show (1 : Int) = ((1 : Nat) : Int) from rfl, u64_and_nat u 1 h (by omega), Nat.and_one_is_mod]
  have e2 : (u : Int) / 2 = ((u / 2 : Nat) : Int) := by omega
  rw [e1, e2]
  rcases Nat.mod_two_eq_zero_or_one u with c | c
  · rw [c, show wrap64 (-wrap64 ((0 : Nat) : Int)) = 0 by decide +kernel, i64_xor_0 (u / 2) (by omega)]
    unfold unzig
    rw [if_pos (by omega)]
    omega
  · rw [c, show wrap64 (-wrap64 ((1 : Nat) : Int)) = -1 by decide +kernel, i64_xor_m1 (u / 2) (by omega)]
    unfold unzig
    rw [if_neg (by omega)]
    omega
theorem and127 (c : Nat) (hc : c < 256) : bits .and .u8 (c : Int) 127 = ((c % 128 : Nat) : Int) := by
  rw [show (127 : Int) = ((127 : Nat) : Int) from rfl, u8_and_nat c 127 hc (by omega)]
  have e : c &&& 127 = c % 128 := Nat.and_two_pow_sub_one_eq_mod c 7
  rw [e]
theorem orW (n c k : Nat) (hn : n < 128 ^ k) (hc : c < 256) (hk : k ≤ 9) (h9 : k = 9 → c ≤ 1) :
    bits .or .u64 (n : Int) (IntKind.u64.wrap (IntKind.u64.wrap (bits .and .u8 (c : Int) 127) * 2 ^ (7 * k))) = ((n + c % 128 * 128 ^ k : Nat) : Int) ∧ n + c % 128 * 128 ^ k < 18446744073709551616 := by
  have hP : (128 : Nat) ^ k = 2 ^ (7 * k) := by rw [Nat.pow_mul]
  have hP9 : (2 : Nat) ^ (7 * k) ≤ 2 ^ 63 := Nat.pow_le_pow_right (by omega) (by omega)
  have hx : c % 128 * 2 ^ (7 * k) + 2 ^ (7 * k) ≤ 18446744073709551616 := by
    by_cases h : k = 9
    · have h1 := h9 h
      have h2 : c % 128 ≤ 1 := by omega
      have h3 : c % 128 * 2 ^ (7 * k) ≤ 1 * 2 ^ (7 * k) := Nat.mul_le_mul_right _ h2
      have e : (2 : Nat) ^ 63 = 9223372036854775808 := rfl
      rw [e] at hP9
      omega
    · have h1 : (2 : Nat) ^ (7 * k) ≤ 2 ^ 56 := Nat.pow_le_pow_right (by omega) (by omega)
      have h3 : c % 128 * 2 ^ (7 * k) ≤ 127 * 2 ^ (7 * k) := Nat.mul_le_mul_right _ (by omega)
      have e : (2 : Nat) ^ 56 = 72057594037927936 := rfl
      rw [e] at h1
      omega
  have hp2 : (2 : Int) ^ (7 * k) = ((2 ^ (7 * k) : Nat) : Int) := by rw [Int.natCast_pow]; rfl
  rw [hP] at hn ⊢
  have ho := Nat.two_pow_add_eq_or_of_lt hn (c % 128)
  generalize 2 ^ (7 * k) = p at *
  rw [and127 c hc, hp2]
  have w1 : IntKind.u64.wrap ((c % 128 : Nat) : Int) = ((c % 128 : Nat) : Int) := by simp only [IntKind.wrap_u64]; omega
  rw [w1, ← Int.natCast_mul]
  have hlt : c % 128 * p < 18446744073709551616 := by omega
  generalize hz : c % 128 * p = z at *
  have w2 : IntKind.u64.wrap (z : Int) = (z : Int) := by simp only [IntKind.wrap_u64]; omega
  rw [w2, u64_or_nat n z (by omega) hlt]
  rw [Nat.mul_comm, hz, Nat.or_comm] at ho
  refine ⟨?_, by omega⟩
  rw [← ho]
  omega
end Go.Proofs.Ytpmoidpncpfnlaa
