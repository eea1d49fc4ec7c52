/- CRC-32 by its polynomial: plain mathematics. -/
import Derived.Test.YtgkgcbhlodohdaaKeep
import Derived.Laws.BitsAllLaws
namespace Go.Proofs.Ytgkgcbhlodohdaa
open Go.RowKit
set_option linter.unusedVariables false

def ByteL (l : List Int) : Prop := ∀ x ∈ l, 0 ≤ x ∧ x ≤ 255
/-- one bit goes by -/
def stepN (q : Nat) : Nat := q / 2 ^^^ (if q % 2 = 1 then 3988292384 else 0)
def itN (q : Nat) : Nat → Nat
  | 0 => q
  | n + 1 => stepN (itN q n)
def byteN (r c : Nat) : Nat := itN (r ^^^ c) 8
def foldN (r : Nat) (l : List Int) : Nat := l.foldl (fun r c => byteN r c.toNat) r
def crcN (l : List Int) : Nat := 4294967295 - foldN 4294967295 l
theorem xor32 {a b : Nat} (ha : a < 4294967296) (hb : b < 4294967296) : a ^^^ b < 4294967296 := Nat.xor_lt_two_pow (n := 32) ha hb
theorem stepN_lt {q : Nat} (h : q < 4294967296) : stepN q < 4294967296 := by
  unfold stepN
  refine xor32 (by omega) ?_
  split <;> omega
theorem itN_lt {q : Nat} (h : q < 4294967296) : ∀ n, itN q n < 4294967296
  | 0 => h
  | n + 1 => stepN_lt (itN_lt h n)
theorem byteN_lt {r c : Nat} (h : r < 4294967296) (hc : c < 256) : byteN r c < 4294967296 := itN_lt (xor32 h (by omega)) 8
theorem foldN_snoc (r : Nat) (l : List Int) (k : Nat) (hk : k < l.length) : foldN r (l.take (k + 1)) = byteN (foldN r (l.take k)) (l.getD k 0).toNat := by
  unfold foldN
  rw [List.take_add_one, List.foldl_append]
  simp [List.getD, List.getElem?_eq_getElem hk]
theorem foldN_append (r : Nat) (l m : List Int) : foldN r (l ++ m) = foldN (foldN r l) m := by unfold foldN; rw [List.foldl_append]
theorem foldN_lt : ∀ (l : List Int) (r : Nat), ByteL l → r < 4294967296 → foldN r l < 4294967296
  | [], r, _, h => h
  | c :: l, r, hb, h => by
    have h1 := hb c (by simp)
    exact foldN_lt l (byteN r c.toNat) (fun x hx => hb x (by simp [hx])) (byteN_lt h (by omega))
theorem not32 (x : Nat) (h : x < 4294967296) : 4294967295 ^^^ x = 4294967295 - x := by
  have h1 := BitVec.toNat_not (x := BitVec.ofNat 32 x)
  have h2 : BitVec.allOnes 32 ^^^ BitVec.ofNat 32 x = ~~~(BitVec.ofNat 32 x) := by rw [BitVec.xor_comm]; exact BitVec.xor_allOnes
  rw [← h2, BitVec.toNat_xor, BitVec.toNat_allOnes, BitVec.toNat_ofNat, Nat.mod_eq_of_lt (show x < 2 ^ 32 by omega)] at h1
  exact h1
theorem not_walk (x : Nat) (h : x < 4294967296) : bits .xor .u32 IntKind.u32.max (x : Int) = 4294967295 - (x : Int) := by
  rw [show IntKind.u32.max = ((4294967295 : Nat) : Int) from rfl, u32_xor_nat 4294967295 x (by omega) h, not32 x h]
  omega
/-- what the program reckons of a bit is just that -/
theorem step_walk (q : Nat) (h : q < 4294967296) : bits .xor .u32 ((q : Int) / 2) (bits .and .u32 (-bits .and .u32 (q : Int) 1 % 4294967296) 3988292384) = (stepN q : Int) := by
  have e1 : bits .and .u32 (q : Int) 1 = ((q % 2 : Nat) : Int) := by
    rw [show (1 : Int) = ((1 : Nat) : Int) from rfl, u32_and_nat q 1 h (by omega), Nat.and_one_is_mod]
  rw [e1]
  have e2 : (q : Int) / 2 = ((q / 2 : Nat) : Int) := by omega
  rw [e2]
  rcases Nat.mod_two_eq_zero_or_one q with c | c
  · have e3 : -((q % 2 : Nat) : Int) % 4294967296 = ((0 : Nat) : Int) := by rw [c]; decide
    rw [e3, show (3988292384 : Int) = ((3988292384 : Nat) : Int) from rfl, u32_and_nat 0 3988292384 (by omega) (by omega), Nat.zero_and, u32_xor_nat (q / 2) 0 (by omega) (by omega)]
    unfold stepN
    rw [if_neg (by omega)]
  · have e3 : -((q % 2 : Nat) : Int) % 4294967296 = ((4294967295 : Nat) : Int) := by rw [c]; decide
    have e4 : 4294967295 &&& 3988292384 = 3988292384 := by decide
    rw [e3, show (3988292384 : Int) = ((3988292384 : Nat) : Int) from rfl, u32_and_nat 4294967295 3988292384 (by omega) (by omega), e4, u32_xor_nat (q / 2) 3988292384 (by omega) (by omega)]
    unfold stepN
    rw [if_pos c]
end Go.Proofs.Ytgkgcbhlodohdaa
