import Derived.Test.YtflplliiamodhaaZDriftM
import Derived.Shelf.Small.Bits
import Derived.Shelf.Strconv.Itoa0
import Derived.Shelf.Bits.Mul64
import Derived.Test.YtflplliiamodhaaProg
/- What points keep to a rate, told without their order. -/
namespace Go.Proofs.Ytflplliiamodhaa
open Go.RowKit
set_option linter.unusedVariables false

def timeB (t : Int) : Bool := decide (0 ≤ t ∧ t ≤ 4611686018427387903)
def InT (p : Int × Int) : Prop := (0 ≤ p.1 ∧ p.1 ≤ 4611686018427387903) ∧ (0 ≤ p.2 ∧ p.2 ≤ 4611686018427387903)
def soundP (l : List (Int × Int)) : Prop := ∀ k, k < l.length → InT (l.getD k (0, 0))
instance (p : Int × Int) : Decidable (InT p) := by unfold InT; exact inferInstance
instance (l : List (Int × Int)) : Decidable (soundP l) := by unfold soundP; exact inferInstance
def fastV (r : Int) (p : Int × Int) : Int := p.2 * 1000000 + p.1 * (-1000000 - r)
def slowV (r : Int) (p : Int × Int) : Int := p.2 * (-1000000) + p.1 * (1000000 - r)
def adjP (s : List (Int × Int)) : Prop := ∀ k, k < s.length - 1 → ¬ ((s.getD (k + 1) (0, 0)).2 < (s.getD k (0, 0)).2 ∨ ((s.getD (k + 1) (0, 0)).1 = (s.getD k (0, 0)).1 ∧ (s.getD (k + 1) (0, 0)).2 ≠ (s.getD k (0, 0)).2))
instance (s : List (Int × Int)) : Decidable (adjP s) := by unfold adjP; exact inferInstance
def risesP (f : Int × Int → Int) (s : List (Int × Int)) : Prop := ∀ j, j < s.length → ∀ i, i < j + 1 → f (s.getD j (0, 0)) - f (s.getD i (0, 0)) ≤ 1000000
instance (f : Int × Int → Int) (s : List (Int × Int)) : Decidable (risesP f s) := by unfold risesP; exact inferInstance
def keepB (r : Int) (s : List (Int × Int)) : Bool := decide (adjP s) && (decide (risesP (fastV r) s) && decide (risesP (slowV r) s))
/-- p isn't behind q -/
def leP (p q : Int × Int) : Prop := p.1 < q.1 ∨ (p.1 = q.1 ∧ p.2 ≤ q.2)
instance (p q : Int × Int) : Decidable (leP p q) := by unfold leP; exact inferInstance
theorem leP_total (p q : Int × Int) : leP p q ∨ leP q p := by unfold leP; omega
theorem leP_anti {p q : Int × Int} (h : leP p q) (k : leP q p) : p = q := by
  unfold leP at h k
  exact Prod.ext (by omega) (by omega)
def okP (r : Int) (p q : Int × Int) : Prop := p.2 ≤ q.2 ∧ (p.1 = q.1 → p.2 = q.2) ∧ fastV r q - fastV r p ≤ 1000000 ∧ slowV r q - slowV r p ≤ 1000000
instance (r : Int) (p q : Int × Int) : Decidable (okP r p q) := by unfold okP; exact inferInstance
theorem okP_self (r : Int) (p : Int × Int) : okP r p p := ⟨by omega, fun _ => rfl, by omega, by omega⟩
def okAll (r : Int) (l : List (Int × Int)) : Prop := ∀ p ∈ l, ∀ q ∈ l, leP p q → okP r p q
instance (r : Int) (l : List (Int × Int)) : Decidable (okAll r l) := by unfold okAll; exact inferInstance
def sortedP (s : List (Int × Int)) : Prop := ∀ i j, i ≤ j → j < s.length → leP (s.getD i (0, 0)) (s.getD j (0, 0))
theorem getD_mem {s : List (Int × Int)} {i : Nat} (h : i < s.length) : s.getD i (0, 0) ∈ s := by
  rw [List.getD_eq_getElem?_getD, List.getElem?_eq_getElem h]
  exact List.getElem_mem h
theorem mem_getD {s : List (Int × Int)} {p : Int × Int} (h : p ∈ s) : ∃ i, i < s.length ∧ s.getD i (0, 0) = p := by
  obtain ⟨i, hi, e⟩ := List.getElem_of_mem h
  exact ⟨i, hi, by rw [List.getD_eq_getElem?_getD, List.getElem?_eq_getElem hi]; exact e⟩
theorem sound_iff {l : List (Int × Int)} : soundP l ↔ ∀ p ∈ l, InT p := by
  constructor
  · intro h p hp
    obtain ⟨i, hi, e⟩ := mem_getD hp
    rw [← e]; exact h i hi
  · exact fun h k hk => h _ (getD_mem hk)
theorem adj_chain {s : List (Int × Int)} (h : adjP s) (hs : sortedP s) (i : Nat) : ∀ d, i + d < s.length → (s.getD i (0, 0)).2 ≤ (s.getD (i + d) (0, 0)).2 ∧ ((s.getD i (0, 0)).1 = (s.getD (i + d) (0, 0)).1 → (s.getD i (0, 0)).2 = (s.getD (i + d) (0, 0)).2)
  | 0, _ => ⟨Int.le_refl _, fun _ => rfl⟩
  | d + 1, hd => by
    obtain ⟨a, b⟩ := adj_chain h hs i d (by omega)
    have c := h (i + d) (by omega)
    have s1 := hs i (i + d) (by omega) (by omega)
    have s2 := hs (i + d) (i + d + 1) (by omega) (by omega)
    rw [show i + (d + 1) = i + d + 1 from rfl]
    unfold leP at s1 s2
    constructor
    · omega
    · intro e
      have := b (by omega)
      omega
theorem keep_iff {r : Int} {s l : List (Int × Int)} (hp : s.Perm l) (hs : sortedP s) : keepB r s = true ↔ okAll r l := by
  unfold keepB
  rw [Bool.and_eq_true, Bool.and_eq_true, decide_eq_true_iff, decide_eq_true_iff, decide_eq_true_iff]
  constructor
  · rintro ⟨ha, hf, hw⟩ p hpl q hql hpq
    obtain ⟨i, hi, ei⟩ := mem_getD (hp.mem_iff.2 hpl)
    obtain ⟨j, hj, ej⟩ := mem_getD (hp.mem_iff.2 hql)
    by_cases hij : i ≤ j
    · obtain ⟨a, b⟩ := adj_chain ha hs i (j - i) (by omega)
      have f1 := hf j hj i (by omega)
      have w1 := hw j hj i (by omega)
      rw [show i + (j - i) = j by omega] at a b
      rw [ei, ej] at a b f1 w1
      exact ⟨a, b, f1, w1⟩
    · have := hs j i (by omega) hi
      rw [ei, ej] at this
      rw [leP_anti hpq this]
      exact okP_self r q
  · intro h
    refine ⟨fun k hk => ?_, fun j hj i hi => ?_, fun j hj i hi => ?_⟩
    · obtain ⟨a, b, -, -⟩ := h _ (hp.mem_iff.1 (getD_mem (i := k) (by omega))) _ (hp.mem_iff.1 (getD_mem (i := k + 1) (by omega))) (hs k (k + 1) (by omega) (by omega))
      omega
    · exact (h _ (hp.mem_iff.1 (getD_mem (i := i) (by omega))) _ (hp.mem_iff.1 (getD_mem hj)) (hs i j (by omega) hj)).2.2.1
    · exact (h _ (hp.mem_iff.1 (getD_mem (i := i) (by omega))) _ (hp.mem_iff.1 (getD_mem hj)) (hs i j (by omega) hj)).2.2.2
theorem ok_mono {r t : Int} {l : List (Int × Int)} (h : okAll r l) (hrt : r ≤ t) : okAll t l := fun p hp q hq hpq => by
  obtain ⟨a, b, c, d⟩ := h p hp q hq hpq
  refine ⟨a, b, ?_, ?_⟩
  · have e : (q.1 - p.1) * r ≤ (q.1 - p.1) * t := Int.mul_le_mul_of_nonneg_left hrt (by unfold leP at hpq; omega)
    unfold fastV at *
    simp only [Int.sub_mul, Int.mul_sub] at *
    omega
  · have e : (q.1 - p.1) * r ≤ (q.1 - p.1) * t := Int.mul_le_mul_of_nonneg_left hrt (by unfold leP at hpq; omega)
    unfold slowV at *
    simp only [Int.sub_mul, Int.mul_sub] at *
    omega
theorem ok_sub {r : Int} {l m : List (Int × Int)} (h : okAll r l) (hm : ∀ p ∈ m, p ∈ l) : okAll r m := fun p hp q hq => h p (hm p hp) q (hm q hq)
theorem low_zero {x r : Int} (h : ¬ 0 < x) (h2 : r ≤ 100000) : lowI x r ≤ 0 := by
  obtain ⟨q, e, a1, a2⟩ := low_neg h h2
  have := lt_of_mul (a := 0) (b := q + 1) (c := 1000000 - r) (by omega) (by rw [Int.add_mul, Int.one_mul]; omega)
  omega
theorem sound_ahead {r x d : Int} (h1 : 0 ≤ r) (h2 : r ≤ 100000) (hx : 0 ≤ x) (hd : 0 ≤ d) (h0 : d = 0 → x = 0) (hf : x * 1000000 - d * (1000000 + r) ≤ 1000000) (hs : d * (1000000 - r) - x * 1000000 ≤ 1000000) :
    lowI x r ≤ d ∧ d ≤ highI x r := by
  constructor
  · by_cases hp : 0 < x
    · obtain ⟨q, e, a1, a2⟩ := low_pos hp h1
      have : q ≤ d := le_of_mul (c := 1000000 + r) (by omega) (by omega)
      rw [e]; omega
    · have := low_zero hp h2
      omega
  · unfold highI
    obtain ⟨q, e, a1, a2⟩ := low_neg (x := -x) (r := r) (by omega) h2
    have : d ≤ q := le_of_mul (c := 1000000 - r) (by omega) (by omega)
    rw [e]; omega
theorem sound_pair {r : Int} {p q : Int × Int} (h1 : 0 ≤ r) (h2 : r ≤ 100000) (hpq : leP p q) (ho : okP r p q) : lowI (q.2 - p.2) r ≤ q.1 - p.1 ∧ q.1 - p.1 ≤ highI (q.2 - p.2) r := by
  obtain ⟨a, b, c, d⟩ := ho
  unfold leP at hpq
  unfold fastV at c
  unfold slowV at d
  refine sound_ahead h1 h2 (by omega) (by omega) (fun e => ?_) ?_ ?_
  · have := b (by omega); omega
  · simp only [Int.sub_mul, Int.mul_sub, Int.mul_add] at *
    omega
  · simp only [Int.sub_mul, Int.mul_sub] at *
    omega
theorem sound_any {r : Int} {l : List (Int × Int)} (h1 : 0 ≤ r) (h2 : r ≤ 100000) (h : okAll r l) {p q : Int × Int} (hp : p ∈ l) (hq : q ∈ l) : lowI (q.2 - p.2) r ≤ q.1 - p.1 ∧ q.1 - p.1 ≤ highI (q.2 - p.2) r := by
  rcases leP_total p q with k | k
  · exact sound_pair h1 h2 k (h p hp q hq k)
  · obtain ⟨a, b⟩ := sound_pair h1 h2 k (h q hq p hp k)
    unfold highI at *
    rw [show -(p.2 - q.2) = q.2 - p.2 by omega] at b
    rw [show -(q.2 - p.2) = p.2 - q.2 by omega]
    omega
end Go.Proofs.Ytflplliiamodhaa

/- Contracts of the library, laid for this program. -/
namespace Go.Proofs
open Go.Shelf
def Try.lays128_ren : Go.Shelf.Ren := ⟨fun | 128 => 120 | n => n, fun | 51 => 160 | 3 => 3 | 4 => 4 | 46 => 118 | 5 => 5 | 9 => 9 | n => n, fun | n => n⟩
theorem Try.lays128 : Go.Proofs.Lays.n128 Try.prog Try.lays128_ren := {
  mixed := by kernel_rfl
  f128 := Try.func120.trans (congrArg some (by kernel_rfl))
  t3 := Try.underlying3
  a3 := Try.isAgg3
  z3 := Try.sizeOf3
  v3 := Try.zeroValue3
  t4 := Try.underlying4
  a4 := Try.isAgg4
  z4 := Try.sizeOf4
  v4 := Try.zeroValue4
  t5 := Try.underlying5
  a5 := Try.isAgg5
  z5 := Try.sizeOf5
  v5 := Try.zeroValue5
  t9 := Try.underlying9
  a9 := Try.isAgg9
  z9 := Try.sizeOf9
  v9 := Try.zeroValue9
  t46 := Try.underlying118
  a46 := Try.isAgg118
  z46 := Try.sizeOf118
  v46 := Try.zeroValue118
  t51 := Try.underlying160
  a51 := Try.isAgg160
  z51 := Try.sizeOf160
  v51 := Try.zeroValue160 }
theorem Try.bits_Len32 (x : Int) (w : World) (h0 : 0 ≤ x) (h1 : x ≤ 4294967295) :
    Calls Try.prog 120 #[.int .u32 x] w fun e w' => e = .returned (.int .i64 (Lib.bitLen x.toNat)) ∧ w' = w := Any.bits_Len32 Try.lays128 x w h0 h1
def Try.lays125_ren : Go.Shelf.Ren := ⟨fun | 125 => 104 | 128 => 120 | 129 => 121 | n => n, fun | 46 => 118 | 3 => 3 | 51 => 160 | 53 => 113 | 4 => 4 | 5 => 5 | 9 => 9 | n => n, fun | n => n⟩
theorem Try.lays125 : Go.Proofs.Lays.n125 Try.prog Try.lays125_ren := {
  mixed := by kernel_rfl
  f125 := Try.func104.trans (congrArg some (by kernel_rfl))
  f128 := Try.func120.trans (congrArg some (by kernel_rfl))
  f129 := Try.func121.trans (congrArg some (by kernel_rfl))
  t3 := Try.underlying3
  a3 := Try.isAgg3
  z3 := Try.sizeOf3
  v3 := Try.zeroValue3
  t4 := Try.underlying4
  a4 := Try.isAgg4
  z4 := Try.sizeOf4
  v4 := Try.zeroValue4
  t5 := Try.underlying5
  a5 := Try.isAgg5
  z5 := Try.sizeOf5
  v5 := Try.zeroValue5
  t9 := Try.underlying9
  a9 := Try.isAgg9
  z9 := Try.sizeOf9
  v9 := Try.zeroValue9
  t46 := Try.underlying118
  a46 := Try.isAgg118
  z46 := Try.sizeOf118
  v46 := Try.zeroValue118
  t51 := Try.underlying160
  a51 := Try.isAgg160
  z51 := Try.sizeOf160
  v51 := Try.zeroValue160
  t53 := Try.underlying113
  a53 := Try.isAgg113
  z53 := Try.sizeOf113
  v53 := Try.zeroValue113 }
theorem Try.bits_Len (x : Int) (w : World) (h0 : 0 ≤ x) (h1 : x ≤ 18446744073709551615) :
    Calls Try.prog 104 #[.int .u64 x] w fun e w' => e = .returned (.int .i64 (Lib.bitLen x.toNat)) ∧ w' = w := Any.bits_Len Try.lays125 x w h0 h1
def Try.lays134_ren : Go.Shelf.Ren := ⟨fun | 134 => 106 | 129 => 121 | n => n, fun | 53 => 113 | 3 => 3 | 4 => 4 | 46 => 118 | 5 => 5 | 9 => 9 | n => n, fun | n => n⟩
theorem Try.lays134 : Go.Proofs.Lays.n134 Try.prog Try.lays134_ren := {
  mixed := by kernel_rfl
  f129 := Try.func121.trans (congrArg some (by kernel_rfl))
  f134 := Try.func106.trans (congrArg some (by kernel_rfl))
  t3 := Try.underlying3
  a3 := Try.isAgg3
  z3 := Try.sizeOf3
  v3 := Try.zeroValue3
  t4 := Try.underlying4
  a4 := Try.isAgg4
  z4 := Try.sizeOf4
  v4 := Try.zeroValue4
  t5 := Try.underlying5
  a5 := Try.isAgg5
  z5 := Try.sizeOf5
  v5 := Try.zeroValue5
  t9 := Try.underlying9
  a9 := Try.isAgg9
  z9 := Try.sizeOf9
  v9 := Try.zeroValue9
  t46 := Try.underlying118
  a46 := Try.isAgg118
  z46 := Try.sizeOf118
  v46 := Try.zeroValue118
  t53 := Try.underlying113
  a53 := Try.isAgg113
  z53 := Try.sizeOf113
  v53 := Try.zeroValue113 }
theorem Try.bits_LeadingZeros64 (x : Int) (w : World) (h0 : 0 ≤ x) (h1 : x ≤ 18446744073709551615) :
    Calls Try.prog 106 #[.int .u64 x] w fun e w' => e = .returned (.int .i64 (64 - (Lib.bitLen x.toNat : Int))) ∧ w' = w := Any.bits_LeadingZeros64 Try.lays134 x w h0 h1
def Try.lays129_ren : Go.Shelf.Ren := ⟨fun | 129 => 121 | n => n, fun | 53 => 113 | 3 => 3 | 4 => 4 | 46 => 118 | 5 => 5 | 9 => 9 | n => n, fun | n => n⟩
theorem Try.lays129 : Go.Proofs.Lays.n129 Try.prog Try.lays129_ren := {
  mixed := by kernel_rfl
  f129 := Try.func121.trans (congrArg some (by kernel_rfl))
  t3 := Try.underlying3
  a3 := Try.isAgg3
  z3 := Try.sizeOf3
  v3 := Try.zeroValue3
  t4 := Try.underlying4
  a4 := Try.isAgg4
  z4 := Try.sizeOf4
  v4 := Try.zeroValue4
  t5 := Try.underlying5
  a5 := Try.isAgg5
  z5 := Try.sizeOf5
  v5 := Try.zeroValue5
  t9 := Try.underlying9
  a9 := Try.isAgg9
  z9 := Try.sizeOf9
  v9 := Try.zeroValue9
  t46 := Try.underlying118
  a46 := Try.isAgg118
  z46 := Try.sizeOf118
  v46 := Try.zeroValue118
  t53 := Try.underlying113
  a53 := Try.isAgg113
  z53 := Try.sizeOf113
  v53 := Try.zeroValue113 }
theorem Try.bits_Len64 (x : Int) (w : World) (h0 : 0 ≤ x) (h1 : x ≤ 18446744073709551615) :
    Calls Try.prog 121 #[.int .u64 x] w fun e w' => e = .returned (.int .i64 (Lib.bitLen x.toNat)) ∧ w' = w := Any.bits_Len64 Try.lays129 x w h0 h1
def Try.lays264_ren : Go.Shelf.Ren := ⟨fun | 264 => 88 | n => n, fun | 53 => 113 | 46 => 118 | n => n, fun | n => n⟩
theorem Try.lays264 : Go.Proofs.Lays.n264 Try.prog Try.lays264_ren := {
  mixed := by kernel_rfl
  f264 := Try.func88.trans (congrArg some (by kernel_rfl))
  t46 := Try.underlying118
  a46 := Try.isAgg118
  z46 := Try.sizeOf118
  v46 := Try.zeroValue118
  t53 := Try.underlying113
  a53 := Try.isAgg113
  z53 := Try.sizeOf113
  v53 := Try.zeroValue113 }
open Go.RowKit Go.Lib in
theorem Try.bits_Mul64 (x y : Nat) (hx : x < 18446744073709551616) (hy : y < 18446744073709551616) (w : World) :
    Calls Try.prog 88 #[.int .u64 x, .int .u64 y] w fun e w' => e = .returned (.tuple #[.int .u64 ((x * y / 18446744073709551616 : Nat) : Int), .int .u64 ((x * y % 18446744073709551616 : Nat) : Int)]) ∧ w' = w := Any.bits_Mul64 Try.lays264 x y hx hy w
end Go.Proofs

/- safe.Add, Mul and what it calls, for every input. -/
namespace Go.Proofs.Ytflplliiamodhaa
open Go.RowKit
set_option linter.unusedVariables false

theorem size_any (a : Int) (w : World) (ha : -9223372036854775808 ≤ a ∧ a ≤ 9223372036854775807) :
    Calls Try.prog 89 #[.int .i64 a] w fun e w' => e = .returned (.int .u64 (a.natAbs : Int)) ∧ w = w' := by
  go_enter Try.func89, Try.ntmps89
  go_wp2
  all_goals
    go_ret
    exact ⟨ret_int (by first | omega | (simp only [IntKind.wrap_u64]; omega)), rfl⟩
theorem signed_any (n : Int) (h : 0 ≤ n ∧ n ≤ 18446744073709551615) (neg : Bool) (w : World) :
    Calls Try.prog 91 #[.int .u64 n, .bool neg] w fun e w' => e = .returned (.tuple #[.int .i64 (vI (sg n neg)), .int .i64 (eI (sg n neg))]) ∧ w = w' := by
  cases neg
  all_goals
    go_enter Try.func91, Try.ntmps91
    go_wp2
    all_goals
      go_ret2
      refine ⟨ret2 ?_ ?_, rfl⟩
      all_goals
        simp only [sg, vI, eI, InI, wrap64, IntKind.wrap_u64, if_true, Bool.false_eq_true, if_false]
        split <;> omega
theorem mul_abs (a b : Int) : a * b = sg ((a.natAbs * b.natAbs : Nat) : Int) ((decide (a < 0)) != decide (b < 0)) := by
  rw [← Int.natAbs_mul]
  unfold sg
  rcases Int.lt_trichotomy a 0 with h | h | h <;> rcases Int.lt_trichotomy b 0 with k | k | k
  case inl.inl => have := Int.mul_pos_of_neg_of_neg h k; simp [h, k]; omega
  case inl.inr.inr => have := Int.mul_neg_of_neg_of_pos h k; simp [h, show ¬ b < 0 by omega]; omega
  case inr.inr.inl => have := Int.mul_neg_of_pos_of_neg h k; simp [k, show ¬ a < 0 by omega]; omega
  case inr.inr.inr.inr => have := Int.mul_pos h k; simp [show ¬ a < 0 by omega, show ¬ b < 0 by omega]; omega
  all_goals (subst_vars; simp)
theorem sg_out {n : Int} {neg : Bool} (h : 18446744073709551616 ≤ n) : ¬ InI (sg n neg) := by unfold InI sg; cases neg <;> simp <;> omega

end Go.Proofs.Ytflplliiamodhaa

/- The arithmetic of a division of two words by one, digit by digit; nothing of any program. -/
namespace Go.Proofs.Ytflplliiamodhaa.DivMath
set_option linter.unusedVariables false

/-- one digit: the estimate from above is at most one too large twice -/
theorem start (V1 V0 U u : Int) (h1 : 2147483648 ≤ V1) (h0 : 0 ≤ V0 ∧ V0 < 4294967296) (hU : 0 ≤ U ∧ U < V1 * 4294967296 + V0) (hu : 0 ≤ u ∧ u < 4294967296) :
    0 ≤ U / V1 ∧ U / V1 ≤ 4294967297 ∧ (U * 4294967296 + u) / (V1 * 4294967296 + V0) ≤ U / V1 ∧ U / V1 * V1 ≤ U ∧ U - U / V1 * V1 < V1 := by
  have hp : 0 < V1 := by omega
  have e := Int.mul_ediv_add_emod U V1
  have m0 := Int.emod_nonneg U (by omega : V1 ≠ 0)
  have m1 := Int.emod_lt_of_pos U hp
  rw [Int.mul_comm] at e
  refine ⟨Int.ediv_nonneg hU.1 (by omega), ?_, ?_, by omega, by omega⟩
  · apply Int.le_of_lt_add_one
    apply Int.ediv_lt_of_lt_mul hp
    omega
  · apply Int.le_of_lt_add_one
    apply Int.ediv_lt_of_lt_mul (by omega)
    have h2 : U < (U / V1 + 1) * V1 := by rw [Int.add_mul]; omega
    have h3 : (U + 1) * 4294967296 ≤ ((U / V1 + 1) * V1) * 4294967296 := by omega
    have h4 : 0 ≤ (U / V1 + 1) * V0 := Int.mul_nonneg (by have := Int.ediv_nonneg hU.1 (by omega : (0:Int) ≤ V1); omega) h0.1
    have e2 : (U / V1 + 1) * (V1 * 4294967296 + V0) = ((U / V1 + 1) * V1) * 4294967296 + (U / V1 + 1) * V0 := by rw [Int.mul_add, Int.mul_assoc]
    omega

theorem small (Y U u : Int) (hU : 0 ≤ U ∧ U < Y) (hu : 0 ≤ u ∧ u < 4294967296) : 0 ≤ (U * 4294967296 + u) / Y ∧ (U * 4294967296 + u) / Y < 4294967296 :=
  ⟨Int.ediv_nonneg (by omega) (by omega), Int.ediv_lt_of_lt_mul (by omega) (by omega)⟩

theorem prod (V1 V0 U q r : Int) (hr : q * V1 + r = U) : q * (V1 * 4294967296 + V0) = (U - r) * 4294967296 + q * V0 := by
  rw [Int.mul_add, ← Int.mul_assoc]
  omega

/-- the product is too large: so is the digit -/
theorem over (V1 V0 U u q r : Int) (hp : 0 < V1 * 4294967296 + V0) (hr : q * V1 + r = U) (h : r * 4294967296 + u < q * V0) :
    (U * 4294967296 + u) / (V1 * 4294967296 + V0) ≤ q - 1 := by
  apply Int.le_of_lt_add_one
  apply Int.ediv_lt_of_lt_mul hp
  have := prod V1 V0 U q r hr
  rw [show q - 1 + 1 = q from by omega]
  omega

/-- it is not: then the digit is right -/
theorem right (V1 V0 U u q r : Int) (hp : 0 < V1 * 4294967296 + V0) (hr : q * V1 + r = U) (hq : (U * 4294967296 + u) / (V1 * 4294967296 + V0) ≤ q) (h : q * V0 ≤ r * 4294967296 + u) :
    (U * 4294967296 + u) / (V1 * 4294967296 + V0) = q := by
  apply Int.le_antisymm hq
  apply Int.le_ediv_of_mul_le hp
  have := prod V1 V0 U q r hr
  omega

/-- the rest is past a word: then the digit is right -/
theorem past (V1 V0 U u q r : Int) (hp : 0 < V1 * 4294967296 + V0) (h0 : 0 ≤ V0 ∧ V0 < 4294967296) (hu : 0 ≤ u) (hr : q * V1 + r = U) (hq : (U * 4294967296 + u) / (V1 * 4294967296 + V0) ≤ q) (h0q : 0 ≤ q) (hq2 : q ≤ 4294967296) (h : 4294967296 ≤ r) :
    (U * 4294967296 + u) / (V1 * 4294967296 + V0) = q := by
  apply right V1 V0 U u q r hp hr hq
  have h1 : q * V0 ≤ 4294967296 * V0 := Int.mul_le_mul_of_nonneg_right hq2 h0.1
  omega

theorem rest (Y N q : Int) (hp : 0 < Y) (h : N / Y = q) : 0 ≤ N - q * Y ∧ N - q * Y < Y := by
  have e := Int.mul_ediv_add_emod N Y
  have m0 := Int.emod_nonneg N (by omega : Y ≠ 0)
  have m1 := Int.emod_lt_of_pos N hp
  rw [h, Int.mul_comm] at e
  omega
theorem mul_lt (q v : Int) (hq : 0 ≤ q ∧ q ≤ 4294967296) (hv : 0 ≤ v ∧ v < 4294967296) : 0 ≤ q * v ∧ q * v < 18446744073709551616 := by
  refine ⟨Int.mul_nonneg hq.1 hv.1, ?_⟩
  have h1 : q * v ≤ 4294967296 * v := Int.mul_le_mul_of_nonneg_right hq.2 hv.1
  omega
theorem mul_lt' (q v : Int) (hq : 0 ≤ q ∧ q ≤ 4294967297) (hv : 0 ≤ v ∧ v < 4294967296) : 0 ≤ q * v ∧ q * v ≤ 18446744073709551615 := by
  refine ⟨Int.mul_nonneg hq.1 hv.1, ?_⟩
  have h1 : q * v ≤ 4294967297 * v := Int.mul_le_mul_of_nonneg_right hq.2 hv.1
  omega

/-- two digits make the quotient; the rest, moved back -/
theorem two (Y hi32 u1 u0 q1 q0 : Int) (hY : 0 < Y) (h1 : (hi32 * 4294967296 + u1) / Y = q1) (h0 : ((hi32 * 4294967296 + u1 - q1 * Y) * 4294967296 + u0) / Y = q0) :
    (hi32 * 18446744073709551616 + u1 * 4294967296 + u0) / Y = q1 * 4294967296 + q0 ∧
    (hi32 * 18446744073709551616 + u1 * 4294967296 + u0) % Y = (hi32 * 4294967296 + u1 - q1 * Y) * 4294967296 + u0 - q0 * Y := by
  have r0 := rest Y _ q0 hY h0
  have e : (hi32 * 18446744073709551616 + u1 * 4294967296 + u0) = ((hi32 * 4294967296 + u1 - q1 * Y) * 4294967296 + u0 - q0 * Y) + (q1 * 4294967296 + q0) * Y := by
    rw [Int.add_mul, Int.mul_assoc q1 4294967296 Y, Int.mul_comm 4294967296 Y, ← Int.mul_assoc]
    omega
  constructor
  · rw [e, Int.add_mul_ediv_right _ _ (by omega), Int.ediv_eq_zero_of_lt r0.1 r0.2]
    omega
  · rw [e, Int.add_mul_emod_self_right, Int.emod_eq_of_lt r0.1 r0.2]

/-- a division of both by one power: the quotient is the same, the rest is moved -/
theorem scaled (N Y s : Int) (hY : 0 < Y) (hs : 0 < s) : N * s / (Y * s) = N / Y ∧ N * s % (Y * s) / s = N % Y := by
  constructor
  · rw [Int.mul_ediv_mul_of_pos_left _ _ hs]
  · rw [Int.mul_comm N s, Int.mul_comm Y s, Int.mul_emod_mul_of_pos _ _ hs, Int.mul_ediv_cancel_left _ (by omega)]
end Go.Proofs.Ytflplliiamodhaa.DivMath
