/- Contracts of package safe, each for every input. -/
import Derived.Test.YtjglpgicboocmaaRows
import Derived.WalkKit
import Derived.WalkLawsBesides
import Derived.WalkSpells
import Derived.Lib.Hide
import Derived.Deep.QuietTactic
import Derived.BigQuiet
import Derived.Deep.RegionWith
namespace Go.Proofs.Ytjglpgicboocmaa
open Go.RowKit

theorem ret2 {k l : IntKind} {a b c d : Int} (h : a = b) (h' : c = d) : Ending.returned (.tuple #[.int k a, .int l c]) = Ending.returned (.tuple #[.int k b, .int l d]) := by rw [h, h']
theorem ret_int {k : IntKind} {a b : Int} (h : a = b) : Ending.returned (.int k a) = .returned (.int k b) := by rw [h]
def sg (n : Int) (neg : Bool) : Int := if neg then -n else n
def InI (x : Int) : Prop := -9223372036854775808 ≤ x ∧ x ≤ 9223372036854775807
instance (x : Int) : Decidable (InI x) := by unfold InI; exact inferInstance
def vI (x : Int) : Int := if InI x then x else 0
def eI (x : Int) : Int := if InI x then 0 else 12
theorem vI_in {x : Int} (h : InI x) : vI x = x := if_pos h
theorem eI_in {x : Int} (h : InI x) : eI x = 0 := if_pos h
theorem vI_out {x : Int} (h : ¬ InI x) : vI x = 0 := if_neg h
theorem eI_out {x : Int} (h : ¬ InI x) : eI x = 12 := if_neg h

theorem add_any (a b : Int) (w : World) (ha : -9223372036854775808 ≤ a ∧ a ≤ 9223372036854775807) (hb : -9223372036854775808 ≤ b ∧ b ≤ 9223372036854775807) :
    Calls Try.prog 11 #[.int .i64 a, .int .i64 b] w fun e w' => e = .returned (.tuple #[.int .i64 (vI (a + b)), .int .i64 (eI (a + b))]) ∧ w = w' := by
  go_enter Try.func11, Try.ntmps11
  go_wp2
  all_goals
    go_ret2
    first
    | (have h : ¬ InI (a + b) := by
        simp only [wrap64, Bool.beq_eq_decide_eq, InI] at *
        (try simp at *)
        omega
       exact ⟨ret2 (vI_out h).symm (eI_out h).symm, rfl⟩)
    | (have h : InI (a + b) := by
        simp only [wrap64, Bool.beq_eq_decide_eq, InI] at *
        (try simp at *)
        omega
       exact ⟨ret2 (by rw [vI_in h]; exact IntWalk.wrap64_in _ h) (eI_in h).symm, rfl⟩)
theorem sub_any (a b : Int) (w : World) (ha : -9223372036854775808 ≤ a ∧ a ≤ 9223372036854775807) (hb : -9223372036854775808 ≤ b ∧ b ≤ 9223372036854775807) :
    Calls Try.prog 12 #[.int .i64 a, .int .i64 b] w fun e w' => e = .returned (.tuple #[.int .i64 (vI (a - b)), .int .i64 (eI (a - b))]) ∧ w = w' := by
  go_enter Try.func12, Try.ntmps12
  go_wp2
  all_goals
    go_ret2
    first
    | (have h : ¬ InI (a - b) := by
        simp only [wrap64, Bool.beq_eq_decide_eq, InI] at *
        (try simp at *)
        omega
       exact ⟨ret2 (vI_out h).symm (eI_out h).symm, rfl⟩)
    | (have h : InI (a - b) := by
        simp only [wrap64, Bool.beq_eq_decide_eq, InI] at *
        (try simp at *)
        omega
       exact ⟨ret2 (by rw [vI_in h]; exact IntWalk.wrap64_in _ h) (eI_in h).symm, rfl⟩)
theorem size_any (a : Int) (w : World) (ha : -9223372036854775808 ≤ a ∧ a ≤ 9223372036854775807) :
    Calls Try.prog 20 #[.int .i64 a] w fun e w' => e = .returned (.int .u64 (a.natAbs : Int)) ∧ w = w' := by
  go_enter Try.func20, Try.ntmps20
  go_wp2
  all_goals
    go_ret
    exact ⟨ret_int (by first | omega | (simp only [IntKind.wrap_u64]; omega)), rfl⟩
theorem signed_any (n : Int) (h : 0 ≤ n ∧ n ≤ 18446744073709551615) (neg : Bool) (w : World) :
    Calls Try.prog 21 #[.int .u64 n, .bool neg] w fun e w' => e = .returned (.tuple #[.int .i64 (vI (sg n neg)), .int .i64 (eI (sg n neg))]) ∧ w = w' := by
  cases neg
  all_goals
    go_enter Try.func21, Try.ntmps21
    go_wp2
    all_goals
      go_ret2
      refine ⟨ret2 ?_ ?_, rfl⟩
      all_goals
        simp only [sg, vI, eI, InI, wrap64, IntKind.wrap_u64, if_true, Bool.false_eq_true, if_false]
        split <;> omega
theorem clamp_any (a b c : Int) (w : World) :
    Calls Try.prog 15 #[.int .i64 a, .int .i64 b, .int .i64 c] w fun e w' => e = .returned (.int .i64 (min (max a b) c)) ∧ w = w' := by
  go_enter Try.func15, Try.ntmps15
  go_wp2
  all_goals
    go_ret
    exact ⟨ret_int (by omega), rfl⟩
end Go.Proofs.Ytjglpgicboocmaa
