/- Two arrays of 65 counts, compared. -/
import Derived.Test.YtldgdedfioigiaaHistM
import Derived.ChangeKeysEq
import Derived.Laws.StructEq
namespace Go.Proofs.Ytldgdedfioigiaa
open Go.RowKit
set_option linter.unusedVariables false

theorem run_part65 (l : List Int) (k : Nat) (hk : k < l.length) (w : World) : (part 2 (hC l) (k * 1)).run Try.prog w = .ok (.int .i64 (l.getD k 0)) w := by
  have hc := hC_get l k hk
  simp [part, go_sem, Try.sizeOf2, Try.isAgg2, hc]
theorem run_eqInt (d : Nat) (a b : Int) (w : World) : (Op.equalIn (d + 1) 2 (.int .i64 a) (.int .i64 b)).run Try.prog w = .ok (a == b) w := by
  simp [Op.equalIn, run_underlying Try.underlying2, go_sem]
theorem run_items65 (d : Nat) (l m : List Int) (w : World) : ∀ (is : List Nat), (∀ i ∈ is, i < l.length ∧ i < m.length) → (Op.eqItems (d + 1) 2 1 (hC l) (hC m) is).run Try.prog w = .ok (is.all fun i => l.getD i 0 == m.getD i 0) w
  | [], h => by simp [Op.eqItems]
  | i :: is, h => by
    have hi := h i (by simp)
    have hr := run_items65 d l m w is (fun j hj => h j (by simp [hj]))
    simp only [Op.eqItems, Sem.run_bind, run_part65 l i hi.1, run_part65 m i hi.2, Result.andThen_ok, run_eqInt, List.all_cons]
    cases l.getD i 0 == m.getD i 0
    · simp
    · simpa using hr
theorem all_eq65 {l m : List Int} (hl : l.length = 65) (hm : m.length = 65) : ((List.range 65).all fun i => l.getD i 0 == m.getD i 0) = decide (l = m) := by
  by_cases h : l = m
  · subst h; simp
  · rw [decide_eq_false h]
    cases e : (List.range 65).all fun i => l.getD i 0 == m.getD i 0 with
    | false => rfl
    | true =>
      rw [List.all_eq_true] at e
      exact absurd (ext65 hl hm fun b hb => eq_of_beq (e b (List.mem_range.2 hb))) h
theorem h_equal {l m : List Int} (hl : l.length = 65) (hm : m.length = 65) (w : World) : (Op.equalIn 10000 33 (.agg (hC l)) (.agg (hC m))).run Try.prog w = .ok (decide (l = m)) w := by
  obtain ⟨i, hi⟩ : ∃ i, Try.prog.info? 2 = some i := ⟨_, rfl⟩
  have hc : Try.prog.cellsOf 2 = 1 := by kernel_rfl
  rw [show (10000 : Nat) = 9998 + 1 + 1 from rfl, run_equalIn_array (P := Try.prog) w (9998 + 1) (hC l) (hC m) h_under hi, hc, run_items65 9998 l m w (List.range 65) (fun i hi => by rw [hl, hm]; have := List.mem_range.1 hi; exact ⟨this, this⟩), all_eq65 hl hm]
theorem h_guard : Try.prog.eqGuardType Try.prog.depth 33 = false := by kernel_rfl
theorem h_eql {l m : List Int} (hl : l.length = 65) (hm : m.length = 65) (w : World) : (binOp .eql 33 (.agg (hC l)) (.agg (hC m))).run Try.prog w = .ok (.bool (decide (l = m))) w := by
  rw [run_eql_struct, h_equal hl hm]; rfl
theorem h_neq {l m : List Int} (hl : l.length = 65) (hm : m.length = 65) (w : World) : (binOp .neq 33 (.agg (hC l)) (.agg (hC m))).run Try.prog w = .ok (.bool (!decide (l = m))) w := by
  rw [run_neq_struct, h_equal hl hm]; rfl
theorem w_guard : Try.prog.eqGuardType Try.prog.depth 47 = false := by kernel_rfl
theorem w_eql (a b : Int) (w : World) : (binOp .eql 47 (.agg #[.int .i64 a, .int .u64 b]) (.agg #[.int .i64 a, .int .u64 b])).run Try.prog w = .ok (.bool true) w := by
  simp [go_sem]
theorem w_eql_at (ev : Operand → Value) (o : Oper) (x y : Operand) (X1 X2 : Int) (w : World) (ho : o.op = .binOp .eql 47 x y 47) (hx : ev x = .agg #[.int .i64 X1, .int .u64 X2]) (hy : ev y = .agg #[.int .i64 X1, .int .u64 X2]) : Sem.run Try.prog (execOp ev o) w = .ok (Next.value (.bool true)) w := by
  have hwe := fun W => w_eql X1 X2 W
  have hwg := w_guard
  simp only [execOp, ho, hx, hy]
  go_simp
theorem h_eql_at (ev : Operand → Value) (o : Oper) (x y : Operand) (C : Array Value) (w : World) (ho : o.op = .binOp .eql 33 x y 33) (hx : ev x = .agg C) (hy : ev y = .agg C) (h : ∀ W, (binOp .eql 33 (.agg C) (.agg C)).run Try.prog W = .ok (.bool true) W) : Sem.run Try.prog (execOp ev o) w = .ok (Next.value (.bool true)) w := by
  have hwg := h_guard
  simp only [execOp, ho, hx, hy]
  go_simp
end Go.Proofs.Ytldgdedfioigiaa
