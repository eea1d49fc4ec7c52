/- wide.size, Long, Add, Sub: for every input. -/
import Derived.Test.YtpmoidpncpfnlaaWideA
namespace Go.Proofs.Ytpmoidpncpfnlaa
open Go.RowKit
set_option linter.unusedVariables false

theorem wlong_any (z : Int) (w : World) (hz : InW z) : Calls Try.prog 75 #[wI z] w (Gives (.tuple #[.int .i64 (vI z), .bool (decide (InI z))]) w) := by
  obtain ⟨h, l, e, hh, hl, eh, el⟩ := wI_letters z
  have hi : (h = wrap64 l / 9223372036854775808) ↔ InI z := by
    have e1 : z = h * 18446744073709551616 + l := by rw [eh, el]; exact (wz_in hz).symm
    have e2 : wrap64 l = l ∧ l ≤ 9223372036854775807 ∨ wrap64 l = l - 18446744073709551616 ∧ 9223372036854775808 ≤ l := by unfold wrap64; omega
    unfold InI
    rcases e2 with ⟨e2, e3⟩ | ⟨e2, e3⟩ <;> rw [e2] <;> omega
  rw [e]
  have fin : (if InI z then wrap64 l else 0) = vI z := by
    unfold vI
    by_cases hc : InI z
    · rw [if_pos hc, if_pos hc, el]
      unfold InI at hc
      unfold loW wrap64
      omega
    · rw [if_neg hc, if_neg hc]
  have F := Lib.hid fin
  clear fin e eh el hz
  by_cases hc : InI z
  · have hd : (h != wrap64 l / 9223372036854775808) = false := by rw [bne_eq_false_iff_eq]; exact hi.2 hc
    rw [if_pos hc] at F
    rw [decide_eq_true hc]
    clear hi hc
    go_enter Try.func75, Try.ntmps75
    go_wp2
    go_ret2
    exact ⟨by rw [← F.out]; rfl, one_alloc _ _⟩
  · have hd : (h != wrap64 l / 9223372036854775808) = true := by rw [bne_iff_ne]; exact fun x => hc (hi.1 x)
    rw [if_neg hc] at F
    rw [decide_eq_false hc]
    clear hi hc
    go_enter Try.func75, Try.ntmps75
    go_wp2
    go_ret2
    exact ⟨by rw [← F.out]; rfl, one_alloc _ _⟩
theorem wI_zero : wI 0 = .agg #[.int .i64 0, .int .u64 0] := by
  have e1 : hiW 0 = 0 := by unfold hiW wrap64; omega
  have e2 : loW 0 = 0 := by unfold loW; omega
  unfold wI
  rw [e1, e2]
def vW (z : Int) : Int := if InW z then z else 0
def eW (z : Int) : Int := if InW z then 0 else 12
theorem vW_in {z : Int} (h : InW z) : vW z = z := if_pos h
theorem eW_in {z : Int} (h : InW z) : eW z = 0 := if_pos h
theorem vW_out {z : Int} (h : ¬ InW z) : vW z = 0 := if_neg h
theorem eW_out {z : Int} (h : ¬ InW z) : eW z = 12 := if_neg h
theorem over_add {a b : Int} (ha : InW a) (hb : InW b) : ((decide (hiW a < 0) == decide (hiW b < 0)) && (decide (hiW (a + b) < 0) != decide (hiW a < 0))) = decide (¬ InW (a + b)) := by
  have h1 := hiW_neg ha
  have h2 := hiW_neg hb
  rw [show decide (hiW a < 0) = decide (a < 0) from decide_eq_decide.2 h1, show decide (hiW b < 0) = decide (b < 0) from decide_eq_decide.2 h2]
  unfold InW at *
  rw [Bool.eq_iff_iff]
  simp only [Bool.and_eq_true, beq_iff_eq, bne_iff_ne, ne_eq, decide_eq_true_eq, decide_eq_decide]
  unfold hiW wrap64
  omega
theorem over_sub {a b : Int} (ha : InW a) (hb : InW b) : ((decide (hiW a < 0) != decide (hiW b < 0)) && (decide (hiW (a - b) < 0) != decide (hiW a < 0))) = decide (¬ InW (a - b)) := by
  have h1 := hiW_neg ha
  have h2 := hiW_neg hb
  rw [show decide (hiW a < 0) = decide (a < 0) from decide_eq_decide.2 h1, show decide (hiW b < 0) = decide (b < 0) from decide_eq_decide.2 h2]
  unfold InW at *
  rw [Bool.eq_iff_iff]
  simp only [Bool.and_eq_true, bne_iff_ne, ne_eq, decide_eq_true_eq, decide_eq_decide]
  unfold hiW wrap64
  omega
end Go.Proofs.Ytpmoidpncpfnlaa
