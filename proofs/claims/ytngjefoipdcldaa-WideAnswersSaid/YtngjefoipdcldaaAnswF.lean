/- noonmarklaw02.WideAnswers: true for every input. -/
import Derived.Test.YtngjefoipdcldaaAnswW
namespace Go.Proofs.Ytngjefoipdcldaa
open Go.RowKit
set_option linter.unusedVariables false

theorem answers_any (h l g m : Int) (w : World) (hh : -9223372036854775808 ≤ h ∧ h ≤ 9223372036854775807) (hl : 0 ≤ l ∧ l ≤ 18446744073709551615) (hg : -9223372036854775808 ≤ g ∧ g ≤ 9223372036854775807) (hm : 0 ≤ m ∧ m ≤ 18446744073709551615) :
    Calls Try.prog 3 #[.agg #[.int .i64 h, .int .u64 l], .agg #[.int .i64 g, .int .u64 m]] w fun e w' => e = .returned (.bool true) ∧ Below w.heap.size w w' :=
  answers_walk (wz h l) (wz g m) h l g m w (wz_inW hh hl) (wz_inW hg hm) (wI_wz hh hl) (wI_wz hg hm)
theorem bduA {a : Int} (h : (Lit.int .u64 a).wf = true) : 0 ≤ a ∧ a ≤ 18446744073709551615 := by simp [Lit.wf, IntKind.min, IntKind.max, IntKind.signed, IntKind.bits] at h; exact h
end Go.Proofs.Ytngjefoipdcldaa
