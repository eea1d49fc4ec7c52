/- HistRanks for every input. -/
import Derived.Test.YtldgdedfioigiaaRanksW
import Derived.Test.YtldgdedfioigiaaArr
namespace Go.Proofs.Ytldgdedfioigiaa
open Go.RowKit
set_option linter.unusedVariables false

theorem histranks_any (l : List Int) (h l0 : Int) (w : World) (h65 : l.length = 65) (hin : ∀ x ∈ l, InI x) (hh : (Lit.int .i64 h).wf = true) (hl : (Lit.int .u64 l0).wf = true) :
    Calls Try.prog 5 #[.agg (l.map (Value.int .i64)).toArray, .agg #[.int .i64 h, .int .u64 l0]] w fun e w' => e = .returned (.bool true) ∧ Below w.heap.size w w' := by
  have h1 := bd hh
  unfold InI at h1
  have h2 : 0 ≤ l0 ∧ l0 ≤ 18446744073709551615 := by simp [Lit.wf, IntKind.min, IntKind.max, IntKind.signed, IntKind.bits] at hl; exact hl
  have h := ranks_any l (wz h l0) w h65 (fun b hb => getD_of_all l hin b (by omega)) (wz_inW h1 h2)
  rw [wI_wz h1 h2] at h
  exact h
end Go.Proofs.Ytldgdedfioigiaa
