/- HistParts: the counts of two lists are those of both. -/
import Derived.Test.YtldgdedfioigiaaOrdM
namespace Go.Proofs.Ytldgdedfioigiaa
open Go.RowKit
set_option linter.unusedVariables false

theorem sumR_cnt (a b : List Int) : sumR [cntL a, cntL b] = cntL (a ++ b) :=
  ext65 (sumR_len _) (cntL_len _) fun k hk => by
    rw [sumR_get _ _ hk, colS2, cntL_get _ _ hk, cntL_get _ _ hk, cntL_get _ _ hk, List.countP_append]
    omega
theorem mg_cnt {a b : List Int} {w w' : World} {e : Ending} (hl : a.length + b.length ≤ 4000000000) (h : MgOut [cntL a, cntL b] w e w') : Gives (.tuple #[.agg (hC (cntL (a ++ b))), .int .i64 0]) w e w' := by
  have h2 := mg_ok h (negP2 (cnt_ok a) (cnt_ok b)) (overP2 fun k hk => by
    have h1 := (cntL_le a k hk).2
    have h2 := (cntL_le b k hk).2
    omega)
  rw [sumR_cnt] at h2
  exact h2
end Go.Proofs.Ytldgdedfioigiaa
