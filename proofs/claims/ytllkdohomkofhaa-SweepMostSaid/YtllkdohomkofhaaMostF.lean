/- SweepMost for every input. -/
import Derived.Test.YtllkdohomkofhaaMostW
import Derived.Test.YtllkdohomkofhaaPairs
namespace Go.Proofs.Ytllkdohomkofhaa
open Go.RowKit
set_option linter.unusedVariables false

theorem sweepmost_any (xa : Option Addr) (c : Nat) (L : List (Int × Int)) (x : Int) (w : World) (hx : PairRow w xa L) (hin : ∀ q ∈ L, (Lit.int .i64 q.1).wf = true ∧ (Lit.int .i64 q.2).wf = true) :
    Calls Try.prog 4 #[.slice xa L.length c, .int .i64 x] w fun e w' => e = .returned (.bool true) ∧ Below w.heap.size w w' := by
  by_cases h1 : (100 : Int) < (L.length : Int)
  · exact most_out xa L.length c x w h1
  exact most_any xa c L x w hx (fun q hq => ⟨bd (hin q hq).1, bd (hin q hq).2⟩) (by omega)
end Go.Proofs.Ytllkdohomkofhaa
