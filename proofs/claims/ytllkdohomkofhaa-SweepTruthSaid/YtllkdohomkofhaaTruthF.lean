/- SweepTruth for every input. -/
import Derived.Test.YtllkdohomkofhaaTruthW
import Derived.Test.YtllkdohomkofhaaPairs
namespace Go.Proofs.Ytllkdohomkofhaa
open Go.RowKit
set_option linter.unusedVariables false

theorem sweeptruth_any (xa : Option Addr) (c : Nat) (L : List (Int × Int)) (x f : Int) (w : World) (hx : PairRow w xa L) (hin : ∀ q ∈ L, (Lit.int .i64 q.1).wf = true ∧ (Lit.int .i64 q.2).wf = true) (hf : (Lit.int .i64 f).wf = true) :
    Calls Try.prog 5 #[.slice xa L.length c, .int .i64 x, .int .i64 f] w fun e w' => e = .returned (.bool true) ∧ Below w.heap.size w w' := by
  by_cases h1 : (100 : Int) < (L.length : Int)
  · exact truth_out xa L.length c x f w (.inl h1)
  by_cases h2 : f < 0
  · exact truth_out xa L.length c x f w (.inr ⟨h1, h2⟩)
  exact truth_any xa c L x f w hx (fun q hq => ⟨bd (hin q hq).1, bd (hin q hq).2⟩) (by omega) (by omega) (bd hf)
end Go.Proofs.Ytllkdohomkofhaa
