/- SweepAnswers for every input. -/
import Derived.Test.YtllkdohomkofhaaAnsW
import Derived.Test.YtllkdohomkofhaaPairs
namespace Go.Proofs.Ytllkdohomkofhaa
open Go.RowKit
set_option linter.unusedVariables false

theorem sweepanswers_any (xa : Option Addr) (c : Nat) (L : List (Int × Int)) (x f : Int) (w : World) (hx : PairRow w xa L) (hin : ∀ q ∈ L, (Lit.int .i64 q.1).wf = true ∧ (Lit.int .i64 q.2).wf = true) (hn : xa = none → c = 0) (hf : (Lit.int .i64 f).wf = true) :
    Calls Try.prog 3 #[.slice xa L.length c, .int .i64 x, .int .i64 f] w fun e w' => e = .returned (.bool true) ∧ Below w.heap.size w w' := by
  by_cases h : (100 : Int) < (L.length : Int)
  · exact answ_out xa L.length c x f w h
  exact answ_any xa c L x f w hx hn (fun q hq => ⟨bd (hin q hq).1, bd (hin q hq).2⟩) (by omega) (bd hf)
end Go.Proofs.Ytllkdohomkofhaa
