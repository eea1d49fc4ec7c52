/- ClockMeets, for every input. -/
import Derived.Test.YtflplliiamodhaaMeetsW
import Derived.Test.YtflplliiamodhaaQuads
namespace Go.Proofs.Ytflplliiamodhaa
open Go.RowKit
theorem clkmeets_any (r t : Int) (x : Option Addr) (xc : Nat) (A : List Sm) (ma mg ms mc : Int) (w : World) (hx : QuadRow w x A) :
    Calls Try.prog 7 #[.int .i64 r, .slice x A.length xc, .agg #[.int .i64 ma, .int .i64 mg, .int .i64 ms, .int .i64 mc], .int .i64 t] w fun e w' => e = .returned (.bool true) ∧ Below w.heap.size w w' := by
  by_cases h : (60 : Int) < (A.length : Int)
  · exact meets_out r t x A.length xc ma mg ms mc w h
  · by_cases hn : newOk r 2
    · exact meets_any r t x xc A ma mg ms mc w hx (by omega) hn
    · exact meets_no r t x A.length xc ma mg ms mc w h hn
end Go.Proofs.Ytflplliiamodhaa
