/- ClockTrusts, for every input. -/
import Derived.Test.YtflplliiamodhaaTrustsW
import Derived.Test.YtflplliiamodhaaQuads
namespace Go.Proofs.Ytflplliiamodhaa
open Go.RowKit
theorem clktrusts_any (r t : Int) (x : Option Addr) (xc : Nat) (A : List Sm) (w : World) (hx : QuadRow w x A) :
    Calls Try.prog 8 #[.int .i64 r, .int .i64 t, .slice x A.length xc] w fun e w' => e = .returned (.bool true) ∧ Below w.heap.size w w' := by
  by_cases h : (60 : Int) < (A.length : Int)
  · exact trusts_out r t x A.length xc w h
  · by_cases hn : newOk r t
    · exact trusts_any r t x xc A w hx (by omega) hn
    · exact trusts_no r t x A.length xc w h hn
end Go.Proofs.Ytflplliiamodhaa
