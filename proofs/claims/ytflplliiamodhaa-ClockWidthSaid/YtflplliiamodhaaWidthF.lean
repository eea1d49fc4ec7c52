/- ClockWidth, for every input. -/
import Derived.Test.YtflplliiamodhaaWidthW
import Derived.Test.YtflplliiamodhaaQuads
namespace Go.Proofs.Ytflplliiamodhaa
open Go.RowKit
theorem clkwidth_any (r t : Int) (x : Option Addr) (xc : Nat) (A : List Sm) (w : World) (hx : QuadRow w x A) :
    Calls Try.prog 5 #[.int .i64 r, .slice x A.length xc, .int .i64 t] w fun e w' => e = .returned (.bool true) ∧ Below w.heap.size w w' := by
  by_cases h : (60 : Int) < (A.length : Int)
  · exact width_out r t x A.length xc w h
  · by_cases hn : newOk r 2
    · exact width_any2 r t x xc A w hx (by omega) hn
    · exact width_no r t x A.length xc w h hn
end Go.Proofs.Ytflplliiamodhaa
