/- GapLists for every input. -/
import Derived.Test.YtahenediimoboaaListsW
import Derived.Test.YtahenediimoboaaPairs
namespace Go.Proofs.Ytahenediimoboaa
open Go.RowKit
set_option linter.unusedVariables false

theorem lists_any (x : Option Addr) (xc : Nat) (l : List (Int × Int)) (w : World) (hx : PairRow w x l) (hxn : x = none → xc = 0) (hm : l.length ≤ 9223372036854775807) (hin : ∀ p ∈ l, InP p) :
    Calls Try.prog 4 #[.slice x l.length xc] w (LsPost w) := by
  by_cases hl : l.length ≤ 100
  · exact lists_near x xc l w hx hxn hl hin
  · exact lists_far x l.length xc w (by omega) hm
end Go.Proofs.Ytahenediimoboaa
