/- GapPoints for every input. -/
import Derived.Test.YtahenediimoboaaPointsW
import Derived.Test.YtahenediimoboaaPairs
namespace Go.Proofs.Ytahenediimoboaa
open Go.RowKit
set_option linter.unusedVariables false

theorem points_long (xa : Option Addr) (len xc : Nat) (x by' : Int) (w : World) (hl : 100 < len) (hm : len ≤ 9223372036854775807) :
    Calls Try.prog 5 #[.slice xa len xc, .int .i64 x, .int .u32 by'] w (PtPost w) := by
  have hl' : (100 : Int) < (len : Int) := by omega
  go_enter Try.func5, Try.ntmps5
  go_wp2_with fail
  refine (alive_any _).mono ?_
  rintro ee w1 ⟨rfl, hb1⟩
  have B1 := Lib.hid hb1
  clear hb1
  go_wp2
  go_ret
  exact ⟨rfl, B1.out⟩
theorem points_any (xa : Option Addr) (xc : Nat) (l : List (Int × Int)) (x by' : Int) (w : World) (hx : PairRow w xa l) (hm : l.length ≤ 9223372036854775807) (hb : ∀ p ∈ l, InP p) (hxi : InI x) (hby : 0 ≤ by' ∧ by' ≤ 4294967295) :
    Calls Try.prog 5 #[.slice xa l.length xc, .int .i64 x, .int .u32 by'] w (PtPost w) := by
  by_cases hl : l.length ≤ 100
  · exact points_walk xa xc l x by' w hx hl hb hxi hby
  · exact points_long xa l.length xc x by' w (by omega) hm
theorem bdu {a : Int} (h : (Lit.int .u32 a).wf = true) : 0 ≤ a ∧ a ≤ 4294967295 := by simp [Lit.wf, IntKind.min, IntKind.max, IntKind.signed, IntKind.bits] at h; exact h
end Go.Proofs.Ytahenediimoboaa
