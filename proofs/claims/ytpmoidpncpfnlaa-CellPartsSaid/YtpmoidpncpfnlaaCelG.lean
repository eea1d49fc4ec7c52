/- cell.long. -/
import Derived.Test.YtpmoidpncpfnlaaCelF
namespace Go.Proofs.Ytpmoidpncpfnlaa
open Go.RowKit
set_option linter.unusedVariables false
set_option linter.unusedSimpArgs false

theorem long_any (g : Nat) (l : List Int) (e : Int) (w : World) (h : Rd w g l e) (hb : ByteL l) (hl : l.length ≤ 1000000000) :
    Calls Try.prog 47 #[.pointer (some ⟨g, 0, none⟩)] w (RdOut w g (uintS l e).2.1 (uintS l e).2.2 (.int .i64 (wrap64 (uintS l e).1))) := by
  have C1 := Lib.hid (uint_any g l e w h hb hl)
  clear h hb hl
  unfold RdOut at *
  generalize (uintS l e).1 = n at *
  generalize (uintS l e).2.1 = l' at *
  generalize (uintS l e).2.2 = e' at *
  go_enter Try.func47, Try.ntmps47
  go_wp2_with fail
  refine C1.out.mono ?_
  rintro _ w1 ⟨rfl, R, B⟩
  go_wp2
  go_ret
  exact ⟨rfl, R, B⟩
end Go.Proofs.Ytpmoidpncpfnlaa
