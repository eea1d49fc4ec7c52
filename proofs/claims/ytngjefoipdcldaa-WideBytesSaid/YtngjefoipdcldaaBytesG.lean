/- noonmarklaw02.WideBytes: true for every input. -/
import Derived.Test.YtngjefoipdcldaaBytesW
namespace Go.Proofs.Ytngjefoipdcldaa
open Go.RowKit
set_option linter.unusedVariables false

theorem widebytes_any (h l g m : Int) (ra : Option Addr) (len rc : Nat) (zs : List Int) (w : World) (hh : -9223372036854775808 ≤ h ∧ h ≤ 9223372036854775807) (hl : 0 ≤ l ∧ l ≤ 18446744073709551615) (hg : -9223372036854775808 ≤ g ∧ g ≤ 9223372036854775807) (hm : 0 ≤ m ∧ m ≤ 18446744073709551615) (hr : RowOf .u8 w ra len rc zs) :
    Calls Try.prog 6 #[.agg #[.int .i64 h, .int .u64 l], .agg #[.int .i64 g, .int .u64 m], .slice ra len rc] w fun e w' => e = .returned (.bool true) ∧ Below w.heap.size w w' := by
  obtain ⟨R, hlen, hrow, hb, hlb, -⟩ := row_bytes hr
  subst hlen
  exact bytes_walk (wz h l) (wz g m) h l g m ra rc R w (wz_inW hh hl) (wz_inW hg hm) (wI_wz hh hl) (wI_wz hg hm) (by unfold hiW wz wrap64; omega) (by unfold hiW wz wrap64; omega) hrow hb hlb
end Go.Proofs.Ytngjefoipdcldaa
