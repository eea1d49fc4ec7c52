/- noonmarkref01: told. -/
import Derived.Test.YtldgdedfioigiaaLimD
namespace Go.Proofs.Ytldgdedfioigiaa
open Go.RowKit
set_option linter.unusedVariables false

theorem told_any (v : Value) (z : Int) (w : World) (hn : NumAt w v z) :
    Calls Try.prog 47 #[v] w fun e w' => e = .returned (.tuple #[.int .i64 (vI z), .int .i64 (eI z)]) ∧ Below w.heap.size w w' := by
  have Cl := Lib.hid (fun w hn => long_any v z w hn)
  have HN := Lib.hid hn
  obtain ⟨neg, l, d, rfl, ⟨la, lcap, rfl, -⟩, -⟩ := hn
  by_cases hz : InI z
  · have HZ := Lib.hid hz
    go_enter Try.func47, Try.ntmps47
    go_wp2_with fail
    refine (Cl.out _ (HN.out.below ((Below.refl _ _).alloc (Nat.le_refl _) _))).mono ?_
    rintro e w2 ⟨⟨u, rfl, hu⟩, hB⟩
    obtain rfl := hu HZ.out
    have HB := Lib.hid (Below.unalloc hB)
    rw [decide_eq_true HZ.out]
    clear hB hz
    go_wp2
    go_ret2
    exact ⟨ret2 (vI_in HZ.out).symm (eI_in HZ.out).symm, HB.out⟩
  · have HZ := Lib.hid hz
    go_enter Try.func47, Try.ntmps47
    go_wp2_with fail
    refine (Cl.out _ (HN.out.below ((Below.refl _ _).alloc (Nat.le_refl _) _))).mono ?_
    rintro e w2 ⟨⟨u, rfl, hu⟩, hB⟩
    have HB := Lib.hid (Below.unalloc hB)
    rw [decide_eq_false HZ.out]
    clear hB hz hu
    go_wp2
    go_ret2
    exact ⟨ret2 (vI_out HZ.out).symm (eI_out HZ.out).symm, HB.out⟩
end Go.Proofs.Ytldgdedfioigiaa
