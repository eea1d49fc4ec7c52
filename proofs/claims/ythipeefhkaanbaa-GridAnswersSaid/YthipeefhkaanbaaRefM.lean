/- noonmarkref19: Span, for all longs. -/
import Derived.Test.YthipeefhkaanbaaRefJ
import Derived.Test.YthipeefhkaanbaaRefK
import Derived.Test.YthipeefhkaanbaaRefL
namespace Go.Proofs.Ythipeefhkaanbaa
open Go.RowKit
set_option linter.unusedVariables false

theorem rspan_any (wd p m v : Int) (w : World) (hr : rgB wd p m = true) (hv : InI v) : Calls Try.prog 12 #[.agg #[.int .i64 wd, .int .i64 p, .int .i64 m], .int .i64 v] w (GapRes (spL v wd) (spH v wd) (spE v wd) w) := by
  obtain ⟨h1, h2, -⟩ := rgB_yes hr
  have CR := Lib.hid fun W => rright_any wd p m true hr W
  have C1 : Hid (∀ W, Calls Try.prog 27 #[.int .i64 v] W (NumOut v W)) := Lib.hid fun W => of_any v W hv
  have hw : InI wd := by unfold InI; omega
  have hw1 : InI (wd - 1) := by unfold InI; omega
  have C2 : Hid (∀ W, Calls Try.prog 27 #[.int .i64 wd] W (NumOut wd W)) := Lib.hid fun W => of_any wd W hw
  have C3 : Hid (∀ W x y, NumAt W x v → NumAt W y wd → Calls Try.prog 26 #[x, y] W (NumOut (v * wd) W)) := Lib.hid fun W x y k1 k2 => num_mul x y v wd W k1 k2 (hund_long hv) (hund_long hw)
  have C4 : Hid (∀ W, Calls Try.prog 27 #[.int .i64 (IntKind.i64.wrap (wd - 1))] W (NumOut (wd - 1) W)) := Lib.hid fun W => by
    rw [show IntKind.i64.wrap (wd - 1) = wd - 1 by unfold InI at hw1; rw [IntKind.wrap_i64]; omega]
    exact of_any _ W hw1
  have C5 : Hid (∀ W x y, NumAt W x (v * wd) → NumAt W y (wd - 1) → Calls Try.prog 28 #[x, y] W (NumOut (v * wd + (wd - 1)) W)) := Lib.hid fun W x y k1 k2 => num_add x y (v * wd) (wd - 1) W k1 k2 (hund_mul hv hw) (hund_long hw1)
  have C6 := Lib.hid fun W x k => long_any x (v * wd) W k
  have C7 := Lib.hid fun W x k => long_any x (v * wd + (wd - 1)) W k
  by_cases i1 : InI (v * wd)
  · by_cases i2 : InI (v * wd + (wd - 1))
    · have e := spE_yes i1 i2
      rw [show spL v wd = v * wd from if_pos e, show spH v wd = v * wd + (wd - 1) from if_pos e, e]
      exact rspan_ok wd p m v w CR C1 C2 C3 C4 C5 C6 C7 h1 h2 (decide_eq_true i1) (decide_eq_true i2)
    · have e := spE_no2 i2
      rw [show spL v wd = 0 from if_neg (by rw [e]; decide), show spH v wd = 0 from if_neg (by rw [e]; decide), e]
      exact rspan_over2 wd p m v w CR C1 C2 C3 C4 C5 C6 C7 h1 h2 (decide_eq_true i1) (decide_eq_false i2)
  · have e := spE_no1 i1
    rw [show spL v wd = 0 from if_neg (by rw [e]; decide), show spH v wd = 0 from if_neg (by rw [e]; decide), e]
    exact rspan_over1 wd p m v w CR C1 C2 C3 C4 C5 C6 C7 h1 h2 (decide_eq_false i1)
end Go.Proofs.Ythipeefhkaanbaa
