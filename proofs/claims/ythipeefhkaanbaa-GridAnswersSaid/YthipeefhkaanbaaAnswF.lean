/- GridAnswers, for every input. -/
import Derived.Test.YthipeefhkaanbaaAnswV
import Derived.Test.YthipeefhkaanbaaAnswW
namespace Go.Proofs.Ythipeefhkaanbaa
open Go.RowKit
set_option linter.unusedVariables false

theorem gridanswers_any (wd p m t a b : Int) (w : World) (ht : InI t) (ha : InI a) (hb : InI b) :
    Calls Try.prog 3 #[.agg #[.int .i64 wd, .int .i64 p, .int .i64 m], .int .i64 t, .agg #[.int .i64 a, .int .i64 b]] w fun e w' => e = .returned (.bool true) ∧ Below w.heap.size w w' := by
  have CO := Lib.hid fun W => lawof_any wd p m W
  have CP := Lib.hid fun W => pick_any wd p m a b W ha hb
  have RP := Lib.hid fun W => rpick_any wd p m a b W ha hb
  cases hr : rgB wd p m
  · have g : ∀ {l h e W x w'}, GapRes l h e W x w' → Gives (.tuple #[.agg #[.int .i64 l, .int .i64 h], .int .i64 e]) W x w' := fun h => h
    obtain ⟨e1, e2, e3⟩ := mt_state (a := a) (b := b) hr
    refine answ_state wd p m t a b 0 0 21 _ _ 0 w ?_ CO ?_ ?_ ?_ CP RP ?_ ?_ ?_ ?_
    · exact Lib.hid fun W => (gnew_no wd p m W hr).mono fun _ _ h => h
    · exact Lib.hid fun W => rright_any wd p m false hr W
    · exact Lib.hid fun W => (span_state wd p m t W hr).mono fun _ _ h => h
    · exact Lib.hid fun W => (rspan_state wd p m t W (Lib.hid fun W => rright_any wd p m false hr W)).mono fun _ _ h => h
    · exact Lib.hid fun W => (meets_state wd p m a b W hr).mono fun _ _ h => h
    · exact Lib.hid fun W => window_no wd p m t W hr
    · exact Lib.hid fun W => rwindow_no wd p m t W hr
    · exact Lib.hid fun W => certain_any wd p m a b false W ha hb (by rw [e1]; rfl)
  · have CN : Hid (∀ W, Calls Try.prog 8 #[.int .i64 wd, .int .i64 p, .int .i64 m] W (Gives (.tuple #[.agg #[.int .i64 wd, .int .i64 p, .int .i64 m], .int .i64 0]) W)) := Lib.hid fun W => (gnew_yes wd p m W hr).mono fun _ _ h => h
    have CR := Lib.hid fun W => rright_any wd p m true hr W
    have CS : Hid (∀ W, Calls Try.prog 11 #[.agg #[.int .i64 wd, .int .i64 p, .int .i64 m], .int .i64 t] W (Gives (.tuple #[.agg #[.int .i64 (spL t wd), .int .i64 (spH t wd)], .int .i64 (spE t wd)]) W)) := Lib.hid fun W => (span_any wd p m t W hr ht).mono fun _ _ h => h
    have RS : Hid (∀ W, Calls Try.prog 12 #[.agg #[.int .i64 wd, .int .i64 p, .int .i64 m], .int .i64 t] W (Gives (.tuple #[.agg #[.int .i64 (spL t wd), .int .i64 (spH t wd)], .int .i64 (spE t wd)]) W)) := Lib.hid fun W => (rspan_any wd p m t W hr ht).mono fun _ _ h => h
    have CW := Lib.hid fun W => window_yes wd p m t W hr ht
    have RW := Lib.hid fun W => rwindow_yes wd p m t W hr ht
    by_cases hab : a ≤ b
    · obtain ⟨e1, e2, e3⟩ := mt_ok hr hab
      refine answ_ok wd p m t a b _ _ _ _ _ _ (a / wd) (b / wd) (a / wd == b / wd) w CN CO CR CS RS CP RP ?_ CW RW ?_ ?_ ?_ ?_ rfl
      · exact Lib.hid fun W => (meets_ok wd p m a b W hr ha hb hab).mono fun _ _ h => h
      · exact Lib.hid fun W => certain_any wd p m a b _ W ha hb (by rw [e1, e2, e3]; rfl)
      · exact Lib.hid fun W => by
          have h := r3right_any a b W
          rwa [decide_eq_true hab] at h
      · exact Lib.hid fun W => rwindow_yes wd p m a W hr ha
      · exact Lib.hid fun W => rwindow_yes wd p m b W hr hb
    · obtain ⟨e1, e2, e3⟩ := mt_form hr hab
      refine answ_form wd p m t a b _ _ _ _ _ _ w CN CO CR CS RS CP RP ?_ CW RW ?_ ?_
      · exact Lib.hid fun W => (meets_form wd p m a b W hr hab).mono fun _ _ h => h
      · exact Lib.hid fun W => certain_any wd p m a b false W ha hb (by rw [e1]; rfl)
      · exact Lib.hid fun W => by
          have h := r3right_any a b W
          rwa [decide_eq_false hab] at h
end Go.Proofs.Ythipeefhkaanbaa
