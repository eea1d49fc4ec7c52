/- GapAnswers, for every input. -/
import Derived.Test.YtahenediimoboaaAnswV
import Derived.Test.YtahenediimoboaaAnswW
namespace Go.Proofs.Ytahenediimoboaa
open Go.RowKit
set_option linter.unusedVariables false

theorem wid_wrap {a b : Int} (ha : InI a) (hb : InI b) (h : a ≤ b) : IntKind.u64.wrap (IntKind.u64.wrap b - IntKind.u64.wrap a) = widI a b := by
  unfold InI at ha hb
  unfold widI
  rw [if_pos h]
  simp only [IntKind.wrap_u64]
  omega
theorem tri_in (a b c d : Int) (h : a ≤ b) : Hid ((decide (c ≤ a) = true ∧ decide (b ≤ d) = true ∧ decide (a ≤ b ∧ c ≤ a ∧ b ≤ d) = true) ∨ (decide (c ≤ a) = true ∧ decide (b ≤ d) = false ∧ decide (a ≤ b ∧ c ≤ a ∧ b ≤ d) = false) ∨ (decide (c ≤ a) = false ∧ decide (a ≤ b ∧ c ≤ a ∧ b ≤ d) = false)) := Lib.hid (by
  by_cases h1 : c ≤ a
  · by_cases h2 : b ≤ d
    · exact .inl ⟨decide_eq_true h1, decide_eq_true h2, decide_eq_true ⟨h, h1, h2⟩⟩
    · exact .inr (.inl ⟨decide_eq_true h1, decide_eq_false h2, decide_eq_false (fun x => h2 x.2.2)⟩)
  · exact .inr (.inr ⟨decide_eq_false h1, decide_eq_false (fun x => h1 x.2.1)⟩))
theorem tri_has (a b x : Int) : Hid ((decide (a ≤ x) = true ∧ decide (x ≤ b) = true ∧ decide (a ≤ x ∧ x ≤ b) = true) ∨ (decide (a ≤ x) = true ∧ decide (x ≤ b) = false ∧ decide (a ≤ x ∧ x ≤ b) = false) ∨ (decide (a ≤ x) = false ∧ decide (a ≤ x ∧ x ≤ b) = false)) := Lib.hid (by
  by_cases h1 : a ≤ x
  · by_cases h2 : x ≤ b
    · exact .inl ⟨decide_eq_true h1, decide_eq_true h2, decide_eq_true ⟨h1, h2⟩⟩
    · exact .inr (.inl ⟨decide_eq_true h1, decide_eq_false h2, decide_eq_false (fun x => h2 x.2)⟩)
  · exact .inr (.inr ⟨decide_eq_false h1, decide_eq_false (fun x => h1 x.1)⟩))
theorem gapanswers_any (a b c d x y : Int) (w : World) (ha : InI a) (hb : InI b) (hc : InI c) (hd : InI d) (hx : InI x) (hy : InI y) :
    Calls Try.prog 3 #[.agg #[.int .i64 a, .int .i64 b], .agg #[.int .i64 c, .int .i64 d], .int .i64 x, .int .i64 y] w fun e w' => e = .returned (.bool true) ∧ Below w.heap.size w w' := by
  have CS := Lib.hid (fun W => (shift_any a b x W ha hb hx).mono (R' := Gives (.tuple #[.agg #[.int .i64 (shiftL a b x), .int .i64 (shiftH a b x)], .int .i64 (shiftE a b x)]) W) fun _ _ h => h)
  have CG := Lib.hid (fun W => (grow_any a b x y W ha hb hx hy).mono (R' := Gives (.tuple #[.agg #[.int .i64 (growL a b x y), .int .i64 (growH a b x y)], .int .i64 (growE a b x y)]) W) fun _ _ h => h)
  have RS := Lib.hid (fun W => (rshift_any a b x W ha hb hx).mono (R' := Gives (.tuple #[.agg #[.int .i64 (shiftL a b x), .int .i64 (shiftH a b x)], .int .i64 (shiftE a b x)]) W) fun _ _ h => h)
  have RG := Lib.hid (fun W => (rgrow_any a b x y W ha hb hx hy).mono (R' := Gives (.tuple #[.agg #[.int .i64 (growL a b x y), .int .i64 (growH a b x y)], .int .i64 (growE a b x y)]) W) fun _ _ h => h)
  have CM := Lib.hid (fun W => mid_any a b W ha hb)
  have RM := Lib.hid (fun W => rmid_any a b W ha hb)
  by_cases hab : a ≤ b
  · have d0 := decide_eq_true hab
    refine answ_good a b c d x y _ _ _ _ _ _ _ (widI a b) (decide (a ≤ x ∧ x ≤ b)) (decide (a ≤ b ∧ c ≤ a ∧ b ≤ d)) w ?_ ?_ CS CG RS RG CM RM ?_ ?_ ?_ d0 (wid_wrap ha hb hab) (tri_in a b c d hab) (tri_has a b x)
    · exact Lib.hid fun W => al_new a b a b true W (if_pos hab) (if_pos hab) d0
    · exact Lib.hid fun W => al_right a b true W d0
    · exact Lib.hid fun W => has_any a b x _ rfl W
    · exact Lib.hid fun W => within_any a b c d _ rfl W
    · exact Lib.hid fun W => width_any a b W ha hb
  · have d0 := decide_eq_false hab
    refine answ_bad a b c d x y _ _ _ _ _ _ _ w ?_ ?_ CS CG RS RG CM RM ?_ ?_ ?_ ?_ d0
    · exact Lib.hid fun W => al_new a b 0 0 false W (if_neg hab) (if_neg hab) d0
    · exact Lib.hid fun W => al_right a b false W d0
    · exact Lib.hid fun W => has_any a b x false (decide_eq_false (by omega)) W
    · exact Lib.hid fun W => within_any a b c d false (decide_eq_false (by omega)) W
    · exact Lib.hid fun W => within_any c d a b false (decide_eq_false (by omega)) W
    · exact Lib.hid fun W => al_width a b 0 W ha hb (if_neg hab)
end Go.Proofs.Ytahenediimoboaa
