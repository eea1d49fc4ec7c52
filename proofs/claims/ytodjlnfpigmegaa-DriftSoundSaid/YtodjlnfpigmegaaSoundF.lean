/- DriftSound, for every input. -/
import Derived.Test.YtodjlnfpigmegaaSoundW
import Derived.Test.YtodjlnfpigmegaaPairs
namespace Go.Proofs.Ytodjlnfpigmegaa
open Go.RowKit
set_option linter.unusedVariables false

theorem row_none {w : World} {l : List (Int × Int)} (h : PairRow w none l) : l = [] := by
  cases l with
  | nil => rfl
  | cons y ys => obtain ⟨_, _, e1, _⟩ := h 0 (by simp); cases e1
theorem driftsound_any (x : Option Addr) (xc : Nat) (l : List (Int × Int)) (r : Int) (w : World) (hx : PairRow w x l) :
    Calls Try.prog 4 #[.int .i64 r, .slice x l.length xc] w fun e w' => e = .returned (.bool true) ∧ Below w.heap.size w w' := by
  have hn : x = none → l = [] := fun e => by subst e; exact row_none hx
  by_cases hg : 30 < (l.length : Int)
  · exact sl_great x xc _ r l.length w rfl (decide_eq_true hg)
  · have C := Lib.hid fun W (hb : Below w.heap.size w W) => honest_any x xc l r W (hx.below hb) hn (by omega)
    cases hh : hon r l
    · rw [hh] at C
      exact sl_none x xc _ r l.length w rfl (decide_eq_false hg) C
    · rw [hh] at C
      obtain ⟨⟨h1, h2⟩, hs, ho⟩ := hon_iff.1 hh
      exact sl_loop x xc l r w hx (by omega) C (Lib.hid fun i j hi hj => pair_fact h1 h2 ho (sound_iff.1 hs) (getD_mem hi) (getD_mem hj))
end Go.Proofs.Ytodjlnfpigmegaa
