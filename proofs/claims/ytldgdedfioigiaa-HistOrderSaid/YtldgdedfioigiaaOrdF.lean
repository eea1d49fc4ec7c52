/- HistOrder for every input. -/
import Derived.Test.YtldgdedfioigiaaOrdW
namespace Go.Proofs.Ytldgdedfioigiaa
open Go.RowKit
set_option linter.unusedVariables false

theorem order_long (a : Option Addr) (n c : Nat) (w : World) (h : 60 < n) :
    Calls Try.prog 7 #[.slice a n c] w fun e w' => e = .returned (.bool true) ∧ Below w.heap.size w w' := by
  have hle : (60 : Int) < (n : Int) := by omega
  clear h
  go_enter Try.func7, Try.ntmps7
  go_wp2_with fail
  refine (alive_any _).mono ?_
  rintro _ w1 ⟨rfl, b1⟩
  have B1 := Lib.hid b1
  clear b1
  go_wp2
  go_ret
  exact ⟨rfl, B1.out⟩
theorem historder_any (a : Option Addr) (len cap : Nat) (zs : List Int) (w : World) (r : RowOf .i64 w a len cap zs) :
    Calls Try.prog 7 #[.slice a len cap] w fun e w' => e = .returned (.bool true) ∧ Below w.heap.size w w' := by
  by_cases h : 60 < len
  · exact order_long a len cap w h
  rcases r.cases with ⟨rfl, rfl, rfl⟩ | ⟨rfl, _, _⟩ | ⟨h0, h1, h2, h3, h4, h5, h6⟩
  · exact order_any none 0 [] w (fun j hj => by simp at hj) (by simp) (by simp)
  · exact order_any a cap [] w (fun j hj => by simp at hj) (by simp) (by simp)
  · have h := order_any a cap (zs.take len) w h5 (fun x hx => bd (h6 x hx)) (by omega)
    rw [h3] at h
    exact h
end Go.Proofs.Ytldgdedfioigiaa
