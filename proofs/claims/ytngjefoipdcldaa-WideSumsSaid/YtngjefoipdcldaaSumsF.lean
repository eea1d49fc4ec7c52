/- noonmarklaw02.WideSums: true for every input. -/
import Derived.Test.YtngjefoipdcldaaSumsW
namespace Go.Proofs.Ytngjefoipdcldaa
open Go.RowKit
set_option linter.unusedVariables false

theorem sums_long (x y : Int) (a : Option Addr) (len cap : Nat) (w : World) (h : 100 < len) (h2 : len ≤ 9223372036854775807) :
    Calls Try.prog 4 #[.int .i64 x, .int .i64 y, .slice a len cap] w fun e w' => e = .returned (.bool true) ∧ Below w.heap.size w w' := by
  have hd : decide ((100 : Int) < (len : Int)) = true := decide_eq_true (by omega)
  obtain ⟨n, hn⟩ : ∃ n : Int, (len : Int) = n := ⟨_, rfl⟩
  rw [hn] at hd
  clear h h2
  go_enter Try.func4, Try.ntmps4
  go_wp2_with fail
  refine (alive_any _).mono ?_
  rintro _ w1 ⟨rfl, hb⟩
  have B := Lib.hid hb
  clear hb
  go_wp2
  go_ret
  exact ⟨rfl, B.out⟩
theorem widesums_any (x y : Int) (a : Option Addr) (len cap : Nat) (zs : List Int) (w : World) (hx : InI x) (hy : InI y) (h : RowOf .i64 w a len cap zs) :
    Calls Try.prog 4 #[.int .i64 x, .int .i64 y, .slice a len cap] w fun e w' => e = .returned (.bool true) ∧ Below w.heap.size w w' := by
  rcases h.cases with ⟨rfl, rfl, rfl⟩ | ⟨rfl, h2, b, off, sub, rfl⟩ | ⟨h0, h1, h2, h3, ⟨b, off, rfl⟩, h4, h5⟩
  · exact sums_walk x y none 0 [] w hx hy (fun j hj => by simp at hj) (by simp) (by simp) (fun _ => rfl)
  · exact sums_walk x y _ cap [] w hx hy (fun j hj => by simp at hj) (by simp) (by simp) (by simp)
  · by_cases hbig : 100 < len
    · exact sums_long x y _ len cap w hbig (by omega)
    · have hb : ∀ x ∈ zs.take len, InI x := fun x hx => bd (h5 x hx)
      generalize zs.take len = l at *
      subst h3
      exact sums_walk x y _ cap l w hx hy h4 hb (by omega) (by simp)
end Go.Proofs.Ytngjefoipdcldaa
