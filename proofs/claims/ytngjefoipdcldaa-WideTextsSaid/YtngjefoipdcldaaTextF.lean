/- noonmarklaw02.WideTexts: true for every input. -/
import Derived.Test.YtngjefoipdcldaaTextW
namespace Go.Proofs.Ytngjefoipdcldaa
open Go.RowKit
set_option linter.unusedVariables false

theorem texts_long (h l : Int) (s : ByteArray) (w : World) (hs : 200 < s.size) :
    Calls Try.prog 5 #[.agg #[.int .i64 h, .int .u64 l], .string s] w fun e w' => e = .returned (.bool true) ∧ Below w.heap.size w w' := by
  have hd : decide ((200 : Int) < (s.size : Int)) = true := decide_eq_true (by omega)
  obtain ⟨n, hn⟩ : ∃ n : Int, (s.size : Int) = n := ⟨_, rfl⟩
  rw [hn] at hd
  clear hs
  go_enter Try.func5, Try.ntmps5
  go_wp2_with fail
  refine (alive_any _).mono ?_
  rintro _ w1 ⟨rfl, hb⟩
  have B := Lib.hid ((one_alloc w _).trans (hb.mono (by simp)))
  clear hb
  go_wp2
  go_ret
  exact ⟨rfl, B.out⟩
theorem texts_any (h l : Int) (s : ByteArray) (w : World) (hh : -9223372036854775808 ≤ h ∧ h ≤ 9223372036854775807) (hl : 0 ≤ l ∧ l ≤ 18446744073709551615) :
    Calls Try.prog 5 #[.agg #[.int .i64 h, .int .u64 l], .string s] w fun e w' => e = .returned (.bool true) ∧ Below w.heap.size w w' := by
  by_cases hs : 200 < s.size
  · exact texts_long h l s w hs
  · exact texts_walk (wz h l) h l s w (wz_inW hh hl) (wI_wz hh hl) (by omega)
theorem bduT {a : Int} (h : (Lit.int .u64 a).wf = true) : 0 ≤ a ∧ a ≤ 18446744073709551615 := by simp [Lit.wf, IntKind.min, IntKind.max, IntKind.signed, IntKind.bits] at h; exact h
end Go.Proofs.Ytngjefoipdcldaa
