/- CrcFlips for every input. -/
import Derived.Test.YtgkgcbhlodohdaaFlipW
namespace Go.Proofs.Ytgkgcbhlodohdaa
open Go.RowKit
set_option linter.unusedVariables false

theorem flips_far (x : Option Addr) (n c : Nat) (a f : Int) (w : World) (hn : n ≤ 9223372036854775807) (h : 2000 < n ∨ f = 0 ∨ a < 0 ∨ 16000 < a) :
    Calls Try.prog 5 #[.slice x n c, .int .i64 a, .int .u32 f] w (BkPost w) := by
  by_cases h1 : 2000 < n
  · have h1' : (2000 : Int) < (n : Int) := by omega
    clear h1 h
    go_enter Try.func5, Try.ntmps5
    go_wp2_with fail
    refine (alive_any _).mono ?_
    rintro e w1 ⟨rfl, hb⟩
    have B1 := Lib.hid hb
    clear hb
    go_wp2
    go_ret
    exact ⟨rfl, B1.out⟩
  have h1' : ¬ (2000 : Int) < (n : Int) := by omega
  by_cases h2 : f = 0
  · subst h2
    clear h h1
    go_enter Try.func5, Try.ntmps5
    go_wp2_with fail
    refine (alive_any _).mono ?_
    rintro e w1 ⟨rfl, hb⟩
    have B1 := Lib.hid hb
    clear hb
    go_wp2
    go_ret
    exact ⟨rfl, B1.out⟩
  have h2' : (f == 0) = false := by simpa using h2
  by_cases h3 : a < 0
  · clear h h1 h2
    go_enter Try.func5, Try.ntmps5
    go_wp2_with fail
    refine (alive_any _).mono ?_
    rintro e w1 ⟨rfl, hb⟩
    have B1 := Lib.hid hb
    clear hb
    go_wp2
    go_ret
    exact ⟨rfl, B1.out⟩
  · have h4 : 16000 < a := by omega
    clear h h1 h2
    go_enter Try.func5, Try.ntmps5
    go_wp2_with fail
    refine (alive_any _).mono ?_
    rintro e w1 ⟨rfl, hb⟩
    have B1 := Lib.hid hb
    clear hb
    go_wp2
    go_ret
    exact ⟨rfl, B1.out⟩
theorem flips_any (x : Option Addr) (n c : Nat) (l : List Int) (a f : Int) (w : World) (hl : l.length = n) (hr : IntRow w x .u8 l) (hx : x = none → c = 0) (hlc : n ≤ c) (hc : c ≤ 9223372036854775807) (hb : ByteL l) (hf : 0 ≤ f ∧ f ≤ 4294967295) :
    Calls Try.prog 5 #[.slice x n c, .int .i64 a, .int .u32 f] w (BkPost w) := by
  subst hl
  by_cases h : 2000 < l.length ∨ f = 0 ∨ a < 0 ∨ 16000 < a
  · exact flips_far x l.length c a f w (by omega) h
  · obtain ⟨m, rfl⟩ := Int.eq_ofNat_of_zero_le (show 0 ≤ a by omega)
    obtain ⟨g, rfl⟩ := Int.eq_ofNat_of_zero_le hf.1
    exact flips_near x c l m g w hr hx (by omega) hlc hc hb (by omega) (by omega) (by omega)
theorem bdu {a : Int} (h : (Lit.int .u32 a).wf = true) : 0 ≤ a ∧ a ≤ 4294967295 := by simp [Lit.wf, IntKind.min, IntKind.max, IntKind.signed, IntKind.bits] at h; exact h
end Go.Proofs.Ytgkgcbhlodohdaa
