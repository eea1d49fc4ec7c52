/- sweep.Agree. -/
import Derived.Test.YtflplliiamodhaaPointM
namespace Go.Proofs.Ytflplliiamodhaa
open Go.RowKit Go.Shelf
set_option linter.unusedVariables false
attribute [local go_sem] Oper.semAt_some

def agreeB (L : List (Int × Int)) : Bool := decide (0 < L.length) && decide (combE L (L.foldl opM fullP) = 0)
set_option maxHeartbeats 1000000 in
theorem agree_any (x : Option Addr) (c : Nat) (L : List (Int × Int)) (w : World) (hx : PairRow w x L) (hL : L.length ≤ 100000) :
    Calls Try.prog 38 #[.slice x L.length c] w (Gives (.bool (agreeB L)) w) := by
  have CM := Lib.hid (meet_any x c L w hx (by omega))
  have F : Hid (agreeB L = (decide (0 < L.length) && decide (combE L (L.foldl opM fullP) = 0))) := Lib.hid rfl
  generalize combL L (L.foldl opM fullP) = lo at *
  generalize combH L (L.foldl opM fullP) = hi at *
  generalize combE L (L.foldl opM fullP) = e at *
  generalize agreeB L = r at *
  clear hx
  by_cases h0 : 0 < L.length
  · have h1 : (0 : Int) < (L.length : Int) := by omega
    by_cases he : e = 0
    · have F' : Hid (r = true) := Lib.hid (by rw [F.out, decide_eq_true h0, decide_eq_true he]; rfl)
      subst he
      clear F h0
      go_enter Try.func38, Try.ntmps38
      go_wp2_with fail
      refine CM.out.mono ?_
      rintro _ w2 ⟨rfl, b2⟩
      have BB := Lib.hid (b2.alloc b2.size (.cells #[.int .i64 lo, .int .i64 hi] 39))
      clear b2
      go_wp2
      go_ret
      exact ⟨ret_bool F'.out.symm, BB.out⟩
    · have F' : Hid (r = false) := Lib.hid (by rw [F.out, decide_eq_false he, Bool.and_false])
      have hd : (e == 0) = false := beq_eq_false_iff_ne.mpr he
      clear F h0 he
      go_enter Try.func38, Try.ntmps38
      go_wp2_with fail
      refine CM.out.mono ?_
      rintro _ w2 ⟨rfl, b2⟩
      have BB := Lib.hid (b2.alloc b2.size (.cells #[.int .i64 lo, .int .i64 hi] 39))
      clear b2
      go_wp2
      go_ret
      exact ⟨ret_bool F'.out.symm, BB.out⟩
  · have F' : Hid (r = false) := Lib.hid (by rw [F.out, decide_eq_false h0, Bool.false_and])
    have h1 : ¬ (0 : Int) < (L.length : Int) := by omega
    clear F h0
    go_enter Try.func38, Try.ntmps38
    go_wp2_with fail
    refine CM.out.mono ?_
    rintro _ w2 ⟨rfl, b2⟩
    have BB := Lib.hid (b2.alloc b2.size (.cells #[.int .i64 lo, .int .i64 hi] 39))
    clear b2
    go_wp2
    go_ret
    exact ⟨ret_bool F'.out.symm, BB.out⟩
end Go.Proofs.Ytflplliiamodhaa
