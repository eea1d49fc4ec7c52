/- noonmarkref19: Span, for all longs. -/
import Derived.Test.YthipeefhkaanbaaRefG
import Derived.Test.YthipeefhkaanbaaGridC
import Derived.Deep.RegionHeld3
namespace Go.Proofs.Ythipeefhkaanbaa
open Go.RowKit
set_option linter.unusedVariables false

theorem Kept.far2 {w : World} {g b : Nat} {cs : Array Value} {t : TypeId} (h : Kept w g cs t) (hb : g ≠ b) (p q : Value) : Kept ((w.setCell ⟨b, 0, none⟩ p).setCell ⟨b, 1, none⟩ q) g cs t := (h.far (p := ⟨b, 0, none⟩) hb p).far (p := ⟨b, 1, none⟩) hb q
theorem NumAt.set2 {w : World} {v : Value} {z : Int} {b : Nat} {T : TypeId} (h : NumAt w v z) (k : Kept w b #[.bool false, .slice none 0 0] T) (p q : Value) : NumAt ((w.setCell ⟨b, 0, none⟩ p).setCell ⟨b, 1, none⟩ q) v z :=
  (h.setCell k.two.1 (by simp) p).setCell ((World.cell?_setCell_other _ _ _ _ (by simp)).trans k.two.2.1) (by simp) q
set_option maxHeartbeats 1000000 in
theorem rspan_state (wd p m v : Int) (w : World) (CR : Hid (∀ W, Calls Try.prog 9 #[.agg #[.int .i64 wd, .int .i64 p, .int .i64 m]] W (Gives (.bool false) W))) :
    Calls Try.prog 12 #[.agg #[.int .i64 wd, .int .i64 p, .int .i64 m], .int .i64 v] w (GapRes 0 0 21 w) := by
  have B0 : Hid (Below w.heap.size w ((w.alloc (.cells #[.int .i64 wd, .int .i64 p, .int .i64 m] 31)).alloc (.cells #[.int .i64 0, .int .i64 0] 33))) := Lib.hid ((one_alloc w _).alloc (by simp) _)
  have K0 : Hid (Kept ((w.alloc (.cells #[.int .i64 wd, .int .i64 p, .int .i64 m] 31)).alloc (.cells #[.int .i64 0, .int .i64 0] 33)) w.heap.size #[.int .i64 wd, .int .i64 p, .int .i64 m] 31) := Lib.hid (by exact (Kept.new rfl).alloc _)
  have R0 : Hid (Kept ((w.alloc (.cells #[.int .i64 wd, .int .i64 p, .int .i64 m] 31)).alloc (.cells #[.int .i64 0, .int .i64 0] 33)) (w.heap.size + 1) #[.int .i64 0, .int .i64 0] 33) := Lib.hid (by exact Kept.new (by simp))
  go_enter Try.func12, Try.ntmps12
  go_wp2_with fail
  refine (CR.out _).mono ?_
  rintro _ w1 ⟨rfl, hb1⟩
  have B := Lib.hid (bnext B0.out B0.out.size hb1)
  have K := Lib.hid (K0.out.next hb1)
  have R := Lib.hid (R0.out.next hb1)
  clear hb1 B0 K0 R0
  obtain ⟨r1, r2, -, -, rl⟩ := R.out.two
  obtain ⟨z1, z2⟩ := R.out.read2 (.int .i64 0) (.int .i64 0)
  have hw := B.out.size
  have r3 := (R.out.at_ 0).2
  have r4 := (R.out.at_ 1).2
  go_wp2
  refine bodyPost_ret (v := .tuple #[.agg #[.int .i64 0, .int .i64 0], .int .i64 21]) (by simp [results, Try.results12, go_sem, z1, z2]) rfl ?_
  exact ⟨rfl, bset2 B.out (by omega) _ _⟩
end Go.Proofs.Ythipeefhkaanbaa
