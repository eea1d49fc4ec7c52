/- noonmarkref01: Plus, Minus, for all longs. -/
import Derived.Test.YtahenediimoboaaLimT
import Derived.Test.YtahenediimoboaaLimN
namespace Go.Proofs.Ytahenediimoboaa
open Go.RowKit
set_option linter.unusedVariables false

theorem hund_long {a : Int} (h : InI a) : Hund a := hund_of (by unfold InI at h; omega)
set_option maxHeartbeats 2000000 in
theorem refplus_any (a b : Int) (w : World) (ha : InI a) (hb : InI b) :
    Calls Try.prog 32 #[.int .i64 a, .int .i64 b] w (Gives (.tuple #[.int .i64 (vI (a + b)), .int .i64 (eI (a + b))]) w) := by
  have C1 := Lib.hid (fun W => of_any a W ha)
  have C2 := Lib.hid (fun W => of_any b W hb)
  have C3 : Hid (∀ W u v, NumAt W u a → NumAt W v b → Calls Try.prog 37 #[u, v] W (NumOut (a + b) W)) := Lib.hid (fun W u v h1 h2 => num_add u v a b W h1 h2 (hund_long ha) (hund_long hb))
  have C4 := Lib.hid (fun v W h => told_any v (a + b) W h)
  generalize vI (a + b) = V at *
  generalize eI (a + b) = E at *
  clear ha hb
  go_enter Try.func32, Try.ntmps32
  go_wp2_with fail
  refine (C1.out _).mono ?_
  rintro _ w1 ⟨v1, rfl, hn1, hb1⟩
  go_wp2_with fail
  refine (C2.out _).mono ?_
  rintro _ w2 ⟨v2, rfl, hn2, hb2⟩
  go_wp2_with fail
  refine (C3.out _ _ _ (hn1.below hb2) hn2).mono ?_
  rintro _ w3 ⟨v3, rfl, hn3, hb3⟩
  have B3 : Hid (Below w.heap.size w w3) := Lib.hid (bnext (bnext hb1 hb1.size hb2) (Nat.le_trans hb1.size hb2.size) hb3)
  go_wp2_with fail
  refine (C4.out _ _ hn3).mono ?_
  rintro _ w4 ⟨rfl, hb4⟩
  have B4 := Lib.hid (bnext B3.out B3.out.size hb4)
  clear hn1 hn2 hn3 hb1 hb2 hb3 hb4 B3
  go_wp2
  go_ret2
  exact ⟨ret2 rfl rfl, B4.out⟩
set_option maxHeartbeats 2000000 in
theorem refminus_any (a b : Int) (w : World) (ha : InI a) (hb : InI b) :
    Calls Try.prog 33 #[.int .i64 a, .int .i64 b] w (Gives (.tuple #[.int .i64 (vI (a - b)), .int .i64 (eI (a - b))]) w) := by
  have C1 := Lib.hid (fun W => of_any a W ha)
  have C2 := Lib.hid (fun W => of_any b W hb)
  have Cn : Hid (∀ W u, NumAt W u b → Calls Try.prog 43 #[u] W (NumOut (-b) W)) := Lib.hid (fun W u h => num_neg u b W h)
  have C3 : Hid (∀ W u v, NumAt W u a → NumAt W v (-b) → Calls Try.prog 37 #[u, v] W (NumOut (a - b) W)) := Lib.hid (fun W u v h1 h2 => by
    have := num_add u v a (-b) W h1 h2 (hund_long ha) (hund_neg (hund_long hb))
    rwa [← Int.sub_eq_add_neg] at this)
  have C4 := Lib.hid (fun v W h => told_any v (a - b) W h)
  generalize vI (a - b) = V at *
  generalize eI (a - b) = E at *
  clear ha hb
  go_enter Try.func33, Try.ntmps33
  go_wp2_with fail
  refine (C1.out _).mono ?_
  rintro _ w1 ⟨v1, rfl, hn1, hb1⟩
  go_wp2_with fail
  refine (C2.out _).mono ?_
  rintro _ w2 ⟨v2, rfl, hn2, hb2⟩
  go_wp2_with fail
  refine (Cn.out _ _ hn2).mono ?_
  rintro _ w5 ⟨v5, rfl, hn5, hb5⟩
  have hn1 := (hn1.below hb2).below hb5
  have B2 : Hid (Below w.heap.size w w5) := Lib.hid (bnext (bnext hb1 hb1.size hb2) (Nat.le_trans hb1.size hb2.size) hb5)
  go_wp2_with fail
  refine (C3.out _ _ _ hn1 hn5).mono ?_
  rintro _ w3 ⟨v3, rfl, hn3, hb3⟩
  have B3 := Lib.hid (bnext B2.out B2.out.size hb3)
  go_wp2_with fail
  refine (C4.out _ _ hn3).mono ?_
  rintro _ w4 ⟨rfl, hb4⟩
  have B4 := Lib.hid (bnext B3.out B3.out.size hb4)
  clear hn1 hn2 hn3 hn5 hb1 hb2 hb3 hb4 hb5 B3 B2
  go_wp2
  go_ret2
  exact ⟨ret2 rfl rfl, B4.out⟩
end Go.Proofs.Ytahenediimoboaa
