/- wide.Add: for every input. -/
import Derived.Test.YtpmoidpncpfnlaaWideB
namespace Go.Proofs.Ytpmoidpncpfnlaa
open Go.RowKit
set_option linter.unusedVariables false

set_option maxHeartbeats 4000000 in
theorem wadd_any (a b : Int) (w : World) (ha : InW a) (hb : InW b) : Calls Try.prog 74 #[wI a, wI b] w (Gives (.tuple #[wI (vW (a + b)), .int .i64 (eW (a + b))]) w) := by
  have ho := over_add ha hb
  have Cp := Lib.hid (fun w => wplus_any a b w)
  obtain ⟨h, l, e1, hh, hl, eh, -⟩ := wI_letters a
  obtain ⟨g, m, e2, hg, hm, eg, -⟩ := wI_letters b
  obtain ⟨H, L, e3, hH, hL, eH, -⟩ := wI_letters (a + b)
  rw [← eh, ← eg, ← eH] at ho
  rw [e1, e2, e3] at Cp
  have f1 : decide (¬ InW (a + b)) = true → ∀ w', Below w.heap.size w w' → Gives (.tuple #[wI (vW (a + b)), .int .i64 (eW (a + b))]) w (.returned (.tuple #[.agg #[.int .i64 0, .int .u64 0], .int .i64 12])) w' := fun hd w' hw => by
    have hd := of_decide_eq_true hd
    rw [vW_out hd, eW_out hd, wI_zero]
    exact ⟨rfl, hw⟩
  have f2 : decide (¬ InW (a + b)) = false → ∀ w', Below w.heap.size w w' → Gives (.tuple #[wI (vW (a + b)), .int .i64 (eW (a + b))]) w (.returned (.tuple #[.agg #[.int .i64 H, .int .u64 L], .int .i64 0])) w' := fun hd w' hw => by
    have hd := of_decide_eq_false hd
    rw [vW_in (by simpa using hd), eW_in (by simpa using hd), e3]
    exact ⟨rfl, hw⟩
  rw [← ho] at f1 f2
  rw [e1, e2]
  have F1 := Lib.hid f1
  have F2 := Lib.hid f2
  obtain ⟨W, hW⟩ : ∃ W, ((w.alloc (.cells #[.int .i64 h, .int .u64 l] 25)).alloc (.cells #[.int .i64 g, .int .u64 m] 25)).alloc (.cells #[.int .i64 0, .int .u64 0] 25) = W := ⟨_, rfl⟩
  have K0 : Hid (Kept W w.heap.size #[.int .i64 h, .int .u64 l] 25) := Lib.hid (by rw [← hW]; exact ((Kept.new (by simp)).alloc _).alloc _)
  have K1 : Hid (Kept W (w.heap.size + 1) #[.int .i64 g, .int .u64 m] 25) := Lib.hid (by rw [← hW]; exact (Kept.new (by simp)).alloc _)
  have R0 : Hid (Kept W (w.heap.size + 2) #[.int .i64 0, .int .u64 0] 25) := Lib.hid (by rw [← hW]; exact Kept.new (by simp))
  have B0 : Hid (Below w.heap.size w W) := Lib.hid (by rw [← hW]; exact (((Below.refl _ _).alloc (Nat.le_refl _) _).alloc (by simp) _).alloc (by simp; omega) _)
  have HW := Lib.hid hW
  clear f1 f2 ho eh eg eH e1 e2 e3 hh hl hg hm hH hL hW ha hb
  rcases hd1 : decide (h < 0) with _ | _ <;> rcases hd2 : decide (g < 0) with _ | _ <;> rcases hd3 : decide (H < 0) with _ | _
  all_goals
    rw [hd1, hd2, hd3] at F1 F2
    go_enter Try.func74, Try.ntmps74
    obtain ⟨a1, a2, -, -, a5⟩ := K0.out.two
    obtain ⟨b1, b2, -, -, b5⟩ := K1.out.two
    obtain ⟨c1, c2, c3, c4, c5⟩ := R0.out.two
    go_wp2_with fail
    rw [HW.out]
    refine (Cp.out _).mono ?_
    rintro _ w1 ⟨rfl, hb1⟩
    have N1 := Lib.hid (Kept.new (w := w1) (cs := #[.int .i64 H, .int .u64 L]) (t := 25) (g := w1.heap.size) rfl)
    have K2 := Lib.hid ((K0.out.next hb1).alloc (.cells #[.int .i64 H, .int .u64 L] 25))
    have K3 := Lib.hid ((K1.out.next hb1).alloc (.cells #[.int .i64 H, .int .u64 L] 25))
    have R1 := Lib.hid ((R0.out.next hb1).alloc (.cells #[.int .i64 H, .int .u64 L] 25))
    have B1 := Lib.hid ((B0.out.trans (hb1.mono B0.out.size)).trans ((one_alloc w1 (.cells #[.int .i64 H, .int .u64 L] 25)).mono (B0.out.trans (hb1.mono B0.out.size)).size))
    obtain ⟨n1, n2, -, -, n5⟩ := N1.out.two
    obtain ⟨p1, p2, -, -, p5⟩ := K2.out.two
    obtain ⟨q1, q2, -, -, q5⟩ := K3.out.two
    obtain ⟨r1, r2, r3, r4, r5⟩ := R1.out.two
    clear hb1
    go_wp2
    all_goals first
      | (obtain ⟨s1, s2⟩ := R1.out.read2 (.int .i64 0) (.int .u64 0); refine bodyPost_ret (v := .tuple #[.agg #[.int .i64 0, .int .u64 0], .int .i64 12]) (by simp [results, Try.results74, go_sem, s1, s2]) rfl ?_; exact F1.out rfl _ (bset2 B1.out (by omega) _ _))
      | (obtain ⟨s1, s2⟩ := R1.out.read2 (.int .i64 H) (.int .u64 L); refine bodyPost_ret (v := .tuple #[.agg #[.int .i64 H, .int .u64 L], .int .i64 0]) (by simp [results, Try.results74, go_sem, s1, s2]) rfl ?_; exact F2.out rfl _ (bset2 B1.out (by omega) _ _))
end Go.Proofs.Ytpmoidpncpfnlaa
