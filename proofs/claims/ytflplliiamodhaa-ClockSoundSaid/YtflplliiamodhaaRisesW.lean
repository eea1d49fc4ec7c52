/- ClockRises, walked. -/
import Derived.Test.YtflplliiamodhaaAlive
namespace Go.Proofs.Ytflplliiamodhaa
open Go.RowKit
set_option linter.unusedVariables false
set_option linter.unusedSimpArgs false

theorem atE_zero {s : Sm} {t r : Int} (h : atE s t r = 0) : rgtS s = true ∧ (0 ≤ t ∧ t ≤ 4611686018427387903) ∧ (0 ≤ r ∧ r ≤ 100000) ∧ atLo s t r ≤ atHi s t r := by
  unfold atE at h
  split at h
  · split at h
    · split at h
      · rename_i h1 h2 h3
        exact ⟨h1, tm_yes h2.1, rate_yes h2.2, h3⟩
      · cases h
    · cases h
  · cases h
theorem at_mono {s : Sm} {t u r : Int} (h : atE s t r = 0) (h' : atE s u r = 0) (htu : t ≤ u) : atLo s t r ≤ atLo s u r ∧ atHi s t r ≤ atHi s u r := by
  obtain ⟨-, -, hr, -⟩ := atE_zero h
  have h1 := low_mono (x := t - s.2.1) (y := u - s.2.1) (r := r) (by omega) hr.1 hr.2
  have h2 := high_mono (x := t - s.2.2.1) (y := u - s.2.2.1) (r := r) (by omega) hr.1 hr.2
  unfold atLo atHi
  omega
set_option maxHeartbeats 2000000 in
set_option maxRecDepth 100000 in
theorem clkrises_any (a g s c t u r : Int) (w : World) : Calls Try.prog 6 #[.agg #[.int .i64 a, .int .i64 g, .int .i64 s, .int .i64 c], .int .i64 t, .int .i64 u, .int .i64 r] w fun e w' => e = .returned (.bool true) ∧ Below w.heap.size w w' := by
  have C1 := Lib.hid fun W => at_any a g s c t r W
  have C2 := Lib.hid fun W => at_any a g s c u r W
  unfold AtOut at C1 C2
  have T0 : Hid (Kept (w.alloc (.cells #[.int .i64 a, .int .i64 g, .int .i64 s, .int .i64 c] 33)) w.heap.size #[.int .i64 a, .int .i64 g, .int .i64 s, .int .i64 c] 33) := Lib.hid (Kept.new rfl)
  have B0 : Hid (Below w.heap.size w (w.alloc (.cells #[.int .i64 a, .int .i64 g, .int .i64 s, .int .i64 c] 33))) := Lib.hid (one_alloc _ _)
  have F : Hid (atE (a, g, s, c) t r = 0 → atE (a, g, s, c) u r = 0 → t ≤ u → (atG (a, g, s, c) t r).1 ≤ (atG (a, g, s, c) u r).1 ∧ (atG (a, g, s, c) t r).2 ≤ (atG (a, g, s, c) u r).2) := Lib.hid fun h h' ht => by
    rw [atG_ok h, atG_ok h']
    exact at_mono h h' ht
  generalize atG (a, g, s, c) t r = z1 at *
  generalize atG (a, g, s, c) u r = z2 at *
  generalize atE (a, g, s, c) t r = e1 at *
  generalize atE (a, g, s, c) u r = e2 at *
  obtain ⟨p, q⟩ := z1
  obtain ⟨p', q'⟩ := z2
  dsimp only at *
  go_enter Try.func6, Try.ntmps6
  go_wp2_with fail
  refine (alive_any _).mono ?_
  rintro _ w1 ⟨rfl, b1⟩
  have T1 := Lib.hid (T0.out.next b1)
  have B1 := Lib.hid (B0.out.trans (b1.mono B0.out.size))
  obtain ⟨x1, x2, x3, x4, -⟩ := T1.out.four
  clear b1 T0 B0
  go_wp2_with fail
  refine (C1.out _).mono ?_
  rintro _ w2 ⟨rfl, b2⟩
  have bb := b2.trans ((one_alloc w2 (.cells #[.int .i64 p, .int .i64 q] 39)).mono b2.size)
  have T2 := Lib.hid (T1.out.next bb)
  have B2 := Lib.hid (B1.out.trans (bb.mono B1.out.size))
  have K2 : Hid (Kept (w2.alloc (.cells #[.int .i64 p, .int .i64 q] 39)) w2.heap.size #[.int .i64 p, .int .i64 q] 39) := Lib.hid (Kept.new rfl)
  clear b2 bb T1 B1 x1 x2 x3 x4
  go_upto_region 4 with fail
  generalize w2.alloc (.cells #[.int .i64 p, .int .i64 q] 39) = W2 at *
  generalize w2.heap.size = k2 at *
  obtain ⟨x1, x2, x3, x4, -⟩ := T2.out.four
  go_wp2_with fail
  refine (C2.out _).mono ?_
  rintro _ w3 ⟨rfl, b3⟩
  have bb := b3.trans ((one_alloc w3 (.cells #[.int .i64 p', .int .i64 q'] 39)).mono b3.size)
  have B3 := Lib.hid (B2.out.trans (bb.mono B2.out.size))
  have K2' := Lib.hid (K2.out.next bb)
  have K3 : Hid (Kept (w3.alloc (.cells #[.int .i64 p', .int .i64 q'] 39)) w3.heap.size #[.int .i64 p', .int .i64 q'] 39) := Lib.hid (Kept.new rfl)
  clear b3 bb T2 B2 K2 x1 x2 x3 x4
  go_upto_region 5 with fail
  generalize w3.alloc (.cells #[.int .i64 p', .int .i64 q'] 39) = W3 at *
  generalize w3.heap.size = k3 at *
  by_cases h1 : e1 = 0
  · by_cases h2 : e2 = 0
    · by_cases h3 : u < t
      · subst h1 h2
        go_wp2
        go_ret
        exact ⟨rfl, B3.out⟩
      · have h4 := F.out h1 h2 (by omega)
        have d1 : decide (p ≤ p') = true := decide_eq_true h4.1
        have d2 : decide (q ≤ q') = true := decide_eq_true h4.2
        obtain ⟨y1, y2, -⟩ := K2'.out.two
        obtain ⟨z1, z2, -⟩ := K3.out.two
        have h5 : decide (u < t) = false := decide_eq_false h3
        subst h1 h2
        clear h3 h4 F
        go_wp2
        go_ret
        exact ⟨by simp [*], B3.out⟩
    · have hd : (e2 != 0) = true := by rw [bne_iff_ne]; exact h2
      subst h1
      clear h2 F
      go_wp2
      go_ret
      exact ⟨rfl, B3.out⟩
  · have hd : (e1 != 0) = true := by rw [bne_iff_ne]; exact h1
    clear h1 F
    go_wp2
    go_ret
    exact ⟨rfl, B3.out⟩
end Go.Proofs.Ytflplliiamodhaa
