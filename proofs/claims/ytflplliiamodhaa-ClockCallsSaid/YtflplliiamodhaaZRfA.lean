import Derived.Test.YtflplliiamodhaaZRf04
import Derived.Test.YtflplliiamodhaaZClkC
/- noonmarkref18: time, Right, sum. -/
namespace Go.Proofs.Ytflplliiamodhaa
open Go.RowKit
set_option linter.unusedVariables false
set_option linter.unusedSimpArgs false

theorem rtime_any (t : Int) (w : World) : Calls Try.prog 47 #[.int .i64 t] w fun e w' => e = .returned (.bool (tmI t)) ∧ w' = w := by
  obtain ⟨r, hr⟩ : ∃ r, tmI t = r := ⟨_, rfl⟩
  have HR := Lib.hid hr
  rw [hr]
  clear hr
  go_enter Try.func47, Try.ntmps47
  go_wp2
  all_goals
    go_ret
    exact ⟨ret_bool (by rw [← HR.out, Bool.eq_iff_iff]; unfold tmI; simp only [decide_eq_true_eq, Bool.false_eq_true, false_iff]; omega), rfl⟩
theorem tm_cases (t : Int) : (tmI t = true ∧ 0 ≤ t ∧ t ≤ 4611686018427387903) ∨ (tmI t = false ∧ ¬ (0 ≤ t ∧ t ≤ 4611686018427387903)) := by
  cases h : tmI t
  · exact .inr ⟨rfl, tm_no h⟩
  · exact .inl ⟨rfl, tm_yes h⟩
set_option maxHeartbeats 2000000 in
theorem rrgt_any (a g s c : Int) (w : World) : Calls Try.prog 42 #[.agg #[.int .i64 a, .int .i64 g, .int .i64 s, .int .i64 c]] w (Gives (.bool (rgtS (a, g, s, c))) w) := by
  have B0 := Lib.hid (one_alloc w (.cells #[.int .i64 a, .int .i64 g, .int .i64 s, .int .i64 c] 35))
  have CT := Lib.hid (fun t W => rtime_any t W)
  obtain ⟨r, hr⟩ : ∃ r, rgtS (a, g, s, c) = r := ⟨_, rfl⟩
  have HR : Hid (decide (RgtS a g s c) = r) := Lib.hid (by rw [← hr]; unfold rgtS; rfl)
  rw [hr]
  clear hr
  rcases tm_cases a with ⟨ha, ia⟩ | ⟨ha, ia⟩
  · rcases tm_cases g with ⟨hg, ig⟩ | ⟨hg, ig⟩
    · rcases tm_cases s with ⟨hs, is⟩ | ⟨hs, is⟩
      · rcases tm_cases c with ⟨hc, ic⟩ | ⟨hc, ic⟩
        · have I := Lib.hid (And.intro ia (And.intro ig (And.intro is ic)))
          clear ia ig is ic
          go_enter Try.func42, Try.ntmps42
          go_wp2_with (refine (CT.out _ _).mono ?_; rintro _ _ ⟨rfl, rfl⟩)
          all_goals
            go_ret
            exact gives_bool (by rw [← HR.out, Bool.eq_iff_iff, rgt_iff]; have := I.out; simp only [decide_eq_true_eq, Bool.false_eq_true, false_iff]; omega) B0.out
        · have F : Hid (r = false) := Lib.hid (by rw [← HR.out]; exact decide_eq_false (by unfold RgtS; omega))
          clear ia ig is ic HR
          go_enter Try.func42, Try.ntmps42
          go_wp2_with (refine (CT.out _ _).mono ?_; rintro _ _ ⟨rfl, rfl⟩)
          go_ret
          exact gives_bool F.out.symm B0.out
      · have F : Hid (r = false) := Lib.hid (by rw [← HR.out]; exact decide_eq_false (by unfold RgtS; omega))
        clear ia ig is HR
        go_enter Try.func42, Try.ntmps42
        go_wp2_with (refine (CT.out _ _).mono ?_; rintro _ _ ⟨rfl, rfl⟩)
        go_ret
        exact gives_bool F.out.symm B0.out
    · have F : Hid (r = false) := Lib.hid (by rw [← HR.out]; exact decide_eq_false (by unfold RgtS; omega))
      clear ia ig HR
      go_enter Try.func42, Try.ntmps42
      go_wp2_with (refine (CT.out _ _).mono ?_; rintro _ _ ⟨rfl, rfl⟩)
      go_ret
      exact gives_bool F.out.symm B0.out
  · have F : Hid (r = false) := Lib.hid (by rw [← HR.out]; exact decide_eq_false (by unfold RgtS; omega))
    clear ia HR
    go_enter Try.func42, Try.ntmps42
    go_wp2_with (refine (CT.out _ _).mono ?_; rintro _ _ ⟨rfl, rfl⟩)
    go_ret
    exact gives_bool F.out.symm B0.out
theorem num_is {w : World} {v : Value} {z : Int} (h : NumAt w v z) : ∃ ng la n c, v = .agg #[.bool ng, .slice la n c] ∧ NumAt w (.agg #[.bool ng, .slice la n c]) z := by
  have h' := h
  obtain ⟨ng, l, d, rfl, ⟨la, lc, rfl, -⟩, -⟩ := h
  exact ⟨ng, la, _, lc, rfl, h'⟩
def RNumOut (z : Int) (w : World) (e : Ending) (w' : World) : Prop := ∃ ng la n c, e = .returned (.agg #[.bool ng, .slice la n c]) ∧ NumAt w' (.agg #[.bool ng, .slice la n c]) z ∧ Below w.heap.size w w'
theorem RNumOut.of {z : Int} {w : World} {e : Ending} {w' : World} (h : NumOut z w e w') : RNumOut z w e w' := by
  obtain ⟨v, rfl, hn, hb⟩ := h
  obtain ⟨ng, la, n, c, rfl, hn'⟩ := num_is hn
  exact ⟨ng, la, n, c, rfl, hn', hb⟩
theorem NumAt.set2 {w : World} {v : Value} {z : Int} {b : Nat} {T : TypeId} (h : NumAt w v z) (k : Kept w b #[.bool false, .slice none 0 0] T) (p q : Value) : NumAt ((w.setCell ⟨b, 0, none⟩ p).setCell ⟨b, 1, none⟩ q) v z :=
  (h.setCell k.two.1 (by simp) p).setCell ((World.cell?_setCell_other _ _ _ _ (by simp)).trans k.two.2.1) (by simp) q
set_option maxHeartbeats 1000000 in
theorem rsum_any (a b : Int) (w : World) (ha : InI a) (hb : InI b) : Calls Try.prog 69 #[.int .i64 a, .int .i64 b] w (RNumOut (a + b) w) := by
  have C1 := Lib.hid (fun W => (of_any a W ha))
  have C2 := Lib.hid (fun W => (of_any b W hb))
  have C3 : Hid (∀ W u v, NumAt W u a → NumAt W v b → Calls Try.prog 54 #[u, v] W (NumOut (a + b) W)) := Lib.hid (fun W u v h1 h2 => num_add u v a b W h1 h2 (hund_long ha) (hund_long hb))
  have K0 : Hid (Kept (w.alloc (.cells #[.bool false, .slice none 0 0] 93)) w.heap.size #[.bool false, .slice none 0 0] 93) := Lib.hid (Kept.new rfl)
  have B0 := Lib.hid (one_alloc w (.cells #[.bool false, .slice none 0 0] 93))
  clear ha hb
  go_enter Try.func69, Try.ntmps69
  go_wp2_with fail
  -- @a
  refine (C1.out _).mono ?_
  rintro _ w1 ⟨v1, rfl, n1, b1⟩
  have N1 := Lib.hid n1
  have K1 := Lib.hid (K0.out.next b1)
  have B1 := Lib.hid (B0.out.trans (b1.mono B0.out.size))
  clear n1 b1 K0 B0
  go_wp2_with fail
  refine (C2.out _).mono ?_
  rintro _ w2 ⟨v2, rfl, n2, b2⟩
  have N2 := Lib.hid n2
  have N1' := Lib.hid (N1.out.below b2)
  have K2 := Lib.hid (K1.out.next b2)
  have B2 := Lib.hid (B1.out.trans (b2.mono B1.out.size))
  clear n2 b2 K1 B1 N1
  go_wp2_with fail
  refine (C3.out _ _ _ N1'.out N2.out).mono ?_
  rintro _ w3 ⟨v3, rfl, n3, b3⟩
  obtain ⟨ng, la, n, c, rfl, hn'⟩ := num_is n3
  have K3 := Lib.hid (K2.out.next b3)
  have B3 := Lib.hid (B2.out.trans (b3.mono B2.out.size))
  have U := Lib.hid (K3.out.set2 (.bool ng) (.slice la n c))
  have FF : Hid (RNumOut (a + b) w (.returned (.agg #[.bool ng, .slice la n c])) ((w3.setCell ⟨w.heap.size, 0, none⟩ (.bool ng)).setCell ⟨w.heap.size, 1, none⟩ (.slice la n c))) := Lib.hid ⟨ng, la, n, c, rfl, NumAt.set2 hn' K3.out _ _, bset2 B3.out (Nat.le_refl _) _ _⟩
  obtain ⟨u1, u2, -⟩ := U.out.two
  obtain ⟨y1, y2, y3, y4, y5⟩ := K3.out.two
  obtain ⟨W2, hW2⟩ : ∃ W2, (w3.setCell ⟨w.heap.size, 0, none⟩ (.bool ng)).setCell ⟨w.heap.size, 1, none⟩ (.slice la n c) = W2 := ⟨_, rfl⟩
  rw [hW2] at u1 u2 FF
  have HW2 := Lib.hid hW2
  clear n3 hn' b3 K2 B2 U hW2 N1' N2 K3 B3
  go_wp2
  -- @b
  rw [HW2.out]
  (try simp only [Exit.inBlock, Exit.then])
  refine bodyPost_ret (by simp [results, Try.f69, go_sem, u1, u2]; try rfl) rfl ?_
  exact FF.out
end Go.Proofs.Ytflplliiamodhaa
