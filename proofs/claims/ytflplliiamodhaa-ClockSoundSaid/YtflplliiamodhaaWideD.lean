/- wide.Sub: for every input. -/
import Derived.Test.YtflplliiamodhaaWideC
namespace Go.Proofs.Ytflplliiamodhaa
open Go.RowKit
set_option linter.unusedVariables false

set_option maxHeartbeats 4000000 in
theorem wsub_any (a b : Int) (w : World) (ha : InW a) (hb : InW b) : Calls Try.prog 101 #[wI a, wI b] w (Gives (.tuple #[wI (vW (a - b)), .int .i64 (eW (a - b))]) w) := by
  have ho := over_sub ha hb
  obtain ⟨h, l, e1, hh, hl, eh, el⟩ := wI_letters a
  obtain ⟨g, m, e2, hg, hm, eg, em⟩ := wI_letters b
  obtain ⟨H, L, e3, hH, hL, eH, eL⟩ := wI_letters (a - b)
  rw [← eh, ← eg, ← eH] at ho
  have vL : (l - m) % 18446744073709551616 = L := by rw [el, em, eL]; unfold loW; omega
  obtain ⟨U, eU⟩ : ∃ U, IntKind.u64.wrap h = U := ⟨_, rfl⟩
  obtain ⟨T, eT⟩ : ∃ T, IntKind.u64.wrap g = T := ⟨_, rfl⟩
  have bU : 0 ≤ U ∧ U ≤ 18446744073709551615 ∧ (U = h ∨ U = h + 18446744073709551616) := by rw [IntKind.wrap_u64] at eU; omega
  have bT : 0 ≤ T ∧ T ≤ 18446744073709551615 ∧ (T = g ∨ T = g + 18446744073709551616) := by rw [IntKind.wrap_u64] at eT; omega
  obtain ⟨c, ec⟩ : ∃ c, -((l - m) / 18446744073709551616) = c := ⟨_, rfl⟩
  obtain ⟨D, eD⟩ : ∃ d, (U - T - c) % 18446744073709551616 = d := ⟨_, rfl⟩
  obtain ⟨G, eG⟩ : ∃ d, -((U - T - c) / 18446744073709551616) = d := ⟨_, rfl⟩
  have vH : wrap64 D = H := by
    have h1 : wz h l = a := by rw [eh, el]; exact wz_in ha
    have h2 : wz g m = b := by rw [eg, em]; exact wz_in hb
    rw [eH, ← h1, ← h2]
    unfold wz hiW wrap64
    omega
  have r1 := fun w => run_Sub64 l m 0 hl hm (by omega) w
  have r2 := fun w => run_Sub64 U T c ⟨bU.1, bU.2.1⟩ ⟨bT.1, bT.2.1⟩ (by omega) w
  simp only [Int.sub_zero, ec, vL] at r1
  rw [eD, eG] at r2
  have f1 : decide (¬ InW (a - b)) = true → ∀ w', Below w.heap.size w w' → Gives (.tuple #[wI (vW (a - b)), .int .i64 (eW (a - b))]) w (.returned (.tuple #[.agg #[.int .i64 0, .int .u64 0], .int .i64 12])) w' := fun hd w' hw => by
    have hd := of_decide_eq_true hd
    rw [vW_out hd, eW_out hd, wI_zero]
    exact ⟨rfl, hw⟩
  have f2 : decide (¬ InW (a - b)) = false → ∀ w', Below w.heap.size w w' → Gives (.tuple #[wI (vW (a - b)), .int .i64 (eW (a - b))]) w (.returned (.tuple #[.agg #[.int .i64 H, .int .u64 L], .int .i64 0])) w' := fun hd w' hw => by
    have hd := of_decide_eq_false hd
    rw [vW_in (by simpa using hd), eW_in (by simpa using hd), e3]
    exact ⟨rfl, hw⟩
  rw [← ho] at f1 f2
  rw [e1, e2]
  have F1 := Lib.hid f1
  have F2 := Lib.hid f2
  obtain ⟨W, hW⟩ : ∃ W, ((w.alloc (.cells #[.int .i64 h, .int .u64 l] 121)).alloc (.cells #[.int .i64 g, .int .u64 m] 121)).alloc (.cells #[.int .i64 0, .int .u64 0] 121) = W := ⟨_, rfl⟩
  have K0 : Hid (Kept W w.heap.size #[.int .i64 h, .int .u64 l] 121) := Lib.hid (by rw [← hW]; exact ((Kept.new (by simp)).alloc _).alloc _)
  have K1 : Hid (Kept W (w.heap.size + 1) #[.int .i64 g, .int .u64 m] 121) := Lib.hid (by rw [← hW]; exact (Kept.new (by simp)).alloc _)
  have R0 : Hid (Kept W (w.heap.size + 2) #[.int .i64 0, .int .u64 0] 121) := Lib.hid (by rw [← hW]; exact Kept.new (by simp))
  have B0 : Hid (Below w.heap.size w W) := Lib.hid (by rw [← hW]; exact (((Below.refl _ _).alloc (Nat.le_refl _) _).alloc (by simp) _).alloc (by simp; omega) _)
  have HW := Lib.hid hW
  clear f1 f2 ho eh el eg em eH eL e1 e2 e3 ec eD eG vL bU bT hh hl hg hm hH hL hW ha hb
  rcases hd1 : decide (h < 0) with _ | _ <;> rcases hd2 : decide (g < 0) with _ | _ <;> rcases hd3 : decide (H < 0) with _ | _
  all_goals
    rw [hd1, hd2, hd3] at F1 F2
    go_enter Try.func101, Try.ntmps101
    obtain ⟨a1, a2, -, -, a5⟩ := K0.out.two
    obtain ⟨b1, b2, -, -, b5⟩ := K1.out.two
    obtain ⟨c1, c2, c3, c4, c5⟩ := R0.out.two
    go_wp2
    all_goals first
      | (refine bodyPost_ret (v := .tuple #[.agg #[.int .i64 0, .int .u64 0], .int .i64 12]) (by simp [results, Try.results101, go_sem]) rfl ?_; exact F1.out rfl _ ((((((Below.refl _ _).alloc (Nat.le_refl _) _).alloc (by simp) _).alloc (by simp; omega) _).alloc (by simp; omega) _)))
      | (refine bodyPost_ret (v := .tuple #[.agg #[.int .i64 H, .int .u64 L], .int .i64 0]) (by simp [results, Try.results101, go_sem]) rfl ?_; exact F2.out rfl _ ((((((Below.refl _ _).alloc (Nat.le_refl _) _).alloc (by simp) _).alloc (by simp; omega) _).alloc (by simp; omega) _)))
end Go.Proofs.Ytflplliiamodhaa
