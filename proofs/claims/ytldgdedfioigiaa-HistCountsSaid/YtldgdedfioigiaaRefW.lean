/- noonmarkref02: Num, Words: for all numbers of two words. -/
import Derived.Test.YtldgdedfioigiaaLimJ
import Derived.Test.YtldgdedfioigiaaWideB
namespace Go.Proofs.Ytldgdedfioigiaa
open Go.RowKit
set_option linter.unusedVariables false

theorem hund_small {z : Int} (h : -(18446744073709551616 * 18446744073709551616 * 18446744073709551616) < z ∧ z < 18446744073709551616 * 18446744073709551616 * 18446744073709551616) : Hund z := by
  have := pw_le 12 100 (by omega)
  have e : pw 12 = 18446744073709551616 * 18446744073709551616 * 18446744073709551616 := by decide +kernel
  unfold Hund
  omega
theorem word_limbs {w : World} {g : Nat} {t : TypeId} (hk : Kept w g #[.int .i64 0, .int .i64 0, .int .i64 0, .int .i64 0, .int .i64 1] t) : NumAt w (.agg #[.bool false, .slice (some ⟨g, 0, none⟩) 5 5]) 18446744073709551616 := by
  refine ⟨false, _, [0, 0, 0, 0, 1], rfl, ⟨some ⟨g, 0, none⟩, 5, rfl, fun j hj => ⟨g, 0, rfl, ?_⟩, by simp, by omega, by simp, fun j => ?_⟩, .inr (by simp), by simp, by simp [sg, nv, pv, pw]⟩
  · rw [(hk.at_ (0 + j)).1]
    have : j = 0 ∨ j = 1 ∨ j = 2 ∨ j = 3 ∨ j = 4 := by simp at hj; omega
    rcases this with rfl | rfl | rfl | rfl | rfl <;> rfl
  · rcases j with _ | _ | _ | _ | _ | j <;> simp
set_option maxHeartbeats 8000000 in
theorem refnum_any (h l : Int) (w : World) (hh : -9223372036854775808 ≤ h ∧ h ≤ 9223372036854775807) (hl : 0 ≤ l ∧ l ≤ 18446744073709551615) :
    Calls Try.prog 44 #[.int .i64 h, .int .u64 l] w fun e w' => NumOut (wz h l) w e w' := by
  have Cof := Lib.hid (fun W => of_any h W hh)
  have Cwh := Lib.hid (fun W => whole_any l W hl)
  have Cmul : Hid (∀ W u v, NumAt W u h → NumAt W v 18446744073709551616 → Calls Try.prog 40 #[u, v] W (NumOut (h * 18446744073709551616) W)) := Lib.hid (fun W u v h1 h2 => num_mul u v _ _ W h1 h2 (hund_small (by omega)) (hund_small (by omega)))
  have Cadd : Hid (∀ W u v, NumAt W u (h * 18446744073709551616) → NumAt W v l → Calls Try.prog 20 #[u, v] W (NumOut (wz h l) W)) := Lib.hid (fun W u v h1 h2 => num_add u v _ _ W h1 h2 (hund_small (by omega)) (hund_small (by omega)))
  obtain ⟨W, hW⟩ : ∃ W, ((w.alloc (.cells #[.bool false, .slice none 0 0] 50)).alloc (.cells #[.int .i64 0, .int .i64 0, .int .i64 0, .int .i64 0, .int .i64 1] 3)).alloc (.cells #[.bool false, .slice (some ⟨w.heap.size + 1, 0, none⟩) 5 5] 50) = W := ⟨_, rfl⟩
  have RB : Hid (Kept W.drew w.heap.size #[.bool false, .slice none 0 0] 50) := Lib.hid (by
    have h : Kept W w.heap.size #[.bool false, .slice none 0 0] 50 := by rw [← hW]; exact ((Kept.new rfl).alloc _).alloc _
    exact h)
  have HWd : Hid (NumAt W.drew (.agg #[.bool false, .slice (some ⟨w.heap.size + 1, 0, none⟩) 5 5]) 18446744073709551616) := Lib.hid (by
    have h : Kept W (w.heap.size + 1) #[.int .i64 0, .int .i64 0, .int .i64 0, .int .i64 0, .int .i64 1] 3 := by rw [← hW]; exact (Kept.new (by simp)).alloc _
    exact word_limbs (show Kept W.drew (w.heap.size + 1) _ _ from h))
  have KW : Hid (Kept W.drew (w.heap.size + 2) #[.bool false, .slice (some ⟨w.heap.size + 1, 0, none⟩) 5 5] 50) := Lib.hid (by
    have h : Kept W (w.heap.size + 2) #[.bool false, .slice (some ⟨w.heap.size + 1, 0, none⟩) 5 5] 50 := by rw [← hW]; exact Kept.new (by simp)
    exact h)
  have B0 : Hid (Below w.heap.size w W.drew) := Lib.hid (by
    have h : Below w.heap.size w W := by rw [← hW]; exact ((one_alloc w _).alloc (by simp) _).alloc (by simp; omega) _
    exact below_drewN h 1)
  have SS : Hid (Below w.heap.size w W.drew) ∧ W.drew.cell? ⟨w.heap.size + 2, 0, none⟩ = some (.bool false) ∧ W.drew.cell? ⟨w.heap.size + 2, 1, none⟩ = some (.slice (some ⟨w.heap.size + 1, 0, none⟩) 5 5) := ⟨B0, KW.out.two.1, KW.out.two.2.1⟩
  have HW := Lib.hid hW
  clear hW hh hl KW B0
  go_enter Try.func44, Try.ntmps44
  go_wp2
  rw [HW.out]
  obtain ⟨S0, k1, k2⟩ := SS
  have SS : Hid (Below w.heap.size w W.drew) ∧ W.drew.cell? ⟨w.heap.size + 2, 0, none⟩ = some (.bool false) ∧ W.drew.cell? ⟨w.heap.size + 2, 1, none⟩ = some (.slice (some ⟨w.heap.size + 1, 0, none⟩) 5 5) := ⟨S0, k1, k2⟩
  have SH := Lib.hid SS
  clear SS
  have SS := SH.out
  go_region_held3 (fun w' => Hid (Below w.heap.size w w') ∧ w'.cell? ⟨w.heap.size + 2, 0, none⟩ = some (.bool false) ∧ w'.cell? ⟨w.heap.size + 2, 1, none⟩ = some (.slice (some ⟨w.heap.size + 1, 0, none⟩) 5 5))
    (first | exact SS | exact ⟨Lib.hid (bset2 SS.1.out (Nat.le_refl _) _ _), set2_far SS.2.1 (by simp), set2_far SS.2.2 (by simp)⟩ | go_keep)
    (first | (go_at_call 21; refine (Cof.out _).mono ?_; rintro _ w1 ⟨v1, rfl, hn1, hb1⟩; have SS := keepB2 (a := w) hb1 SS; have HWd := Lib.hid (NumAt.below HWd.out hb1); have RB := Lib.hid (RB.out.next hb1); (try have hn4 := NumAt.below hn4 hb1)) | (go_at_call 36; refine (Cwh.out _).mono ?_; rintro _ w4 ⟨v4, rfl, hn4, hb4⟩; have SS := keepB2 (a := w) hb4 SS; have HWd := Lib.hid (NumAt.below HWd.out hb4); have RB := Lib.hid (RB.out.next hb4); (try have hn1 := NumAt.below hn1 hb4); (try have hn2 := NumAt.below hn2 hb4)) | (go_at_call 40; refine (Cmul.out _ v1 _ hn1 HWd.out).mono ?_; rintro _ w2 ⟨v2, rfl, hn2, hb2⟩; have SS := keepB2 (a := w) hb2 SS; have HWd := Lib.hid (NumAt.below HWd.out hb2); have RB := Lib.hid (RB.out.next hb2); (try have hn4 := NumAt.below hn4 hb2)) | (go_at_call 20; refine (Cadd.out _ v2 v4 hn2 hn4).mono ?_; rintro _ w3 ⟨v3, rfl, hn3, hb3⟩; have SS := keepB2 (a := w) hb3 SS; have HWd := Lib.hid (NumAt.below HWd.out hb3); have RB := Lib.hid (RB.out.next hb3); have HN3 := Lib.hid hn3; obtain ⟨ng, l', d', rfl, ⟨la', lc', rfl, -⟩, -⟩ := hn3; obtain ⟨r1, r2, r3, r4, r5⟩ := RB.out.two))
  all_goals
    go_wp2
    obtain ⟨s1, s2⟩ := RB.out.read2 (.bool ng) (.slice la' d'.length lc')
    refine bodyPost_ret (v := .agg #[.bool ng, .slice la' d'.length lc']) (by simp [results, Try.results44, go_sem, s1, s2]) rfl ?_
    exact num_stored_at SS.1.out HN3.out RB.out.two.1 RB.out.two.2.1 (by simp) (by simp) (Nat.le_refl _)
end Go.Proofs.Ytldgdedfioigiaa
