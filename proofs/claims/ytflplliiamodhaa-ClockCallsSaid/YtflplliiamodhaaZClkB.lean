import Derived.Test.YtflplliiamodhaaZClkA
import Derived.Test.YtflplliiamodhaaZDriftM
/- Sample.At: for every sample. -/
namespace Go.Proofs.Ytflplliiamodhaa
open Go.RowKit
set_option linter.unusedVariables false

def AtOut (s : Sm) (t r : Int) (w : World) (e : Ending) (w' : World) : Prop := e = .returned (.tuple #[.agg #[.int .i64 (atG s t r).1, .int .i64 (atG s t r).2], .int .i64 (atE s t r)]) ∧ Below w.heap.size w w'
def NewRes (a b : Int) (w : World) (x : Ending) (w' : World) : Prop := x = .returned (.tuple #[.agg #[.int .i64 (if a ≤ b then a else 0), .int .i64 (if a ≤ b then b else 0)], .bool (decide (a ≤ b))]) ∧ Below w.heap.size w w'
theorem new_any (a b : Int) (w : World) : Calls Try.prog 63 #[.int .i64 a, .int .i64 b] w (NewRes a b w) := by
  by_cases h : b < a
  · have fin : ∀ w', Below w.heap.size w w' → NewRes a b w (.returned (.tuple #[.agg #[.int .i64 0, .int .i64 0], .bool false])) w' := fun w' hb => ⟨by rw [if_neg (by omega), if_neg (by omega), decide_eq_false (by omega)], hb⟩
    have Fin := Lib.hid fin
    have K : Hid (Kept (w.alloc (.cells #[.int .i64 0, .int .i64 0] 39)) w.heap.size #[.int .i64 0, .int .i64 0] 39) := Lib.hid (Kept.new rfl)
    clear fin
    go_enter Try.func63, Try.ntmps63
    go_wp2
    refine bodyPost_ret (v := .tuple #[.agg #[.int .i64 0, .int .i64 0], .bool false]) (by simp [results, Try.results63, go_sem]) rfl ?_
    exact Fin.out _ (one_alloc _ _)
  · have fin : ∀ w', Below w.heap.size w w' → NewRes a b w (.returned (.tuple #[.agg #[.int .i64 a, .int .i64 b], .bool true])) w' := fun w' hb => ⟨by rw [if_pos (by omega), if_pos (by omega), decide_eq_true (by omega)], hb⟩
    have Fin := Lib.hid fin
    clear fin
    go_enter Try.func63, Try.ntmps63
    go_wp2
    refine bodyPost_ret (v := .tuple #[.agg #[.int .i64 a, .int .i64 b], .bool true]) (by simp [results, Try.results63, go_sem]) rfl ?_
    exact Fin.out _ (one_alloc _ _)
set_option maxHeartbeats 2000000 in
theorem at_any (a g s c t r : Int) (w : World) : Calls Try.prog 29 #[.agg #[.int .i64 a, .int .i64 g, .int .i64 s, .int .i64 c], .int .i64 t, .int .i64 r] w (AtOut (a, g, s, c) t r w) := by
  obtain ⟨W, hW⟩ : ∃ W, (w.alloc (.cells #[.int .i64 a, .int .i64 g, .int .i64 s, .int .i64 c] 33)).alloc (.cells #[.int .i64 0, .int .i64 0] 39) = W := ⟨_, rfl⟩
  have K0 : Hid (Kept W w.heap.size #[.int .i64 a, .int .i64 g, .int .i64 s, .int .i64 c] 33) := Lib.hid (by rw [← hW]; exact (Kept.new rfl).alloc _)
  have K1 : Hid (Kept W (w.heap.size + 1) #[.int .i64 0, .int .i64 0] 39) := Lib.hid (by rw [← hW]; exact Kept.new (by simp))
  have B0 : Hid (Below w.heap.size w W) := Lib.hid (by rw [← hW]; exact (one_alloc _ _).alloc (by simp) _)
  have CR := Lib.hid (srgt_any a g s c W)
  have BAD : Hid (∀ e, atE (a, g, s, c) t r = e → e ≠ 0 → ∀ W1, Kept W1 (w.heap.size + 1) #[.int .i64 0, .int .i64 0] 39 → Below w.heap.size w W1 → ∃ W2, W2 = (W1.setCell ⟨w.heap.size + 1, 0, none⟩ (.int .i64 0)).setCell ⟨w.heap.size + 1, 1, none⟩ (.int .i64 0) ∧ W2.cell? ⟨w.heap.size + 1, 0, none⟩ = some (.int .i64 0) ∧ W2.cell? ⟨w.heap.size + 1, 1, none⟩ = some (.int .i64 0) ∧ AtOut (a, g, s, c) t r w (.returned (.tuple #[.agg #[.int .i64 0, .int .i64 0], .int .i64 e])) W2) := Lib.hid (by
    intro e he h0 W1 hk hb
    have k2 := hk.set2 (.int .i64 0) (.int .i64 0)
    exact ⟨_, rfl, k2.two.1, k2.two.2.1, by rw [atG_bad (by rw [he]; exact h0), he], bset2 hb (Nat.le_succ _) _ _⟩)
  have HW := Lib.hid hW
  obtain ⟨x1, x2, x3, x4, -⟩ := K0.out.four
  cases hg : rgtS (a, g, s, c)
  · have F := Lib.hid (BAD.out 10 (atE_no hg) (by decide))
    rw [hg] at CR
    clear hW hg BAD
    go_enter Try.func29, Try.ntmps29
    go_wp2_with fail
    rw [HW.out]
    refine CR.out.mono ?_
    rintro _ w1 ⟨rfl, b1⟩
    have B1 := Lib.hid (bnext B0.out B0.out.size b1)
    have K2 := Lib.hid (K1.out.next b1)
    obtain ⟨y1, y2, y3, y4, y5⟩ := K2.out.two
    obtain ⟨W2, hW2, u1, u2, FF⟩ := F.out w1 K2.out B1.out
    have FF := Lib.hid FF
    have HW2 := Lib.hid hW2
    clear b1 F hW2
    go_wp2
    rw [← HW2.out]
    (try simp only [Exit.inBlock, Exit.then])
    refine bodyPost_ret (by simp [results, Try.f29, go_sem, u1, u2]; try rfl) rfl ?_
    exact FF.out
  · have hgg := rgt_yes hg
    unfold RgtS at hgg
    rw [hg] at CR
    have CT := Lib.hid (fun W => ctime_any t W)
    cases hm : tmI t
    · have F := Lib.hid (BAD.out 11 (atE_range hg (by rw [hm]; simp)) (by decide))
      rw [hm] at CT
      clear hW hg BAD hgg hm
      go_enter Try.func29, Try.ntmps29
      go_wp2_with fail
      rw [HW.out]
      refine CR.out.mono ?_
      rintro _ w1 ⟨rfl, b1⟩
      have B1 := Lib.hid (bnext B0.out B0.out.size b1)
      have K2 := Lib.hid (K1.out.next b1)
      obtain ⟨y1, y2, y3, y4, y5⟩ := K2.out.two
      obtain ⟨W2, hW2, u1, u2, FF⟩ := F.out w1 K2.out B1.out
      have FF := Lib.hid FF
      have HW2 := Lib.hid hW2
      clear b1 F hW2
      go_wp2_with fail
      refine (CT.out _).mono ?_
      rintro _ _ ⟨rfl, rfl⟩
      go_wp2
      rw [← HW2.out]
      (try simp only [Exit.inBlock, Exit.then])
      refine bodyPost_ret (by simp [results, Try.f29, go_sem, u1, u2]; try rfl) rfl ?_
      exact FF.out
    · have hmm := tm_yes hm
      rw [hm] at CT
      obtain ⟨x, hx⟩ : ∃ x, t - g = x := ⟨_, rfl⟩
      obtain ⟨y, hy⟩ : ∃ y, t - s = y := ⟨_, rfl⟩
      have hxr : -4611686018427387904 ≤ x ∧ x ≤ 4611686018427387904 := by omega
      have hyr : -4611686018427387904 ≤ y ∧ y ≤ 4611686018427387904 := by omega
      have wx : wrap64 x = x := IntWalk.wrap64_in _ (by omega)
      have wy : wrap64 y = y := IntWalk.wrap64_in _ (by omega)
      have CL := Lib.hid (fun W => low_any x r W)
      have CH := Lib.hid (fun W => high_any y r W (by unfold InI; omega))
      rw [rate_lowE hxr.1 hxr.2] at CL
      rw [rate_lowE hyr.1 hyr.2] at CH
      cases hq : rateB r
      · have F := Lib.hid (BAD.out 11 (atE_range hg (by rw [hq]; simp)) (by decide))
        rw [hq, if_neg Bool.false_ne_true] at CL
        obtain ⟨lv, hlv⟩ : ∃ lv, lowV x r = lv := ⟨_, rfl⟩
        rw [hlv] at CL
        clear hW hg BAD hgg hm hmm CH hq hxr hyr hlv
        go_enter Try.func29, Try.ntmps29
        go_wp2_with fail
        rw [HW.out]
        refine CR.out.mono ?_
        rintro _ w1 ⟨rfl, b1⟩
        have B1 := Lib.hid (bnext B0.out B0.out.size b1)
        obtain ⟨z1, z2, z3, z4, -⟩ := (K0.out.next b1).four
        have K2 := Lib.hid (K1.out.next b1)
        clear b1
        go_wp2_with fail
        refine (CT.out _).mono ?_
        rintro _ _ ⟨rfl, rfl⟩
        go_wp2_with fail
        refine (CL.out _).mono ?_
        rintro _ w3 ⟨rfl, b3⟩
        have B3 := Lib.hid (bnext B1.out B1.out.size b3)
        have K3 := Lib.hid (K2.out.next b3)
        obtain ⟨y1, y2, y3, y4, y5⟩ := K3.out.two
        obtain ⟨W2, hW2, u1, u2, FF⟩ := F.out w3 K3.out B3.out
        have FF := Lib.hid FF
        have HW2 := Lib.hid hW2
        clear b3 F hW2
        go_wp2
        rw [← HW2.out]
        (try simp only [Exit.inBlock, Exit.then])
        refine bodyPost_ret (by simp [results, Try.f29, go_sem, u1, u2]; try rfl) rfl ?_
        exact FF.out
      · have hrr := rate_yes hq
        rw [hq, if_pos rfl] at CL CH
        have l1 := low_range hxr.1 hxr.2 hrr.1 hrr.2
        have l2 := high_range hyr.1 hyr.2 hrr.1 hrr.2
        have CLV : lowV x r = lowI x r := by unfold lowV; rw [rate_lowE hxr.1 hxr.2, hq]; rfl
        have CHV : highV y r = highI y r := by unfold highV; rw [rate_lowE hyr.1 hyr.2, hq]; rfl
        rw [CLV] at CL
        rw [CHV] at CH
        have FE := atE_form (t := t) (r := r) hg ⟨hm, hq⟩
        have E1 : atLo (a, g, s, c) t r = max 0 (a + lowI x r) := by unfold atLo; dsimp only; rw [hx]
        have E2 : atHi (a, g, s, c) t r = min 4611686018427387903 (c + min (highI y r) 4611686018427387903) := by unfold atHi; dsimp only; rw [hy]; omega
        have G0 : atE (a, g, s, c) t r = 0 → atG (a, g, s, c) t r = (atLo (a, g, s, c) t r, atHi (a, g, s, c) t r) := fun h => atG_ok h
        obtain ⟨lv, hlv⟩ : ∃ lv, lowI x r = lv := ⟨_, rfl⟩
        obtain ⟨hv, hhv⟩ : ∃ hv, highI y r = hv := ⟨_, rfl⟩
        rw [hlv] at CL E1 l1
        rw [hhv] at CH E2 l2
        obtain ⟨p, hp⟩ : ∃ p, a + lv = p := ⟨_, rfl⟩
        obtain ⟨q, hq'⟩ : ∃ q, c + min hv 4611686018427387903 = q := ⟨_, rfl⟩
        have wp : wrap64 p = p := IntWalk.wrap64_in _ (by omega)
        have wq : wrap64 q = q := IntWalk.wrap64_in _ (by omega)
        rw [hp] at E1
        rw [hq'] at E2
        have CN := Lib.hid (fun W => new_any (max 0 p) (min 4611686018427387903 q) W)
        clear hW hg hgg hm hmm hq hxr hyr hlv hhv l1 l2 CLV CHV hrr
        have GOOD := Lib.hid (And.intro FE (And.intro E1 (And.intro E2 G0)))
        clear FE E1 E2 G0
        obtain ⟨lo, hlo⟩ : ∃ lo, max 0 p = lo := ⟨_, rfl⟩
        obtain ⟨hi, hhi⟩ : ∃ hi, min 4611686018427387903 q = hi := ⟨_, rfl⟩
        rw [hlo, hhi] at CN GOOD
        by_cases hle : lo ≤ hi
        · have FE : Hid (atE (a, g, s, c) t r = 0 ∧ atG (a, g, s, c) t r = (lo, hi)) := Lib.hid (by
            have h := GOOD.out
            rw [h.2.1, h.2.2.1, if_pos hle] at h
            exact ⟨h.1, h.2.2.2 h.1⟩)
          have CN' : Hid (∀ W, Calls Try.prog 63 #[.int .i64 lo, .int .i64 hi] W (Gives (.tuple #[.agg #[.int .i64 lo, .int .i64 hi], .bool true]) W)) := Lib.hid fun W => (CN.out W).mono fun e w' h => by
            unfold NewRes at h
            rw [if_pos hle, if_pos hle, decide_eq_true hle] at h
            exact h
          clear CN GOOD BAD hle
          go_enter Try.func29, Try.ntmps29
          go_wp2_with fail
          rw [HW.out]
          refine CR.out.mono ?_
          rintro _ w1 ⟨rfl, b1⟩
          have B1 := Lib.hid (bnext B0.out B0.out.size b1)
          have J1 := Lib.hid (K0.out.next b1)
          obtain ⟨z1, z2, z3, z4, -⟩ := J1.out.four
          have K2 := Lib.hid (K1.out.next b1)
          clear b1
          go_wp2_with fail
          refine (CT.out _).mono ?_
          rintro _ _ ⟨rfl, rfl⟩
          go_wp2_with fail
          refine (CL.out _).mono ?_
          rintro _ w3 ⟨rfl, b3⟩
          have B3 := Lib.hid (bnext B1.out B1.out.size b3)
          have K3 := Lib.hid (K2.out.next b3)
          have J3 := Lib.hid (J1.out.next b3)
          obtain ⟨v1, v2, v3, v4, -⟩ := J3.out.four
          clear b3 z1 z2 z3 z4 B1 J1 K2
          go_wp2_with fail
          refine (CH.out _).mono ?_
          rintro _ w4 ⟨rfl, b4⟩
          have B4 := Lib.hid (bnext B3.out B3.out.size b4)
          have K4 := Lib.hid (K3.out.next b4)
          obtain ⟨t1, t2, t3, t4, -⟩ := (J3.out.next b4).four
          clear b4 v1 v2 v3 v4 B3 J3 K3
          go_wp2_with fail
          (try rw [hlo]); (try rw [hhi])
          refine (CN'.out _).mono ?_
          rintro _ w5 ⟨rfl, b5⟩
          have B5 := Lib.hid ((bnext B4.out B4.out.size b5).alloc (by have := (bnext B4.out B4.out.size b5).size; omega) (.cells #[.int .i64 lo, .int .i64 hi] 39))
          have K5 := Lib.hid ((K4.out.next b5).alloc (.cells #[.int .i64 lo, .int .i64 hi] 39))
          obtain ⟨y1, y2, y3, y4, y5⟩ := K5.out.two
          have u := Lib.hid (K5.out.set2 (.int .i64 lo) (.int .i64 hi))
          have FF : Hid (AtOut (a, g, s, c) t r w (.returned (.tuple #[.agg #[.int .i64 lo, .int .i64 hi], .int .i64 0])) (((w5.alloc (.cells #[.int .i64 lo, .int .i64 hi] 39)).setCell ⟨w.heap.size + 1, 0, none⟩ (.int .i64 lo)).setCell ⟨w.heap.size + 1, 1, none⟩ (.int .i64 hi))) := Lib.hid ⟨by rw [FE.out.1, FE.out.2], bset2 B5.out (Nat.le_succ _) _ _⟩
          obtain ⟨u1, u2, -⟩ := u.out.two
          obtain ⟨W2, hW2⟩ : ∃ W2, ((w5.alloc (.cells #[.int .i64 lo, .int .i64 hi] 39)).setCell ⟨w.heap.size + 1, 0, none⟩ (.int .i64 lo)).setCell ⟨w.heap.size + 1, 1, none⟩ (.int .i64 hi) = W2 := ⟨_, rfl⟩
          rw [hW2] at u1 u2 FF
          have HW2 := Lib.hid hW2
          clear b5 hW2 u t1 t2 t3 t4
          go_wp2
          rw [HW2.out]
          (try simp only [Exit.inBlock, Exit.then])
          refine bodyPost_ret (by simp [results, Try.f29, go_sem, u1, u2]; try rfl) rfl ?_
          exact FF.out
        · have F : Hid _ := Lib.hid (BAD.out 13 (by
            have h := GOOD.out
            rw [h.2.1, h.2.2.1, if_neg hle] at h
            exact h.1) (by decide))
          have CN' : Hid (∀ W, Calls Try.prog 63 #[.int .i64 lo, .int .i64 hi] W (Gives (.tuple #[.agg #[.int .i64 0, .int .i64 0], .bool false]) W)) := Lib.hid fun W => (CN.out W).mono fun e w' h => by
            unfold NewRes at h
            rw [if_neg hle, if_neg hle, decide_eq_false hle] at h
            exact h
          clear CN GOOD BAD hle
          go_enter Try.func29, Try.ntmps29
          go_wp2_with fail
          rw [HW.out]
          refine CR.out.mono ?_
          rintro _ w1 ⟨rfl, b1⟩
          have B1 := Lib.hid (bnext B0.out B0.out.size b1)
          have J1 := Lib.hid (K0.out.next b1)
          obtain ⟨z1, z2, z3, z4, -⟩ := J1.out.four
          have K2 := Lib.hid (K1.out.next b1)
          clear b1
          go_wp2_with fail
          refine (CT.out _).mono ?_
          rintro _ _ ⟨rfl, rfl⟩
          go_wp2_with fail
          refine (CL.out _).mono ?_
          rintro _ w3 ⟨rfl, b3⟩
          have B3 := Lib.hid (bnext B1.out B1.out.size b3)
          have K3 := Lib.hid (K2.out.next b3)
          have J3 := Lib.hid (J1.out.next b3)
          obtain ⟨v1, v2, v3, v4, -⟩ := J3.out.four
          clear b3 z1 z2 z3 z4 B1 J1 K2
          go_wp2_with fail
          refine (CH.out _).mono ?_
          rintro _ w4 ⟨rfl, b4⟩
          have B4 := Lib.hid (bnext B3.out B3.out.size b4)
          have K4 := Lib.hid (K3.out.next b4)
          obtain ⟨t1, t2, t3, t4, -⟩ := (J3.out.next b4).four
          clear b4 v1 v2 v3 v4 B3 J3 K3
          go_wp2_with fail
          (try rw [hlo]); (try rw [hhi])
          refine (CN'.out _).mono ?_
          rintro _ w5 ⟨rfl, b5⟩
          have B5 := Lib.hid ((bnext B4.out B4.out.size b5).alloc (by have := (bnext B4.out B4.out.size b5).size; omega) (.cells #[.int .i64 0, .int .i64 0] 39))
          have K5 := Lib.hid ((K4.out.next b5).alloc (.cells #[.int .i64 0, .int .i64 0] 39))
          obtain ⟨y1, y2, y3, y4, y5⟩ := K5.out.two
          obtain ⟨W2, hW2, u1, u2, FF⟩ := F.out _ K5.out B5.out
          have FF := Lib.hid FF
          have HW2 := Lib.hid hW2
          clear b5 F hW2 t1 t2 t3 t4
          go_wp2
          rw [← HW2.out]
          (try simp only [Exit.inBlock, Exit.then])
          refine bodyPost_ret (by simp [results, Try.f29, go_sem, u1, u2]; try rfl) rfl ?_
          exact FF.out
end Go.Proofs.Ytflplliiamodhaa
