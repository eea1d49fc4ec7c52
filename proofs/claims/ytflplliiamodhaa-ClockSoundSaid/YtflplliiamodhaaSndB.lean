/- noonmarklaw18.made, walked. -/
import Derived.Test.YtflplliiamodhaaSndA
namespace Go.Proofs.Ytflplliiamodhaa
open Go.RowKit
set_option linter.unusedVariables false
set_option linter.unusedSimpArgs false

theorem Kept.set4 {w : World} {g : Nat} {x y z u : Value} {t : TypeId} (h : Kept w g #[x, y, z, u] t) (p q r s : Value) : Kept ((((w.setCell ⟨g, 0, none⟩ p).setCell ⟨g, 1, none⟩ q).setCell ⟨g, 2, none⟩ r).setCell ⟨g, 3, none⟩ s) g #[p, q, r, s] t := (((h.set 0 p).set 1 q).set 2 r).set 3 s
theorem bset4 {B : Nat} {a w : World} {g : Nat} (h : Below B a w) (hg : B ≤ g) (p q r s : Value) : Below B a ((((w.setCell ⟨g, 0, none⟩ p).setCell ⟨g, 1, none⟩ q).setCell ⟨g, 2, none⟩ r).setCell ⟨g, 3, none⟩ s) := (((h.setCell hg p).setCell hg q).setCell hg r).setCell hg s
def MadeOut (S : Sm) (ok : Bool) (w : World) (e : Ending) (w' : World) : Prop := e = .returned (.tuple #[.agg #[.int .i64 S.1, .int .i64 S.2.1, .int .i64 S.2.2.1, .int .i64 S.2.2.2], .bool ok]) ∧ Below w.heap.size w w'
set_option maxHeartbeats 4000000 in
set_option maxRecDepth 100000 in
theorem made_any (x : Option Addr) (xc : Nat) (l : List (Int × Int)) (g s ah be : Int) (w : World) (hx : PairRow w x l) (hl : l.length ≤ 1000) (hs : ∀ p ∈ l, InT p) :
    Calls Try.prog 22 #[.slice x l.length xc, .agg #[.int .i64 g, .int .i64 s, .int .i64 ah, .int .i64 be]] w (MadeOut (madeS l g s ah be) (madeB l g s ah be) w) := by
  obtain ⟨W, hW⟩ : ∃ W, (w.alloc (.cells #[.int .i64 g, .int .i64 s, .int .i64 ah, .int .i64 be] 56)).alloc (.cells #[.int .i64 0, .int .i64 0, .int .i64 0, .int .i64 0] 33) = W := ⟨_, rfl⟩
  have K0 : Hid (Kept W w.heap.size #[.int .i64 g, .int .i64 s, .int .i64 ah, .int .i64 be] 56) := Lib.hid (by rw [← hW]; exact (Kept.new rfl).alloc _)
  have K1 : Hid (Kept W (w.heap.size + 1) #[.int .i64 0, .int .i64 0, .int .i64 0, .int .i64 0] 33) := Lib.hid (by rw [← hW]; exact Kept.new (by simp))
  have B0 : Hid (Below w.heap.size w W) := Lib.hid (by rw [← hW]; exact (one_alloc _ _).alloc (by simp) _)
  have HW := Lib.hid hW
  have HX := Lib.hid (hx.below B0.out)
  have BAD : Hid (madeB l g s ah be = false → ∀ W1, Kept W1 (w.heap.size + 1) #[.int .i64 0, .int .i64 0, .int .i64 0, .int .i64 0] 33 → Below w.heap.size w W1 → ∃ W2, W2 = (((W1.setCell ⟨w.heap.size + 1, 0, none⟩ (.int .i64 0)).setCell ⟨w.heap.size + 1, 1, none⟩ (.int .i64 0)).setCell ⟨w.heap.size + 1, 2, none⟩ (.int .i64 0)).setCell ⟨w.heap.size + 1, 3, none⟩ (.int .i64 0) ∧ W2.cell? ⟨w.heap.size + 1, 0, none⟩ = some (.int .i64 0) ∧ W2.cell? ⟨w.heap.size + 1, 1, none⟩ = some (.int .i64 0) ∧ W2.cell? ⟨w.heap.size + 1, 2, none⟩ = some (.int .i64 0) ∧ W2.cell? ⟨w.heap.size + 1, 3, none⟩ = some (.int .i64 0) ∧ MadeOut (madeS l g s ah be) (madeB l g s ah be) w (.returned (.tuple #[.agg #[.int .i64 0, .int .i64 0, .int .i64 0, .int .i64 0], .bool false])) W2) := Lib.hid (by
    intro hb W1 hk hb1
    have k2 := hk.set4 (.int .i64 0) (.int .i64 0) (.int .i64 0) (.int .i64 0)
    have e : madeS l g s ah be = (0, 0, 0, 0) := if_neg (by rw [hb]; exact Bool.false_ne_true)
    exact ⟨_, rfl, k2.four.1, k2.four.2.1, k2.four.2.2.1, k2.four.2.2.2.1, by rw [e, hb], bset4 hb1 (Nat.le_succ _) _ _ _ _⟩)
  obtain ⟨x1, x2, x3, x4, -⟩ := K0.out.four
  by_cases hrg : 0 ≤ g ∧ 0 ≤ s ∧ g < l.length ∧ s < l.length ∧ 0 ≤ ah ∧ 0 ≤ be
  · obtain ⟨G, rfl⟩ : ∃ G : Nat, g = (G : Int) := ⟨g.toNat, by omega⟩
    obtain ⟨S, rfl⟩ : ∃ S : Nat, s = (S : Int) := ⟨s.toNat, by omega⟩
    have hG : G < l.length := by omega
    have hS : S < l.length := by omega
    obtain ⟨b, off, rfl, a1, a2⟩ := HX.out G hG
    obtain ⟨b', off', e', c1, c2⟩ := HX.out S hS
    cases e'
    have iA := hs _ (getD_mem hG)
    have iB := hs _ (getD_mem hS)
    have hmB : madeB l (G : Int) (S : Int) ah be = decide ((l.getD G (0, 0)).1 ≤ (l.getD S (0, 0)).1 ∧ ah ≤ (l.getD G (0, 0)).1 ∧ be ≤ 4611686018427387903 - (l.getD S (0, 0)).1) := by
      unfold madeB
      rw [Bool.eq_iff_iff, decide_eq_true_iff, decide_eq_true_iff, Int.toNat_natCast, Int.toNat_natCast]
      exact ⟨fun h => h.2.2.2.2.2.2, fun h => ⟨by omega, by omega, by omega, by omega, hrg.2.2.2.2.1, hrg.2.2.2.2.2, h⟩⟩
    have hmS : madeB l (G : Int) (S : Int) ah be = true → madeS l (G : Int) (S : Int) ah be = ((l.getD G (0, 0)).1 - ah, (l.getD G (0, 0)).2, (l.getD S (0, 0)).2, (l.getD S (0, 0)).1 + be) := fun h => by
      unfold madeS
      rw [if_pos h, Int.toNat_natCast, Int.toNat_natCast]
    obtain ⟨⟨p, q⟩, hp⟩ : ∃ z, l.getD G (0, 0) = z := ⟨_, rfl⟩
    obtain ⟨⟨p', q'⟩, hp'⟩ : ∃ z, l.getD S (0, 0) = z := ⟨_, rfl⟩
    rw [hp] at a1 a2 iA hmB hmS
    rw [hp'] at c1 c2 iB hmB hmS
    unfold InT at iA iB
    dsimp only at a1 a2 c1 c2 iA iB hmB hmS
    obtain ⟨GI, hGI⟩ : ∃ GI : Int, (G : Int) = GI := ⟨_, rfl⟩
    obtain ⟨SI, hSI⟩ : ∃ SI : Int, (S : Int) = SI := ⟨_, rfl⟩
    have t1 : decide ((G : Int) < 0) = false := decide_eq_false (by omega)
    have t2 : decide ((S : Int) < 0) = false := decide_eq_false (by omega)
    have t3 : decide ((l.length : Int) ≤ (G : Int)) = false := decide_eq_false (by omega)
    have t4 : decide ((l.length : Int) ≤ (S : Int)) = false := decide_eq_false (by omega)
    have t5 : decide (ah < 0) = false := decide_eq_false (by omega)
    have t6 : decide (be < 0) = false := decide_eq_false (by omega)
    have t7 : (0 : Int) ≤ (G : Int) := by omega
    have t8 : (G : Int) < (l.length : Int) := by omega
    have t9 : (0 : Int) ≤ (S : Int) := by omega
    have t10 : (S : Int) < (l.length : Int) := by omega
    have w1 : wrap64 (4611686018427387903 - p') = 4611686018427387903 - p' := IntWalk.wrap64_in _ (by omega)
    clear hx hs hW hl hp hp' hrg hGI hSI
    have t3n : decide (l.length ≤ G) = false := decide_eq_false (by omega)
    have t4n : decide (l.length ≤ S) = false := decide_eq_false (by omega)
    obtain ⟨WP, hWP⟩ : ∃ WP, W.alloc (.cells #[.int .i64 p, .int .i64 q] 59) = WP := ⟨_, rfl⟩
    have BP : Hid (Below W.heap.size W WP) := Lib.hid (by rw [← hWP]; exact one_alloc _ _)
    have KP0 : Hid (Kept WP W.heap.size #[.int .i64 p, .int .i64 q] 59) := Lib.hid (by rw [← hWP]; exact Kept.new rfl)
    have KB0 : Hid (Kept WP w.heap.size #[.int .i64 (G : Int), .int .i64 (S : Int), .int .i64 ah, .int .i64 be] 56) := Lib.hid (K0.out.next BP.out)
    have KB1 : Hid (Kept WP (w.heap.size + 1) #[.int .i64 0, .int .i64 0, .int .i64 0, .int .i64 0] 33) := Lib.hid (K1.out.next BP.out)
    have BBP := Lib.hid (B0.out.trans (BP.out.mono B0.out.size))
    have cc1 := keep1 BP.out c1
    have cc2 := keep1 BP.out c2
    have HWP := Lib.hid hWP
    obtain ⟨WA, hWA⟩ : ∃ WA, WP.alloc (.cells #[.int .i64 p', .int .i64 q'] 59) = WA := ⟨_, rfl⟩
    have BW : Hid (Below WP.heap.size WP WA) := Lib.hid (by rw [← hWA]; exact one_alloc _ _)
    have KA0 : Hid (Kept WA w.heap.size #[.int .i64 (G : Int), .int .i64 (S : Int), .int .i64 ah, .int .i64 be] 56) := Lib.hid (KB0.out.next BW.out)
    have KA1 : Hid (Kept WA (w.heap.size + 1) #[.int .i64 0, .int .i64 0, .int .i64 0, .int .i64 0] 33) := Lib.hid (KB1.out.next BW.out)
    have KP : Hid (Kept WA W.heap.size #[.int .i64 p, .int .i64 q] 59) := Lib.hid (KP0.out.next BW.out)
    have KQ : Hid (Kept WA WP.heap.size #[.int .i64 p', .int .i64 q'] 59) := Lib.hid (by rw [← hWA]; exact Kept.new rfl)
    have BA := Lib.hid (BBP.out.trans (BW.out.mono BBP.out.size))
    have HWA := Lib.hid hWA
    clear hWA hWP BW BP
    have RT : Hid (0 ≤ ah ∧ 0 ≤ be ∧ 0 ≤ p ∧ p ≤ 4611686018427387903 ∧ 0 ≤ p' ∧ p' ≤ 4611686018427387903) := Lib.hid (by
      have := of_decide_eq_false t5; have := of_decide_eq_false t6; omega)
    clear iA iB c1 c2
    go_enter Try.func22, Try.ntmps22
    go_upto_region 1 with fail
    rw [HW.out]
    go_upto_region 4 with fail
    rw [HWP.out]
    clear x1 x2 x3 x4 a1 a2 t1 t2 t3 t4 t5 t6 t3n t4n
    obtain ⟨x1, x2, x3, x4, -⟩ := KB0.out.four
    go_upto_region 5 with fail
    rw [HWA.out]
    obtain ⟨y1, y2, y3, y4, -⟩ := KA0.out.four
    obtain ⟨z1, z2, -⟩ := KP.out.two
    obtain ⟨u1, u2, -⟩ := KQ.out.two
    obtain ⟨v1, v2, v3, v4, v5, v6, v7, v8, -⟩ := KA1.out.four
    clear x1 x2 x3 x4 cc1 cc2 t7 t8 t9 t10
    by_cases hok : p ≤ p' ∧ ah ≤ p ∧ be ≤ 4611686018427387903 - p'
    · rw [decide_eq_true hok] at hmB
      have hS2 := hmS hmB
      have s1 : decide (p' < p) = false := decide_eq_false (by omega)
      have s2 : decide (p < ah) = false := decide_eq_false (by omega)
      have s3 : decide (4611686018427387903 - p' < be) = false := decide_eq_false (by omega)
      have w2 : wrap64 (p - ah) = p - ah := IntWalk.wrap64_in _ (by have := RT.out; omega)
      have w3 : wrap64 (p' + be) = p' + be := IntWalk.wrap64_in _ (by have := RT.out; omega)
      obtain ⟨W2, hW2⟩ : ∃ W2, (((WA.setCell ⟨w.heap.size + 1, 0, none⟩ (.int .i64 (p - ah))).setCell ⟨w.heap.size + 1, 1, none⟩ (.int .i64 q)).setCell ⟨w.heap.size + 1, 2, none⟩ (.int .i64 q')).setCell ⟨w.heap.size + 1, 3, none⟩ (.int .i64 (p' + be)) = W2 := ⟨_, rfl⟩
      have U : Hid (Kept W2 (w.heap.size + 1) #[.int .i64 (p - ah), .int .i64 q, .int .i64 q', .int .i64 (p' + be)] 33) := Lib.hid (by rw [← hW2]; exact KA1.out.set4 _ _ _ _)
      have FF : Hid (MadeOut (madeS l (G : Int) (S : Int) ah be) (madeB l (G : Int) (S : Int) ah be) w (.returned (.tuple #[.agg #[.int .i64 (p - ah), .int .i64 q, .int .i64 q', .int .i64 (p' + be)], .bool true])) W2) := Lib.hid ⟨by rw [hS2, hmB], by rw [← hW2]; exact bset4 BA.out (Nat.le_succ _) _ _ _ _⟩
      have HW2 := Lib.hid hW2
      obtain ⟨r1, r2, r3, r4, -⟩ := U.out.four
      clear hok hmB hmS hS2 hW2 U BAD RT
      go_wp2
      rw [HW2.out]
      (try simp only [Exit.inBlock, Exit.then])
      refine bodyPost_ret (by simp [results, Try.f22, go_sem, r1, r2, r3, r4]; try rfl) rfl ?_
      exact FF.out
    · rw [decide_eq_false hok] at hmB
      obtain ⟨W2, hW2, r1, r2, r3, r4, FF⟩ := BAD.out hmB WA KA1.out BA.out
      have FF := Lib.hid FF
      have HW2 := Lib.hid hW2
      have HOK := Lib.hid hok
      clear hok hmB hmS BAD RT hW2
      by_cases s1 : p' < p
      · have s1' : decide (p' < p) = true := decide_eq_true s1
        clear s1
        go_wp2
        rw [← HW2.out]
        (try simp only [Exit.inBlock, Exit.then])
        refine bodyPost_ret (by simp [results, Try.f22, go_sem, r1, r2, r3, r4]; try rfl) rfl ?_
        exact FF.out
      · have s1' : decide (p' < p) = false := decide_eq_false s1
        by_cases s2 : p < ah
        · have s2' : decide (p < ah) = true := decide_eq_true s2
          clear s1 s2
          go_wp2
          rw [← HW2.out]
          (try simp only [Exit.inBlock, Exit.then])
          refine bodyPost_ret (by simp [results, Try.f22, go_sem, r1, r2, r3, r4]; try rfl) rfl ?_
          exact FF.out
        · have s2' : decide (p < ah) = false := decide_eq_false s2
          have s3' : decide (4611686018427387903 - p' < be) = true := decide_eq_true (by have := HOK.out; omega)
          clear s1 s2
          go_wp2
          rw [← HW2.out]
          (try simp only [Exit.inBlock, Exit.then])
          refine bodyPost_ret (by simp [results, Try.f22, go_sem, r1, r2, r3, r4]; try rfl) rfl ?_
          exact FF.out
  · have hmB : madeB l g s ah be = false := decide_eq_false (fun h => hrg ⟨h.1, h.2.1, h.2.2.1, h.2.2.2.1, h.2.2.2.2.1, h.2.2.2.2.2.1⟩)
    obtain ⟨W2, hW2, r1, r2, r3, r4, FF⟩ := BAD.out hmB W K1.out B0.out
    have FF := Lib.hid FF
    have HW2 := Lib.hid hW2
    obtain ⟨v1, v2, v3, v4, v5, v6, v7, v8, -⟩ := K1.out.four
    have cs : g < 0 ∨ (¬ g < 0 ∧ s < 0) ∨ (¬ g < 0 ∧ ¬ s < 0 ∧ (l.length : Int) ≤ g) ∨ (¬ g < 0 ∧ ¬ s < 0 ∧ ¬ (l.length : Int) ≤ g ∧ (l.length : Int) ≤ s) ∨ (¬ g < 0 ∧ ¬ s < 0 ∧ ¬ (l.length : Int) ≤ g ∧ ¬ (l.length : Int) ≤ s ∧ ah < 0) ∨ (¬ g < 0 ∧ ¬ s < 0 ∧ ¬ (l.length : Int) ≤ g ∧ ¬ (l.length : Int) ≤ s ∧ ¬ ah < 0 ∧ be < 0) := by omega
    obtain ⟨N, hN⟩ : ∃ N : Int, (l.length : Int) = N := ⟨_, rfl⟩
    rw [hN] at cs
    clear hx hs hW hl hrg hmB hW2 BAD
    rcases cs with c1 | ⟨c1, c2⟩ | ⟨c1, c2, c3⟩ | ⟨c1, c2, c3, c4⟩ | ⟨c1, c2, c3, c4, c5⟩ | ⟨c1, c2, c3, c4, c5, c6⟩
    · have d1 : decide (g < 0) = true := decide_eq_true c1
      clear c1
      go_enter Try.func22, Try.ntmps22
      go_upto_region 1 with fail
      rw [HW.out]
      go_wp2
      rw [← HW2.out]
      (try simp only [Exit.inBlock, Exit.then])
      refine bodyPost_ret (by simp [results, Try.f22, go_sem, r1, r2, r3, r4]; try rfl) rfl ?_
      exact FF.out
    · have d1 : decide (g < 0) = false := decide_eq_false c1
      have d2 : decide (s < 0) = true := decide_eq_true c2
      clear c1 c2
      go_enter Try.func22, Try.ntmps22
      go_upto_region 1 with fail
      rw [HW.out]
      go_wp2
      rw [← HW2.out]
      (try simp only [Exit.inBlock, Exit.then])
      refine bodyPost_ret (by simp [results, Try.f22, go_sem, r1, r2, r3, r4]; try rfl) rfl ?_
      exact FF.out
    · have d1 : decide (g < 0) = false := decide_eq_false c1
      have d2 : decide (s < 0) = false := decide_eq_false c2
      have d3 : decide (N ≤ g) = true := decide_eq_true c3
      clear c1 c2 c3
      go_enter Try.func22, Try.ntmps22
      go_upto_region 1 with fail
      rw [HW.out]
      go_wp2
      rw [← HW2.out]
      (try simp only [Exit.inBlock, Exit.then])
      refine bodyPost_ret (by simp [results, Try.f22, go_sem, r1, r2, r3, r4]; try rfl) rfl ?_
      exact FF.out
    · have d1 : decide (g < 0) = false := decide_eq_false c1
      have d2 : decide (s < 0) = false := decide_eq_false c2
      have d3 : decide (N ≤ g) = false := decide_eq_false c3
      have d4 : decide (N ≤ s) = true := decide_eq_true c4
      clear c1 c2 c3 c4
      go_enter Try.func22, Try.ntmps22
      go_upto_region 1 with fail
      rw [HW.out]
      go_wp2
      rw [← HW2.out]
      (try simp only [Exit.inBlock, Exit.then])
      refine bodyPost_ret (by simp [results, Try.f22, go_sem, r1, r2, r3, r4]; try rfl) rfl ?_
      exact FF.out
    · have d1 : decide (g < 0) = false := decide_eq_false c1
      have d2 : decide (s < 0) = false := decide_eq_false c2
      have d3 : decide (N ≤ g) = false := decide_eq_false c3
      have d4 : decide (N ≤ s) = false := decide_eq_false c4
      have d5 : decide (ah < 0) = true := decide_eq_true c5
      clear c1 c2 c3 c4 c5
      go_enter Try.func22, Try.ntmps22
      go_upto_region 1 with fail
      rw [HW.out]
      go_wp2
      rw [← HW2.out]
      (try simp only [Exit.inBlock, Exit.then])
      refine bodyPost_ret (by simp [results, Try.f22, go_sem, r1, r2, r3, r4]; try rfl) rfl ?_
      exact FF.out
    · have d1 : decide (g < 0) = false := decide_eq_false c1
      have d2 : decide (s < 0) = false := decide_eq_false c2
      have d3 : decide (N ≤ g) = false := decide_eq_false c3
      have d4 : decide (N ≤ s) = false := decide_eq_false c4
      have d5 : decide (ah < 0) = false := decide_eq_false c5
      have d6 : decide (be < 0) = true := decide_eq_true c6
      clear c1 c2 c3 c4 c5 c6
      go_enter Try.func22, Try.ntmps22
      go_upto_region 1 with fail
      rw [HW.out]
      go_wp2
      rw [← HW2.out]
      (try simp only [Exit.inBlock, Exit.then])
      refine bodyPost_ret (by simp [results, Try.f22, go_sem, r1, r2, r3, r4]; try rfl) rfl ?_
      exact FF.out
end Go.Proofs.Ytflplliiamodhaa
