import Derived.Test.YtflplliiamodhaaZRfA
import Derived.Test.YtflplliiamodhaaZClkA
import Derived.StillTailTactics
import Derived.Deep.DeepCutAuto
import Derived.Deep.RegionHeld3
/- noonmarkref18.At: for every sample. Of gen_rfb.py. -/
namespace Go.Proofs.Ytflplliiamodhaa
open Go.RowKit
set_option linter.unusedVariables false
set_option linter.unusedSimpArgs false

/-- a box with a number -/
def NB (W : World) (k : Nat) (z : Int) : Prop := ∃ ng la n c, Kept W k #[.bool ng, .slice la n c] 93 ∧ NumAt W (.agg #[.bool ng, .slice la n c]) z
theorem NB.next {W W' : World} {k : Nat} {z : Int} (h : NB W k z) (b : Below W.heap.size W W') : NB W' k z := by
  obtain ⟨ng, la, n, c, h1, h2⟩ := h
  exact ⟨ng, la, n, c, h1.next b, h2.below b⟩
theorem num_store {W : World} {k' : Nat} {v : Value} {z : Int} {n0 : Bool} {l0 : Option Addr} {m0 c0 : Nat} {T : TypeId} (h : NumAt W v z) (kk : Kept W k' #[.bool n0, .slice l0 m0 c0] T) (p q : Value) : NumAt ((W.setCell ⟨k', 0, none⟩ p).setCell ⟨k', 1, none⟩ q) v z :=
  (h.setCell kk.two.1 (by simp) p).setCell ((World.cell?_setCell_other _ _ _ _ (by simp)).trans kk.two.2.1) (by simp) q
theorem NB.store {W : World} {k k' : Nat} {z : Int} {n0 : Bool} {l0 : Option Addr} {m0 c0 : Nat} {T : TypeId} (h : NB W k z) (kk : Kept W k' #[.bool n0, .slice l0 m0 c0] T) (hne : k ≠ k') (p q : Value) : NB ((W.setCell ⟨k', 0, none⟩ p).setCell ⟨k', 1, none⟩ q) k z := by
  obtain ⟨ng, la, n, c, h1, h2⟩ := h
  exact ⟨ng, la, n, c, (h1.far hne _).far hne _, num_store h2 kk p q⟩
theorem NB.put {W : World} {k' : Nat} {z : Int} {n0 ng : Bool} {l0 la : Option Addr} {m0 c0 n c : Nat} (h : NumAt W (.agg #[.bool ng, .slice la n c]) z) (kk : Kept W k' #[.bool n0, .slice l0 m0 c0] 93) : NB ((W.setCell ⟨k', 0, none⟩ (.bool ng)).setCell ⟨k', 1, none⟩ (.slice la n c)) k' z :=
  ⟨ng, la, n, c, kk.set2 _ _, num_store h kk _ _⟩
theorem hund_z {z : Int} (h : -100000000000000000000 ≤ z ∧ z ≤ 100000000000000000000) : Hund z := hund_of (by omega)
set_option maxHeartbeats 8000000 in
set_option maxRecDepth 100000 in
theorem rat_any (a g s c t r : Int) (w : World) : Calls Try.prog 45 #[.agg #[.int .i64 a, .int .i64 g, .int .i64 s, .int .i64 c], .int .i64 t, .int .i64 r] w (Gives (.tuple #[.agg #[.int .i64 (atG (a, g, s, c) t r).1, .int .i64 (atG (a, g, s, c) t r).2], .int .i64 (atE (a, g, s, c) t r)]) w) := by
  obtain ⟨W, hW⟩ : ∃ W, (w.alloc (.cells #[.int .i64 a, .int .i64 g, .int .i64 s, .int .i64 c] 35)).alloc (.cells #[.int .i64 0, .int .i64 0] 42) = W := ⟨_, rfl⟩
  have K0 : Hid (Kept W w.heap.size #[.int .i64 a, .int .i64 g, .int .i64 s, .int .i64 c] 35) := Lib.hid (by rw [← hW]; exact (Kept.new rfl).alloc _)
  have K1 : Hid (Kept W (w.heap.size + 1) #[.int .i64 0, .int .i64 0] 42) := Lib.hid (by rw [← hW]; exact Kept.new (by simp))
  have B0 : Hid (Below w.heap.size w W) := Lib.hid (by rw [← hW]; exact (one_alloc _ _).alloc (by simp) _)
  have CR := Lib.hid (rrgt_any a g s c W)
  have CT := Lib.hid (fun W => rtime_any t W)
  have CQ := Lib.hid (fun W => rrate_any r W)
  have OUT : Hid (∀ e lo hi, atE (a, g, s, c) t r = e → atG (a, g, s, c) t r = (lo, hi) → ∀ W1, Kept W1 (w.heap.size + 1) #[.int .i64 0, .int .i64 0] 42 → Below w.heap.size w W1 → ∃ W2, W2 = (W1.setCell ⟨w.heap.size + 1, 0, none⟩ (.int .i64 lo)).setCell ⟨w.heap.size + 1, 1, none⟩ (.int .i64 hi) ∧ W2.cell? ⟨w.heap.size + 1, 0, none⟩ = some (.int .i64 lo) ∧ W2.cell? ⟨w.heap.size + 1, 1, none⟩ = some (.int .i64 hi) ∧ Gives (.tuple #[.agg #[.int .i64 (atG (a, g, s, c) t r).1, .int .i64 (atG (a, g, s, c) t r).2], .int .i64 (atE (a, g, s, c) t r)]) w (.returned (.tuple #[.agg #[.int .i64 lo, .int .i64 hi], .int .i64 e])) W2) := Lib.hid (by
    intro e lo hi he hg W1 hk hb
    have k2 := hk.set2 (.int .i64 lo) (.int .i64 hi)
    exact ⟨_, rfl, k2.two.1, k2.two.2.1, by rw [hg, he], bset2 hb (Nat.le_succ _) _ _⟩)
  have HW := Lib.hid hW
  obtain ⟨x1, x2, x3, x4, -⟩ := K0.out.four
  cases hg : rgtS (a, g, s, c)
  · have hE := atE_no (t := t) (r := r) hg
    have F := Lib.hid (OUT.out 10 0 0 hE (atG_bad (by rw [hE]; decide)))
    rw [hg] at CR
    clear hW hg OUT hE
    go_enter Try.func45, Try.ntmps45
    go_wp2_with fail
    rw [HW.out]
    refine CR.out.mono ?_
    rintro _ w1 ⟨rfl, b1⟩
    have B1 := Lib.hid (bnext B0.out B0.out.size b1)
    have K2 := Lib.hid (K1.out.next b1)
    obtain ⟨y1, y2, y3, y4, y5⟩ := K2.out.two
    obtain ⟨W2, hW2, u1, u2, FF⟩ := F.out _ K2.out B1.out
    have FF := Lib.hid FF
    have HW2 := Lib.hid hW2
    clear F hW2
    go_wp2
    rw [← HW2.out]
    (try simp only [Exit.inBlock, Exit.then])
    refine bodyPost_ret (by simp [results, Try.f45, go_sem, u1, u2]; try rfl) rfl ?_
    exact FF.out
  · have hgg := rgt_yes hg
    unfold RgtS at hgg
    rw [hg] at CR
    cases hm : tmI t
    · have hE := atE_range (t := t) (r := r) hg (by rw [hm]; simp)
      have F := Lib.hid (OUT.out 11 0 0 hE (atG_bad (by rw [hE]; decide)))
      rw [hm] at CT
      clear hW hg OUT hE hgg hm
      go_enter Try.func45, Try.ntmps45
      go_wp2_with fail
      rw [HW.out]
      refine CR.out.mono ?_
      rintro _ w1 ⟨rfl, b1⟩
      have B1 := Lib.hid (bnext B0.out B0.out.size b1)
      have K2 := Lib.hid (K1.out.next b1)
      clear b1
      go_wp2_with fail
      refine (CT.out _).mono ?_
      rintro _ _ ⟨rfl, rfl⟩
      obtain ⟨y1, y2, y3, y4, y5⟩ := K2.out.two
      obtain ⟨W2, hW2, u1, u2, FF⟩ := F.out _ K2.out B1.out
      have FF := Lib.hid FF
      have HW2 := Lib.hid hW2
      clear F hW2
      go_wp2
      rw [← HW2.out]
      (try simp only [Exit.inBlock, Exit.then])
      refine bodyPost_ret (by simp [results, Try.f45, go_sem, u1, u2]; try rfl) rfl ?_
      exact FF.out
    · have hmm := tm_yes hm
      rw [hm] at CT
      cases hq : rateB r
      · have hE := atE_range (t := t) (r := r) hg (by rw [hq]; simp)
        have F := Lib.hid (OUT.out 11 0 0 hE (atG_bad (by rw [hE]; decide)))
        rw [hq] at CQ
        clear hW hg OUT hE hgg hm hmm hq
        go_enter Try.func45, Try.ntmps45
        go_wp2_with fail
        rw [HW.out]
        refine CR.out.mono ?_
        rintro _ w1 ⟨rfl, b1⟩
        have B1 := Lib.hid (bnext B0.out B0.out.size b1)
        have K2 := Lib.hid (K1.out.next b1)
        clear b1
        go_wp2_with fail
        refine (CT.out _).mono ?_
        rintro _ _ ⟨rfl, rfl⟩
        go_wp2_with fail
        refine (CQ.out _).mono ?_
        rintro _ _ ⟨rfl, rfl⟩
        obtain ⟨y1, y2, y3, y4, y5⟩ := K2.out.two
        obtain ⟨W2, hW2, u1, u2, FF⟩ := F.out _ K2.out B1.out
        have FF := Lib.hid FF
        have HW2 := Lib.hid hW2
        clear F hW2
        go_wp2
        rw [← HW2.out]
        (try simp only [Exit.inBlock, Exit.then])
        refine bodyPost_ret (by simp [results, Try.f45, go_sem, u1, u2]; try rfl) rfl ?_
        exact FF.out
      · rw [hq] at CQ
        have hrr := rate_yes hq
        obtain ⟨x, hx⟩ : ∃ x, t - g = x := ⟨_, rfl⟩
        obtain ⟨y, hy⟩ : ∃ y, t - s = y := ⟨_, rfl⟩
        have wx : wrap64 x = x := IntWalk.wrap64_in _ (by omega)
        have wy : wrap64 y = y := IntWalk.wrap64_in _ (by omega)
        have CL := Lib.hid (fun W => rlow_ok x r W (by omega) (by omega) hrr.1 hrr.2)
        have CH := Lib.hid (fun W => rhigh_ok y r W (by omega) (by omega) hrr.1 hrr.2)
        have l1 := low_range (x := x) (r := r) (by omega) (by omega) hrr.1 hrr.2
        have l2 := high_range (x := y) (r := r) (by omega) (by omega) hrr.1 hrr.2
        have FE := atE_form (t := t) (r := r) hg ⟨hm, hq⟩
        have E1 : atLo (a, g, s, c) t r = max 0 (a + lowI x r) := by unfold atLo; dsimp only; rw [hx]
        have E2 : atHi (a, g, s, c) t r = min 4611686018427387903 (c + highI y r) := by unfold atHi; dsimp only; rw [hy]
        have G0 : atE (a, g, s, c) t r = 0 → atG (a, g, s, c) t r = (atLo (a, g, s, c) t r, atHi (a, g, s, c) t r) := fun h => atG_ok h
        have G1 : atE (a, g, s, c) t r ≠ 0 → atG (a, g, s, c) t r = (0, 0) := fun h => atG_bad h
        obtain ⟨lv, hlv⟩ : ∃ lv, lowI x r = lv := ⟨_, rfl⟩
        obtain ⟨hv, hhv⟩ : ∃ hv, highI y r = hv := ⟨_, rfl⟩
        rw [hlv] at CL E1 l1
        rw [hhv] at CH E2 l2
        have CP := Lib.hid (fun W => rsum_any a lv W (by unfold InI; omega) (by unfold InI; omega))
        have CQ2 := Lib.hid (fun W => rsum_any c hv W (by unfold InI; omega) (by unfold InI; omega))
        obtain ⟨p, hp⟩ : ∃ p, a + lv = p := ⟨_, rfl⟩
        obtain ⟨q, hq'⟩ : ∃ q, c + hv = q := ⟨_, rfl⟩
        rw [hp] at CP E1
        rw [hq'] at CQ2 E2
        have RNG : Hid (-10000000000000000000 ≤ p ∧ p ≤ 9300000000000000000 ∧ -10000000000000000000 ≤ q ∧ q ≤ 11000000000000000000) := Lib.hid (by omega)
        have GOOD := Lib.hid (And.intro FE (And.intro E1 (And.intro E2 (And.intro G0 G1))))
        have CZ : Hid (∀ W, Calls Try.prog 51 #[.int .i64 0] W (RNumOut 0 W)) := Lib.hid fun W => (of_any 0 W (by unfold InI; omega)).mono fun _ _ h => RNumOut.of h
        have CM : Hid (∀ W, Calls Try.prog 51 #[.int .i64 4611686018427387903] W (RNumOut 4611686018427387903 W)) := Lib.hid fun W => (of_any _ W (by unfold InI; omega)).mono fun _ _ h => RNumOut.of h
        have CC : Hid (∀ W u v x y, NumAt W u x → NumAt W v y → (-100000000000000000000 ≤ x ∧ x ≤ 100000000000000000000) → (-100000000000000000000 ≤ y ∧ y ≤ 100000000000000000000) → Calls Try.prog 70 #[u, v] W (Gives (.int .i64 (lordI x y)) W)) := Lib.hid fun W u v x y h1 h2 h3 h4 => num_cmp u v x y W h1 h2 (hund_z h3) (hund_z h4)
        have CLG : Hid (∀ W v z, NumAt W v z → InI z → Calls Try.prog 52 #[v] W (Gives (.tuple #[.int .i64 z, .bool true]) W)) := Lib.hid (fun W v z h hz => (long_any v z W h).mono fun e w' hh => by
          obtain ⟨⟨u, h1, h2⟩, h3⟩ := hh
          rw [h2 hz, decide_eq_true hz] at h1
          exact ⟨h1, h3⟩)
        clear hW hg hgg hm hmm hq hlv hhv l1 l2 hrr FE E1 E2 G0 G1 hp hq'
        go_enter Try.func45, Try.ntmps45
        go_wp2_with fail
        rw [HW.out]
        refine CR.out.mono ?_
        rintro _ w1 ⟨rfl, b1⟩
        have B1 := Lib.hid (bnext B0.out B0.out.size b1)
        have J1 := Lib.hid (K0.out.next b1)
        have K2 := Lib.hid (K1.out.next b1)
        clear b1 x1 x2 x3 x4
        obtain ⟨x1, x2, x3, x4, -⟩ := J1.out.four
        go_wp2_with fail
        refine (CT.out _).mono ?_
        rintro _ _ ⟨rfl, rfl⟩
        go_wp2_with fail
        refine (CQ.out _).mono ?_
        rintro _ _ ⟨rfl, rfl⟩
        go_wp2_with fail
        refine (CL.out _).mono ?_
        rintro _ w3 ⟨rfl, b3⟩
        have B3 := Lib.hid (bnext B1.out B1.out.size b3)
        have J3 := Lib.hid (J1.out.next b3)
        have K3 := Lib.hid (K2.out.next b3)
        clear b3 x1 x2 x3 x4 B1 J1 K2
        obtain ⟨x1, x2, x3, x4, -⟩ := J3.out.four
        go_wp2_with fail
        refine (CH.out _).mono ?_
        rintro _ w4 ⟨rfl, b4⟩
        have B4 := Lib.hid (bnext B3.out B3.out.size b4)
        have J4 := Lib.hid (J3.out.next b4)
        have K4 := Lib.hid (K3.out.next b4)
        clear b4 x1 x2 x3 x4 B3 J3 K3
        obtain ⟨x1, x2, x3, x4, -⟩ := J4.out.four
        go_wp2_with fail
        refine (CP.out _).mono ?_
        rintro _ w5 ⟨n5, l5, m5, c5, rfl, N5, b5⟩
        have bb := b5.trans ((one_alloc w5 (.cells #[.bool n5, .slice l5 m5 c5] 93)).mono b5.size)
        have P5 : Hid (NB (w5.alloc (.cells #[.bool n5, .slice l5 m5 c5] 93)) w5.heap.size p) := Lib.hid ⟨n5, l5, m5, c5, Kept.new rfl, N5.below (one_alloc _ _)⟩
        have GB5 : Hid (w.heap.size ≤ w5.heap.size) := Lib.hid (Nat.le_trans B4.out.size b5.size)
        have B5 := Lib.hid (bnext B4.out B4.out.size bb)
        have J5 := Lib.hid (J4.out.next bb)
        have K5 := Lib.hid (K4.out.next bb)
        clear b5 bb N5 x1 x2 x3 x4 B4 J4 K4
        go_upto_region 8 with fail
        have G12x : Hid (w.heap.size ≤ w5.heap.size) := Lib.hid GB5.out
        generalize w5.alloc (.cells #[.bool n5, .slice l5 m5 c5] 93) = W5 at *
        generalize w5.heap.size = k12 at *
        obtain ⟨x1, x2, x3, x4, -⟩ := J5.out.four
        go_wp2_with fail
        refine (CQ2.out _).mono ?_
        rintro _ w6 ⟨n6, l6, m6, c6, rfl, N6, b6⟩
        have bb := b6.trans ((one_alloc w6 (.cells #[.bool n6, .slice l6 m6 c6] 93)).mono b6.size)
        have D13 : Hid (k12 ≠ w6.heap.size) := Lib.hid (by
          obtain ⟨_, _, _, _, hk, _⟩ := P5.out.next b6
          have := hk.lt; omega)
        have Q6 : Hid (NB (w6.alloc (.cells #[.bool n6, .slice l6 m6 c6] 93)) w6.heap.size q) := Lib.hid ⟨n6, l6, m6, c6, Kept.new rfl, N6.below (one_alloc _ _)⟩
        have P6 := Lib.hid (P5.out.next bb)
        have GB6 : Hid (w.heap.size ≤ w6.heap.size) := Lib.hid (Nat.le_trans B5.out.size b6.size)
        have B6 := Lib.hid (bnext B5.out B5.out.size bb)
        have K6 := Lib.hid (K5.out.next bb)
        clear b6 bb N6 x1 x2 x3 x4 B5 J5 K5 P5
        go_upto_region 9 with fail
        have G13x : Hid (w.heap.size ≤ w6.heap.size) := Lib.hid GB6.out
        generalize w6.alloc (.cells #[.bool n6, .slice l6 m6 c6] 93) = W6 at *
        generalize w6.heap.size = k13 at *
        have G12 : Hid (w.heap.size ≤ k12) := G12x
        have G13 : Hid (w.heap.size ≤ k13) := G13x
        have P6d : Hid (NB W6.drew k12 p) := P6
        have Q6d : Hid (NB W6.drew k13 q) := Q6
        have K6d : Hid (Kept W6.drew (w.heap.size + 1) #[.int .i64 0, .int .i64 0] 42) := Lib.hid K6.out
        have B6d : Hid (Below w.heap.size w W6.drew) := Lib.hid B6.out.drew
        obtain ⟨n7, l7, m7, c7, k7, N7⟩ := P6d.out
        have S1 : W6.drew.cell? ⟨k12, 0, none⟩ = some (.bool n7) ∧ W6.drew.cell? ⟨k12, 1, none⟩ = some (.slice l7 m7 c7) := ⟨k7.two.1, k7.two.2.1⟩
        have N7 := Lib.hid N7
        have SS := Lib.hid S1
        clear P6 Q6 K6 B6 k7
        obtain ⟨s1, s2⟩ := S1
        go_region_held3 (fun w' => w'.cell? ⟨k12, 0, none⟩ = some (.bool n7) ∧ w'.cell? ⟨k12, 1, none⟩ = some (.slice l7 m7 c7))
          (first | exact ⟨s1, s2⟩ | exact SS2.out | exact SS1.out | exact SS.out | go_keep)
          (first
            | (go_at_call 51; refine (CZ.out _).mono ?_; rintro _ wz ⟨nz, lz, mz, cz, rfl, Nz, bz⟩; have SS1 := Lib.hid (keep2 bz SS.out); have HNz := Lib.hid Nz; have N8 := Lib.hid (N7.out.below bz); have HBz := Lib.hid bz; clear Nz bz)
            | (go_at_call 70; refine (CC.out _ _ _ _ _ N8.out HNz.out (by have := RNG.out; omega) (by omega)).mono ?_; rintro _ wc ⟨rfl, bc⟩; have SS2 := Lib.hid (keep2 bc SS1.out); have HBc := Lib.hid (HBz.out.trans (bc.mono HBz.out.size)); clear bc))
        all_goals
          have P8 := Lib.hid (P6d.out.next HBc.out)
          have Q8 := Lib.hid (Q6d.out.next HBc.out)
          have K8 := Lib.hid (K6d.out.next HBc.out)
          have B8 := Lib.hid (bnext B6d.out B6d.out.size HBc.out)
          clear P6d Q6d K6d B6d HBc HBz HNz N8 N7 SS SS1 SS2 s1 s2
          by_cases hpn : p < 0
          · have d1 : lordI p 0 < 0 := by unfold lordI; rw [if_pos hpn]; omega
            go_wp2_with fail
            refine (CZ.out _).mono ?_
            rintro _ w9 ⟨n9, l9, m9, c9, rfl, N9, b9⟩
            obtain ⟨np, lp, mp, cp, kp, Np⟩ := P8.out.next b9
            have P9 : Hid (NB ((w9.setCell ⟨k12, 0, none⟩ (.bool n9)).setCell ⟨k12, 1, none⟩ (.slice l9 m9 c9)) k12 0) := Lib.hid (NB.put N9 kp)
            have Q9 : Hid (NB ((w9.setCell ⟨k12, 0, none⟩ (.bool n9)).setCell ⟨k12, 1, none⟩ (.slice l9 m9 c9)) k13 q) := Lib.hid ((Q8.out.next b9).store kp (fun e => D13.out e.symm) _ _)
            have nk : w.heap.size + 1 ≠ k12 := fun e => by
              have h1 : Kept w9 k12 #[.int .i64 0, .int .i64 0] 42 := e ▸ (K8.out.next b9)
              have h2 : some (Value.int .i64 0) = some (Value.bool np) := h1.two.1.symm.trans kp.two.1
              cases h2
            have K9 : Hid (Kept ((w9.setCell ⟨k12, 0, none⟩ (.bool n9)).setCell ⟨k12, 1, none⟩ (.slice l9 m9 c9)) (w.heap.size + 1) #[.int .i64 0, .int .i64 0] 42) := Lib.hid (((K8.out.next b9).far nk _).far nk _)
            have B9 : Hid (Below w.heap.size w ((w9.setCell ⟨k12, 0, none⟩ (.bool n9)).setCell ⟨k12, 1, none⟩ (.slice l9 m9 c9))) := Lib.hid (bset2 (bnext B8.out B8.out.size b9) (G12.out) _ _)
            obtain ⟨y1, y2, y3, y4, y5⟩ := kp.two
            clear b9 N9 kp Np nk P8 Q8 K8 B8
            go_upto_region 11 with fail
            generalize (w9.setCell ⟨k12, 0, none⟩ (.bool n9)).setCell ⟨k12, 1, none⟩ (.slice l9 m9 c9) = W9 at *
            clear y1 y2 y3 y4 y5
            have PZ : Hid ((0 : Int) = max 0 p ∧ (-10000000000000000000 : Int) ≤ 0 ∧ (0 : Int) ≤ 9300000000000000000) := Lib.hid (by omega)
            go_wp2_with fail
            refine (CM.out _).mono ?_
            rintro _ wa ⟨na, la, ma, ca, rfl, Na, ba⟩
            have bb := ba.trans ((one_alloc wa (.cells #[.bool na, .slice la ma ca] 93)).mono ba.size)
            have KM : Hid (Kept (wa.alloc (.cells #[.bool na, .slice la ma ca] 93)) wa.heap.size #[.bool na, .slice la ma ca] 93) := Lib.hid (Kept.new rfl)
            have NM := Lib.hid (Na.below (one_alloc wa (.cells #[.bool na, .slice la ma ca] 93)))
            have Pa := Lib.hid (P9.out.next bb)
            have Qa := Lib.hid (Q9.out.next bb)
            have Ka := Lib.hid (K9.out.next bb)
            have Ba := Lib.hid (bnext B9.out B9.out.size bb)
            clear ba bb Na P9 Q9 K9 B9
            go_upto_region 12 with fail
            generalize wa.alloc (.cells #[.bool na, .slice la ma ca] 93) = Wa at *
            generalize wa.heap.size = k14 at *
            obtain ⟨nq, lq, mq, cq, kq, Nq⟩ := Qa.out
            obtain ⟨y1, y2, y3, y4, y5⟩ := kq.two
            obtain ⟨z1, z2, z3, z4, z5⟩ := KM.out.two
            have HKQ := Lib.hid kq
            have HNQ := Lib.hid Nq
            clear kq Nq
            go_wp2_with fail
            refine (CC.out _ _ _ _ _ HNQ.out NM.out (by have := RNG.out; omega) (by omega)).mono ?_
            rintro _ wb ⟨rfl, bb⟩
            have Pb := Lib.hid (Pa.out.next bb)
            have Qb := Lib.hid (Qa.out.next bb)
            have Kb := Lib.hid (Ka.out.next bb)
            have Bb := Lib.hid (bnext Ba.out Ba.out.size bb)
            have KMb := Lib.hid (KM.out.next bb)
            have NMb := Lib.hid (NM.out.below bb)
            have KQb := Lib.hid (HKQ.out.next bb)
            clear bb Pa Qa Ka Ba KM NM HKQ HNQ y1 y2 y3 y4 y5 z1 z2 z3 z4 z5
            by_cases hqm : 4611686018427387903 < q
            · have d2 : 0 < lordI q 4611686018427387903 := by unfold lordI; rw [if_neg (by omega), if_pos hqm]; omega
              obtain ⟨y1, y2, y3, y4, y5⟩ := KQb.out.two
              obtain ⟨z1, z2, z3, z4, z5⟩ := KMb.out.two
              have Qc : Hid (NB ((wb.setCell ⟨k13, 0, none⟩ (.bool na)).setCell ⟨k13, 1, none⟩ (.slice la ma ca)) k13 4611686018427387903) := Lib.hid (NB.put NMb.out KQb.out)
              have Pc : Hid (NB ((wb.setCell ⟨k13, 0, none⟩ (.bool na)).setCell ⟨k13, 1, none⟩ (.slice la ma ca)) k12 (0 : Int)) := Lib.hid (Pb.out.store KQb.out D13.out _ _)
              have nk : w.heap.size + 1 ≠ k13 := fun e => by
                have h1 : Kept wb k13 #[.int .i64 0, .int .i64 0] 42 := e ▸ Kb.out
                have h2 : some (Value.int .i64 0) = some (Value.bool nq) := h1.two.1.symm.trans KQb.out.two.1
                cases h2
              have Kc : Hid (Kept ((wb.setCell ⟨k13, 0, none⟩ (.bool na)).setCell ⟨k13, 1, none⟩ (.slice la ma ca)) (w.heap.size + 1) #[.int .i64 0, .int .i64 0] 42) := Lib.hid ((Kb.out.far nk _).far nk _)
              have Bc : Hid (Below w.heap.size w ((wb.setCell ⟨k13, 0, none⟩ (.bool na)).setCell ⟨k13, 1, none⟩ (.slice la ma ca))) := Lib.hid (bset2 Bb.out G13.out _ _)
              have QZ : Hid ((4611686018427387903 : Int) = min 4611686018427387903 q ∧ (-10000000000000000000 : Int) ≤ 4611686018427387903 ∧ (4611686018427387903 : Int) ≤ 4611686018427387903) := Lib.hid (by omega)
              clear nk Pb Qb Kb Bb KMb NMb KQb
              go_upto_region 14 with fail
              generalize (wb.setCell ⟨k13, 0, none⟩ (.bool na)).setCell ⟨k13, 1, none⟩ (.slice la ma ca) = Wc at *
              clear y1 y2 y3 y4 y5 z1 z2 z3 z4 z5
              obtain ⟨np, lp, mp, cp, kp, Np⟩ := Pc.out
              obtain ⟨nq', lq', mq', cq', kq, Nq⟩ := Qc.out
              obtain ⟨y1, y2, -⟩ := kp.two
              obtain ⟨z1, z2, -⟩ := kq.two
              have HKP := Lib.hid kp
              have HNP := Lib.hid Np
              have HKQ := Lib.hid kq
              have HNQ := Lib.hid Nq
              clear kp Np kq Nq
              go_wp2_with fail
              refine (CC.out _ _ _ _ _ HNP.out HNQ.out (by have := PZ.out; omega) (by have := QZ.out; omega)).mono ?_
              rintro _ wd ⟨rfl, bd⟩
              have Kd := Lib.hid (Kc.out.next bd)
              have Bd := Lib.hid (bnext Bc.out Bc.out.size bd)
              have HKPd := Lib.hid (HKP.out.next bd)
              have HKQd := Lib.hid (HKQ.out.next bd)
              have HNPd := Lib.hid (HNP.out.below bd)
              have HNQd := Lib.hid (HNQ.out.below bd)
              clear bd y1 y2 z1 z2 Kc Bc HKP HKQ HNP HNQ Pc Qc
              obtain ⟨y1, y2, y3, y4, y5⟩ := Kd.out.two
              by_cases hle : (0 : Int) ≤ (4611686018427387903 : Int)
              · have d3 : ¬ 0 < lordI (0 : Int) (4611686018427387903 : Int) := by unfold lordI; split <;> (try split) <;> omega
                have hAT : atE (a, g, s, c) t r = 0 ∧ atG (a, g, s, c) t r = ((0 : Int), (4611686018427387903 : Int)) := by
                  obtain ⟨h1, h2, h3, h4, h5⟩ := GOOD.out
                  rw [h2, h3, ← PZ.out.1, ← QZ.out.1, if_pos hle] at h1
                  have h6 := h4 h1
                  rw [h2, h3, ← PZ.out.1, ← QZ.out.1] at h6
                  exact ⟨h1, h6⟩
                have F := Lib.hid (OUT.out 0 (0 : Int) (4611686018427387903 : Int) hAT.1 hAT.2)
                have IP : Hid (InI (0 : Int)) := Lib.hid (by have h1 := PZ.out; have h2 := QZ.out; unfold InI; omega)
                have IQ : Hid (InI (4611686018427387903 : Int)) := Lib.hid (by have h1 := PZ.out; have h2 := QZ.out; unfold InI; omega)
                obtain ⟨z1, z2, -⟩ := HKPd.out.two
                clear hle hAT
                go_wp2_with fail
                refine (CLG.out _ _ _ HNPd.out IP.out).mono ?_
                rintro _ we ⟨rfl, be⟩
                have Ke := Lib.hid (Kd.out.next be)
                have Be := Lib.hid (bnext Bd.out Bd.out.size be)
                have HKQe := Lib.hid (HKQd.out.next be)
                have HNQe := Lib.hid (HNQd.out.below be)
                clear be z1 z2 y1 y2 y3 y4 y5
                obtain ⟨z1, z2, -⟩ := HKQe.out.two
                go_wp2_with fail
                refine (CLG.out _ _ _ HNQe.out IQ.out).mono ?_
                rintro _ wf ⟨rfl, bf⟩
                have Kf := Lib.hid (Ke.out.next bf)
                have Bf := Lib.hid (bnext Be.out Be.out.size bf)
                clear bf z1 z2
                obtain ⟨y1, y2, y3, y4, y5⟩ := Kf.out.two
                obtain ⟨W2, hW2, u1, u2, FF⟩ := F.out _ Kf.out Bf.out
                have FF := Lib.hid FF
                have HW2 := Lib.hid hW2
                clear F hW2
                go_wp2
                rw [← HW2.out]
                (try simp only [Exit.inBlock, Exit.then])
                refine bodyPost_ret (by simp [results, Try.f45, go_sem, u1, u2]; try rfl) rfl ?_
                exact FF.out
              · have d3 : 0 < lordI (0 : Int) (4611686018427387903 : Int) := by unfold lordI; rw [if_neg (by omega), if_pos (by omega)]; omega
                have hAT : atE (a, g, s, c) t r = 13 ∧ atG (a, g, s, c) t r = (0, 0) := by
                  obtain ⟨h1, h2, h3, h4, h5⟩ := GOOD.out
                  rw [h2, h3, ← PZ.out.1, ← QZ.out.1, if_neg hle] at h1
                  exact ⟨h1, h5 (by rw [h1]; decide)⟩
                have F := Lib.hid (OUT.out 13 0 0 hAT.1 hAT.2)
                clear hle hAT y1 y2 y3 y4 y5
                obtain ⟨y1, y2, y3, y4, y5⟩ := Kd.out.two
                obtain ⟨W2, hW2, u1, u2, FF⟩ := F.out _ Kd.out Bd.out
                have FF := Lib.hid FF
                have HW2 := Lib.hid hW2
                clear F hW2
                go_wp2
                rw [← HW2.out]
                (try simp only [Exit.inBlock, Exit.then])
                refine bodyPost_ret (by simp [results, Try.f45, go_sem, u1, u2]; try rfl) rfl ?_
                exact FF.out
            · have d2 : ¬ 0 < lordI q 4611686018427387903 := by unfold lordI; split <;> (try split) <;> omega
              go_upto_region 14 with fail
              obtain ⟨Wc, hWc⟩ : ∃ x, x = wb := ⟨_, rfl⟩
              subst hWc
              have Qc := Qb
              have Pc := Pb
              have Kc := Kb
              have Bc := Bb
              have QZ : Hid (q = min 4611686018427387903 q ∧ (-10000000000000000000 : Int) ≤ q ∧ q ≤ 4611686018427387903) := Lib.hid (by have := RNG.out; omega)
              clear Pb Qb Kb Bb KMb NMb KQb
              obtain ⟨np, lp, mp, cp, kp, Np⟩ := Pc.out
              obtain ⟨nq', lq', mq', cq', kq, Nq⟩ := Qc.out
              obtain ⟨y1, y2, -⟩ := kp.two
              obtain ⟨z1, z2, -⟩ := kq.two
              have HKP := Lib.hid kp
              have HNP := Lib.hid Np
              have HKQ := Lib.hid kq
              have HNQ := Lib.hid Nq
              clear kp Np kq Nq
              go_wp2_with fail
              refine (CC.out _ _ _ _ _ HNP.out HNQ.out (by have := PZ.out; omega) (by have := QZ.out; omega)).mono ?_
              rintro _ wd ⟨rfl, bd⟩
              have Kd := Lib.hid (Kc.out.next bd)
              have Bd := Lib.hid (bnext Bc.out Bc.out.size bd)
              have HKPd := Lib.hid (HKP.out.next bd)
              have HKQd := Lib.hid (HKQ.out.next bd)
              have HNPd := Lib.hid (HNP.out.below bd)
              have HNQd := Lib.hid (HNQ.out.below bd)
              clear bd y1 y2 z1 z2 Kc Bc HKP HKQ HNP HNQ Pc Qc
              obtain ⟨y1, y2, y3, y4, y5⟩ := Kd.out.two
              by_cases hle : (0 : Int) ≤ q
              · have d3 : ¬ 0 < lordI (0 : Int) q := by unfold lordI; split <;> (try split) <;> omega
                have hAT : atE (a, g, s, c) t r = 0 ∧ atG (a, g, s, c) t r = ((0 : Int), q) := by
                  obtain ⟨h1, h2, h3, h4, h5⟩ := GOOD.out
                  rw [h2, h3, ← PZ.out.1, ← QZ.out.1, if_pos hle] at h1
                  have h6 := h4 h1
                  rw [h2, h3, ← PZ.out.1, ← QZ.out.1] at h6
                  exact ⟨h1, h6⟩
                have F := Lib.hid (OUT.out 0 (0 : Int) q hAT.1 hAT.2)
                have IP : Hid (InI (0 : Int)) := Lib.hid (by have h1 := PZ.out; have h2 := QZ.out; unfold InI; omega)
                have IQ : Hid (InI q) := Lib.hid (by have h1 := PZ.out; have h2 := QZ.out; unfold InI; omega)
                obtain ⟨z1, z2, -⟩ := HKPd.out.two
                clear hle hAT
                go_wp2_with fail
                refine (CLG.out _ _ _ HNPd.out IP.out).mono ?_
                rintro _ we ⟨rfl, be⟩
                have Ke := Lib.hid (Kd.out.next be)
                have Be := Lib.hid (bnext Bd.out Bd.out.size be)
                have HKQe := Lib.hid (HKQd.out.next be)
                have HNQe := Lib.hid (HNQd.out.below be)
                clear be z1 z2 y1 y2 y3 y4 y5
                obtain ⟨z1, z2, -⟩ := HKQe.out.two
                go_wp2_with fail
                refine (CLG.out _ _ _ HNQe.out IQ.out).mono ?_
                rintro _ wf ⟨rfl, bf⟩
                have Kf := Lib.hid (Ke.out.next bf)
                have Bf := Lib.hid (bnext Be.out Be.out.size bf)
                clear bf z1 z2
                obtain ⟨y1, y2, y3, y4, y5⟩ := Kf.out.two
                obtain ⟨W2, hW2, u1, u2, FF⟩ := F.out _ Kf.out Bf.out
                have FF := Lib.hid FF
                have HW2 := Lib.hid hW2
                clear F hW2
                go_wp2
                rw [← HW2.out]
                (try simp only [Exit.inBlock, Exit.then])
                refine bodyPost_ret (by simp [results, Try.f45, go_sem, u1, u2]; try rfl) rfl ?_
                exact FF.out
              · have d3 : 0 < lordI (0 : Int) q := by unfold lordI; rw [if_neg (by omega), if_pos (by omega)]; omega
                have hAT : atE (a, g, s, c) t r = 13 ∧ atG (a, g, s, c) t r = (0, 0) := by
                  obtain ⟨h1, h2, h3, h4, h5⟩ := GOOD.out
                  rw [h2, h3, ← PZ.out.1, ← QZ.out.1, if_neg hle] at h1
                  exact ⟨h1, h5 (by rw [h1]; decide)⟩
                have F := Lib.hid (OUT.out 13 0 0 hAT.1 hAT.2)
                clear hle hAT y1 y2 y3 y4 y5
                obtain ⟨y1, y2, y3, y4, y5⟩ := Kd.out.two
                obtain ⟨W2, hW2, u1, u2, FF⟩ := F.out _ Kd.out Bd.out
                have FF := Lib.hid FF
                have HW2 := Lib.hid hW2
                clear F hW2
                go_wp2
                rw [← HW2.out]
                (try simp only [Exit.inBlock, Exit.then])
                refine bodyPost_ret (by simp [results, Try.f45, go_sem, u1, u2]; try rfl) rfl ?_
                exact FF.out
          · have d1 : ¬ lordI p 0 < 0 := by unfold lordI; rw [if_neg hpn]; split <;> omega
            go_upto_region 11 with fail
            obtain ⟨W9, hW9⟩ : ∃ x, x = wc := ⟨_, rfl⟩
            subst hW9
            have P9 := P8
            have Q9 := Q8
            have K9 := K8
            have B9 := B8
            clear P8 Q8 K8 B8
            have PZ : Hid (p = max 0 p ∧ (-10000000000000000000 : Int) ≤ p ∧ p ≤ 9300000000000000000) := Lib.hid (by have := RNG.out; omega)
            go_wp2_with fail
            refine (CM.out _).mono ?_
            rintro _ wa ⟨na, la, ma, ca, rfl, Na, ba⟩
            have bb := ba.trans ((one_alloc wa (.cells #[.bool na, .slice la ma ca] 93)).mono ba.size)
            have KM : Hid (Kept (wa.alloc (.cells #[.bool na, .slice la ma ca] 93)) wa.heap.size #[.bool na, .slice la ma ca] 93) := Lib.hid (Kept.new rfl)
            have NM := Lib.hid (Na.below (one_alloc wa (.cells #[.bool na, .slice la ma ca] 93)))
            have Pa := Lib.hid (P9.out.next bb)
            have Qa := Lib.hid (Q9.out.next bb)
            have Ka := Lib.hid (K9.out.next bb)
            have Ba := Lib.hid (bnext B9.out B9.out.size bb)
            clear ba bb Na P9 Q9 K9 B9
            go_upto_region 12 with fail
            generalize wa.alloc (.cells #[.bool na, .slice la ma ca] 93) = Wa at *
            generalize wa.heap.size = k14 at *
            obtain ⟨nq, lq, mq, cq, kq, Nq⟩ := Qa.out
            obtain ⟨y1, y2, y3, y4, y5⟩ := kq.two
            obtain ⟨z1, z2, z3, z4, z5⟩ := KM.out.two
            have HKQ := Lib.hid kq
            have HNQ := Lib.hid Nq
            clear kq Nq
            go_wp2_with fail
            refine (CC.out _ _ _ _ _ HNQ.out NM.out (by have := RNG.out; omega) (by omega)).mono ?_
            rintro _ wb ⟨rfl, bb⟩
            have Pb := Lib.hid (Pa.out.next bb)
            have Qb := Lib.hid (Qa.out.next bb)
            have Kb := Lib.hid (Ka.out.next bb)
            have Bb := Lib.hid (bnext Ba.out Ba.out.size bb)
            have KMb := Lib.hid (KM.out.next bb)
            have NMb := Lib.hid (NM.out.below bb)
            have KQb := Lib.hid (HKQ.out.next bb)
            clear bb Pa Qa Ka Ba KM NM HKQ HNQ y1 y2 y3 y4 y5 z1 z2 z3 z4 z5
            by_cases hqm : 4611686018427387903 < q
            · have d2 : 0 < lordI q 4611686018427387903 := by unfold lordI; rw [if_neg (by omega), if_pos hqm]; omega
              obtain ⟨y1, y2, y3, y4, y5⟩ := KQb.out.two
              obtain ⟨z1, z2, z3, z4, z5⟩ := KMb.out.two
              have Qc : Hid (NB ((wb.setCell ⟨k13, 0, none⟩ (.bool na)).setCell ⟨k13, 1, none⟩ (.slice la ma ca)) k13 4611686018427387903) := Lib.hid (NB.put NMb.out KQb.out)
              have Pc : Hid (NB ((wb.setCell ⟨k13, 0, none⟩ (.bool na)).setCell ⟨k13, 1, none⟩ (.slice la ma ca)) k12 p) := Lib.hid (Pb.out.store KQb.out D13.out _ _)
              have nk : w.heap.size + 1 ≠ k13 := fun e => by
                have h1 : Kept wb k13 #[.int .i64 0, .int .i64 0] 42 := e ▸ Kb.out
                have h2 : some (Value.int .i64 0) = some (Value.bool nq) := h1.two.1.symm.trans KQb.out.two.1
                cases h2
              have Kc : Hid (Kept ((wb.setCell ⟨k13, 0, none⟩ (.bool na)).setCell ⟨k13, 1, none⟩ (.slice la ma ca)) (w.heap.size + 1) #[.int .i64 0, .int .i64 0] 42) := Lib.hid ((Kb.out.far nk _).far nk _)
              have Bc : Hid (Below w.heap.size w ((wb.setCell ⟨k13, 0, none⟩ (.bool na)).setCell ⟨k13, 1, none⟩ (.slice la ma ca))) := Lib.hid (bset2 Bb.out G13.out _ _)
              have QZ : Hid ((4611686018427387903 : Int) = min 4611686018427387903 q ∧ (-10000000000000000000 : Int) ≤ 4611686018427387903 ∧ (4611686018427387903 : Int) ≤ 4611686018427387903) := Lib.hid (by omega)
              clear nk Pb Qb Kb Bb KMb NMb KQb
              go_upto_region 14 with fail
              generalize (wb.setCell ⟨k13, 0, none⟩ (.bool na)).setCell ⟨k13, 1, none⟩ (.slice la ma ca) = Wc at *
              clear y1 y2 y3 y4 y5 z1 z2 z3 z4 z5
              obtain ⟨np, lp, mp, cp, kp, Np⟩ := Pc.out
              obtain ⟨nq', lq', mq', cq', kq, Nq⟩ := Qc.out
              obtain ⟨y1, y2, -⟩ := kp.two
              obtain ⟨z1, z2, -⟩ := kq.two
              have HKP := Lib.hid kp
              have HNP := Lib.hid Np
              have HKQ := Lib.hid kq
              have HNQ := Lib.hid Nq
              clear kp Np kq Nq
              go_wp2_with fail
              refine (CC.out _ _ _ _ _ HNP.out HNQ.out (by have := PZ.out; omega) (by have := QZ.out; omega)).mono ?_
              rintro _ wd ⟨rfl, bd⟩
              have Kd := Lib.hid (Kc.out.next bd)
              have Bd := Lib.hid (bnext Bc.out Bc.out.size bd)
              have HKPd := Lib.hid (HKP.out.next bd)
              have HKQd := Lib.hid (HKQ.out.next bd)
              have HNPd := Lib.hid (HNP.out.below bd)
              have HNQd := Lib.hid (HNQ.out.below bd)
              clear bd y1 y2 z1 z2 Kc Bc HKP HKQ HNP HNQ Pc Qc
              obtain ⟨y1, y2, y3, y4, y5⟩ := Kd.out.two
              by_cases hle : p ≤ (4611686018427387903 : Int)
              · have d3 : ¬ 0 < lordI p (4611686018427387903 : Int) := by unfold lordI; split <;> (try split) <;> omega
                have hAT : atE (a, g, s, c) t r = 0 ∧ atG (a, g, s, c) t r = (p, (4611686018427387903 : Int)) := by
                  obtain ⟨h1, h2, h3, h4, h5⟩ := GOOD.out
                  rw [h2, h3, ← PZ.out.1, ← QZ.out.1, if_pos hle] at h1
                  have h6 := h4 h1
                  rw [h2, h3, ← PZ.out.1, ← QZ.out.1] at h6
                  exact ⟨h1, h6⟩
                have F := Lib.hid (OUT.out 0 p (4611686018427387903 : Int) hAT.1 hAT.2)
                have IP : Hid (InI p) := Lib.hid (by have h1 := PZ.out; have h2 := QZ.out; unfold InI; omega)
                have IQ : Hid (InI (4611686018427387903 : Int)) := Lib.hid (by have h1 := PZ.out; have h2 := QZ.out; unfold InI; omega)
                obtain ⟨z1, z2, -⟩ := HKPd.out.two
                clear hle hAT
                go_wp2_with fail
                refine (CLG.out _ _ _ HNPd.out IP.out).mono ?_
                rintro _ we ⟨rfl, be⟩
                have Ke := Lib.hid (Kd.out.next be)
                have Be := Lib.hid (bnext Bd.out Bd.out.size be)
                have HKQe := Lib.hid (HKQd.out.next be)
                have HNQe := Lib.hid (HNQd.out.below be)
                clear be z1 z2 y1 y2 y3 y4 y5
                obtain ⟨z1, z2, -⟩ := HKQe.out.two
                go_wp2_with fail
                refine (CLG.out _ _ _ HNQe.out IQ.out).mono ?_
                rintro _ wf ⟨rfl, bf⟩
                have Kf := Lib.hid (Ke.out.next bf)
                have Bf := Lib.hid (bnext Be.out Be.out.size bf)
                clear bf z1 z2
                obtain ⟨y1, y2, y3, y4, y5⟩ := Kf.out.two
                obtain ⟨W2, hW2, u1, u2, FF⟩ := F.out _ Kf.out Bf.out
                have FF := Lib.hid FF
                have HW2 := Lib.hid hW2
                clear F hW2
                go_wp2
                rw [← HW2.out]
                (try simp only [Exit.inBlock, Exit.then])
                refine bodyPost_ret (by simp [results, Try.f45, go_sem, u1, u2]; try rfl) rfl ?_
                exact FF.out
              · have d3 : 0 < lordI p (4611686018427387903 : Int) := by unfold lordI; rw [if_neg (by omega), if_pos (by omega)]; omega
                have hAT : atE (a, g, s, c) t r = 13 ∧ atG (a, g, s, c) t r = (0, 0) := by
                  obtain ⟨h1, h2, h3, h4, h5⟩ := GOOD.out
                  rw [h2, h3, ← PZ.out.1, ← QZ.out.1, if_neg hle] at h1
                  exact ⟨h1, h5 (by rw [h1]; decide)⟩
                have F := Lib.hid (OUT.out 13 0 0 hAT.1 hAT.2)
                clear hle hAT y1 y2 y3 y4 y5
                obtain ⟨y1, y2, y3, y4, y5⟩ := Kd.out.two
                obtain ⟨W2, hW2, u1, u2, FF⟩ := F.out _ Kd.out Bd.out
                have FF := Lib.hid FF
                have HW2 := Lib.hid hW2
                clear F hW2
                go_wp2
                rw [← HW2.out]
                (try simp only [Exit.inBlock, Exit.then])
                refine bodyPost_ret (by simp [results, Try.f45, go_sem, u1, u2]; try rfl) rfl ?_
                exact FF.out
            · have d2 : ¬ 0 < lordI q 4611686018427387903 := by unfold lordI; split <;> (try split) <;> omega
              go_upto_region 14 with fail
              obtain ⟨Wc, hWc⟩ : ∃ x, x = wb := ⟨_, rfl⟩
              subst hWc
              have Qc := Qb
              have Pc := Pb
              have Kc := Kb
              have Bc := Bb
              have QZ : Hid (q = min 4611686018427387903 q ∧ (-10000000000000000000 : Int) ≤ q ∧ q ≤ 4611686018427387903) := Lib.hid (by have := RNG.out; omega)
              clear Pb Qb Kb Bb KMb NMb KQb
              obtain ⟨np, lp, mp, cp, kp, Np⟩ := Pc.out
              obtain ⟨nq', lq', mq', cq', kq, Nq⟩ := Qc.out
              obtain ⟨y1, y2, -⟩ := kp.two
              obtain ⟨z1, z2, -⟩ := kq.two
              have HKP := Lib.hid kp
              have HNP := Lib.hid Np
              have HKQ := Lib.hid kq
              have HNQ := Lib.hid Nq
              clear kp Np kq Nq
              go_wp2_with fail
              refine (CC.out _ _ _ _ _ HNP.out HNQ.out (by have := PZ.out; omega) (by have := QZ.out; omega)).mono ?_
              rintro _ wd ⟨rfl, bd⟩
              have Kd := Lib.hid (Kc.out.next bd)
              have Bd := Lib.hid (bnext Bc.out Bc.out.size bd)
              have HKPd := Lib.hid (HKP.out.next bd)
              have HKQd := Lib.hid (HKQ.out.next bd)
              have HNPd := Lib.hid (HNP.out.below bd)
              have HNQd := Lib.hid (HNQ.out.below bd)
              clear bd y1 y2 z1 z2 Kc Bc HKP HKQ HNP HNQ Pc Qc
              obtain ⟨y1, y2, y3, y4, y5⟩ := Kd.out.two
              by_cases hle : p ≤ q
              · have d3 : ¬ 0 < lordI p q := by unfold lordI; split <;> (try split) <;> omega
                have hAT : atE (a, g, s, c) t r = 0 ∧ atG (a, g, s, c) t r = (p, q) := by
                  obtain ⟨h1, h2, h3, h4, h5⟩ := GOOD.out
                  rw [h2, h3, ← PZ.out.1, ← QZ.out.1, if_pos hle] at h1
                  have h6 := h4 h1
                  rw [h2, h3, ← PZ.out.1, ← QZ.out.1] at h6
                  exact ⟨h1, h6⟩
                have F := Lib.hid (OUT.out 0 p q hAT.1 hAT.2)
                have IP : Hid (InI p) := Lib.hid (by have h1 := PZ.out; have h2 := QZ.out; unfold InI; omega)
                have IQ : Hid (InI q) := Lib.hid (by have h1 := PZ.out; have h2 := QZ.out; unfold InI; omega)
                obtain ⟨z1, z2, -⟩ := HKPd.out.two
                clear hle hAT
                go_wp2_with fail
                refine (CLG.out _ _ _ HNPd.out IP.out).mono ?_
                rintro _ we ⟨rfl, be⟩
                have Ke := Lib.hid (Kd.out.next be)
                have Be := Lib.hid (bnext Bd.out Bd.out.size be)
                have HKQe := Lib.hid (HKQd.out.next be)
                have HNQe := Lib.hid (HNQd.out.below be)
                clear be z1 z2 y1 y2 y3 y4 y5
                obtain ⟨z1, z2, -⟩ := HKQe.out.two
                go_wp2_with fail
                refine (CLG.out _ _ _ HNQe.out IQ.out).mono ?_
                rintro _ wf ⟨rfl, bf⟩
                have Kf := Lib.hid (Ke.out.next bf)
                have Bf := Lib.hid (bnext Be.out Be.out.size bf)
                clear bf z1 z2
                obtain ⟨y1, y2, y3, y4, y5⟩ := Kf.out.two
                obtain ⟨W2, hW2, u1, u2, FF⟩ := F.out _ Kf.out Bf.out
                have FF := Lib.hid FF
                have HW2 := Lib.hid hW2
                clear F hW2
                go_wp2
                rw [← HW2.out]
                (try simp only [Exit.inBlock, Exit.then])
                refine bodyPost_ret (by simp [results, Try.f45, go_sem, u1, u2]; try rfl) rfl ?_
                exact FF.out
              · have d3 : 0 < lordI p q := by unfold lordI; rw [if_neg (by omega), if_pos (by omega)]; omega
                have hAT : atE (a, g, s, c) t r = 13 ∧ atG (a, g, s, c) t r = (0, 0) := by
                  obtain ⟨h1, h2, h3, h4, h5⟩ := GOOD.out
                  rw [h2, h3, ← PZ.out.1, ← QZ.out.1, if_neg hle] at h1
                  exact ⟨h1, h5 (by rw [h1]; decide)⟩
                have F := Lib.hid (OUT.out 13 0 0 hAT.1 hAT.2)
                clear hle hAT y1 y2 y3 y4 y5
                obtain ⟨y1, y2, y3, y4, y5⟩ := Kd.out.two
                obtain ⟨W2, hW2, u1, u2, FF⟩ := F.out _ Kd.out Bd.out
                have FF := Lib.hid FF
                have HW2 := Lib.hid hW2
                clear F hW2
                go_wp2
                rw [← HW2.out]
                (try simp only [Exit.inBlock, Exit.then])
                refine bodyPost_ret (by simp [results, Try.f45, go_sem, u1, u2]; try rfl) rfl ?_
                exact FF.out
end Go.Proofs.Ytflplliiamodhaa
