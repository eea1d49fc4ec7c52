import Derived.Test.YtflplliiamodhaaZRfC
import Derived.Test.YtflplliiamodhaaZRfLB
import Derived.Test.YtflplliiamodhaaZClkF
/- noonmarkref18: New, Clock.At; noonmarklaw18: of, same. -/
namespace Go.Proofs.Ytflplliiamodhaa
open Go.RowKit
set_option linter.unusedVariables false
set_option linter.unusedSimpArgs false

def RkNewOut (rho need : Int) (w : World) (e : Ending) (w' : World) : Prop := ∃ g, e = .returned (.tuple #[.pointer (some ⟨g, 0, none⟩), .int .i64 0]) ∧ w.heap.size ≤ g ∧ RkO w' g none 0 ⟨rho, need, 0, false, []⟩ ∧ Below w.heap.size w w'
theorem rknew_any (rho need : Int) (w : World) (h : newOk rho need) : Calls Try.prog 11 #[.int .i64 rho, .int .i64 need] w (RkNewOut rho need w) := by
  unfold newOk at h
  have CR := Lib.hid (fun W => rrate_any rho W)
  rw [show rateB rho = true from decide_eq_true ⟨h.1, h.2.1⟩] at CR
  have q3 : ¬ need < 0 := by omega
  have q4 : ¬ 100 < need := by omega
  have F : Hid (RkNewOut rho need w (.returned (.tuple #[.pointer (some ⟨w.heap.size, 0, none⟩), .int .i64 0])) (w.alloc (.cells #[.int .i64 rho, .int .i64 need, .bool false, .int .i64 0, .slice none 0 0] 81))) := Lib.hid ⟨_, rfl, Nat.le_refl _, ⟨Kept.new rfl, fun j hj => by simp at hj, fun _ => rfl⟩, one_alloc _ _⟩
  clear h
  go_enter Try.func11, Try.ntmps11
  go_wp2_with fail
  refine (CR.out _).mono ?_
  rintro _ _ ⟨rfl, rfl⟩
  go_wp2
  go_ret2
  exact F.out
theorem rknew_no (rho need : Int) (w : World) (h : ¬ newOk rho need) : Calls Try.prog 11 #[.int .i64 rho, .int .i64 need] w (Gives (.tuple #[.pointer none, .int .i64 11]) w) := by
  have CR := Lib.hid (fun W => rrate_any rho W)
  cases hr : rateB rho
  · rw [hr] at CR
    clear h hr
    go_enter Try.func11, Try.ntmps11
    go_wp2_with fail
    refine (CR.out _).mono ?_
    rintro _ _ ⟨rfl, rfl⟩
    go_wp2
    go_ret2
    exact ⟨rfl, Below.refl _ _⟩
  · have hrr := rate_yes hr
    rw [hr] at CR
    have H : Hid (need < 0 ∨ 100 < need) := Lib.hid (by unfold newOk at h; omega)
    clear h hr hrr
    go_enter Try.func11, Try.ntmps11
    go_wp2_with fail
    refine (CR.out _).mono ?_
    rintro _ _ ⟨rfl, rfl⟩
    go_wp2
    all_goals first
      | (go_ret2; exact ⟨rfl, Below.refl _ _⟩)
      | (exfalso; have := H.out; omega)
theorem lawof_any (a g s c : Int) (w : World) : Calls Try.prog 14 #[.agg #[.int .i64 a, .int .i64 g, .int .i64 s, .int .i64 c]] w (Gives (.agg #[.int .i64 a, .int .i64 g, .int .i64 s, .int .i64 c]) w) := by
  obtain ⟨W, hW⟩ : ∃ W, (w.alloc (.cells #[.int .i64 a, .int .i64 g, .int .i64 s, .int .i64 c] 33)).alloc (.cells #[.int .i64 0, .int .i64 0, .int .i64 0, .int .i64 0] 35) = W := ⟨_, rfl⟩
  have K0 : Hid (Kept W w.heap.size #[.int .i64 a, .int .i64 g, .int .i64 s, .int .i64 c] 33) := Lib.hid (by rw [← hW]; exact (Kept.new rfl).alloc _)
  have B0 : Hid (Below w.heap.size w W) := Lib.hid (by rw [← hW]; exact (one_alloc _ _).alloc (by simp) _)
  have K1 : Hid (Kept W (w.heap.size + 1) #[.int .i64 0, .int .i64 0, .int .i64 0, .int .i64 0] 35) := Lib.hid (by rw [← hW]; exact Kept.new (by simp))
  obtain ⟨W2, hW2⟩ : ∃ W2, (((W.setCell ⟨w.heap.size + 1, 0, none⟩ (.int .i64 a)).setCell ⟨w.heap.size + 1, 1, none⟩ (.int .i64 g)).setCell ⟨w.heap.size + 1, 2, none⟩ (.int .i64 s)).setCell ⟨w.heap.size + 1, 3, none⟩ (.int .i64 c) = W2 := ⟨_, rfl⟩
  have U : Hid (Kept W2 (w.heap.size + 1) #[.int .i64 a, .int .i64 g, .int .i64 s, .int .i64 c] 35) := Lib.hid (by rw [← hW2]; exact (((K1.out.set 0 _).set 1 _).set 2 _).set 3 _)
  have FF : Hid (Gives (.agg #[.int .i64 a, .int .i64 g, .int .i64 s, .int .i64 c]) w (.returned (.agg #[.int .i64 a, .int .i64 g, .int .i64 s, .int .i64 c])) W2) := Lib.hid ⟨rfl, by rw [← hW2]; exact (((B0.out.setCell (Nat.le_succ _) _).setCell (Nat.le_succ _) _).setCell (Nat.le_succ _) _).setCell (Nat.le_succ _) _⟩
  have HW := Lib.hid hW
  have HW2 := Lib.hid hW2
  obtain ⟨x1, x2, x3, x4, -⟩ := K0.out.four
  obtain ⟨y1, y2, y3, y4, y5, y6, y7, y8, -⟩ := K1.out.four
  obtain ⟨u1, u2, u3, u4, -⟩ := U.out.four
  clear hW hW2
  go_enter Try.func14, Try.ntmps14
  go_upto_region 1 with fail
  rw [HW.out]
  go_wp2
  rw [HW2.out]
  (try simp only [Exit.inBlock, Exit.then])
  refine bodyPost_ret (by simp [results, Try.f14, go_sem, u1, u2, u3, u4]; try rfl) rfl ?_
  exact FF.out
theorem same_any (a b e : Int) (w : World) : Calls Try.prog 19 #[.agg #[.int .i64 a, .int .i64 b], .int .i64 e, .agg #[.int .i64 a, .int .i64 b], .int .i64 e] w (Gives (.bool true) w) := by
  have B0 := Lib.hid ((one_alloc w (.cells #[.int .i64 a, .int .i64 b] 39)).alloc (by simp) (.cells #[.int .i64 a, .int .i64 b] 42))
  have hee : (e == e) = true := by simp
  have haa : (a == a) = true := by simp
  have hbb : (b == b) = true := by simp
  go_enter Try.func19, Try.ntmps19
  go_wp2
  go_ret
  exact gives_bool (by simp) B0.out
set_option maxHeartbeats 2000000 in
set_option maxRecDepth 100000 in
theorem rkat_any (g : Nat) (a : Option Addr) (cap : Nat) (c : Ck) (t : Int) (w : World) (h : RkO w g a cap c) (hl : c.L.length ≤ 1000) : Calls Try.prog 17 #[.pointer (some ⟨g, 0, none⟩), .int .i64 t] w (CkAtOut c t w) := by
  have hq := h.2.1
  obtain ⟨W, hW⟩ : ∃ W, w.alloc (.cells #[.int .i64 0, .int .i64 0] 42) = W := ⟨_, rfl⟩
  have K0 : Hid (Kept W w.heap.size #[.int .i64 0, .int .i64 0] 42) := Lib.hid (by rw [← hW]; exact Kept.new rfl)
  have B0 : Hid (Below w.heap.size w W) := Lib.hid (by rw [← hW]; exact one_alloc _ _)
  have H0 : Hid (RkO W g a cap c) := Lib.hid (h.below B0.out)
  have HW := Lib.hid hW
  have CT := Lib.hid (fun W => rtime_any t W)
  have CI : Hid (∀ W, RkO W g a cap c → Calls Try.prog 44 #[.pointer (some ⟨g, 0, none⟩), .int .i64 t] W (GvOut c.L t c.rho W)) := Lib.hid fun W h => gv_any g a cap c t W h hl
  have BAD : Hid (∀ e, ckE c t = e → e ≠ 0 → ∀ W1, Kept W1 w.heap.size #[.int .i64 0, .int .i64 0] 42 → Below w.heap.size w W1 → ∃ W2, W2 = (W1.setCell ⟨w.heap.size, 0, none⟩ (.int .i64 0)).setCell ⟨w.heap.size, 1, none⟩ (.int .i64 0) ∧ W2.cell? ⟨w.heap.size, 0, none⟩ = some (.int .i64 0) ∧ W2.cell? ⟨w.heap.size, 1, none⟩ = some (.int .i64 0) ∧ CkAtOut c t w (.returned (.tuple #[.agg #[.int .i64 0, .int .i64 0], .int .i64 e])) W2) := Lib.hid (by
    intro e he h0 W1 hk hb
    have k2 := hk.set2 (.int .i64 0) (.int .i64 0)
    have hG : ckG c t = (0, 0) := if_neg (by rw [he]; exact h0)
    exact ⟨_, rfl, k2.two.1, k2.two.2.1, by rw [hG, he], bset2 hb (Nat.le_refl _) _ _⟩)
  obtain ⟨x1, x2, x3, x4, x5, -⟩ := H0.out.1.five
  have hll : Hid (c.L.length ≤ 1000) := Lib.hid hl
  clear hW h hq hl
  rcases ckE_cases c t with ⟨h0, hE⟩ | ⟨h0, h1, hE⟩ | ⟨h0, h1, h2, hE⟩ | ⟨h0, h1, h2, hE⟩
  · obtain ⟨W2, hW2, u1, u2, FF⟩ := BAD.out 19 hE (by decide) W K0.out B0.out
    have FF := Lib.hid FF
    have HW2 := Lib.hid hW2
    have hd : ((c.L.length : Int) == 0) = true := by rw [h0]; rfl
    obtain ⟨y1, y2, y3, y4, y5⟩ := K0.out.two
    clear BAD hW2 hE h0
    go_enter Try.func17, Try.ntmps17
    go_upto_region 1 with fail
    rw [HW.out]
    go_wp2
    rw [← HW2.out]
    (try simp only [Exit.inBlock, Exit.then])
    refine bodyPost_ret (by simp [results, Try.f17, go_sem, u1, u2]; try rfl) rfl ?_
    exact FF.out
  · obtain ⟨W2, hW2, u1, u2, FF⟩ := BAD.out 11 hE (by decide) W K0.out B0.out
    have FF := Lib.hid FF
    have HW2 := Lib.hid hW2
    have hd : ((c.L.length : Int) == 0) = false := by rw [beq_eq_false_iff_ne]; omega
    obtain ⟨y1, y2, y3, y4, y5⟩ := K0.out.two
    rw [h1] at CT
    clear BAD hW2 hE h0
    go_enter Try.func17, Try.ntmps17
    go_upto_region 1 with fail
    rw [HW.out]
    go_wp2_with fail
    refine (CT.out _).mono ?_
    rintro _ _ ⟨rfl, rfl⟩
    go_wp2
    rw [← HW2.out]
    (try simp only [Exit.inBlock, Exit.then])
    refine bodyPost_ret (by simp [results, Try.f17, go_sem, u1, u2]; try rfl) rfl ?_
    exact FF.out
  · have hd : ((c.L.length : Int) == 0) = false := by rw [beq_eq_false_iff_ne]; omega
    rw [h1] at CT
    have F := Lib.hid (BAD.out 13 hE (by decide))
    have HM : Hid (mtE (gapsS c.L t c.rho) ≠ 0) := Lib.hid h2
    clear BAD hE h0 h2
    go_enter Try.func17, Try.ntmps17
    go_upto_region 1 with fail
    rw [HW.out]
    go_wp2_with fail
    refine (CT.out _).mono ?_
    rintro _ _ ⟨rfl, rfl⟩
    go_wp2_with fail
    refine (CI.out _ H0.out).mono ?_
    rintro _ w1 ⟨a1, c1, rfl, o1, b1⟩
    obtain ⟨a1', c1', ea, -, -, -, -, p1⟩ := PairRow.own o1
    cases ea
    have K1 := Lib.hid (K0.out.next b1)
    have B1 := Lib.hid (B0.out.trans (b1.mono B0.out.size))
    have CM := Lib.hid (rmeet_any a1 c1 _ w1 p1 (by rw [gapsS_len]; have := hll.out; omega))
    rw [gapsS_len] at CM
    have hm := HM.out
    unfold mtE at hm
    obtain ⟨er, her⟩ : ∃ er, combE (gapsS c.L t c.rho) ((gapsS c.L t c.rho).foldl opM fullP) = er := ⟨_, rfl⟩
    rw [her] at CM hm
    have hd2 : (er == 0) = false := beq_eq_false_iff_ne.mpr hm
    generalize combL (gapsS c.L t c.rho) ((gapsS c.L t c.rho).foldl opM fullP) = lo at *
    generalize combH (gapsS c.L t c.rho) ((gapsS c.L t c.rho).foldl opM fullP) = hi at *
    clear o1 b1 p1 hm her x1 x2 x3 x4 x5 HM
    go_wp2_with fail
    refine CM.out.mono ?_
    rintro _ w2 ⟨rfl, b2⟩
    have B2x := Lib.hid (B1.out.trans (b2.mono B1.out.size))
    have B2 := Lib.hid (B2x.out.alloc B2x.out.size (.cells #[.int .i64 lo, .int .i64 hi] 42))
    have K2 := Lib.hid ((K1.out.next b2).alloc (.cells #[.int .i64 lo, .int .i64 hi] 42))
    obtain ⟨y1, y2, y3, y4, y5⟩ := K2.out.two
    obtain ⟨W2, hW2, u1, u2, FF⟩ := F.out _ K2.out B2.out
    have FF := Lib.hid FF
    have HW2 := Lib.hid hW2
    clear b2 B2x F hW2
    go_wp2
    rw [← HW2.out]
    (try simp only [Exit.inBlock, Exit.then])
    refine bodyPost_ret (by simp [results, Try.f17, go_sem, u1, u2]; try rfl) rfl ?_
    exact FF.out
  · have hd : ((c.L.length : Int) == 0) = false := by rw [beq_eq_false_iff_ne]; omega
    rw [h1] at CT
    have hmz := mt_zero.1 h2
    have HC := Lib.hid (comb_ok hmz.1 hmz.2)
    have FE : Hid (ckE c t = 0 ∧ ckG c t = (gapsS c.L t c.rho).foldl opM fullP) := Lib.hid ⟨hE, if_pos hE⟩
    clear BAD hE h0 h2 hmz
    go_enter Try.func17, Try.ntmps17
    go_upto_region 1 with fail
    rw [HW.out]
    go_wp2_with fail
    refine (CT.out _).mono ?_
    rintro _ _ ⟨rfl, rfl⟩
    go_wp2_with fail
    refine (CI.out _ H0.out).mono ?_
    rintro _ w1 ⟨a1, c1, rfl, o1, b1⟩
    obtain ⟨a1', c1', ea, -, -, -, -, p1⟩ := PairRow.own o1
    cases ea
    have K1 := Lib.hid (K0.out.next b1)
    have B1 := Lib.hid (B0.out.trans (b1.mono B0.out.size))
    have CM := Lib.hid (rmeet_any a1 c1 _ w1 p1 (by rw [gapsS_len]; have := hll.out; omega))
    rw [gapsS_len, HC.out.1, HC.out.2.1, HC.out.2.2] at CM
    generalize (gapsS c.L t c.rho).foldl opM fullP = z at *
    obtain ⟨lo, hi⟩ := z
    dsimp only at *
    clear o1 b1 p1 x1 x2 x3 x4 x5 HC
    go_wp2_with fail
    refine CM.out.mono ?_
    rintro _ w2 ⟨rfl, b2⟩
    have B2x := Lib.hid (B1.out.trans (b2.mono B1.out.size))
    have B2 := Lib.hid (B2x.out.alloc B2x.out.size (.cells #[.int .i64 lo, .int .i64 hi] 42))
    have K2 := Lib.hid ((K1.out.next b2).alloc (.cells #[.int .i64 lo, .int .i64 hi] 42))
    obtain ⟨y1, y2, y3, y4, y5⟩ := K2.out.two
    obtain ⟨W2, hW2⟩ : ∃ W2, ((w2.alloc (.cells #[.int .i64 lo, .int .i64 hi] 42)).setCell ⟨w.heap.size, 0, none⟩ (.int .i64 lo)).setCell ⟨w.heap.size, 1, none⟩ (.int .i64 hi) = W2 := ⟨_, rfl⟩
    have U : Hid (Kept W2 w.heap.size #[.int .i64 lo, .int .i64 hi] 42) := Lib.hid (by rw [← hW2]; exact K2.out.set2 _ _)
    have FF : Hid (CkAtOut c t w (.returned (.tuple #[.agg #[.int .i64 lo, .int .i64 hi], .int .i64 0])) W2) := Lib.hid ⟨by rw [FE.out.1, FE.out.2], by rw [← hW2]; exact bset2 B2.out (Nat.le_refl _) _ _⟩
    have HW2 := Lib.hid hW2
    obtain ⟨u1, u2, -⟩ := U.out.two
    clear b2 B2x hW2 U FE
    go_wp2
    rw [HW2.out]
    (try simp only [Exit.inBlock, Exit.then])
    refine bodyPost_ret (by simp [results, Try.f17, go_sem, u1, u2]; try rfl) rfl ?_
    exact FF.out
end Go.Proofs.Ytflplliiamodhaa
