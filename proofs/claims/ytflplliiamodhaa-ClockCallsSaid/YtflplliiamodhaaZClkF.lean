import Derived.Test.YtflplliiamodhaaZClkE
/- Clock.At, Point: for every clock. -/
namespace Go.Proofs.Ytflplliiamodhaa
open Go.RowKit
set_option linter.unusedVariables false
set_option linter.unusedSimpArgs false

/-- the intervals' error, and what they have together -/
def mtE (G : List (Int × Int)) : Int := combE G (G.foldl opM fullP)
def ckE (c : Ck) (t : Int) : Int := if c.L.length = 0 then 19 else if tmI t = true then (if mtE (gapsS c.L t c.rho) = 0 then 0 else 13) else 11
def ckG (c : Ck) (t : Int) : Int × Int := if ckE c t = 0 then (gapsS c.L t c.rho).foldl opM fullP else (0, 0)
def ckP (c : Ck) (t : Int) : Int := if ckE c t = 0 then midI (ckG c t).1 (ckG c t).2 else 0
theorem gapS_in {s : Sm} {t r : Int} (h : (gapS s t r).1 ≤ (gapS s t r).2) : atE s t r = 0 ∧ 0 ≤ (gapS s t r).1 ∧ (gapS s t r).2 ≤ 4611686018427387903 := by
  unfold gapS at *
  by_cases h0 : atE s t r = 0
  · rw [if_pos h0] at *
    exact ⟨h0, by unfold atLo; exact Int.le_max_left _ _, by unfold atHi; exact Int.min_le_left _ _⟩
  · rw [if_neg h0] at h
    dsimp only at h
    omega
theorem mt_zero {G : List (Int × Int)} : mtE G = 0 ↔ (allR G ∧ (G.foldl opM fullP).1 ≤ (G.foldl opM fullP).2) := by
  unfold mtE
  constructor
  · intro h
    unfold combE at h
    by_cases hb : ∃ j, j < G.length ∧ (G.getD j (0, 0)).2 < (G.getD j (0, 0)).1
    · rw [if_pos hb] at h; cases h
    · rw [if_neg hb] at h
      by_cases hr : (G.foldl opM fullP).1 ≤ (G.foldl opM fullP).2
      · exact ⟨fun j hj => Int.not_lt.1 fun hlt => hb ⟨j, hj, hlt⟩, hr⟩
      · rw [if_neg hr] at h; cases h
  · intro h
    exact (comb_ok h.1 h.2).1
theorem ckE_cases (c : Ck) (t : Int) : (c.L.length = 0 ∧ ckE c t = 19) ∨ (c.L.length ≠ 0 ∧ tmI t = false ∧ ckE c t = 11) ∨ (c.L.length ≠ 0 ∧ tmI t = true ∧ mtE (gapsS c.L t c.rho) ≠ 0 ∧ ckE c t = 13) ∨ (c.L.length ≠ 0 ∧ tmI t = true ∧ mtE (gapsS c.L t c.rho) = 0 ∧ ckE c t = 0) := by
  unfold ckE
  by_cases h : c.L.length = 0
  · exact .inl ⟨h, if_pos h⟩
  · rw [if_neg h]
    cases ht : tmI t
    · exact .inr (.inl ⟨h, rfl, rfl⟩)
    · rw [if_pos rfl]
      by_cases hm : mtE (gapsS c.L t c.rho) = 0
      · exact .inr (.inr (.inr ⟨h, rfl, hm, if_pos hm⟩))
      · exact .inr (.inr (.inl ⟨h, rfl, hm, if_neg hm⟩))
theorem ck_in {c : Ck} {t : Int} (h : ckE c t = 0) : 0 ≤ (ckG c t).1 ∧ (ckG c t).1 ≤ (ckG c t).2 ∧ (ckG c t).2 ≤ 4611686018427387903 := by
  rcases ckE_cases c t with ⟨_, e⟩ | ⟨_, _, e⟩ | ⟨_, _, _, e⟩ | ⟨h0, h1, h2, e⟩
  · rw [e] at h; cases h
  · rw [e] at h; cases h
  · rw [e] at h; cases h
  · have eG : ckG c t = (gapsS c.L t c.rho).foldl opM fullP := if_pos h
    rw [eG]
    obtain ⟨ha, hr⟩ := mt_zero.1 h2
    have hl : 0 < (gapsS c.L t c.rho).length := by rw [gapsS_len]; omega
    have h3 := ha 0 hl
    have h4 := (foldM_le (gapsS c.L t c.rho) fullP).2 _ (getP_mem hl)
    have h5 : (gapsS c.L t c.rho).getD 0 (0, 0) = gapS (c.L.getD 0 smZ) t c.rho := by
      rw [gapsS_len] at hl
      unfold gapsS
      simp [List.getD, List.getElem?_eq_getElem hl]
    rw [h5] at h3 h4
    have h6 := gapS_in h3
    omega
def CkAtOut (c : Ck) (t : Int) (w : World) (e : Ending) (w' : World) : Prop := e = .returned (.tuple #[.agg #[.int .i64 (ckG c t).1, .int .i64 (ckG c t).2], .int .i64 (ckE c t)]) ∧ Below w.heap.size w w'
set_option maxHeartbeats 2000000 in
set_option maxRecDepth 100000 in
theorem ckat_any (g : Nat) (v : Value) (c : Ck) (t : Int) (w : World) (h : CkO w g v c) (hl : c.L.length ≤ 1000) : Calls Try.prog 16 #[.pointer (some ⟨g, 0, none⟩), .int .i64 t] w (CkAtOut c t w) := by
  obtain ⟨a, cap, rfl, -, -, -, -, hq⟩ := QuadRow.own h.2.1
  obtain ⟨W, hW⟩ : ∃ W, w.alloc (.cells #[.int .i64 0, .int .i64 0] 39) = W := ⟨_, rfl⟩
  have K0 : Hid (Kept W w.heap.size #[.int .i64 0, .int .i64 0] 39) := Lib.hid (by rw [← hW]; exact Kept.new rfl)
  have B0 : Hid (Below w.heap.size w W) := Lib.hid (by rw [← hW]; exact one_alloc _ _)
  have H0 : Hid (CkO W g (.slice a c.L.length cap) c) := Lib.hid (h.below B0.out)
  have HW := Lib.hid hW
  have CT := Lib.hid (fun W => ctime_any t W)
  have CI : Hid (∀ W, CkO W g (.slice a c.L.length cap) c → Calls Try.prog 37 #[.pointer (some ⟨g, 0, none⟩), .int .i64 t] W (IvOut c.L t c.rho W)) := Lib.hid fun W h => iv_any g _ c t W h hl
  have BAD : Hid (∀ e, ckE c t = e → e ≠ 0 → ∀ W1, Kept W1 w.heap.size #[.int .i64 0, .int .i64 0] 39 → Below w.heap.size w W1 → ∃ W2, W2 = (W1.setCell ⟨w.heap.size, 0, none⟩ (.int .i64 0)).setCell ⟨w.heap.size, 1, none⟩ (.int .i64 0) ∧ W2.cell? ⟨w.heap.size, 0, none⟩ = some (.int .i64 0) ∧ W2.cell? ⟨w.heap.size, 1, none⟩ = some (.int .i64 0) ∧ CkAtOut c t w (.returned (.tuple #[.agg #[.int .i64 0, .int .i64 0], .int .i64 e])) W2) := Lib.hid (by
    intro e he h0 W1 hk hb
    have k2 := hk.set2 (.int .i64 0) (.int .i64 0)
    have hG : ckG c t = (0, 0) := if_neg (by rw [he]; exact h0)
    exact ⟨_, rfl, k2.two.1, k2.two.2.1, by rw [hG, he], bset2 hb (Nat.le_refl _) _ _⟩)
  obtain ⟨x1, x2, x3, x4, x5, -⟩ := H0.out.1.five
  have hll : Hid (c.L.length ≤ 1000) := Lib.hid hl
  clear hW h hq hl
  rcases ckE_cases c t with ⟨h0, hE⟩ | ⟨h0, h1, hE⟩ | ⟨h0, h1, h2, hE⟩ | ⟨h0, h1, h2, hE⟩
  · obtain ⟨W2, hW2, u1, u2, FF⟩ := BAD.out 19 hE (by decide) W K0.out B0.out
    have FF := Lib.hid FF
    have HW2 := Lib.hid hW2
    have hd : ((c.L.length : Int) == 0) = true := by rw [h0]; rfl
    obtain ⟨y1, y2, y3, y4, y5⟩ := K0.out.two
    clear BAD hW2 hE h0
    go_enter Try.func16, Try.ntmps16
    go_upto_region 1 with fail
    rw [HW.out]
    go_wp2
    rw [← HW2.out]
    (try simp only [Exit.inBlock, Exit.then])
    refine bodyPost_ret (by simp [results, Try.f16, go_sem, u1, u2]; try rfl) rfl ?_
    exact FF.out
  · obtain ⟨W2, hW2, u1, u2, FF⟩ := BAD.out 11 hE (by decide) W K0.out B0.out
    have FF := Lib.hid FF
    have HW2 := Lib.hid hW2
    have hd : ((c.L.length : Int) == 0) = false := by rw [beq_eq_false_iff_ne]; omega
    obtain ⟨y1, y2, y3, y4, y5⟩ := K0.out.two
    rw [h1] at CT
    clear BAD hW2 hE h0
    go_enter Try.func16, Try.ntmps16
    go_upto_region 1 with fail
    rw [HW.out]
    go_wp2_with fail
    refine (CT.out _).mono ?_
    rintro _ _ ⟨rfl, rfl⟩
    go_wp2
    rw [← HW2.out]
    (try simp only [Exit.inBlock, Exit.then])
    refine bodyPost_ret (by simp [results, Try.f16, go_sem, u1, u2]; try rfl) rfl ?_
    exact FF.out
  · have hd : ((c.L.length : Int) == 0) = false := by rw [beq_eq_false_iff_ne]; omega
    rw [h1] at CT
    have F := Lib.hid (BAD.out 13 hE (by decide))
    have HM : Hid (mtE (gapsS c.L t c.rho) ≠ 0) := Lib.hid h2
    clear BAD hE h0 h2
    go_enter Try.func16, Try.ntmps16
    go_upto_region 1 with fail
    rw [HW.out]
    go_wp2_with fail
    refine (CT.out _).mono ?_
    rintro _ _ ⟨rfl, rfl⟩
    go_wp2_with fail
    refine (CI.out _ H0.out).mono ?_
    rintro _ w1 ⟨a1, c1, rfl, o1, b1⟩
    obtain ⟨a1', c1', ea, -, -, -, -, p1⟩ := PairRow.own o1
    cases ea
    have K1 := Lib.hid (K0.out.next b1)
    have B1 := Lib.hid (B0.out.trans (b1.mono B0.out.size))
    have CM := Lib.hid (meet_any a1 c1 _ w1 p1 (by rw [gapsS_len]; have := hll.out; omega))
    rw [gapsS_len] at CM
    have hm := HM.out
    unfold mtE at hm
    obtain ⟨er, her⟩ : ∃ er, combE (gapsS c.L t c.rho) ((gapsS c.L t c.rho).foldl opM fullP) = er := ⟨_, rfl⟩
    rw [her] at CM hm
    have hd2 : (er == 0) = false := beq_eq_false_iff_ne.mpr hm
    generalize combL (gapsS c.L t c.rho) ((gapsS c.L t c.rho).foldl opM fullP) = lo at *
    generalize combH (gapsS c.L t c.rho) ((gapsS c.L t c.rho).foldl opM fullP) = hi at *
    clear o1 b1 p1 hm her x1 x2 x3 x4 x5 HM
    go_wp2_with fail
    refine CM.out.mono ?_
    rintro _ w2 ⟨rfl, b2⟩
    have B2x := Lib.hid (B1.out.trans (b2.mono B1.out.size))
    have B2 := Lib.hid (B2x.out.alloc B2x.out.size (.cells #[.int .i64 lo, .int .i64 hi] 39))
    have K2 := Lib.hid ((K1.out.next b2).alloc (.cells #[.int .i64 lo, .int .i64 hi] 39))
    obtain ⟨y1, y2, y3, y4, y5⟩ := K2.out.two
    obtain ⟨W2, hW2, u1, u2, FF⟩ := F.out _ K2.out B2.out
    have FF := Lib.hid FF
    have HW2 := Lib.hid hW2
    clear b2 B2x F hW2
    go_wp2
    rw [← HW2.out]
    (try simp only [Exit.inBlock, Exit.then])
    refine bodyPost_ret (by simp [results, Try.f16, go_sem, u1, u2]; try rfl) rfl ?_
    exact FF.out
  · have hd : ((c.L.length : Int) == 0) = false := by rw [beq_eq_false_iff_ne]; omega
    rw [h1] at CT
    have hmz := mt_zero.1 h2
    have HC := Lib.hid (comb_ok hmz.1 hmz.2)
    have FE : Hid (ckE c t = 0 ∧ ckG c t = (gapsS c.L t c.rho).foldl opM fullP) := Lib.hid ⟨hE, if_pos hE⟩
    clear BAD hE h0 h2 hmz
    go_enter Try.func16, Try.ntmps16
    go_upto_region 1 with fail
    rw [HW.out]
    go_wp2_with fail
    refine (CT.out _).mono ?_
    rintro _ _ ⟨rfl, rfl⟩
    go_wp2_with fail
    refine (CI.out _ H0.out).mono ?_
    rintro _ w1 ⟨a1, c1, rfl, o1, b1⟩
    obtain ⟨a1', c1', ea, -, -, -, -, p1⟩ := PairRow.own o1
    cases ea
    have K1 := Lib.hid (K0.out.next b1)
    have B1 := Lib.hid (B0.out.trans (b1.mono B0.out.size))
    have CM := Lib.hid (meet_any a1 c1 _ w1 p1 (by rw [gapsS_len]; have := hll.out; omega))
    rw [gapsS_len, HC.out.1, HC.out.2.1, HC.out.2.2] at CM
    generalize (gapsS c.L t c.rho).foldl opM fullP = z at *
    obtain ⟨lo, hi⟩ := z
    dsimp only at *
    clear o1 b1 p1 x1 x2 x3 x4 x5 HC
    go_wp2_with fail
    refine CM.out.mono ?_
    rintro _ w2 ⟨rfl, b2⟩
    have B2x := Lib.hid (B1.out.trans (b2.mono B1.out.size))
    have B2 := Lib.hid (B2x.out.alloc B2x.out.size (.cells #[.int .i64 lo, .int .i64 hi] 39))
    have K2 := Lib.hid ((K1.out.next b2).alloc (.cells #[.int .i64 lo, .int .i64 hi] 39))
    obtain ⟨y1, y2, y3, y4, y5⟩ := K2.out.two
    obtain ⟨W2, hW2⟩ : ∃ W2, ((w2.alloc (.cells #[.int .i64 lo, .int .i64 hi] 39)).setCell ⟨w.heap.size, 0, none⟩ (.int .i64 lo)).setCell ⟨w.heap.size, 1, none⟩ (.int .i64 hi) = W2 := ⟨_, rfl⟩
    have U : Hid (Kept W2 w.heap.size #[.int .i64 lo, .int .i64 hi] 39) := Lib.hid (by rw [← hW2]; exact K2.out.set2 _ _)
    have FF : Hid (CkAtOut c t w (.returned (.tuple #[.agg #[.int .i64 lo, .int .i64 hi], .int .i64 0])) W2) := Lib.hid ⟨by rw [FE.out.1, FE.out.2], by rw [← hW2]; exact bset2 B2.out (Nat.le_refl _) _ _⟩
    have HW2 := Lib.hid hW2
    obtain ⟨u1, u2, -⟩ := U.out.two
    clear b2 B2x hW2 U FE
    go_wp2
    rw [HW2.out]
    (try simp only [Exit.inBlock, Exit.then])
    refine bodyPost_ret (by simp [results, Try.f16, go_sem, u1, u2]; try rfl) rfl ?_
    exact FF.out
theorem ckpoint_any (g : Nat) (v : Value) (c : Ck) (t : Int) (w : World) (h : CkO w g v c) (hl : c.L.length ≤ 1000) : Calls Try.prog 18 #[.pointer (some ⟨g, 0, none⟩), .int .i64 t] w (Gives (.tuple #[.int .i64 (ckP c t), .int .i64 (ckE c t)]) w) := by
  obtain ⟨lo, hi, hG⟩ : ∃ lo hi, ckG c t = (lo, hi) := ⟨_, _, rfl⟩
  have CA : Hid (Calls Try.prog 16 #[.pointer (some ⟨g, 0, none⟩), .int .i64 t] w (Gives (.tuple #[.agg #[.int .i64 lo, .int .i64 hi], .int .i64 (ckE c t)]) w)) := Lib.hid ((ckat_any g v c t w h hl).mono fun e w' hh => by
    unfold CkAtOut at hh
    rw [hG] at hh
    exact hh)
  clear h hl
  by_cases hE : ckE c t = 0
  · have hin := ck_in hE
    have F : Hid (ckP c t = midI lo hi) := Lib.hid (by unfold ckP; rw [if_pos hE, hG])
    rw [hG] at hin
    dsimp only at hin
    have CM := Lib.hid (fun W => mid_any lo hi W (by unfold InI; omega) (by unfold InI; omega))
    rw [← F.out] at CM
    rw [hE] at CA ⊢
    generalize ckP c t = pv at *
    clear F hin hE hG
    go_enter Try.func18, Try.ntmps18
    go_wp2_with fail
    refine CA.out.mono ?_
    rintro _ w1 ⟨rfl, b1⟩
    have K1 : Hid (Kept (w1.alloc (.cells #[.int .i64 lo, .int .i64 hi] 39)) w1.heap.size #[.int .i64 lo, .int .i64 hi] 39) := Lib.hid (Kept.new rfl)
    have B1 := Lib.hid (b1.alloc b1.size (.cells #[.int .i64 lo, .int .i64 hi] 39))
    obtain ⟨y1, y2, y3, y4, y5⟩ := K1.out.two
    clear b1
    go_wp2_with fail
    refine (CM.out _).mono ?_
    rintro _ w2 ⟨rfl, b2⟩
    have B2 := Lib.hid (B1.out.trans (b2.mono B1.out.size))
    clear b2
    go_wp2
    go_ret2
    exact ⟨rfl, B2.out⟩
  · have F : ckP c t = 0 := if_neg hE
    rw [F]
    generalize ckE c t = er at *
    have hd : (er == 0) = false := beq_eq_false_iff_ne.mpr hE
    clear F hE hG
    go_enter Try.func18, Try.ntmps18
    go_wp2_with fail
    refine CA.out.mono ?_
    rintro _ w1 ⟨rfl, b1⟩
    have B1 := Lib.hid (b1.alloc b1.size (.cells #[.int .i64 lo, .int .i64 hi] 39))
    clear b1
    go_wp2
    go_ret2
    exact ⟨rfl, B1.out⟩
end Go.Proofs.Ytflplliiamodhaa
