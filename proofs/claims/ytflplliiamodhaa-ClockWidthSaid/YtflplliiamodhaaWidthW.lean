/- ClockWidth, walked. -/
import Derived.Test.YtflplliiamodhaaMeetsM
import Derived.Test.YtflplliiamodhaaRisesW
import Derived.StillTailTactics
import Derived.Deep.RegionHeld3
namespace Go.Proofs.Ytflplliiamodhaa
open Go.RowKit
set_option linter.unusedVariables false
set_option linter.unusedSimpArgs false

theorem width_out (r t : Int) (x : Option Addr) (n xc : Nat) (w : World) (h : (60 : Int) < (n : Int)) :
    Calls Try.prog 5 #[.int .i64 r, .slice x n xc, .int .i64 t] w fun e w' => e = .returned (.bool true) ∧ Below w.heap.size w w' := by
  go_enter Try.func5, Try.ntmps5
  go_wp2_with fail
  refine (alive_any _).mono ?_
  rintro _ w1 ⟨rfl, b1⟩
  have B1 := Lib.hid b1
  clear b1
  go_wp2
  go_ret
  exact ⟨rfl, B1.out⟩
theorem width_no (r t : Int) (x : Option Addr) (n xc : Nat) (w : World) (h : ¬ (60 : Int) < (n : Int)) (hn : ¬ newOk r 2) :
    Calls Try.prog 5 #[.int .i64 r, .slice x n xc, .int .i64 t] w fun e w' => e = .returned (.bool true) ∧ Below w.heap.size w w' := by
  have CN := Lib.hid fun W => cknew_no r 2 W hn
  clear hn
  go_enter Try.func5, Try.ntmps5
  go_wp2_with fail
  refine (alive_any _).mono ?_
  rintro _ w1 ⟨rfl, b1⟩
  have B1 := Lib.hid b1
  clear b1
  go_wp2_with fail
  refine (CN.out _).mono ?_
  rintro _ w2 ⟨rfl, b2⟩
  have B2 := Lib.hid (B1.out.trans (b2.mono B1.out.size))
  clear b2
  go_wp2
  go_ret
  exact ⟨by rfl, B2.out⟩
/-- a distance's slack bounds what is nearer -/
theorem slack_near {x f r : Int} (h1 : 0 ≤ r) (h2 : r ≤ 100000) (hx : (if x < 0 then -x else x) ≤ f) (hf0 : 0 ≤ f) (hf : f ≤ 4611686018427387904) : x - lowI x r ≤ slackI f r + 2 ∧ highI x r - x ≤ slackI f r + 2 := by
  have hu := up_spec (p := f * r) (c := 1000000 - r) (by omega)
  have hm : (if x < 0 then -x else x) * r ≤ f * r := Int.mul_le_mul_of_nonneg_right hx h1
  have e : (if -x < 0 then - -x else -x) = (if x < 0 then -x else x) := by split <;> split <;> omega
  have k1 := (low_near (x := x) h1 h2).2 (slackI f r) (by unfold slackI; omega)
  have k2 := (low_near (x := -x) h1 h2).2 (slackI f r) (by rw [e]; unfold slackI; omega)
  unfold highI
  omega
theorem slack_range {f r : Int} (h1 : 0 ≤ r) (h2 : r ≤ 100000) (hf0 : 0 ≤ f) (hf : f ≤ 4611686018427387904) : 0 ≤ slackI f r ∧ slackI f r ≤ 600000000000000000 := by
  have hu := up_spec (p := f * r) (c := 1000000 - r) (by omega)
  have hfr : 0 ≤ f * r := Int.mul_nonneg hf0 h1
  have hfr2 : f * r ≤ f * 100000 := Int.mul_le_mul_of_nonneg_left h2 hf0
  unfold slackI
  have hq0 : -1 < ratM (f * r) (1000000 - r) true := lt_of_mul (c := 1000000 - r) (by omega) (by omega)
  refine ⟨by omega, ?_⟩
  refine le_of_mul (c := 1000000 - r) (by omega) ?_
  have : (600000000000000000 : Int) * (1000000 - r) ≥ 600000000000000000 * 900000 := Int.mul_le_mul_of_nonneg_left (by omega) (by decide)
  omega
theorem width_num {a g s c t r : Int} (h : atE (a, g, s, c) t r = 0) : ∃ F S, max (max (max (t - g) (g - t)) (t - s)) (s - t) = F ∧ slackE F r = 0 ∧ slackV F r = S ∧ 0 ≤ S ∧ S ≤ 600000000000000000 ∧ 0 ≤ F ∧ F ≤ 4611686018427387904 ∧ atHi (a, g, s, c) t r - atLo (a, g, s, c) t r ≤ tripS (a, g, s, c) + 2 * S + 4 ∧ tripS (a, g, s, c) = (c - a) - (s - g) ∧ RgtS a g s c ∧ 0 ≤ t ∧ t ≤ 4611686018427387903 := by
  obtain ⟨hr, ht, hq, -⟩ := atE_zero h
  have hg := rgt_yes hr
  have hg' := hg
  unfold RgtS at hg
  obtain ⟨F, hF⟩ : ∃ F, max (max (max (t - g) (g - t)) (t - s)) (s - t) = F := ⟨_, rfl⟩
  have hF0 : 0 ≤ F ∧ F ≤ 4611686018427387904 := by omega
  have hE : slackE F r = 0 := if_pos (by omega)
  have hV : slackV F r = slackI F r := if_pos hE
  have hS := slack_range hq.1 hq.2 hF0.1 hF0.2
  have n1 := slack_near (x := t - g) hq.1 hq.2 (by split <;> omega) hF0.1 hF0.2
  have n2 := slack_near (x := t - s) hq.1 hq.2 (by split <;> omega) hF0.1 hF0.2
  have hT : tripS (a, g, s, c) = (c - a) - (s - g) := if_pos hr
  refine ⟨F, slackI F r, hF, hE, hV, hS.1, hS.2, hF0.1, hF0.2, ?_, hT, hg', ht.1, ht.2⟩
  rw [hT]
  unfold atHi atLo
  dsimp only
  omega
theorem run_max4 (ts : Array TypeId) (ty : TypeId) (a b c d F : Int) (h : max (max (max a b) c) d = F) (W : World) : (Builtin.max_ ts ty #[.int .i64 a, .int .i64 b, .int .i64 c, .int .i64 d]).run Try.prog W = .ok (.int .i64 F) W := by
  have e : (if d > (if c > (if b > a then b else a) then c else (if b > a then b else a)) then d else (if c > (if b > a then b else a) then c else (if b > a then b else a))) = F := by
    rw [← h]
    (repeat' split) <;> omega
  rw [← e]
  simp [Builtin.max_, Builtin.max2]
def WdRel (n : Nat) (w4 : World) (i : Value) (wr : World) : Prop := ∃ k : Nat, k ≤ n ∧ i = .int .i64 k ∧ Hid (Below w4.heap.size w4 wr)
set_option maxHeartbeats 4000000 in
set_option maxRecDepth 100000 in
theorem width_any2 (r t : Int) (x : Option Addr) (xc : Nat) (A : List Sm) (w : World) (hx : QuadRow w x A) (hl : A.length ≤ 60) (hn : newOk r 2) :
    Calls Try.prog 5 #[.int .i64 r, .slice x A.length xc, .int .i64 t] w fun e w' => e = .returned (.bool true) ∧ Below w.heap.size w w' := by
  have CN := Lib.hid fun W => cknew_any r 2 W hn
  have HX := Lib.hid hx
  have HL := Lib.hid hl
  have h60 : ¬ (60 : Int) < (A.length : Int) := by omega
  clear hx hl hn
  go_enter Try.func5, Try.ntmps5
  go_wp2_with fail
  refine (alive_any _).mono ?_
  rintro _ w1 ⟨rfl, b1⟩
  have B1 := Lib.hid b1
  clear b1
  go_wp2_with fail
  refine (CN.out _).mono ?_
  rintro _ w2 ⟨g, rfl, hg, hC, b2⟩
  have START : Hid (AdRel r 2 g A.length w (.int .i64 0) w2) := Lib.hid ⟨0, .slice none 0 0, ⟨r, 2, 0, false, []⟩, Nat.zero_le _, rfl, Lib.hid hC, Lib.hid (B1.out.trans (b2.mono B1.out.size)), Lib.hid fun k hk => by simp [Value.ownBlock] at hk, Lib.hid ⟨rfl, rfl, by simp, Int.le_refl _, Int.le_refl _, fun s hs => by simp at hs⟩⟩
  have GB : Hid (w.heap.size ≤ g) := Lib.hid (Nat.le_trans B1.out.size hg)
  clear hg hC b2 B1 CN
  go_wp2
  go_loopw [9] (fun i wr => AdRel r 2 g A.length w i wr) (fun i _ => A.length - (intOf i).toNat)
  case atStart => exact START.out
  case round =>
    obtain ⟨k, v, c, hk, rfl, HC, BB, VV, LL⟩ := hrel
    clear START
    by_cases hlt : k < A.length
    · have HLT := Lib.hid hlt
      obtain ⟨b, off, rfl, q1, q2, q3, q4⟩ := (HX.out.below BB.out) k hlt
      have hkk : (k : Int) < (A.length : Int) := by omega
      have hk0 : (0 : Int) ≤ (k : Int) := by omega
      have e2 : wrap64 ((k : Int) + 1) = (k : Int) + 1 := IntWalk.wrap64_in _ (by have := HL.out; omega)
      obtain ⟨⟨sa, sg, ss, sc⟩, hs⟩ : ∃ s, A.getD k smZ = s := ⟨_, rfl⟩
      rw [hs] at q1 q2 q3 q4
      dsimp only at q1 q2 q3 q4
      have CAD := Lib.hid (ckadd_any g v c sa sg ss sc wr HC.out LL.out.2.2.1 (by unfold InI; have h4 := LL.out.2.2.2.1; have h5 := LL.out.2.2.2.2.1; have := HL.out; omega))
      obtain ⟨v0, hv0⟩ : ∃ x, x = wr := ⟨_, rfl⟩
      subst hv0
      clear hlt hk hs HC
      go_wp2_with fail
      refine CAD.out.mono ?_
      rintro _ w5 ⟨v5, rfl, h5, k5, f5⟩
      have FF := Lib.hid (AdRel.next HLT.out (by have := HL.out; omega) BB.out GB.out VV.out LL.out h5 k5 f5)
      clear h5 k5 f5 CAD q1 q2 q3 q4 LL BB VV
      go_wp2
      go_roundw
      case rel => (try rw [e2]); exact FF.out
      case measure => have := HLT.out; (try rw [e2]); simp [intOf]; omega
    · have e : k = A.length := by omega
      obtain ⟨v0, hv0⟩ : ∃ x, x = wr := ⟨_, rfl⟩
      subst hv0
      clear hlt hk
      subst e
      obtain ⟨rho, need, st, hd, L⟩ := c
      have hr0 : rho = r := LL.out.1
      have hn0 : need = 2 := LL.out.2.1
      subst hr0 hn0
      have hl8 : L.length ≤ 8 := LL.out.2.2.1
      have HL8 := Lib.hid hl8
      have HST : Hid (InI st) := Lib.hid (by
        have h1 : 0 ≤ st := LL.out.2.2.2.1
        have h2 : st ≤ (A.length : Int) := LL.out.2.2.2.2.1
        have := HL.out
        unfold InI; omega)
      have CA0 := Lib.hid (ckat_any g v _ t v0 HC.out (by show L.length ≤ 1000; omega))
      unfold CkAtOut at CA0
      obtain ⟨glo, ghi, hG⟩ : ∃ a b, ckG ⟨rho, 2, st, hd, L⟩ t = (a, b) := ⟨_, _, rfl⟩
      obtain ⟨f0, hf0⟩ : ∃ f, ckE ⟨rho, 2, st, hd, L⟩ t = f := ⟨_, rfl⟩
      rw [hG, hf0] at CA0
      dsimp only at CA0
      have HG := Lib.hid (And.intro hG hf0)
      clear hG hf0 LL hl8
      go_wp2_with fail
      refine CA0.out.mono ?_
      rintro _ w3 ⟨rfl, b3⟩
      have N10 : Hid (Kept (w3.alloc (.cells #[.int .i64 glo, .int .i64 ghi] 39)) w3.heap.size #[.int .i64 glo, .int .i64 ghi] 39) := Lib.hid (Kept.new rfl)
      have bb := b3.trans ((one_alloc w3 (.cells #[.int .i64 glo, .int .i64 ghi] 39)).mono b3.size)
      have HC3 := Lib.hid (HC.out.below bb)
      have B3 := Lib.hid (BB.out.trans (bb.mono BB.out.size))
      clear b3 bb CA0 BB HC
      go_upto_region 13 with fail
      generalize w3.alloc (.cells #[.int .i64 glo, .int .i64 ghi] 39) = W3 at *
      generalize w3.heap.size = k10 at *
      by_cases hf : f0 = 0
      · subst hf
        have hin := ck_in HG.out.2
        rw [HG.out.1] at hin
        dsimp only at hin
        have HIN := Lib.hid hin
        have hpos : 0 < L.length := by
          rcases Nat.eq_zero_or_pos L.length with h | h
          · have := HG.out.2
            unfold ckE at this
            rw [if_pos h] at this
            cases this
          · exact h
        have hposI : (0 : Int) < (L.length : Int) := by omega
        have EACH : Hid (∀ j, j < L.length → atE (L.getD j smZ) t rho = 0 ∧ atLo (L.getD j smZ) t rho ≤ glo ∧ ghi ≤ atHi (L.getD j smZ) t rho) := Lib.hid fun j hj => by
          have hm : mtE (gapsS L t rho) = 0 := by
            rcases ckE_cases ⟨rho, 2, st, hd, L⟩ t with ⟨h1, h2⟩ | ⟨h1, h2, h3⟩ | ⟨h1, h2, h3, h4⟩ | ⟨h1, h2, h3, h4⟩
            · rw [HG.out.2] at h2; cases h2
            · rw [HG.out.2] at h3; cases h3
            · rw [HG.out.2] at h4; cases h4
            · exact h3
          have h0 : atE (L.getD j smZ) t rho = 0 := Decidable.byContradiction fun hb => mt_bad hj hb hm
          refine ⟨h0, ?_⟩
          have hz : (gapsS L t rho).foldl opM fullP = (glo, ghi) := by
            rw [← HG.out.1]
            exact (if_pos HG.out.2).symm
          have h4 := (foldM_le (gapsS L t rho) fullP).2 _ (getP_mem (j := j) (by rw [gapsS_len]; exact hj))
          rw [gapsS_get hj, hz] at h4
          unfold gapS at h4
          rw [if_pos h0] at h4
          exact h4
        clear hin hpos HG
        go_wp2_with fail
        refine (samples_any g v _ W3 HC3.out (by have := HL8.out; show L.length ≤ 4000000; omega)).mono ?_
        rintro _ w4 ⟨aL, cL, rfl, oL, b4⟩
        (try dsimp only)
        obtain ⟨aL', cL', eL, -, -, -, -, qL⟩ := QuadRow.own oL
        cases eL
        have QL := Lib.hid qL
        have B4 := Lib.hid (B3.out.trans (b4.mono B3.out.size))
        have N4 := Lib.hid (N10.out.next b4)
        clear oL b4 HC3 B3 N10 qL
        have START2 : Hid (WdRel L.length w4 (.int .i64 0) w4) := Lib.hid ⟨0, Nat.zero_le _, rfl, Lib.hid (Below.refl _ _)⟩
        go_wp2
        go_loopw [13] (fun i wr => WdRel L.length w4 i wr) (fun i _ => L.length - (intOf i).toNat)
        case atStart => exact START2.out
        case round =>
          obtain ⟨k, hk, rfl, B5⟩ := hrel
          clear START2
          obtain ⟨v5, hv5⟩ : ∃ x, x = wr := ⟨_, rfl⟩
          subst hv5
          by_cases hlt : k < L.length
          · have HLT := Lib.hid hlt
            obtain ⟨b, off, rfl, q1, q2, q3, q4⟩ := (QL.out.below B5.out) k hlt
            have hkk : (k : Int) < (L.length : Int) := by omega
            have hk0 : (0 : Int) ≤ (k : Int) := by omega
            have e2 : wrap64 ((k : Int) + 1) = (k : Int) + 1 := IntWalk.wrap64_in _ (by have := HL8.out; omega)
            have hea := EACH.out k hlt
            obtain ⟨⟨sa, sg, ss, sc⟩, hs⟩ : ∃ s, L.getD k smZ = s := ⟨_, rfl⟩
            rw [hs] at q1 q2 q3 q4 hea
            dsimp only at q1 q2 q3 q4
            obtain ⟨F, S, hF, hSE, hSV, hS0, hS1, hF0, hF1, hW, hT, hR, ht0, ht1⟩ := width_num hea.1
            unfold RgtS at hR
            have CSL := Lib.hid (fun W => slack_any F rho W)
            rw [hSE, hSV] at CSL
            have CSA := Lib.hid (fun W => at_any sa sg ss sc t rho W)
            unfold AtOut at CSA
            rw [hea.1, atG_ok hea.1] at CSA
            have CTR := Lib.hid (fun W => trip_any sa sg ss sc W)
            have hlo0 : 0 ≤ atLo (sa, sg, ss, sc) t rho := Int.le_max_left _ _
            have hhi1 : atHi (sa, sg, ss, sc) t rho ≤ 4611686018427387903 := Int.min_le_left _ _
            obtain ⟨lo, hlo⟩ : ∃ lo, atLo (sa, sg, ss, sc) t rho = lo := ⟨_, rfl⟩
            obtain ⟨up, hup⟩ : ∃ up, atHi (sa, sg, ss, sc) t rho = up := ⟨_, rfl⟩
            obtain ⟨T, hTT⟩ : ∃ T, tripS (sa, sg, ss, sc) = T := ⟨_, rfl⟩
            rw [hlo, hup] at CSA hea hW
            rw [hlo] at hlo0
            rw [hup] at hhi1
            rw [hTT] at CTR hW hT
            have hin := HIN.out
            have CWI := Lib.hid (fun W => within_any glo ghi lo up true (decide_eq_true ⟨hin.2.1, hea.2.1, hea.2.2⟩) W)
            have w1 : wrap64 (t - sg) = t - sg := IntWalk.wrap64_in _ (by omega)
            have w2 : wrap64 (sg - t) = sg - t := IntWalk.wrap64_in _ (by omega)
            have w3 : wrap64 (t - ss) = t - ss := IntWalk.wrap64_in _ (by omega)
            have w4' : wrap64 (ss - t) = ss - t := IntWalk.wrap64_in _ (by omega)
            have i1 : wrap64 (ghi - glo) = ghi - glo := IntWalk.wrap64_in _ (by omega)
            have i2 : wrap64 (2 * S) = 2 * S := IntWalk.wrap64_in _ (by omega)
            have i3 : wrap64 (T + 2 * S) = T + 2 * S := IntWalk.wrap64_in _ (by omega)
            have i4 : wrap64 (T + 2 * S + 4) = T + 2 * S + 4 := IntWalk.wrap64_in _ (by omega)
            have di : decide (T + 2 * S + 4 < ghi - glo) = false := decide_eq_false (by omega)
            have DF : Hid (decide (IntKind.i64.wrap (IntKind.i64.wrap (T + IntKind.i64.wrap (2 * S)) + 4) < IntKind.i64.wrap (ghi - glo)) = false ∧ decide (wrap64 (wrap64 (T + wrap64 (2 * S)) + 4) < wrap64 (ghi - glo)) = false) := Lib.hid (by
              have j1 : IntKind.i64.wrap (2 * S) = 2 * S := by simp only [IntKind.wrap_i64]; omega
              have j2 : IntKind.i64.wrap (T + 2 * S) = T + 2 * S := by simp only [IntKind.wrap_i64]; omega
              have j3 : IntKind.i64.wrap (T + 2 * S + 4) = T + 2 * S + 4 := by simp only [IntKind.wrap_i64]; omega
              have j4 : IntKind.i64.wrap (ghi - glo) = ghi - glo := by simp only [IntKind.wrap_i64]; omega
              exact ⟨by rw [j1, j2, j3, j4]; exact di, by rw [i2, i3, i4, i1]; exact di⟩)
            have hmx := run_max4 (h := hF)
            have FX : Hid (∀ W, Below w4.heap.size w4 W → WdRel L.length w4 (.int .i64 ((k : Int) + 1)) W) := Lib.hid fun W h => ⟨k + 1, hlt, rfl, Lib.hid h⟩
            have N5 := Lib.hid (N4.out.next B5.out)
            have KS : Hid (Kept (v5.alloc (.cells #[.int .i64 sa, .int .i64 sg, .int .i64 ss, .int .i64 sc] 33)) v5.heap.size #[.int .i64 sa, .int .i64 sg, .int .i64 ss, .int .i64 sc] 33) := Lib.hid (Kept.new rfl)
            have N6 := Lib.hid (N5.out.alloc (.cells #[.int .i64 sa, .int .i64 sg, .int .i64 ss, .int .i64 sc] 33))
            have B6 := Lib.hid (B5.out.alloc B5.out.size (.cells #[.int .i64 sa, .int .i64 sg, .int .i64 ss, .int .i64 sc] 33))
            clear hlt hk hs hea hSE hSV hS0 hS1 hF0 hF1 hW hT hR ht0 ht1 hlo hup hTT hlo0 hhi1 hin i1 i2 i3 i4 di N5 B5
            go_upto_region 20 with fail
            generalize v5.alloc (.cells #[.int .i64 sa, .int .i64 sg, .int .i64 ss, .int .i64 sc] 33) = V6 at *
            generalize v5.heap.size = k14 at *
            obtain ⟨y1, y2, y3, y4, -⟩ := KS.out.four
            go_upto_region 21 with fail
            clear hmx hF w1 w2 w3 w4'
            go_wp2_with fail
            refine (CSL.out _).mono ?_
            rintro _ w6 ⟨rfl, b6⟩
            have KS7 := Lib.hid (KS.out.next b6)
            have N7 := Lib.hid (N6.out.next b6)
            have B7 := Lib.hid (B6.out.trans (b6.mono B6.out.size))
            clear y1 y2 y3 y4
            obtain ⟨y1, y2, y3, y4, -⟩ := KS7.out.four
            clear b6 CSL KS N6 B6
            go_wp2_with fail
            refine (CSA.out _).mono ?_
            rintro _ w7 ⟨rfl, b7⟩
            have bb := b7.trans ((one_alloc w7 (.cells #[.int .i64 lo, .int .i64 up] 39)).mono b7.size)
            have K18 : Hid (Kept (w7.alloc (.cells #[.int .i64 lo, .int .i64 up] 39)) w7.heap.size #[.int .i64 lo, .int .i64 up] 39) := Lib.hid (Kept.new rfl)
            have KS8 := Lib.hid (KS7.out.next bb)
            have N8 := Lib.hid (N7.out.next bb)
            have B8 := Lib.hid (B7.out.trans (bb.mono B7.out.size))
            clear b7 bb CSA KS7 N7 B7 y1 y2 y3 y4
            go_upto_region 23 with fail
            generalize w7.alloc (.cells #[.int .i64 lo, .int .i64 up] 39) = V8 at *
            generalize w7.heap.size = k18 at *
            have SS : Hid (Below w4.heap.size w4 V8.drew) ∧ V8.drew.cell? ⟨k10, 0, none⟩ = some (.int .i64 glo) ∧ V8.drew.cell? ⟨k10, 1, none⟩ = some (.int .i64 ghi) ∧ V8.drew.cell? ⟨k14, 0, none⟩ = some (.int .i64 sa) ∧ V8.drew.cell? ⟨k14, 1, none⟩ = some (.int .i64 sg) ∧ V8.drew.cell? ⟨k14, 2, none⟩ = some (.int .i64 ss) ∧ V8.drew.cell? ⟨k14, 3, none⟩ = some (.int .i64 sc) ∧ V8.drew.cell? ⟨k18, 0, none⟩ = some (.int .i64 lo) ∧ V8.drew.cell? ⟨k18, 1, none⟩ = some (.int .i64 up) :=
              ⟨Lib.hid B8.out.drew, N8.out.two.1, N8.out.two.2.1, KS8.out.four.1, KS8.out.four.2.1, KS8.out.four.2.2.1, KS8.out.four.2.2.2.1, K18.out.two.1, K18.out.two.2.1⟩
            obtain ⟨d1, d2⟩ := DF.out
            clear DF K18 KS8 N8 B8
            go_region_held3 (fun w' => Hid (Below w4.heap.size w4 w') ∧ w'.cell? ⟨k10, 0, none⟩ = some (.int .i64 glo) ∧ w'.cell? ⟨k10, 1, none⟩ = some (.int .i64 ghi) ∧ w'.cell? ⟨k14, 0, none⟩ = some (.int .i64 sa) ∧ w'.cell? ⟨k14, 1, none⟩ = some (.int .i64 sg) ∧ w'.cell? ⟨k14, 2, none⟩ = some (.int .i64 ss) ∧ w'.cell? ⟨k14, 3, none⟩ = some (.int .i64 sc) ∧ w'.cell? ⟨k18, 0, none⟩ = some (.int .i64 lo) ∧ w'.cell? ⟨k18, 1, none⟩ = some (.int .i64 up))
              (first | exact SS | go_keep)
              (first | (go_at_call 30; refine (CWI.out _).mono ?_; rintro _ wa ⟨rfl, ba⟩; have SS := keepB8 (a := w4) ba SS) | (go_at_call 31; refine (CTR.out _).mono ?_; rintro _ wb ⟨rfl, bb⟩; have SS := keepB8 (a := w4) bb SS))
            all_goals
              have FF := Lib.hid (FX.out _ SS.1.out)
              clear SS
              go_wp2
              go_roundw
              case rel => (try rw [e2]); exact FF.out
              case measure => have := HLT.out; (try rw [e2]); simp [intOf]; omega
          · have e : k = L.length := by omega
            have BE : Hid (Below w.heap.size w v5) := Lib.hid (B4.out.trans (B5.out.mono B4.out.size))
            clear B5 hlt hk
            subst e
            go_wp2
            go_ret
            exact ⟨by simp; omega, BE.out⟩
      · have hz : ckG ⟨rho, 2, st, hd, L⟩ t = (0, 0) := if_neg (by rw [HG.out.2]; exact hf)
        rw [HG.out.1] at hz
        cases hz
        have hd1 : (f0 != 0) = true := by rw [bne_iff_ne]; exact hf
        obtain ⟨y1, y2, -⟩ := N10.out.two
        have hgg := fun W => g_eql_self 0 0 W
        clear hf HG
        go_wp2
        go_ret
        exact ⟨by rfl, B3.out⟩
end Go.Proofs.Ytflplliiamodhaa
