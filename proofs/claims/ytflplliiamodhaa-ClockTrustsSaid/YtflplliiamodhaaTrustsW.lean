/- ClockTrusts, walked. -/
import Derived.Test.YtflplliiamodhaaAlive
namespace Go.Proofs.Ytflplliiamodhaa
open Go.RowKit
set_option linter.unusedVariables false
set_option linter.unusedSimpArgs false

theorem trusts_out (r t : Int) (a : Option Addr) (n c : Nat) (w : World) (h : (60 : Int) < (n : Int)) :
    Calls Try.prog 8 #[.int .i64 r, .int .i64 t, .slice a n c] w fun e w' => e = .returned (.bool true) ∧ Below w.heap.size w w' := by
  go_enter Try.func8, Try.ntmps8
  go_wp2_with fail
  refine (alive_any _).mono ?_
  rintro _ w1 ⟨rfl, b1⟩
  have B1 := Lib.hid b1
  clear b1
  go_wp2
  go_ret
  exact ⟨rfl, B1.out⟩
theorem trusts_no (r t : Int) (a : Option Addr) (n c : Nat) (w : World) (h : ¬ (60 : Int) < (n : Int)) (hn : ¬ newOk r t) :
    Calls Try.prog 8 #[.int .i64 r, .int .i64 t, .slice a n c] w fun e w' => e = .returned (.bool true) ∧ Below w.heap.size w w' := by
  have CN := Lib.hid fun W => cknew_no r t W hn
  clear hn
  go_enter Try.func8, Try.ntmps8
  go_wp2_with fail
  refine (alive_any _).mono ?_
  rintro _ w1 ⟨rfl, b1⟩
  have B1 := Lib.hid b1
  clear b1
  go_wp2_with fail
  refine (CN.out _).mono ?_
  rintro _ w2 ⟨rfl, b2⟩
  have B2 := Lib.hid (B1.out.trans (b2.mono B1.out.size))
  clear b2
  go_wp2
  go_ret
  exact ⟨by rfl, B2.out⟩
def TuRel (r t : Int) (g : Nat) (n : Nat) (w : World) (s h i : Value) (wr : World) : Prop :=
  ∃ (k : Nat) (v : Value) (st : Int) (hd : Bool) (L : List Sm), k ≤ n ∧ i = .int .i64 k ∧ s = .int .i64 st ∧ h = .bool hd ∧ Hid (CkO wr g v ⟨r, t, st, hd, L⟩) ∧ Hid (Below w.heap.size w wr) ∧ Hid (∀ k, v.ownBlock = some k → w.heap.size ≤ k) ∧ Hid (L.length ≤ 8 ∧ (L.length : Int) ≤ st + 1 ∧ 0 ≤ st ∧ st ≤ k)
set_option maxHeartbeats 4000000 in
set_option maxRecDepth 100000 in
theorem trusts_any (r t : Int) (x : Option Addr) (xc : Nat) (A : List Sm) (w : World) (hx : QuadRow w x A) (hl : A.length ≤ 60) (hn : newOk r t) :
    Calls Try.prog 8 #[.int .i64 r, .int .i64 t, .slice x A.length xc] w fun e w' => e = .returned (.bool true) ∧ Below w.heap.size w w' := by
  have CN := Lib.hid fun W => cknew_any r t W hn
  have HX := Lib.hid hx
  have HL := Lib.hid hl
  have h60 : ¬ (60 : Int) < (A.length : Int) := by omega
  clear hx hl hn
  go_enter Try.func8, Try.ntmps8
  go_wp2_with fail
  refine (alive_any _).mono ?_
  rintro _ w1 ⟨rfl, b1⟩
  have B1 := Lib.hid b1
  clear b1
  go_wp2_with fail
  refine (CN.out _).mono ?_
  rintro _ w2 ⟨g, rfl, hg, hC, b2⟩
  have START : Hid (TuRel r t g A.length w (.int .i64 0) (.bool false) (.int .i64 0) w2) := Lib.hid ⟨0, .slice none 0 0, 0, false, [], Nat.zero_le _, rfl, rfl, rfl, Lib.hid hC, Lib.hid (B1.out.trans (b2.mono B1.out.size)), Lib.hid fun k hk => by simp [Value.ownBlock] at hk, Lib.hid (by simp)⟩
  have GB : Hid (w.heap.size ≤ g) := Lib.hid (Nat.le_trans B1.out.size hg)
  clear hg hC b2 B1 CN
  go_wp2
  go_loopw [9, 10, 11] (fun s h i wr => TuRel r t g A.length w s h i wr) (fun _ _ i _ => A.length - (intOf i).toNat)
  case atStart => exact START.out
  case round =>
    obtain ⟨k, v, st, hd, L, hk, rfl, rfl, rfl, HC, BB, VV, LL⟩ := hrel
    clear START
    by_cases hlt : k < A.length
    · have HLT := Lib.hid hlt
      obtain ⟨b, off, rfl, q1, q2, q3, q4⟩ := (HX.out.below BB.out) k hlt
      have hkk : (k : Int) < (A.length : Int) := by omega
      have hk0 : (0 : Int) ≤ (k : Int) := by omega
      have e2 : wrap64 ((k : Int) + 1) = (k : Int) + 1 := IntWalk.wrap64_in _ (by have := HL.out; omega)
      have e3 : wrap64 (st + 1) = st + 1 := IntWalk.wrap64_in _ (by have := LL.out; have := HL.out; omega)
      have HKL : Hid (k ≤ 60) := Lib.hid (by have := HL.out; omega)
      obtain ⟨⟨sa, sg, ss, sc⟩, hs⟩ : ∃ s, A.getD k smZ = s := ⟨_, rfl⟩
      have HSM := Lib.hid hs
      rw [hs] at q1 q2 q3 q4
      dsimp only at q1 q2 q3 q4
      have CAD := Lib.hid (ckadd_any g v ⟨r, t, st, hd, L⟩ sa sg ss sc wr HC.out LL.out.1 (by unfold InI; have := LL.out; have := HKL.out; show -9223372036854775808 ≤ st ∧ st ≤ 9223372036854775807; omega))
      obtain ⟨v0, hv0⟩ : ∃ x, x = wr := ⟨_, rfl⟩
      subst hv0
      have NXT : Hid (∀ v' W, KpC g v v0 W → Fr v v' v0 → Below w.heap.size w W ∧ ∀ k, v'.ownBlock = some k → w.heap.size ≤ k) := Lib.hid fun v' W hk hf => ⟨BB.out.trans (hk.out BB.out.size GB.out VV.out), fun k hk' => by
        rcases hf k hk' with h1 | h1
        · exact VV.out k h1
        · have := BB.out.size; omega⟩
      have UP : Hid (upS st = st + 1) := Lib.hid (if_pos (by have := LL.out; have := HKL.out; omega))
      clear hlt hk hs HC
      unfold AddOut at CAD
      cases hr : rgtS (sa, sg, ss, sc)
      · rw [addC_no hr] at CAD
        have CR := Lib.hid (fun W => srgt_any sa sg ss sc W)
        rw [hr] at CR
        clear hr
        go_wp2_with fail
        refine CAD.out.mono ?_
        rintro _ w5 ⟨v5, rfl, h5, k5, f5⟩
        (try dsimp only at h5)
        have HC5 : Hid (CkO w5 g v5 ⟨r, t, st, hd, L⟩) := Lib.hid h5
        have NX := Lib.hid (NXT.out v5 w5 k5 f5)
        have HB5 : Hid (L.length ≤ 8 ∧ (L.length : Int) ≤ st + 1 ∧ 0 ≤ st ∧ st ≤ (k : Int) + 1) := Lib.hid (by have := LL.out; omega)
        obtain ⟨bq, offq, eq, y1, y2, y3, y4⟩ := (HX.out.below NX.out.1) k HLT.out
        cases eq
        rw [HSM.out] at y1 y2 y3 y4
        dsimp only at y1 y2 y3 y4
        clear h5 k5 f5 CAD NXT q1 q2 q3 q4 LL BB VV
        go_wp2_with fail
        refine (CR.out _).mono ?_
        rintro _ w5x ⟨rfl, b5'⟩
        have HC5' := Lib.hid (HC5.out.below b5')
        have NX' := Lib.hid (And.intro (NX.out.1.trans (b5'.mono NX.out.1.size)) NX.out.2)
        clear b5' HC5 NX y1 y2 y3 y4 CR
        have HC5 := HC5'
        have NX := NX'
        clear HC5' NX'
        have hnn : (st != st) = false := by simp
        have hbb : (hd != hd) = false := by simp
        have n8 : ¬ (8 : Int) < (L.length : Int) := by have := HB5.out; omega
        have n9 : ¬ st + 1 < (L.length : Int) := by have := HB5.out; omega
        have e5 : wrap64 (st + 1) = st + 1 := IntWalk.wrap64_in _ (by have := HB5.out; have := HKL.out; omega)
        go_wp2_with fail
        refine (streak_any g v5 _ w5x HC5.out).mono ?_
        rintro _ w6 ⟨rfl, b6⟩
        have HC6 := Lib.hid (HC5.out.below b6)
        have B6 := Lib.hid (NX.out.1.trans (b6.mono NX.out.1.size))
        clear b6
        go_wp2_with fail
        refine (held_any g v5 _ w6 HC6.out).mono ?_
        rintro _ w7 ⟨rfl, b7⟩
        have HC7 := Lib.hid (HC6.out.below b7)
        have B7 := Lib.hid (B6.out.trans (b7.mono B6.out.size))
        clear b7 HC6 B6
        go_wp2_with fail
        refine (samples_any g v5 _ w7 HC7.out (by have := HB5.out; show L.length ≤ 4000000; omega)).mono ?_
        rintro _ w8 ⟨a8, c8, rfl, o8, b8⟩
        have HC8 := Lib.hid (HC7.out.below b8)
        have B8 := Lib.hid (B7.out.trans (b8.mono B7.out.size))
        clear b8 HC7 B7 o8
        (try dsimp only)
        go_wp2_with fail
        refine (samples_any g v5 _ w8 HC8.out (by have := HB5.out; show L.length ≤ 4000000; omega)).mono ?_
        rintro _ w9 ⟨a9, c9, rfl, o9, b9⟩
        have FF : Hid (TuRel r t g A.length w (.int .i64 st) (.bool hd) (.int .i64 ((k : Int) + 1)) w9) := Lib.hid ⟨k + 1, v5, st, hd, L, HLT.out, rfl, rfl, rfl, Lib.hid (HC8.out.below b9), Lib.hid (B8.out.trans (b9.mono B8.out.size)), Lib.hid NX.out.2, Lib.hid HB5.out⟩
        clear b9 HC8 B8 o9 HC5 NX
        (try dsimp only)
        go_wp2
        go_roundw
        case rel => (try rw [e2]); exact FF.out
        case measure => have := HLT.out; (try rw [e2]); simp [intOf]; omega
      · cases hag : agreeB (gapsS (pushL L (sa, sg, ss, sc)) ss r)
        · rw [addC_un hr hag] at CAD
          clear hr hag
          have hL2 : (if atE (sa, sg, ss, sc) ss r = 0 then [(sa, sg, ss, sc)] else ([] : List Sm)).length ≤ 1 := by split <;> simp
          dsimp only at CAD
          generalize (if atE (sa, sg, ss, sc) ss r = 0 then [(sa, sg, ss, sc)] else ([] : List Sm)) = L5 at *
          have HB5 : Hid (L5.length ≤ 8 ∧ (L5.length : Int) ≤ 0 + 1 ∧ (0 : Int) ≤ 0 ∧ (0 : Int) ≤ (k : Int) + 1) := Lib.hid (by omega)
          clear hL2
          go_wp2_with fail
          refine CAD.out.mono ?_
          rintro _ w5 ⟨v5, rfl, h5, k5, f5⟩
          have HC5 : Hid (CkO w5 g v5 ⟨r, t, 0, true, L5⟩) := Lib.hid h5
          have NX := Lib.hid (NXT.out v5 w5 k5 f5)
          clear h5 k5 f5 CAD NXT q1 q2 q3 q4 LL BB VV
          have hnn : (0 != 0) = false := by simp
          have hbb : (true != true) = false := by simp
          have n8 : ¬ (8 : Int) < (L5.length : Int) := by have := HB5.out; omega
          have n9 : ¬ 0 + 1 < (L5.length : Int) := by have := HB5.out; omega
          have e5 : wrap64 (0 + 1) = 0 + 1 := IntWalk.wrap64_in _ (by have := HB5.out; have := HKL.out; omega)
          go_wp2_with fail
          refine (streak_any g v5 _ w5 HC5.out).mono ?_
          rintro _ w6 ⟨rfl, b6⟩
          have HC6 := Lib.hid (HC5.out.below b6)
          have B6 := Lib.hid (NX.out.1.trans (b6.mono NX.out.1.size))
          clear b6
          go_wp2_with fail
          refine (held_any g v5 _ w6 HC6.out).mono ?_
          rintro _ w7 ⟨rfl, b7⟩
          have HC7 := Lib.hid (HC6.out.below b7)
          have B7 := Lib.hid (B6.out.trans (b7.mono B6.out.size))
          clear b7 HC6 B6
          go_wp2_with fail
          refine (samples_any g v5 _ w7 HC7.out (by have := HB5.out; show L5.length ≤ 4000000; omega)).mono ?_
          rintro _ w8 ⟨a8, c8, rfl, o8, b8⟩
          have HC8 := Lib.hid (HC7.out.below b8)
          have B8 := Lib.hid (B7.out.trans (b8.mono B7.out.size))
          clear b8 HC7 B7 o8
          (try dsimp only)
          go_wp2_with fail
          refine (samples_any g v5 _ w8 HC8.out (by have := HB5.out; show L5.length ≤ 4000000; omega)).mono ?_
          rintro _ w9 ⟨a9, c9, rfl, o9, b9⟩
          have FF : Hid (TuRel r t g A.length w (.int .i64 0) (.bool true) (.int .i64 ((k : Int) + 1)) w9) := Lib.hid ⟨k + 1, v5, 0, true, L5, HLT.out, rfl, rfl, rfl, Lib.hid (HC8.out.below b9), Lib.hid (B8.out.trans (b9.mono B8.out.size)), Lib.hid NX.out.2, Lib.hid HB5.out⟩
          clear b9 HC8 B8 o9 HC5 NX
          (try dsimp only)
          go_wp2
          go_roundw
          case rel => (try rw [e2]); exact FF.out
          case measure => have := HLT.out; (try rw [e2]); simp [intOf]; omega
        · rw [addC_yes hr hag] at CAD
          clear hr hag
          have hL2 : (pushL L (sa, sg, ss, sc)).length ≤ 8 ∧ (pushL L (sa, sg, ss, sc)).length ≤ L.length + 1 := ⟨(pushL_len LL.out.1).2, by unfold pushL; split <;> simp⟩
          dsimp only at CAD
          generalize pushL L (sa, sg, ss, sc) = L5 at *
          rw [UP.out] at CAD
          have HB5 : Hid (L5.length ≤ 8 ∧ (L5.length : Int) ≤ (st + 1) + 1 ∧ (0 : Int) ≤ st + 1 ∧ st + 1 ≤ (k : Int) + 1) := Lib.hid (by have := LL.out; omega)
          have e4 : wrap64 (st + 1 + 1) = st + 1 + 1 := IntWalk.wrap64_in _ (by have := LL.out; have := HKL.out; omega)
          obtain ⟨s5, hs5⟩ : ∃ s5, st + 1 = s5 := ⟨_, rfl⟩
          cases hd
          · have hu : upH ⟨r, t, st, false, L⟩ = false := by unfold upH; split <;> rfl
            rw [hu, hs5] at CAD
            rw [hs5] at HB5 e3 e4
            clear hu hL2
            go_wp2_with fail
            refine CAD.out.mono ?_
            rintro _ w5 ⟨v5, rfl, h5, k5, f5⟩
            have HC5 : Hid (CkO w5 g v5 ⟨r, t, s5, false, L5⟩) := Lib.hid h5
            have NX := Lib.hid (NXT.out v5 w5 k5 f5)
            clear h5 k5 f5 CAD NXT q1 q2 q3 q4 LL BB VV
            have hnn : (s5 != s5) = false := by simp
            have hbb : (false != false) = false := by simp
            have n8 : ¬ (8 : Int) < (L5.length : Int) := by have := HB5.out; omega
            have n9 : ¬ s5 + 1 < (L5.length : Int) := by have := HB5.out; omega
            have e5 : wrap64 (s5 + 1) = s5 + 1 := IntWalk.wrap64_in _ (by have := HB5.out; have := HKL.out; omega)
            go_wp2_with fail
            refine (streak_any g v5 _ w5 HC5.out).mono ?_
            rintro _ w6 ⟨rfl, b6⟩
            have HC6 := Lib.hid (HC5.out.below b6)
            have B6 := Lib.hid (NX.out.1.trans (b6.mono NX.out.1.size))
            clear b6
            go_wp2_with fail
            refine (held_any g v5 _ w6 HC6.out).mono ?_
            rintro _ w7 ⟨rfl, b7⟩
            have HC7 := Lib.hid (HC6.out.below b7)
            have B7 := Lib.hid (B6.out.trans (b7.mono B6.out.size))
            clear b7 HC6 B6
            go_wp2_with fail
            refine (samples_any g v5 _ w7 HC7.out (by have := HB5.out; show L5.length ≤ 4000000; omega)).mono ?_
            rintro _ w8 ⟨a8, c8, rfl, o8, b8⟩
            have HC8 := Lib.hid (HC7.out.below b8)
            have B8 := Lib.hid (B7.out.trans (b8.mono B7.out.size))
            clear b8 HC7 B7 o8
            (try dsimp only)
            go_wp2_with fail
            refine (samples_any g v5 _ w8 HC8.out (by have := HB5.out; show L5.length ≤ 4000000; omega)).mono ?_
            rintro _ w9 ⟨a9, c9, rfl, o9, b9⟩
            have FF : Hid (TuRel r t g A.length w (.int .i64 s5) (.bool false) (.int .i64 ((k : Int) + 1)) w9) := Lib.hid ⟨k + 1, v5, s5, false, L5, HLT.out, rfl, rfl, rfl, Lib.hid (HC8.out.below b9), Lib.hid (B8.out.trans (b9.mono B8.out.size)), Lib.hid NX.out.2, Lib.hid HB5.out⟩
            clear b9 HC8 B8 o9 HC5 NX
            (try dsimp only)
            go_wp2
            go_roundw
            case rel => (try rw [e2]); exact FF.out
            case measure => have := HLT.out; (try rw [e2]); simp [intOf]; omega
          · have hu : upH ⟨r, t, st, true, L⟩ = decide (s5 < t) := by
              unfold upH
              dsimp only
              rw [UP.out, hs5]
              split
              · exact (decide_eq_false (by omega)).symm
              · exact (decide_eq_true (by omega)).symm
            rw [hu, hs5] at CAD
            rw [hs5] at HB5 e3 e4
            clear hu hL2
            obtain ⟨h5', hh5⟩ : ∃ b, decide (s5 < t) = b := ⟨_, rfl⟩
            rw [hh5] at CAD
            go_wp2_with fail
            refine CAD.out.mono ?_
            rintro _ w5 ⟨v5, rfl, h5, k5, f5⟩
            have HC5 : Hid (CkO w5 g v5 ⟨r, t, s5, h5', L5⟩) := Lib.hid h5
            have NX := Lib.hid (NXT.out v5 w5 k5 f5)
            clear h5 k5 f5 CAD NXT q1 q2 q3 q4 LL BB VV
            have hnn : (s5 != s5) = false := by simp
            have hbb : (h5' != h5') = false := by simp
            have n8 : ¬ (8 : Int) < (L5.length : Int) := by have := HB5.out; omega
            have n9 : ¬ s5 + 1 < (L5.length : Int) := by have := HB5.out; omega
            have e5 : wrap64 (s5 + 1) = s5 + 1 := IntWalk.wrap64_in _ (by have := HB5.out; have := HKL.out; omega)
            go_wp2_with fail
            refine (streak_any g v5 _ w5 HC5.out).mono ?_
            rintro _ w6 ⟨rfl, b6⟩
            have HC6 := Lib.hid (HC5.out.below b6)
            have B6 := Lib.hid (NX.out.1.trans (b6.mono NX.out.1.size))
            clear b6
            go_wp2_with fail
            refine (held_any g v5 _ w6 HC6.out).mono ?_
            rintro _ w7 ⟨rfl, b7⟩
            have HC7 := Lib.hid (HC6.out.below b7)
            have B7 := Lib.hid (B6.out.trans (b7.mono B6.out.size))
            clear b7 HC6 B6
            go_wp2_with fail
            refine (samples_any g v5 _ w7 HC7.out (by have := HB5.out; show L5.length ≤ 4000000; omega)).mono ?_
            rintro _ w8 ⟨a8, c8, rfl, o8, b8⟩
            have HC8 := Lib.hid (HC7.out.below b8)
            have B8 := Lib.hid (B7.out.trans (b8.mono B7.out.size))
            clear b8 HC7 B7 o8
            (try dsimp only)
            go_wp2_with fail
            refine (samples_any g v5 _ w8 HC8.out (by have := HB5.out; show L5.length ≤ 4000000; omega)).mono ?_
            rintro _ w9 ⟨a9, c9, rfl, o9, b9⟩
            have FF : Hid (TuRel r t g A.length w (.int .i64 s5) (.bool h5') (.int .i64 ((k : Int) + 1)) w9) := Lib.hid ⟨k + 1, v5, s5, h5', L5, HLT.out, rfl, rfl, rfl, Lib.hid (HC8.out.below b9), Lib.hid (B8.out.trans (b9.mono B8.out.size)), Lib.hid NX.out.2, Lib.hid HB5.out⟩
            clear b9 HC8 B8 o9 HC5 NX
            (try dsimp only)
            go_wp2
            go_roundw
            case rel => (try rw [e2]); exact FF.out
            case measure => have := HLT.out; (try rw [e2]); simp [intOf]; omega
    · have e : k = A.length := by omega
      have BE := BB
      clear BB hlt hk
      subst e
      go_wp2
      go_ret
      exact ⟨rfl, BE.out⟩
end Go.Proofs.Ytflplliiamodhaa
