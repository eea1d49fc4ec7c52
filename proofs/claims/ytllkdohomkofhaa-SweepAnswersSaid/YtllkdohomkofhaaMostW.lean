/- SweepMost, walked. -/
import Derived.Test.YtllkdohomkofhaaTruthW
import Derived.Test.YtllkdohomkofhaaMostM
namespace Go.Proofs.Ytllkdohomkofhaa
open Go.RowKit
set_option linter.unusedVariables false

theorem g_eql_self (a b : Int) (w : World) : (binOp .eql 25 (.agg #[.int .i64 a, .int .i64 b]) (.agg #[.int .i64 a, .int .i64 b])).run Try.prog w = .ok (.bool true) w := by
  simp [go_sem]
theorem most_out (xa : Option Addr) (n c : Nat) (x : Int) (w : World) (h : (100 : Int) < (n : Int)) :
    Calls Try.prog 4 #[.slice xa n c, .int .i64 x] w fun e w' => e = .returned (.bool true) ∧ Below w.heap.size w w' := by
  go_enter Try.func4, Try.ntmps4
  go_wp2_with fail
  refine (alive_any _).mono ?_
  rintro _ w1 ⟨rfl, b1⟩
  have B1 := Lib.hid b1
  clear b1
  go_wp2
  go_ret
  exact ⟨rfl, B1.out⟩
set_option maxHeartbeats 4000000 in
theorem most_any (xa : Option Addr) (c : Nat) (L : List (Int × Int)) (x : Int) (w : World) (hx : PairRow w xa L) (hin : ∀ p ∈ L, InP p) (hL : L.length ≤ 100) :
    Calls Try.prog 4 #[.slice xa L.length c, .int .i64 x] w fun e w' => e = .returned (.bool true) ∧ Below w.heap.size w w' := by
  have HX := Lib.hid hx
  have HLL := Lib.hid hL
  have HIN := Lib.hid hin
  have CB : Hid (∀ W, PairRow W xa L → Calls Try.prog 8 #[.slice xa L.length c] W (BestOut L W)) := Lib.hid fun W h => best_any xa c L W h hin (by omega)
  have CV : Hid (∀ W y, PairRow W xa L → Calls Try.prog 13 #[.int .i64 y, .slice xa L.length c] W (Gives (.int .i64 (votes L y : Int)) W)) := Lib.hid fun W y h => votes_any y xa c L W h (by omega)
  have CM : Hid (∀ W, PairRow W xa L → Calls Try.prog 20 #[.slice xa L.length c] W (GapRes (combL L (L.foldl opM fullP)) (combH L (L.foldl opM fullP)) (combE L (L.foldl opM fullP)) W)) := Lib.hid fun W h => meet_any xa c L W h (by omega)
  have CG : Hid (∀ W, PairRow W xa L → Calls Try.prog 15 #[.slice xa L.length c] W (Gives (.bool (agreeB L)) W)) := Lib.hid fun W h => agree_any xa c L W h (by omega)
  have h100 : ¬ (100 : Int) < (L.length : Int) := by omega
  clear hx hin hL
  go_enter Try.func4, Try.ntmps4
  go_wp2_with fail
  refine (alive_any _).mono ?_
  rintro _ w1 ⟨rfl, b1⟩
  have B1 := Lib.hid b1
  have R1 := Lib.hid (HX.out.below b1)
  clear b1
  go_wp2_with fail
  refine (CB.out _ R1.out).mono ?_
  rintro _ w2 ⟨⟨lo, hi⟩, n, rfl, HP, b2⟩
  have R2 := Lib.hid ((R1.out.below b2).below (one_alloc w2 (.cells #[.int .i64 lo, .int .i64 hi] 25)))
  have B2x := Lib.hid (B1.out.trans (b2.mono B1.out.size))
  have B2 := Lib.hid (B2x.out.alloc B2x.out.size (.cells #[.int .i64 lo, .int .i64 hi] 25))
  have K2 : Hid (Kept (w2.alloc (.cells #[.int .i64 lo, .int .i64 hi] 25)) w2.heap.size #[.int .i64 lo, .int .i64 hi] 25) := Lib.hid (Kept.new rfl)
  clear b2 R1 B1 B2x CB
  dsimp only
  have CVx := Lib.hid (fun W h => CV.out W x h)
  by_cases hn : n = 0
  · have hb : lo = 0 ∧ hi = 0 ∧ (votes L x : Int) ≤ 0 := by
      rcases HP.out with ⟨_, h1, h2⟩ | ⟨h1, _⟩
      · cases h1
        refine ⟨rfl, rfl, ?_⟩
        have : ¬ 0 < votes L x := fun h => by
          obtain ⟨p, hp, hb⟩ := votes_pos.1 h
          have := hasB_iff.1 hb
          exact h2 p hp (by omega)
        omega
      · omega
    obtain ⟨rfl, rfl, hv⟩ := hb
    subst hn
    have dv : decide (0 < (votes L x : Int)) = false := decide_eq_false (by omega)
    have hge := g_eql0
    clear HP CV CM CG hv
    generalize (votes L x : Int) = V at *
    go_upto_region 6 with fail
    generalize w2.alloc (.cells #[.int .i64 0, .int .i64 0] 25) = W2 at *
    go_wp2_with fail
    refine (CVx.out _ R2.out).mono ?_
    rintro _ w3 ⟨rfl, b3⟩
    have B3 := Lib.hid (B2.out.trans (b3.mono B2.out.size))
    have K3 := Lib.hid (K2.out.next b3)
    clear b3 K2 B2 R2 CVx
    obtain ⟨y1, y2, y3, y4, y5⟩ := K3.out.two
    go_wp2
    go_ret
    exact ⟨rfl, B3.out⟩
  · have hpos : 0 < n := by
      rcases HP.out with ⟨h1, _⟩ | ⟨h1, _⟩
      · exact absurd h1 hn
      · exact h1
    obtain ⟨q1, q2, q3, q4, q5, p, hp, q, hq, q6, q7, q8⟩ := best_in hpos HP.out
    dsimp only at q1 q3 q4 q6 q7 q8
    have i1 : InI lo ∧ InI hi := by
      have h1 := HIN.out p hp
      have h2 := HIN.out q hq
      unfold InP InI at *
      omega
    have HBB := Lib.hid (⟨q1, q2, q3, q4⟩ : lo ≤ hi ∧ (∀ y, (votes L y : Int) ≤ n) ∧ (∀ y, lo ≤ y → y ≤ hi → (votes L y : Int) = n) ∧ ∀ y, y < lo → (votes L y : Int) < n)
    have dv : decide (n < (votes L x : Int)) = false := decide_eq_false (by have := q2 x; omega)
    have dn : (n == 0) = false := beq_eq_false_iff_ne.mpr hn
    have dp : (0 : Int) < (L.length : Int) := by omega
    have CRt := Lib.hid (fun W => right_any lo hi W)
    rw [decide_eq_true q1] at CRt
    have v1 := q3 lo (Int.le_refl _) q1
    have v2 := q3 hi q1 (Int.le_refl _)
    have hmid : lo ≤ midI lo hi ∧ midI lo hi ≤ hi := by unfold midI; rw [if_pos q1]; omega
    have v3 := q3 _ hmid.1 hmid.2
    have CVl := Lib.hid (fun W h => CV.out W lo h)
    have CVh := Lib.hid (fun W h => CV.out W hi h)
    have CVm := Lib.hid (fun W h => CV.out W (midI lo hi) h)
    have CMid := Lib.hid (fun W => mid_any lo hi W i1.1 i1.2)
    rw [v1] at CVl
    rw [v2] at CVh
    rw [v3] at CVm
    have hnn : (n != n) = false := by simp
    have HAG : Hid (combE L (L.foldl opM fullP) = 0 → combL L (L.foldl opM fullP) = lo ∧ combH L (L.foldl opM fullP) = hi) := Lib.hid fun he => by
      have := (best_uniq (agree_best HIN.out q5 he) HP.out).1
      exact ⟨congrArg Prod.fst this, congrArg Prod.snd this⟩
    have HAB : Hid (agreeB L = decide (combE L (L.foldl opM fullP) = 0)) := Lib.hid (by unfold agreeB; rw [decide_eq_true q5, Bool.true_and])
    clear q1 q2 q3 q4 q5 hp hq q6 q7 q8 v1 v2 v3 hmid hn hpos HP CV i1
    generalize midI lo hi = mi at *
    go_upto_region 6 with fail
    generalize w2.alloc (.cells #[.int .i64 lo, .int .i64 hi] 25) = W2 at *
    obtain ⟨g, hg⟩ : ∃ g, w2.heap.size = g := ⟨_, rfl⟩
    rw [hg] at K2
    (try rw [hg])
    clear hg
    go_wp2_with fail
    refine (CVx.out _ R2.out).mono ?_
    rintro _ w3 ⟨rfl, b3⟩
    have B3 := Lib.hid (B2.out.trans (b3.mono B2.out.size))
    have R3 := Lib.hid (R2.out.below b3)
    have K3 := Lib.hid (K2.out.next b3)
    clear b3 K2 B2 R2
    obtain ⟨y1, y2, y3, y4, y5⟩ := K3.out.two
    go_wp2_with fail
    refine (CRt.out _).mono ?_
    rintro _ w4 ⟨rfl, b4⟩
    have B4 := Lib.hid (B3.out.trans (b4.mono B3.out.size))
    have R4 := Lib.hid (R3.out.below b4)
    have K4 := Lib.hid (K3.out.next b4)
    clear b4 K3 B3 R3 y1 y2 y3 y4 y5 CRt
    obtain ⟨y1, y2, y3, y4, y5⟩ := K4.out.two
    go_wp2_with fail
    refine (CVl.out _ R4.out).mono ?_
    rintro _ w5 ⟨rfl, b5⟩
    have B5 := Lib.hid (B4.out.trans (b5.mono B4.out.size))
    have R5 := Lib.hid (R4.out.below b5)
    have K5 := Lib.hid (K4.out.next b5)
    clear b5 K4 B4 R4 y1 y2 y3 y4 y5 CVl
    obtain ⟨y1, y2, y3, y4, y5⟩ := K5.out.two
    go_wp2_with fail
    refine (CVh.out _ R5.out).mono ?_
    rintro _ w6 ⟨rfl, b6⟩
    have B6 := Lib.hid (B5.out.trans (b6.mono B5.out.size))
    have R6 := Lib.hid (R5.out.below b6)
    have K6 := Lib.hid (K5.out.next b6)
    clear b6 K5 B5 R5 y1 y2 y3 y4 y5 CVh
    obtain ⟨y1, y2, y3, y4, y5⟩ := K6.out.two
    go_wp2_with fail
    refine (CMid.out _).mono ?_
    rintro _ w7 ⟨rfl, b7⟩
    have B7 := Lib.hid (B6.out.trans (b7.mono B6.out.size))
    have R7 := Lib.hid (R6.out.below b7)
    have K7 := Lib.hid (K6.out.next b7)
    clear b7 K6 B6 R6 y1 y2 y3 y4 y5 CMid
    go_wp2_with fail
    refine (CVm.out _ R7.out).mono ?_
    rintro _ w8 ⟨rfl, b8⟩
    have B8 := Lib.hid (B7.out.trans (b8.mono B7.out.size))
    have R8 := Lib.hid (R7.out.below b8)
    have K8 := Lib.hid (K7.out.next b8)
    clear b8 K7 B7 R7 CVm
    go_upto_region 12 with fail
    go_cut [78] from 56 to 78 (fun v wx => TrIn xa L w g lo hi v wx)
    case first =>
      obtain ⟨hlh, -, hin3, hlow⟩ := HBB.out
      obtain ⟨y1, y2, y3, y4, y5⟩ := K8.out.two
      by_cases hh : lo ≤ x ∧ x ≤ hi
      · have CH := Lib.hid (fun W => has_any lo hi x true (decide_eq_true hh) W)
        have v := hin3 x hh.1 hh.2
        rw [v] at CVx
        have h1 : ¬ x < lo := by omega
        clear hin3 hlow hh v HAG HAB CM CG
        go_wp2_with fail
        refine (CH.out _).mono ?_
        rintro _ w9 ⟨rfl, b9⟩
        have B9 := Lib.hid (B8.out.trans (b9.mono B8.out.size))
        have R9 := Lib.hid (R8.out.below b9)
        have K9 := Lib.hid (K8.out.next b9)
        clear b9 y1 y2 y3 y4 y5
        obtain ⟨y1, y2, y3, y4, y5⟩ := K9.out.two
        go_wp2_with fail
        refine (CVx.out _ R9.out).mono ?_
        rintro _ wA ⟨rfl, bA⟩
        have FF : Hid (TrIn xa L w g lo hi (.bool false) wA) := Lib.hid ⟨rfl, Lib.hid ⟨R9.out.below bA, K9.out.next bA, B9.out.trans (bA.mono B9.out.size)⟩⟩
        have KA := Lib.hid (K9.out.next bA)
        clear bA y1 y2 y3 y4 y5
        obtain ⟨y1, y2, y3, y4, y5⟩ := KA.out.two
        go_wp2_with fail
        go_meet
        case rel => exact FF.out
      · have CH := Lib.hid (fun W => has_any lo hi x false (decide_eq_false hh) W)
        by_cases hlt : x < lo
        · have v := hlow x hlt
          have dd : ((votes L x : Int) == n) = false := beq_eq_false_iff_ne.mpr (by omega)
          clear hin3 hlow hh v HAG HAB CM CG
          generalize (votes L x : Int) = V at *
          go_wp2_with fail
          refine (CH.out _).mono ?_
          rintro _ w9 ⟨rfl, b9⟩
          have B9 := Lib.hid (B8.out.trans (b9.mono B8.out.size))
          have R9 := Lib.hid (R8.out.below b9)
          have K9 := Lib.hid (K8.out.next b9)
          clear b9 y1 y2 y3 y4 y5
          obtain ⟨y1, y2, y3, y4, y5⟩ := K9.out.two
          go_wp2_with fail
          refine (CVx.out _ R9.out).mono ?_
          rintro _ wA ⟨rfl, bA⟩
          have FF : Hid (TrIn xa L w g lo hi (.bool false) wA) := Lib.hid ⟨rfl, Lib.hid ⟨R9.out.below bA, K9.out.next bA, B9.out.trans (bA.mono B9.out.size)⟩⟩
          clear bA
          go_wp2_with fail
          go_meet
          case rel => exact FF.out
        · clear hin3 hlow hh HAG HAB CM CG CVx
          go_wp2_with fail
          refine (CH.out _).mono ?_
          rintro _ w9 ⟨rfl, b9⟩
          have FF : Hid (TrIn xa L w g lo hi (.bool false) w9) := Lib.hid ⟨rfl, Lib.hid ⟨R8.out.below b9, K8.out.next b9, B8.out.trans (b9.mono B8.out.size)⟩⟩
          have K9 := Lib.hid (K8.out.next b9)
          clear b9 y1 y2 y3 y4 y5
          obtain ⟨y1, y2, y3, y4, y5⟩ := K9.out.two
          go_wp2_with fail
          go_meet
          case rel => exact FF.out
    case rest =>
      obtain ⟨rfl, hh⟩ := hcut
      obtain ⟨W9, hW9⟩ : ∃ x, x = wc := ⟨_, rfl⟩
      subst hW9
      have R9 := Lib.hid hh.out.1
      have K9 := Lib.hid hh.out.2.1
      have B9 := Lib.hid hh.out.2.2
      clear hh R8 K8 B8 CVx HBB
      have hab := HAB.out
      rw [hab] at CG
      clear hab HAB
      generalize combL L (L.foldl opM fullP) = ml at *
      generalize combH L (L.foldl opM fullP) = mh at *
      generalize combE L (L.foldl opM fullP) = me at *
      go_wp2_with fail
      refine (CM.out _ R9.out).mono ?_
      rintro _ wA ⟨rfl, bA⟩
      have RA := Lib.hid ((R9.out.below bA).below (one_alloc wA (.cells #[.int .i64 ml, .int .i64 mh] 25)))
      have KA := Lib.hid ((K9.out.next bA).alloc (.cells #[.int .i64 ml, .int .i64 mh] 25))
      have BAx := Lib.hid (B9.out.trans (bA.mono B9.out.size))
      have BA := Lib.hid (BAx.out.alloc BAx.out.size (.cells #[.int .i64 ml, .int .i64 mh] 25))
      have QA : Hid (Kept (wA.alloc (.cells #[.int .i64 ml, .int .i64 mh] 25)) wA.heap.size #[.int .i64 ml, .int .i64 mh] 25) := Lib.hid (Kept.new rfl)
      clear bA R9 K9 B9 BAx CM
      go_upto_region 15 with fail
      generalize wA.alloc (.cells #[.int .i64 ml, .int .i64 mh] 25) = WA at *
      generalize wA.heap.size = ga at *
      by_cases he : me = 0
      · obtain ⟨rfl, rfl⟩ := HAG.out he
        subst he
        rw [decide_eq_true rfl] at CG
        have hgs := fun W => g_eql_self ml mh W
        clear HAG
        go_wp2_with fail
        refine (CG.out _ RA.out).mono ?_
        rintro _ wB ⟨rfl, bB⟩
        have RB := Lib.hid (RA.out.below bB)
        have KB := Lib.hid (KA.out.next bB)
        have QB := Lib.hid (QA.out.next bB)
        have BB := Lib.hid (BA.out.trans (bB.mono BA.out.size))
        clear bB RA KA QA BA
        go_wp2_with fail
        refine (CG.out _ RB.out).mono ?_
        rintro _ wC ⟨rfl, bC⟩
        have KC := Lib.hid (KB.out.next bC)
        have QC := Lib.hid (QB.out.next bC)
        have BC := Lib.hid (BB.out.trans (bC.mono BB.out.size))
        clear bC RB KB QB BB
        obtain ⟨y1, y2, y3, y4, y5⟩ := KC.out.two
        obtain ⟨z1, z2, z3, z4, z5⟩ := QC.out.two
        go_wp2
        go_ret
        exact ⟨rfl, BC.out⟩
      · rw [decide_eq_false he] at CG
        have hd : (me == 0) = false := beq_eq_false_iff_ne.mpr he
        clear HAG he
        go_wp2_with fail
        refine (CG.out _ RA.out).mono ?_
        rintro _ wB ⟨rfl, bB⟩
        have RB := Lib.hid (RA.out.below bB)
        have BB := Lib.hid (BA.out.trans (bB.mono BA.out.size))
        clear bB RA KA QA BA
        go_wp2_with fail
        refine (CG.out _ RB.out).mono ?_
        rintro _ wC ⟨rfl, bC⟩
        have BC := Lib.hid (BB.out.trans (bC.mono BB.out.size))
        clear bC RB BB
        go_wp2
        go_ret
        exact ⟨rfl, BC.out⟩
end Go.Proofs.Ytllkdohomkofhaa
