/- SweepTruth, walked. -/
import Derived.Test.YtllkdohomkofhaaAlive
import Derived.Deep.DeepCutAuto
namespace Go.Proofs.Ytllkdohomkofhaa
open Go.RowKit
set_option linter.unusedVariables false

def TcRel (L : List (Int × Int)) (w : World) (n i : Value) (wr : World) : Prop := ∃ k : Nat, k ≤ L.length ∧ i = .int .i64 k ∧ n = .int .i64 (rights (L.take k) : Int) ∧ Hid (Below w.heap.size w wr)
def TrIn (xa : Option Addr) (L : List (Int × Int)) (w : World) (g : Nat) (lo hi : Int) (v : Value) (wx : World) : Prop := v = .bool false ∧ Hid (PairRow wx xa L ∧ Kept wx g #[.int .i64 lo, .int .i64 hi] 25 ∧ Below w.heap.size w wx)
theorem g_eql0 (w : World) : (binOp .eql 25 (.agg #[.int .i64 0, .int .i64 0]) (.agg #[.int .i64 0, .int .i64 0])).run Try.prog w = .ok (.bool true) w := by
  simp [go_sem]
theorem truth_out (xa : Option Addr) (n c : Nat) (x f : Int) (w : World) (h : (100 : Int) < (n : Int) ∨ (¬ (100 : Int) < (n : Int) ∧ f < 0)) :
    Calls Try.prog 5 #[.slice xa n c, .int .i64 x, .int .i64 f] w fun e w' => e = .returned (.bool true) ∧ Below w.heap.size w w' := by
  rcases h with h | ⟨h1, h2⟩
  all_goals
    go_enter Try.func5, Try.ntmps5
    go_wp2_with fail
    refine (alive_any _).mono ?_
    rintro _ w1 ⟨rfl, b1⟩
    have B1 := Lib.hid b1
    clear b1
    go_wp2
    go_ret
    exact ⟨rfl, B1.out⟩
set_option maxHeartbeats 4000000 in
theorem truth_any (xa : Option Addr) (c : Nat) (L : List (Int × Int)) (x f : Int) (w : World) (hx : PairRow w xa L) (hin : ∀ p ∈ L, InP p) (hL : L.length ≤ 100) (hf : 0 ≤ f) (hfi : InI f) :
    Calls Try.prog 5 #[.slice xa L.length c, .int .i64 x, .int .i64 f] w fun e w' => e = .returned (.bool true) ∧ Below w.heap.size w w' := by
  have HX := Lib.hid hx
  have HLL := Lib.hid hL
  have HFF := Lib.hid (⟨hf, hfi⟩ : 0 ≤ f ∧ InI f)
  have CW : Hid (∀ W g, InI g → PairRow W xa L → Calls Try.prog 11 #[.int .i64 g, .slice xa L.length c] W (WithOut L g W)) := Lib.hid fun W g hg h => without_any xa c L g W hg h hin (by omega)
  have CV : Hid (∀ W y, PairRow W xa L → Calls Try.prog 13 #[.int .i64 y, .slice xa L.length c] W (Gives (.int .i64 (votes L y : Int)) W)) := Lib.hid fun W y h => votes_any y xa c L W h (by omega)
  have h100 : ¬ (100 : Int) < (L.length : Int) := by omega
  have hf0 : ¬ f < 0 := by omega
  have HRL := Lib.hid (rights_le L)
  have HVL := Lib.hid (fun y => votes_le L y)
  clear hx hin hL hf hfi
  go_enter Try.func5, Try.ntmps5
  go_wp2_with fail
  refine (alive_any _).mono ?_
  rintro _ w1 ⟨rfl, b1⟩
  have ST : Hid (TcRel L w (.int .i64 0) (.int .i64 0) w1) := Lib.hid ⟨0, Nat.zero_le _, rfl, rfl, Lib.hid b1⟩
  clear b1
  go_wp2
  go_loopw [7, 8] (fun n i wr => TcRel L w n i wr) (fun _ i _ => L.length - (intOf i).toNat)
  case atStart => exact ST.out
  case round =>
    obtain ⟨k, hk, rfl, rfl, HB⟩ := hrel
    clear ST
    by_cases hlt : k < L.length
    · have HLT := Lib.hid hlt
      obtain ⟨b, off, rfl, g1, g2⟩ := HX.out k hlt
      have c1 := (HB.out.cell (World.block_lt_of_cell? w _ g1)).trans g1
      have c2 := (HB.out.cell (World.block_lt_of_cell? w _ g2)).trans g2
      have hsn := rights_snoc L k hlt
      have hle := rights_le (L.take k)
      rw [List.length_take] at hle
      have hkk : (k : Int) < (L.length : Int) := by omega
      have hll := HLL.out
      have e2 : wrap64 ((k : Int) + 1) = (k : Int) + 1 := IntWalk.wrap64_in _ (by omega)
      obtain ⟨⟨p, q⟩, hpq⟩ : ∃ pq, L.getD k (0, 0) = pq := ⟨_, rfl⟩
      rw [hpq] at c1 c2 hsn
      dsimp only at c1 c2 hsn
      have CR := Lib.hid (fun W => right_any p q W)
      have F : Hid (∀ n W, n = (rights (L.take (k + 1)) : Int) → Below w.heap.size w W → TcRel L w (.int .i64 n) (.int .i64 ((k : Int) + 1)) W) := Lib.hid fun n W hn d => ⟨k + 1, hlt, rfl, by rw [hn], Lib.hid d⟩
      generalize rights (L.take k) = N at *
      have e1 : wrap64 ((N : Int) + 1) = (N : Int) + 1 := IntWalk.wrap64_in _ (by omega)
      by_cases hh : p ≤ q
      · rw [if_pos hh] at hsn
        rw [decide_eq_true hh] at CR
        have G := Lib.hid (fun W => F.out ((N : Int) + 1) W (by omega))
        clear hsn hle hll hpq hh hlt hk g1 g2 F CW CV HVL
        go_wp2_with fail
        refine (CR.out _).mono ?_
        rintro _ w2 ⟨rfl, b2⟩
        have GG := Lib.hid (G.out w2 (HB.out.trans (b2.mono HB.out.size)))
        clear b2 HB G
        go_wp2
        go_roundw
        case rel => (try rw [e1]); (try rw [e2]); exact GG.out
        case measure => have := HLT.out; (try rw [e2]); simp [intOf]; omega
      · rw [if_neg hh] at hsn
        rw [decide_eq_false hh] at CR
        have G := Lib.hid (fun W => F.out (N : Int) W (by omega))
        clear hsn hle hll hpq hh hlt hk g1 g2 F CW CV HVL
        go_wp2_with fail
        refine (CR.out _).mono ?_
        rintro _ w2 ⟨rfl, b2⟩
        have GG := Lib.hid (G.out w2 (HB.out.trans (b2.mono HB.out.size)))
        clear b2 HB G
        go_wp2
        go_roundw
        case rel => (try rw [e2]); exact GG.out
        case measure => have := HLT.out; (try rw [e2]); simp [intOf]; omega
    · obtain rfl : k = L.length := by omega
      rw [List.take_length]
      obtain ⟨W1, hW1⟩ : ∃ x, x = wr := ⟨_, rfl⟩
      subst hW1
      obtain ⟨N, hN⟩ : ∃ N, rights L = N := ⟨_, rfl⟩
      have HN := Lib.hid hN
      rw [hN] at HRL ⊢
      have R1 := Lib.hid (HX.out.below HB.out)
      clear hlt hk hN
      by_cases hfn : (N : Int) ≤ f
      · have C1 := Lib.hid (CW.out W1 f HFF.out.2 R1.out)
        go_wp2_with fail
        refine C1.out.mono ?_
        rintro _ w2 ⟨r, rfl, hP, b2⟩
        have hp := hP.out
        unfold WithP at hp
        rw [HN.out] at hp
        rcases hp with ⟨_, rfl⟩ | ⟨h1, _⟩
        · have BB := Lib.hid ((HB.out.trans (b2.mono HB.out.size)).alloc (by have := HB.out.size; have := b2.size; omega) (.cells #[.int .i64 0, .int .i64 0] 25))
          clear b2 hP CW CV C1 HVL
          go_wp2
          go_ret
          exact ⟨rfl, BB.out⟩
        · omega
      · have C1 := Lib.hid (CW.out W1 f HFF.out.2 R1.out)
        have hrl := HRL.out
        have hll := HLL.out
        have hff := HFF.out.1
        have et : wrap64 ((N : Int) - f) = (N : Int) - f := IntWalk.wrap64_in _ (by omega)
        have ef : wrap64 (f + 1) = f + 1 := IntWalk.wrap64_in _ (by omega)
        have HB9 : Hid (N ≤ 100 ∧ 0 ≤ f ∧ f < (N : Int)) := Lib.hid ⟨by omega, by omega, by omega⟩
        clear hrl hll hff
        go_wp2_with fail
        refine C1.out.mono ?_
        rintro _ w2 ⟨⟨⟨lo, hi⟩, ok⟩, rfl, hP, b2⟩
        have hp := hP.out
        unfold WithP at hp
        rw [HN.out] at hp
        have BB := Lib.hid ((HB.out.trans (b2.mono HB.out.size)).alloc (by have := HB.out.size; have := b2.size; omega) (.cells #[.int .i64 lo, .int .i64 hi] 25))
        have RR := Lib.hid ((R1.out.below b2).below (one_alloc w2 (.cells #[.int .i64 lo, .int .i64 hi] 25)))
        have KK : Hid (Kept (w2.alloc (.cells #[.int .i64 lo, .int .i64 hi] 25)) w2.heap.size #[.int .i64 lo, .int .i64 hi] 25) := Lib.hid (Kept.new rfl)
        have HN2 := HB9.out
        rcases hp with ⟨h1, _⟩ | ⟨_, ⟨h0, h1⟩ | ⟨h1, h2, h3, h4, h5⟩⟩
        · exfalso; omega
        · cases h0
          have dv : decide ((N : Int) - f ≤ (votes L x : Int)) = false := decide_eq_false (by have := h1 x; omega)
          have CVx := Lib.hid (fun W h => CV.out W x h)
          have hge := g_eql0
          clear b2 hP C1 CW CV HVL h1 HN2 hfn R1 HB
          generalize (votes L x : Int) = V at *
          go_upto_region 15 with fail
          generalize w2.alloc (.cells #[.int .i64 0, .int .i64 0] 25) = W2 at *
          obtain ⟨y1, y2, y3, y4, y5⟩ := KK.out.two
          go_wp2_with fail
          refine (CVx.out _ RR.out).mono ?_
          rintro _ w3 ⟨rfl, b3⟩
          have B3 := Lib.hid (BB.out.trans (b3.mono BB.out.size))
          have K3 := Lib.hid (KK.out.next b3)
          clear b3 y1 y2 y3 y4 y5 KK BB RR CVx
          obtain ⟨y1, y2, y3, y4, y5⟩ := K3.out.two
          go_wp2
          go_ret
          exact ⟨rfl, B3.out⟩
        · dsimp only at h1 h2 h3 h4 h5
          subst h1
          have HT : Hid (lo ≤ hi ∧ (N : Int) - f ≤ (votes L lo : Int) ∧ (N : Int) - f ≤ (votes L hi : Int) ∧ ((N : Int) - f ≤ (votes L x : Int) → lo ≤ x ∧ x ≤ hi)) := Lib.hid ⟨Int.le_of_not_gt fun h => by have := h5 lo h; omega, h2, h3, fun h => ⟨Int.le_of_not_gt fun h' => by have := h4 x h'; omega, Int.le_of_not_gt fun h' => by have := h5 x h'; omega⟩⟩
          have C2 := Lib.hid (fun W h => CW.out W (f + 1) (by unfold InI; have := HB9.out; omega) h)
          have CVx := Lib.hid (fun W h => CV.out W x h)
          have CVl := Lib.hid (fun W h => CV.out W lo h)
          have CVh := Lib.hid (fun W h => CV.out W hi h)
          have HNX : Hid (∀ r2, WithP L (f + 1) r2 → f + 1 < (N : Int) → ∃ a b, r2 = ((a, b), true) ∧ a ≤ lo ∧ hi ≤ b) := Lib.hid fun r2 hp2 hlt => by
            unfold WithP at hp2
            rw [HN.out] at hp2
            rcases hp2 with ⟨g1, _⟩ | ⟨_, ⟨_, g1⟩ | ⟨g1, g2, g3, g4, g5⟩⟩
            · omega
            · have := g1 lo; omega
            · obtain ⟨⟨a, b⟩, o⟩ := r2
              dsimp only at g1 g2 g3 g4 g5
              subst g1
              exact ⟨a, b, rfl, Int.le_of_not_gt fun h => by have := g4 lo h; omega, Int.le_of_not_gt fun h => by have := g5 hi h; omega⟩
          clear h2 h3 h4 h5 b2 hP C1 CW CV HVL HN2 R1 HB
          dsimp only
          go_upto_region 15 with fail
          generalize w2.alloc (.cells #[.int .i64 lo, .int .i64 hi] 25) = W2 at *
          obtain ⟨g, hg⟩ : ∃ g, w2.heap.size = g := ⟨_, rfl⟩
          rw [hg] at KK
          (try rw [hg])
          clear hg
          go_cut [69] from 54 to 69 (fun v wx => TrIn xa L w g lo hi v wx)
          case first =>
            obtain ⟨-, -, -, hhas⟩ := HT.out
            by_cases hv : (N : Int) - f ≤ (votes L x : Int)
            · have dv : decide ((N : Int) - f ≤ (votes L x : Int)) = true := decide_eq_true hv
              have CH := Lib.hid (fun W => has_any lo hi x true (decide_eq_true (hhas hv)) W)
              clear hhas hv HNX C2 CVl CVh hfn
              generalize (votes L x : Int) = V at *
              go_wp2_with fail
              refine (CVx.out _ RR.out).mono ?_
              rintro _ w3 ⟨rfl, b3⟩
              have B3 := Lib.hid (BB.out.trans (b3.mono BB.out.size))
              have R3 := Lib.hid (RR.out.below b3)
              have K3 := Lib.hid (KK.out.next b3)
              clear b3
              obtain ⟨y1, y2, y3, y4, y5⟩ := K3.out.two
              go_wp2_with fail
              refine (CH.out _).mono ?_
              rintro _ w4 ⟨rfl, b4⟩
              have FF : Hid (TrIn xa L w g lo hi (.bool false) w4) := Lib.hid ⟨rfl, Lib.hid ⟨R3.out.below b4, K3.out.next b4, B3.out.trans (b4.mono B3.out.size)⟩⟩
              clear b4
              go_wp2_with fail
              go_meet
              case rel => exact FF.out
            · have dv : decide ((N : Int) - f ≤ (votes L x : Int)) = false := decide_eq_false hv
              clear hhas hv HNX C2 CVl CVh hfn
              generalize (votes L x : Int) = V at *
              go_wp2_with fail
              refine (CVx.out _ RR.out).mono ?_
              rintro _ w3 ⟨rfl, b3⟩
              have FF : Hid (TrIn xa L w g lo hi (.bool false) w3) := Lib.hid ⟨rfl, Lib.hid ⟨RR.out.below b3, KK.out.next b3, BB.out.trans (b3.mono BB.out.size)⟩⟩
              clear b3
              go_wp2_with fail
              go_meet
              case rel => exact FF.out
          case rest =>
            obtain ⟨rfl, hh⟩ := hcut
            obtain ⟨W3, hW3⟩ : ∃ x, x = wc := ⟨_, rfl⟩
            subst hW3
            have R3 := Lib.hid hh.out.1
            have K3 := Lib.hid hh.out.2.1
            have B3 := Lib.hid hh.out.2.2
            clear hh RR KK BB CVx
            go_wp2_with fail
            refine (C2.out _ R3.out).mono ?_
            rintro _ w4 ⟨⟨⟨la, lb⟩, ok2⟩, rfl, hP2, b4⟩
            have R4 := Lib.hid ((R3.out.below b4).below (one_alloc w4 (.cells #[.int .i64 la, .int .i64 lb] 25)))
            have K4 := Lib.hid ((K3.out.next b4).alloc (.cells #[.int .i64 la, .int .i64 lb] 25))
            have Q4 : Hid (Kept (w4.alloc (.cells #[.int .i64 la, .int .i64 lb] 25)) w4.heap.size #[.int .i64 la, .int .i64 lb] 25) := Lib.hid (Kept.new rfl)
            have B4x := Lib.hid (B3.out.trans (b4.mono B3.out.size))
            have B4 := Lib.hid (B4x.out.alloc B4x.out.size (.cells #[.int .i64 la, .int .i64 lb] 25))
            have G2 := Lib.hid (HNX.out _ hP2.out)
            clear b4 R3 K3 B3 B4x hP2 HNX C2
            dsimp only
            go_upto_region 20 with fail
            generalize w4.alloc (.cells #[.int .i64 la, .int .i64 lb] 25) = W4 at *
            generalize w4.heap.size = g4 at *
            obtain ⟨hlh, hv1, hv2, -⟩ := HT.out
            have CRt := Lib.hid (fun W => right_any lo hi W)
            rw [decide_eq_true hlh] at CRt
            have d1 : decide ((N : Int) - f ≤ (votes L lo : Int)) = true := decide_eq_true hv1
            have d2 : decide ((N : Int) - f ≤ (votes L hi : Int)) = true := decide_eq_true hv2
            clear hv1 hv2
            generalize (votes L lo : Int) = V1 at *
            generalize (votes L hi : Int) = V2 at *
            obtain ⟨y1, y2, y3, y4, y5⟩ := K4.out.two
            go_wp2_with fail
            refine (CRt.out _).mono ?_
            rintro _ w5 ⟨rfl, b5⟩
            have R5 := Lib.hid (R4.out.below b5)
            have K5 := Lib.hid (K4.out.next b5)
            have Q5 := Lib.hid (Q4.out.next b5)
            have B5 := Lib.hid (B4.out.trans (b5.mono B4.out.size))
            clear b5 y1 y2 y3 y4 y5 R4 K4 Q4 B4 CRt
            obtain ⟨y1, y2, y3, y4, y5⟩ := K5.out.two
            go_wp2_with fail
            refine (CVl.out _ R5.out).mono ?_
            rintro _ w6 ⟨rfl, b6⟩
            have R6 := Lib.hid (R5.out.below b6)
            have K6 := Lib.hid (K5.out.next b6)
            have Q6 := Lib.hid (Q5.out.next b6)
            have B6 := Lib.hid (B5.out.trans (b6.mono B5.out.size))
            clear b6 y1 y2 y3 y4 y5 R5 K5 Q5 B5
            obtain ⟨y1, y2, y3, y4, y5⟩ := K6.out.two
            go_wp2_with fail
            refine (CVh.out _ R6.out).mono ?_
            rintro _ w7 ⟨rfl, b7⟩
            have K7 := Lib.hid (K6.out.next b7)
            have Q7 := Lib.hid (Q6.out.next b7)
            have B7 := Lib.hid (B6.out.trans (b7.mono B6.out.size))
            clear b7 y1 y2 y3 y4 y5 R6 K6 Q6 B6
            obtain ⟨y1, y2, y3, y4, y5⟩ := K7.out.two
            obtain ⟨z1, z2, z3, z4, z5⟩ := Q7.out.two
            by_cases hq : (N : Int) ≤ f + 1
            · clear G2 CVl CVh
              go_wp2
              go_ret
              exact ⟨rfl, B7.out⟩
            · obtain ⟨a, b, e, ha, hb⟩ := G2.out (by omega)
              cases e
              have CI := Lib.hid (fun W => within_any lo hi la lb true (decide_eq_true ⟨hlh, ha, hb⟩) W)
              clear G2 CVl CVh ha hb hlh
              go_wp2_with fail
              refine (CI.out _).mono ?_
              rintro _ w8 ⟨rfl, b8⟩
              have B8 := Lib.hid (B7.out.trans (b8.mono B7.out.size))
              clear b8
              go_wp2
              go_ret
              exact ⟨rfl, B8.out⟩
end Go.Proofs.Ytllkdohomkofhaa
