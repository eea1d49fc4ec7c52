/- noonmarkref17.Without: for every input. Of gen_refy17.py. -/
import Derived.Test.YtllkdohomkofhaaRefX
namespace Go.Proofs.Ytllkdohomkofhaa
open Go.RowKit
set_option linter.unusedVariables false
set_option linter.unusedSimpArgs false

set_option maxHeartbeats 2000000 in
theorem rwithout_out (f : Int) (xa : Option Addr) (xc : Nat) (L : List (Int × Int)) (w : World) (hx : PairRow w xa L) (hl : L.length ≤ 100000) (h : f < 0 ∨ (rights L : Int) ≤ f) :
    Calls Try.prog 12 #[.int .i64 f, .slice xa L.length xc] w (WithOut L f w) := by
  have HX := Lib.hid hx
  have HL := Lib.hid hl
  have HW : Hid (WithP L f ((0, 0), false)) := Lib.hid (.inl ⟨h, rfl⟩)
  have CR : Hid (∀ W, PairRow W xa L → Calls Try.prog 24 #[.slice xa L.length xc] W (Gives (.int .i64 (rights L : Int)) W)) := Lib.hid fun W h => rright_any xa xc L W h (by omega)
  generalize (rights L : Int) = R at *
  clear hx hl
  rcases Int.lt_or_le f 0 with h1 | h1
  all_goals
    go_enter Try.func12, Try.ntmps12
    go_wp2_with fail
    refine (CR.out _ (HX.out.below (one_alloc w (.cells #[.int .i64 0, .int .i64 0] 28)))).mono ?_
    rintro _ w1 ⟨rfl, b1⟩
    have K1 : Hid (Kept w1 w.heap.size #[.int .i64 0, .int .i64 0] 28) := Lib.hid ((Kept.new rfl).next b1)
    have B1 : Hid (Below w.heap.size w w1) := Lib.hid ((one_alloc w (.cells #[.int .i64 0, .int .i64 0] 28)).trans (b1.mono (by simp)))
    have G0 : Hid (Kept ((w1.setCell ⟨w.heap.size, 0, none⟩ (.int .i64 0)).setCell ⟨w.heap.size, 1, none⟩ (.int .i64 0)) w.heap.size #[.int .i64 0, .int .i64 0] 28) := Lib.hid (K1.out.set2 _ _)
    have GB : Hid (Below w.heap.size w ((w1.setCell ⟨w.heap.size, 0, none⟩ (.int .i64 0)).setCell ⟨w.heap.size, 1, none⟩ (.int .i64 0))) := Lib.hid ((B1.out.setCell (by simp) _).setCell (by simp) _)
    obtain ⟨y1, y2, y3, y4, y5⟩ := K1.out.two
    clear b1 B1 K1
    first
    | (have d1 : decide (f < 0) = true := decide_eq_true h1
       clear h h1
       go_wp2)
    | (have d1 : decide (f < 0) = false := decide_eq_false (by omega)
       have h2 : R ≤ f := by omega
       have d2 : decide (R ≤ f) = true := decide_eq_true h2
       clear h h1
       go_wp2)
    generalize (w1.setCell ⟨w.heap.size, 0, none⟩ (.int .i64 0)).setCell ⟨w.heap.size, 1, none⟩ (.int .i64 0) = W8 at *
    obtain ⟨u1, u2, u3, u4, u5⟩ := G0.out.two
    (try simp only [Exit.inBlock, Exit.then])
    refine bodyPost_ret (by simp [results, Try.f12, go_sem, u1, u2]; try rfl) rfl ?_
    exact ⟨((0, 0), false), rfl, HW, GB.out⟩
set_option maxHeartbeats 4000000 in
theorem rwithout_in (f : Int) (xa : Option Addr) (xc : Nat) (L : List (Int × Int)) (w : World) (hx : PairRow w xa L) (hin : ∀ p ∈ L, InP p) (hl : L.length ≤ 100000) (h0 : 0 ≤ f) (h1 : f < (rights L : Int)) :
    Calls Try.prog 12 #[.int .i64 f, .slice xa L.length xc] w (WithOut L f w) := by
  have HX := Lib.hid hx
  have HL := Lib.hid hl
  have CR : Hid (∀ W, PairRow W xa L → Calls Try.prog 24 #[.slice xa L.length xc] W (Gives (.int .i64 (rights L : Int)) W)) := Lib.hid fun W h => rright_any xa xc L W h (by omega)
  have CV : Hid (∀ W y, PairRow W xa L → Calls Try.prog 14 #[.int .i64 y, .slice xa L.length xc] W (Gives (.int .i64 (votes L y : Int)) W)) := Lib.hid fun W y h => rvotes_any y xa xc L W h (by omega)
  have HE : Hid (∀ lo hi, Lq L ((rights L : Int) - f) L.length lo → Uq L ((rights L : Int) - f) L.length hi → (lo ≤ hi → WithP L f ((lo, hi), true)) ∧ (¬ lo ≤ hi → WithP L f ((0, 0), false))) := Lib.hid fun lo hi a b => by
    have := lu_end hin (by omega) a b
    exact ⟨fun h => .inr ⟨⟨h0, h1⟩, this.1 h⟩, fun h => .inr ⟨⟨h0, h1⟩, this.2 h⟩⟩
  have hrl := rights_le L
  have g1 : ¬ f < 0 := by omega
  have g2 : ¬ (rights L : Int) ≤ f := by omega
  have T0 : Hid (Lq L ((rights L : Int) - f) 0 9223372036854775807) := Lib.hid ⟨fun j hj => by omega, .inl rfl⟩
  have U0 : Hid (Uq L ((rights L : Int) - f) 0 (-9223372036854775808)) := Lib.hid ⟨fun j hj => by omega, .inl rfl⟩
  have es : wrap64 ((rights L : Int) - f) = (rights L : Int) - f := IntWalk.wrap64_in _ (by omega)
  obtain ⟨t, ht⟩ : ∃ t, (rights L : Int) - f = t := ⟨_, rfl⟩
  rw [ht] at HE T0 U0 es
  obtain ⟨R, hR⟩ : ∃ R, (rights L : Int) = R := ⟨_, rfl⟩
  rw [hR] at CR g2 ht
  clear hx hin hl h0 h1 hrl hR
  go_enter Try.func12, Try.ntmps12
  go_wp2_with fail
  refine (CR.out _ (HX.out.below (one_alloc w (.cells #[.int .i64 0, .int .i64 0] 28)))).mono ?_
  rintro _ w1 ⟨rfl, b1⟩
  have B1 : Hid (Below w.heap.size w w1) := Lib.hid ((one_alloc w (.cells #[.int .i64 0, .int .i64 0] 28)).trans (b1.mono (by simp)))
  have T1 : Hid (Kept (w1.alloc (.cells #[.int .i64 9223372036854775807, .int .i64 (-9223372036854775808)] 28)) w.heap.size #[.int .i64 0, .int .i64 0] 28) := Lib.hid (((Kept.new rfl).next b1).alloc _)
  have T2 : Hid (Kept (w1.alloc (.cells #[.int .i64 9223372036854775807, .int .i64 (-9223372036854775808)] 28)) w1.heap.size #[.int .i64 9223372036854775807, .int .i64 (-9223372036854775808)] 28) := Lib.hid (Kept.new rfl)
  have T3 : Hid (Below w.heap.size w (w1.alloc (.cells #[.int .i64 9223372036854775807, .int .i64 (-9223372036854775808)] 28))) := Lib.hid (B1.out.alloc B1.out.size _)
  have NG : Hid (w.heap.size < w1.heap.size) := Lib.hid (by have := b1.size; simp at this; omega)
  clear b1 B1 CR
  go_wp2
  generalize w1.heap.size = g at *
  go_loopw [8] (fun i wr => WqRel L t g w i wr) (fun i _ => L.length - (intOf i).toNat)
  case atStart => exact ⟨0, _, _, Nat.zero_le _, rfl, T0, U0, T1, T2, T3⟩
  case round =>
    clear T0 U0 T1 T2 T3
    obtain ⟨k, lo, hi, hk, rfl, HLq, HUq, K0, K1, HB⟩ := hrel
    by_cases hlt : k < L.length
    · have HLT := Lib.hid hlt
      obtain ⟨b, off, rfl, q1, q2⟩ := HX.out k hlt
      have hkk : (k : Int) < (L.length : Int) := by omega
      have hk0 : (0 : Int) ≤ (k : Int) := by omega
      have hll := HL.out
      obtain ⟨⟨p, q⟩, hpq⟩ : ∃ pq, L.getD k (0, 0) = pq := ⟨_, rfl⟩
      rw [hpq] at q1 q2
      dsimp only at q1 q2
      have R2 : Hid (∀ W, Below w.heap.size w W → W.cell? ⟨b, off + k * 2, none⟩ = some (.int .i64 p) ∧ W.cell? ⟨b, off + k * 2 + 1, none⟩ = some (.int .i64 q)) := Lib.hid fun W h => ⟨(h.cell (World.block_lt_of_cell? w _ q1)).trans q1, (h.cell (World.block_lt_of_cell? w _ q2)).trans q2⟩
      have e2 : wrap64 ((k : Int) + 1) = (k : Int) + 1 := IntWalk.wrap64_in _ (by omega)
      have F : Hid (∀ lo hi W, Lq L t (k + 1) lo → Uq L t (k + 1) hi → Kept W w.heap.size #[.int .i64 0, .int .i64 0] 28 → Kept W g #[.int .i64 lo, .int .i64 hi] 28 → Below w.heap.size w W → WqRel L t g w (.int .i64 ((k : Int) + 1)) W) := Lib.hid fun lo hi W h1 h2 h3 h4 h5 => ⟨k + 1, lo, hi, hlt, rfl, Lib.hid h1, Lib.hid h2, Lib.hid h3, Lib.hid h4, Lib.hid h5⟩
      have LY := Lib.hid (fun hb => lq_yes HLq.out hpq hb)
      have LN := Lib.hid (fun hb => lq_no HLq.out hpq hb)
      have UY := Lib.hid (fun hb => uq_yes HUq.out hpq hb)
      have UN := Lib.hid (fun hb => uq_no HUq.out hpq hb)
      clear hll hlt hk q1 q2 hpq HLq HUq
      obtain ⟨c1, c2⟩ := R2.out _ HB.out
      have HG := NG.out
      by_cases h0 : p ≤ q
      · have d0 := decide_eq_true h0
        have C1 := Lib.hid (fun W h => CV.out W p h)
        have C2 := Lib.hid (fun W h => CV.out W q h)
        clear CV
        by_cases h1 : t ≤ (votes L p : Int)
        · by_cases h2 : t ≤ (votes L q : Int)

          · have FF := Lib.hid (fun W => F.out _ _ W (LY.out h1) (UY.out h2))
            have d1 := decide_eq_true h1
            have d2 := decide_eq_true h2
            clear F UY UN LY LN h0 HE
            generalize (votes L p : Int) = V1 at *
            generalize (votes L q : Int) = V2 at *
            have B3 := HB
            have J3 := K0
            have K3 := K1
            clear HB K0 K1
            go_wp2_with fail
            refine (ref_right_any p q _).mono ?_
            rintro _ w4 ⟨rfl, b4⟩
            have B4 := Lib.hid (B3.out.trans (b4.mono B3.out.size))
            have J4 := Lib.hid (J3.out.next b4)
            have K4 := Lib.hid (K3.out.next b4)
            clear b4 B3 J3 K3 c1 c2
            obtain ⟨c1, c2⟩ := R2.out _ B4.out
            rw [d0]
            go_wp2_with fail
            refine (C1.out _ (HX.out.below B4.out)).mono ?_
            rintro _ w5 ⟨rfl, b5⟩
            have B5 := Lib.hid (B4.out.trans (b5.mono B4.out.size))
            have J5 := Lib.hid (J4.out.next b5)
            have K5 := Lib.hid (K4.out.next b5)
            clear b5 B4 J4 K4 c1 c2
            obtain ⟨c1, c2⟩ := R2.out _ B5.out
            obtain ⟨y1, y2, y3, y4, y5⟩ := K5.out.two
            go_wp2_with fail
            go_region
            have B5s : Hid (Below w.heap.size w (w5.setCell ⟨g, 0, none⟩ (.int .i64 (min lo p))).drew) := Lib.hid ((B5.out.setCell (Nat.le_of_lt HG) _).drew)
            have J5s : Hid (Kept (w5.setCell ⟨g, 0, none⟩ (.int .i64 (min lo p))).drew _ _ _) := Lib.hid ((J5.out.far (by simp; omega) _).drewN 1)
            have K5s : Hid (Kept (w5.setCell ⟨g, 0, none⟩ (.int .i64 (min lo p))).drew _ _ _) := Lib.hid ((K5.out.set 0 _).drewN 1)
            generalize (w5.setCell ⟨g, 0, none⟩ (.int .i64 (min lo p))).drew = v5 at *
            clear B5 J5 K5 y1 y2 y3 y4 y5 c1 c2
            obtain ⟨c1, c2⟩ := R2.out _ B5s.out
            go_wp2_with fail
            refine (C2.out _ (HX.out.below B5s.out)).mono ?_
            rintro _ w6 ⟨rfl, b6⟩
            have B6 := Lib.hid (B5s.out.trans (b6.mono B5s.out.size))
            have J6 := Lib.hid (J5s.out.next b6)
            have K6 := Lib.hid (K5s.out.next b6)
            clear b6 B5s J5s K5s c1 c2
            obtain ⟨c1, c2⟩ := R2.out _ B6.out
            obtain ⟨y1, y2, y3, y4, y5⟩ := K6.out.two
            go_wp2_with fail
            go_region
            have B6s : Hid (Below w.heap.size w (w6.setCell ⟨g, 1, none⟩ (.int .i64 (max hi q))).drew) := Lib.hid ((B6.out.setCell (Nat.le_of_lt HG) _).drew)
            have J6s : Hid (Kept (w6.setCell ⟨g, 1, none⟩ (.int .i64 (max hi q))).drew _ _ _) := Lib.hid ((J6.out.far (by simp; omega) _).drewN 1)
            have K6s : Hid (Kept (w6.setCell ⟨g, 1, none⟩ (.int .i64 (max hi q))).drew _ _ _) := Lib.hid ((K6.out.set 1 _).drewN 1)
            generalize (w6.setCell ⟨g, 1, none⟩ (.int .i64 (max hi q))).drew = v6 at *
            clear B6 J6 K6 y1 y2 y3 y4 y5 c1 c2
            obtain ⟨c1, c2⟩ := R2.out _ B6s.out
            have GG := Lib.hid (FF.out v6 J6s.out K6s.out B6s.out)
            go_wp2
            go_roundw
            case rel => (try rw [e2]); exact GG.out
            case measure => have := HLT.out; (try rw [e2]); simp [intOf]; omega
          · have FF := Lib.hid (fun W => F.out _ _ W (LY.out h1) (UN.out (fun h => h2 h.2)))
            have d1 := decide_eq_true h1
            have d2 := decide_eq_false h2
            clear F UY UN LY LN h0 HE
            generalize (votes L p : Int) = V1 at *
            generalize (votes L q : Int) = V2 at *
            have B3 := HB
            have J3 := K0
            have K3 := K1
            clear HB K0 K1
            go_wp2_with fail
            refine (ref_right_any p q _).mono ?_
            rintro _ w4 ⟨rfl, b4⟩
            have B4 := Lib.hid (B3.out.trans (b4.mono B3.out.size))
            have J4 := Lib.hid (J3.out.next b4)
            have K4 := Lib.hid (K3.out.next b4)
            clear b4 B3 J3 K3 c1 c2
            obtain ⟨c1, c2⟩ := R2.out _ B4.out
            rw [d0]
            go_wp2_with fail
            refine (C1.out _ (HX.out.below B4.out)).mono ?_
            rintro _ w5 ⟨rfl, b5⟩
            have B5 := Lib.hid (B4.out.trans (b5.mono B4.out.size))
            have J5 := Lib.hid (J4.out.next b5)
            have K5 := Lib.hid (K4.out.next b5)
            clear b5 B4 J4 K4 c1 c2
            obtain ⟨c1, c2⟩ := R2.out _ B5.out
            obtain ⟨y1, y2, y3, y4, y5⟩ := K5.out.two
            go_wp2_with fail
            go_region
            have B5s : Hid (Below w.heap.size w (w5.setCell ⟨g, 0, none⟩ (.int .i64 (min lo p))).drew) := Lib.hid ((B5.out.setCell (Nat.le_of_lt HG) _).drew)
            have J5s : Hid (Kept (w5.setCell ⟨g, 0, none⟩ (.int .i64 (min lo p))).drew _ _ _) := Lib.hid ((J5.out.far (by simp; omega) _).drewN 1)
            have K5s : Hid (Kept (w5.setCell ⟨g, 0, none⟩ (.int .i64 (min lo p))).drew _ _ _) := Lib.hid ((K5.out.set 0 _).drewN 1)
            generalize (w5.setCell ⟨g, 0, none⟩ (.int .i64 (min lo p))).drew = v5 at *
            clear B5 J5 K5 y1 y2 y3 y4 y5 c1 c2
            obtain ⟨c1, c2⟩ := R2.out _ B5s.out
            go_wp2_with fail
            refine (C2.out _ (HX.out.below B5s.out)).mono ?_
            rintro _ w6 ⟨rfl, b6⟩
            have B6 := Lib.hid (B5s.out.trans (b6.mono B5s.out.size))
            have J6 := Lib.hid (J5s.out.next b6)
            have K6 := Lib.hid (K5s.out.next b6)
            clear b6 B5s J5s K5s c1 c2
            obtain ⟨c1, c2⟩ := R2.out _ B6.out
            have GG := Lib.hid (FF.out w6 J6.out K6.out B6.out)
            go_wp2
            go_roundw
            case rel => (try rw [e2]); exact GG.out
            case measure => have := HLT.out; (try rw [e2]); simp [intOf]; omega
        · by_cases h2 : t ≤ (votes L q : Int)

          · have FF := Lib.hid (fun W => F.out _ _ W (LN.out (fun h => h1 h.2)) (UY.out h2))
            have d1 := decide_eq_false h1
            have d2 := decide_eq_true h2
            clear F UY UN LY LN h0 HE
            generalize (votes L p : Int) = V1 at *
            generalize (votes L q : Int) = V2 at *
            have B3 := HB
            have J3 := K0
            have K3 := K1
            clear HB K0 K1
            go_wp2_with fail
            refine (ref_right_any p q _).mono ?_
            rintro _ w4 ⟨rfl, b4⟩
            have B4 := Lib.hid (B3.out.trans (b4.mono B3.out.size))
            have J4 := Lib.hid (J3.out.next b4)
            have K4 := Lib.hid (K3.out.next b4)
            clear b4 B3 J3 K3 c1 c2
            obtain ⟨c1, c2⟩ := R2.out _ B4.out
            rw [d0]
            go_wp2_with fail
            refine (C1.out _ (HX.out.below B4.out)).mono ?_
            rintro _ w5 ⟨rfl, b5⟩
            have B5 := Lib.hid (B4.out.trans (b5.mono B4.out.size))
            have J5 := Lib.hid (J4.out.next b5)
            have K5 := Lib.hid (K4.out.next b5)
            clear b5 B4 J4 K4 c1 c2
            obtain ⟨c1, c2⟩ := R2.out _ B5.out
            go_wp2_with fail
            refine (C2.out _ (HX.out.below B5.out)).mono ?_
            rintro _ w6 ⟨rfl, b6⟩
            have B6 := Lib.hid (B5.out.trans (b6.mono B5.out.size))
            have J6 := Lib.hid (J5.out.next b6)
            have K6 := Lib.hid (K5.out.next b6)
            clear b6 B5 J5 K5 c1 c2
            obtain ⟨c1, c2⟩ := R2.out _ B6.out
            obtain ⟨y1, y2, y3, y4, y5⟩ := K6.out.two
            go_wp2_with fail
            go_region
            have B6s : Hid (Below w.heap.size w (w6.setCell ⟨g, 1, none⟩ (.int .i64 (max hi q))).drew) := Lib.hid ((B6.out.setCell (Nat.le_of_lt HG) _).drew)
            have J6s : Hid (Kept (w6.setCell ⟨g, 1, none⟩ (.int .i64 (max hi q))).drew _ _ _) := Lib.hid ((J6.out.far (by simp; omega) _).drewN 1)
            have K6s : Hid (Kept (w6.setCell ⟨g, 1, none⟩ (.int .i64 (max hi q))).drew _ _ _) := Lib.hid ((K6.out.set 1 _).drewN 1)
            generalize (w6.setCell ⟨g, 1, none⟩ (.int .i64 (max hi q))).drew = v6 at *
            clear B6 J6 K6 y1 y2 y3 y4 y5 c1 c2
            obtain ⟨c1, c2⟩ := R2.out _ B6s.out
            have GG := Lib.hid (FF.out v6 J6s.out K6s.out B6s.out)
            go_wp2
            go_roundw
            case rel => (try rw [e2]); exact GG.out
            case measure => have := HLT.out; (try rw [e2]); simp [intOf]; omega
          · have FF := Lib.hid (fun W => F.out _ _ W (LN.out (fun h => h1 h.2)) (UN.out (fun h => h2 h.2)))
            have d1 := decide_eq_false h1
            have d2 := decide_eq_false h2
            clear F UY UN LY LN h0 HE
            generalize (votes L p : Int) = V1 at *
            generalize (votes L q : Int) = V2 at *
            have B3 := HB
            have J3 := K0
            have K3 := K1
            clear HB K0 K1
            go_wp2_with fail
            refine (ref_right_any p q _).mono ?_
            rintro _ w4 ⟨rfl, b4⟩
            have B4 := Lib.hid (B3.out.trans (b4.mono B3.out.size))
            have J4 := Lib.hid (J3.out.next b4)
            have K4 := Lib.hid (K3.out.next b4)
            clear b4 B3 J3 K3 c1 c2
            obtain ⟨c1, c2⟩ := R2.out _ B4.out
            rw [d0]
            go_wp2_with fail
            refine (C1.out _ (HX.out.below B4.out)).mono ?_
            rintro _ w5 ⟨rfl, b5⟩
            have B5 := Lib.hid (B4.out.trans (b5.mono B4.out.size))
            have J5 := Lib.hid (J4.out.next b5)
            have K5 := Lib.hid (K4.out.next b5)
            clear b5 B4 J4 K4 c1 c2
            obtain ⟨c1, c2⟩ := R2.out _ B5.out
            go_wp2_with fail
            refine (C2.out _ (HX.out.below B5.out)).mono ?_
            rintro _ w6 ⟨rfl, b6⟩
            have B6 := Lib.hid (B5.out.trans (b6.mono B5.out.size))
            have J6 := Lib.hid (J5.out.next b6)
            have K6 := Lib.hid (K5.out.next b6)
            clear b6 B5 J5 K5 c1 c2
            obtain ⟨c1, c2⟩ := R2.out _ B6.out
            have GG := Lib.hid (FF.out w6 J6.out K6.out B6.out)
            go_wp2
            go_roundw
            case rel => (try rw [e2]); exact GG.out
            case measure => have := HLT.out; (try rw [e2]); simp [intOf]; omega
      · have d0 := decide_eq_false h0
        have FF := Lib.hid (fun W => F.out _ _ W (LN.out (fun h => h0 h.1)) (UN.out (fun h => h0 h.1)))
        clear F UY UN LY LN h0 HE CV
        have B3 := HB
        have J3 := K0
        have K3 := K1
        clear HB K0 K1
        go_wp2_with fail
        refine (ref_right_any p q _).mono ?_
        rintro _ w4 ⟨rfl, b4⟩
        have B4 := Lib.hid (B3.out.trans (b4.mono B3.out.size))
        have J4 := Lib.hid (J3.out.next b4)
        have K4 := Lib.hid (K3.out.next b4)
        clear b4 B3 J3 K3 c1 c2
        obtain ⟨c1, c2⟩ := R2.out _ B4.out
        rw [d0]
        have GG := Lib.hid (FF.out w4 J4.out K4.out B4.out)
        go_wp2
        go_roundw
        case rel => (try rw [e2]); exact GG.out
        case measure => have := HLT.out; (try rw [e2]); simp [intOf]; omega
    · obtain rfl : k = L.length := by omega
      have BP := Lib.hid (HE.out lo hi HLq.out HUq.out)
      obtain ⟨y1, y2, y3, y4, y5⟩ := K1.out.two
      clear hlt hk HLq HUq HE CV
      by_cases hh : lo ≤ hi
      · have BPx := Lib.hid (BP.out.1 hh)
        have d0 := decide_eq_true hh
        clear BP hh
        go_wp2_with fail
        refine (ref_right_any lo hi _).mono ?_
        rintro _ w6 ⟨rfl, b6⟩
        rw [d0]
        have B6 := Lib.hid (HB.out.trans (b6.mono HB.out.size))
        have J6 := Lib.hid (K0.out.next b6)
        have K6 := Lib.hid (K1.out.next b6)
        have G0 : Hid (Kept ((w6.setCell ⟨w.heap.size, 0, none⟩ (.int .i64 lo)).setCell ⟨w.heap.size, 1, none⟩ (.int .i64 hi)) w.heap.size #[.int .i64 lo, .int .i64 hi] 28) := Lib.hid (J6.out.set2 _ _)
        have GB : Hid (Below w.heap.size w ((w6.setCell ⟨w.heap.size, 0, none⟩ (.int .i64 lo)).setCell ⟨w.heap.size, 1, none⟩ (.int .i64 hi))) := Lib.hid ((B6.out.setCell (by simp) _).setCell (by simp) _)
        clear b6 HB K0 K1 d0 y1 y2 y3 y4 y5 B6
        obtain ⟨y1, y2, y3, y4, y5⟩ := K6.out.two
        obtain ⟨z1, z2, z3, z4, z5⟩ := J6.out.two
        go_wp2
        generalize (w6.setCell ⟨w.heap.size, 0, none⟩ (.int .i64 lo)).setCell ⟨w.heap.size, 1, none⟩ (.int .i64 hi) = W8 at *
        obtain ⟨u1, u2, u3, u4, u5⟩ := G0.out.two
        (try simp only [Exit.inBlock, Exit.then])
        refine bodyPost_ret (by simp [results, Try.f12, go_sem, u1, u2]; try rfl) rfl ?_
        exact ⟨((lo, hi), true), rfl, BPx, GB.out⟩
      · have BPx := Lib.hid (BP.out.2 (by omega))
        have d0 := decide_eq_false hh
        clear BP hh
        go_wp2_with fail
        refine (ref_right_any lo hi _).mono ?_
        rintro _ w6 ⟨rfl, b6⟩
        rw [d0]
        have B6 := Lib.hid (HB.out.trans (b6.mono HB.out.size))
        have J6 := Lib.hid (K0.out.next b6)
        have G0 : Hid (Kept ((w6.setCell ⟨w.heap.size, 0, none⟩ (.int .i64 0)).setCell ⟨w.heap.size, 1, none⟩ (.int .i64 0)) w.heap.size #[.int .i64 0, .int .i64 0] 28) := Lib.hid (J6.out.set2 _ _)
        have GB : Hid (Below w.heap.size w ((w6.setCell ⟨w.heap.size, 0, none⟩ (.int .i64 0)).setCell ⟨w.heap.size, 1, none⟩ (.int .i64 0))) := Lib.hid ((B6.out.setCell (by simp) _).setCell (by simp) _)
        clear b6 HB K0 K1 d0 y1 y2 y3 y4 y5 B6
        obtain ⟨z1, z2, z3, z4, z5⟩ := J6.out.two
        go_wp2
        generalize (w6.setCell ⟨w.heap.size, 0, none⟩ (.int .i64 0)).setCell ⟨w.heap.size, 1, none⟩ (.int .i64 0) = W8 at *
        obtain ⟨u1, u2, u3, u4, u5⟩ := G0.out.two
        (try simp only [Exit.inBlock, Exit.then])
        refine bodyPost_ret (by simp [results, Try.f12, go_sem, u1, u2]; try rfl) rfl ?_
        exact ⟨((0, 0), false), rfl, BPx, GB.out⟩
theorem rwithout_any (f : Int) (xa : Option Addr) (xc : Nat) (L : List (Int × Int)) (w : World) (hx : PairRow w xa L) (hin : ∀ p ∈ L, InP p) (hl : L.length ≤ 100000) :
    Calls Try.prog 12 #[.int .i64 f, .slice xa L.length xc] w (WithOut L f w) := by
  by_cases h : f < 0 ∨ (rights L : Int) ≤ f
  · exact rwithout_out f xa xc L w hx hl h
  · exact rwithout_in f xa xc L w hx hin hl (by omega) (by omega)
end Go.Proofs.Ytllkdohomkofhaa
