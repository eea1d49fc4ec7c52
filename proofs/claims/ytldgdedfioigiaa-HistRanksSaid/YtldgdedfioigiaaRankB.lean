/- noonmarkref05.Rank, the walk through all buckets. -/
import Derived.Test.YtldgdedfioigiaaRankA
import Derived.Test.YtldgdedfioigiaaHistE
import Derived.Deep.DeepCutAuto
namespace Go.Proofs.Ytldgdedfioigiaa
open Go.RowKit
set_option linter.unusedVariables false

theorem isum_in65 (l : List Int) (h65 : l.length = 65) (hin : ∀ b, b < 65 → InI (l.getD b 0)) (k : Nat) (hk : k ≤ 65) : -(65 * 9223372036854775808) ≤ isum (l.take k) ∧ isum (l.take k) ≤ 65 * 9223372036854775808 := by
  have h := isum_bound l (all_of_getD h65 hin) k (by omega)
  omega
set_option maxHeartbeats 4000000 in
set_option maxRecDepth 1000000 in
theorem rrank_good (l : List Int) (z : Int) (w : World) (h65 : l.length = 65) (hin : ∀ b, b < 65 → InI (l.getD b 0)) (hz : InW z) (hok : okL l = true) (hpos : 0 ≤ z) :
    Calls Try.prog 25 #[.agg (hC l), .int .i64 (hiW z), .int .u64 (loW z)] w (RrPost l z w) := by
  have CR := Lib.hid (fun W => rright_any l h65 W)
  rw [hok] at CR
  have hneg : decide (hiW z < 0) = false := by rw [neg_hi hz]; exact decide_eq_false (by omega)
  have CN := Lib.hid (fun W => refnum_any (hiW z) (loW z) W (by unfold hiW wrap64; omega) (by unfold loW; omega))
  rw [wz_in hz] at CN
  have CO : Hid (∀ k, k < 65 → ∀ W, Calls Try.prog 21 #[.int .i64 (l.getD k 0)] W (NumOut (l.getD k 0) W)) := Lib.hid fun k hk W => of_any _ W (hin k hk)
  have BD := Lib.hid (isum_in65 l h65 hin)
  have HIN := Lib.hid hin
  have HZ := Lib.hid hz
  have H65 := Lib.hid h65
  have HOK := Lib.hid hok
  have HPOS := Lib.hid hpos
  have ci : (Try.prog.info? 32).map (·.size) = some (hC l).size := by rw [hC_size, h65]; kernel_rfl
  have G0 : Hid (Kept (w.alloc (.cells (hC l) 32)) w.heap.size (hC l) 32) := Lib.hid (Kept.new rfl)
  have hu : Try.prog.underlying 32 = some (.array 65 2) := by kernel_rfl
  obtain ⟨C, hC0⟩ : ∃ C, hC l = C := ⟨_, rfl⟩
  have HCL := Lib.hid hC0
  rw [hC0] at ci G0 CR
  rw [hC0]
  generalize hiW z = zh at *
  generalize loW z = zl at *
  clear hin hz h65 hok hpos hC0
  go_enter Try.func25, Try.ntmps25
  go_wp2_with (first | (refine wpList_load_row rfl 32 _ rfl w.heap.size rfl 32 C (0, 0) _ G0.out hu rfl ci ?_) | (go_at_call 30; refine (CR.out _).mono ?_; rintro _ w2 ⟨rfl, b2⟩; have B2 : Hid (Below w.heap.size w w2) := Lib.hid ((one_alloc w (.cells C 32)).trans (b2.mono (by simp))); have G2 := Lib.hid (G0.out.next b2); clear b2))
  refine (CN.out _).mono ?_
  rintro _ w3 ⟨v, rfl, hn, b3⟩
  have HN3 := Lib.hid hn
  obtain ⟨neg, la, d, rfl, ⟨a, cap, rfl, -⟩, -⟩ := hn
  have B3 := Lib.hid (B2.out.trans (b3.mono B2.out.size))
  have G3 := Lib.hid (G2.out.next b3)
  generalize d.length = n at *
  clear b3 B2 G2 G0 ci hu CN CR
  have K4 : Hid (Kept (w3.alloc (.cells #[.bool neg, .slice a n cap] 50)) w3.heap.size #[.bool neg, .slice a n cap] 50) := Lib.hid (Kept.new rfl)
  have START : Hid (RrRel l z w w3.heap.size (.int .i64 0) (w3.alloc (.cells #[.bool neg, .slice a n cap] 50))) := Lib.hid ⟨0, neg, a, n, cap, by omega, rfl, Lib.hid (by
    have e : z - isum (l.take 0) = z := by simp [isum]
    rw [e]; exact HN3.out.below (one_alloc _ _)), K4, Lib.hid (by rw [HCL.out]; exact G3.out.alloc _), Lib.hid (by have := HPOS.out; simpa [isum] using this), Lib.hid (B3.out.alloc B3.out.size _)⟩
  have GL : w.heap.size < w3.heap.size := G3.out.lt
  clear K4 HN3 G3
  go_wp2
  go_loopw [8] (fun i wr => RrRel l z w w3.heap.size i wr) (fun i _ => 65 - (intOf i).toNat)
  case atStart => exact START.out
  case round =>
    obtain ⟨k, ng, b, m, cp, hk, rfl, HN, HK, HG, HS, HB⟩ := hrel
    clear START B3
    generalize w3.heap.size = g at *
    by_cases hlt : k < 65
    · have HLT := Lib.hid hlt
      have COk := Lib.hid (CO.out k hlt)
      have hkk : (k : Int) < 65 := by omega
      obtain ⟨x1, x2⟩ := HG.out.cellK k (by rw [H65.out]; omega)
      have snoc := isum_snoc l k (by rw [H65.out]; omega)
      have bd0 := BD.out k hk
      have bd1 := BD.out (k + 1) (by omega)
      have vin := HIN.out k hlt
      obtain ⟨v, hv⟩ : ∃ v, l.getD k 0 = v := ⟨_, rfl⟩
      rw [hv] at COk x1 snoc vin
      obtain ⟨y1, y2, y3, y4, y5⟩ := HK.out.two
      obtain ⟨S, hS⟩ : ∃ S, isum (l.take k) = S := ⟨_, rfl⟩
      rw [hS] at HN HS snoc bd0
      have hzz := HZ.out
      unfold InI at vin
      unfold InW at hzz
      have hs1 := HS.out
      have hu1 : Hund (z - S) := hund_small (by omega)
      have hu2 : Hund v := hund_small (by omega)
      have hu3 : Hund (-v) := hund_small (by omega)
      have CC : Hid (∀ W x y, NumAt W x (z - S) → NumAt W y v → Calls Try.prog 45 #[x, y] W (Gives (.int .i64 (lordI (z - S) v)) W)) := Lib.hid fun W x y h1 h2 => num_cmp x y _ _ W h1 h2 hu1 hu2
      have CG : Hid (∀ W y, NumAt W y v → Calls Try.prog 39 #[y] W (NumOut (-v) W)) := Lib.hid fun W y h => num_neg y v W h
      have CA : Hid (∀ W x y, NumAt W x (z - S) → NumAt W y (-v) → Calls Try.prog 20 #[x, y] W (NumOut (z - S + -v) W)) := Lib.hid fun W x y h1 h2 => num_add x y _ _ W h1 h2 hu1 hu3
      have EX : Hid (z - S < v → ∀ W, Below w.heap.size w W → RrPost l z w (.returned (.int .i64 (k : Int))) W) := Lib.hid fun h W hb => ⟨_, rfl, Lib.hid (.inl ⟨HOK.out, HPOS.out, k, hlt, rfl, by omega, by omega⟩), hb⟩
      have GO : Hid (¬ z - S < v → z - S + -v = z - isum (l.take (k + 1)) ∧ isum (l.take (k + 1)) ≤ z) := Lib.hid fun h => ⟨by omega, by omega⟩
      have dc : decide (lordI (z - S) v < 0) = decide (z - S < v) := by
        unfold lordI
        by_cases h : z - S < v
        · rw [decide_eq_true h]; refine decide_eq_true ?_; (repeat' split) <;> omega
        · rw [decide_eq_false h]; refine decide_eq_false ?_; (repeat' split) <;> omega
      have DC := Lib.hid dc
      clear hu1 hu2 hu3 hs1 hzz vin bd0 bd1 snoc hv hS hlt hk dc CO
      generalize lordI (z - S) v = o at *
      obtain ⟨wx, hwx⟩ : ∃ x, x = wr := ⟨_, rfl⟩
      subst hwx
      go_wp2_with fail
      refine (COk.out _).mono ?_
      rintro _ w4 ⟨vn, rfl, hn, b4⟩
      have HV4 := Lib.hid hn
      obtain ⟨ng2, la2, d2, rfl, ⟨a2, cap2, rfl, -⟩, -⟩ := hn
      generalize d2.length = n2 at *
      have HN4 := Lib.hid (HN.out.below b4)
      have HK4 := Lib.hid (HK.out.next b4)
      have HG4 := Lib.hid (HG.out.next b4)
      have HB4 := Lib.hid (HB.out.trans (b4.mono HB.out.size))
      clear b4 HN HK HG HB y1 y2 y3 y4 y5 x1 x2 COk
      have HV5 := Lib.hid (HV4.out.below (one_alloc w4 (.cells #[.bool ng2, .slice a2 n2 cap2] 50)))
      have HN5 := Lib.hid (HN4.out.below (one_alloc w4 (.cells #[.bool ng2, .slice a2 n2 cap2] 50)))
      have HK5 := Lib.hid (HK4.out.alloc (.cells #[.bool ng2, .slice a2 n2 cap2] 50))
      have HG5 := Lib.hid (HG4.out.alloc (.cells #[.bool ng2, .slice a2 n2 cap2] 50))
      have HB5 := Lib.hid (HB4.out.alloc HB4.out.size (.cells #[.bool ng2, .slice a2 n2 cap2] 50))
      have HQ5 : Hid (Kept (w4.alloc (.cells #[.bool ng2, .slice a2 n2 cap2] 50)) w4.heap.size #[.bool ng2, .slice a2 n2 cap2] 50) := Lib.hid (Kept.new rfl)
      have HF : Hid (g < w4.heap.size ∧ w.heap.size < w4.heap.size) := Lib.hid ⟨HK4.out.lt, HG4.out.lt⟩
      clear HN4 HK4 HG4 HB4 HV4
      go_upto_region 8 with fail
      generalize w4.alloc (.cells #[.bool ng2, .slice a2 n2 cap2] 50) = w5 at *
      obtain ⟨q, hq⟩ : ∃ q, w4.heap.size = q := ⟨_, rfl⟩
      rw [hq] at HQ5 HF
      (try rw [hq])
      clear hq
      obtain ⟨y1, y2, y3, y4, y5⟩ := HK5.out.two
      obtain ⟨r1, r2, r3, r4, r5⟩ := HQ5.out.two
      go_wp2_with fail
      refine (CC.out _ _ _ HN5.out HV5.out).mono ?_
      rintro _ w6 ⟨rfl, b6⟩
      have HV6 := Lib.hid (HV5.out.below b6)
      have HN6 := Lib.hid (HN5.out.below b6)
      have HK6 := Lib.hid (HK5.out.next b6)
      have HQ6 := Lib.hid (HQ5.out.next b6)
      have HG6 := Lib.hid (HG5.out.next b6)
      have HB6 := Lib.hid (HB5.out.trans (b6.mono HB5.out.size))
      clear b6 HV5 HN5 HK5 HQ5 HG5 HB5 y1 y2 y3 y4 y5 r1 r2 r3 r4 r5
      by_cases hc : z - S < v
      · have FF := Lib.hid (EX.out hc _ HB6.out)
        have d := DC.out
        rw [decide_eq_true hc] at d
        clear hc EX GO DC CC CG CA
        go_wp2
        go_ret
        exact FF.out
      · obtain ⟨ge, gs⟩ := GO.out (by omega)
        have GE := Lib.hid ge
        have GS := Lib.hid gs
        have d := DC.out
        rw [decide_eq_false hc] at d
        clear hc EX GO DC CC ge gs
        go_upto_region 10 with fail
        have A6 : Hid (NumAt w6.drew (.agg #[.bool ng2, .slice a2 n2 cap2]) v ∧ NumAt w6.drew (.agg #[.bool ng, .slice b m cp]) (z - S) ∧ Kept w6.drew g #[.bool ng, .slice b m cp] 50 ∧ Kept w6.drew q #[.bool ng2, .slice a2 n2 cap2] 50 ∧ Kept w6.drew w.heap.size (hC l) 32 ∧ Below w.heap.size w w6.drew) := Lib.hid ⟨HV6.out, HN6.out, HK6.out, HQ6.out, HG6.out, HB6.out.drew⟩
        obtain ⟨y1, y2, y3, y4, y5⟩ := HK6.out.two
        obtain ⟨r1, r2, r3, r4, r5⟩ := HQ6.out.two
        clear HV6 HN6 HK6 HQ6 HG6 HB6 d
        go_region_with (first
          | (go_at_call 39; refine (CG.out _ _ A6.out.1).mono ?_; rintro _ w7 ⟨v7, rfl, n7, b7⟩; have A7 : Hid (NumAt w7 v7 (-v) ∧ NumAt w7 (.agg #[.bool ng, .slice b m cp]) (z - S) ∧ Kept w7 g #[.bool ng, .slice b m cp] 50 ∧ Kept w7 w.heap.size (hC l) 32 ∧ Below w.heap.size w w7) := Lib.hid ⟨n7, A6.out.2.1.below b7, A6.out.2.2.1.next b7, A6.out.2.2.2.2.1.next b7, A6.out.2.2.2.2.2.trans (b7.mono A6.out.2.2.2.2.2.size)⟩; obtain ⟨y1, y2, y3, y4, y5⟩ := A7.out.2.2.1.two; clear b7 n7)
          | (go_at_call 20; refine (CA.out _ _ _ A7.out.2.1 A7.out.1).mono ?_; rintro _ w8 ⟨v8, rfl, n8, b8⟩; have A8 : Hid (NumAt w8 v8 (z - S + -v) ∧ Kept w8 g #[.bool ng, .slice b m cp] 50 ∧ Kept w8 w.heap.size (hC l) 32 ∧ Below w.heap.size w w8) := Lib.hid ⟨n8, A7.out.2.2.1.next b8, A7.out.2.2.2.1.next b8, A7.out.2.2.2.2.trans (b8.mono A7.out.2.2.2.2.size)⟩; obtain ⟨ng8, la8, d8, rfl, ⟨a8, cap8, rfl, -⟩, -⟩ := n8; generalize d8.length = n8 at *; obtain ⟨z1, z2, z3, z4, z5⟩ := A8.out.2.1.two; clear b8))
        all_goals
          have fin : RrRel l z w g (.int .i64 ((k : Int) + 1)) ((w8.setCell ⟨g, 0, none⟩ (.bool ng8)).setCell ⟨g, 1, none⟩ (.slice a8 n8 cap8)) :=
            ⟨k + 1, ng8, a8, n8, cap8, by have := HLT.out; omega, by simp, Lib.hid (by rw [← GE.out]; exact (A8.out.1.setCell z1 (by simp) _).setCell ((World.cell?_setCell_other _ _ _ _ (by simp)).trans z2) (by simp) _), Lib.hid (A8.out.2.1.set2 _ _),
              Lib.hid ((A8.out.2.2.1.far (p := ⟨g, 0, none⟩) (by simp; omega) _).far (p := ⟨g, 1, none⟩) (by simp; omega) _), GS, Lib.hid ((A8.out.2.2.2.setCell (p := ⟨g, 0, none⟩) (by simp; omega) _).setCell (p := ⟨g, 1, none⟩) (by simp; omega) _)⟩
          have Fin := Lib.hid fin
          clear fin A8 A7 A6 GE GS
          go_wp2
          go_roundw
          case rel => exact Fin.out
          case measure => have := HLT.out; simp [intOf]; omega
    · obtain rfl : k = 65 := by omega
      have hs := HS.out
      rw [List.take_of_length_le (by rw [H65.out]; omega)] at hs
      have FF : Hid (RrPost l z w (.returned (.int .i64 (-1))) wr) := Lib.hid ⟨_, rfl, Lib.hid (.inr ⟨.inr (.inr hs), rfl⟩), HB.out⟩
      clear hs HS HN HK HG CO
      go_wp2
      go_ret
      exact FF.out
theorem rrank_any (l : List Int) (z : Int) (w : World) (h65 : l.length = 65) (hin : ∀ b, b < 65 → InI (l.getD b 0)) (hz : InW z) :
    Calls Try.prog 25 #[.agg (hC l), .int .i64 (hiW z), .int .u64 (loW z)] w (RrPost l z w) := by
  by_cases h : okL l = true
  · by_cases h2 : z < 0
    · exact rank_none l z w h65 hz (.inr ⟨h, h2⟩)
    · exact rrank_good l z w h65 hin hz h (by omega)
  · exact rank_none l z w h65 hz (.inl (by simpa using h))
end Go.Proofs.Ytldgdedfioigiaa
