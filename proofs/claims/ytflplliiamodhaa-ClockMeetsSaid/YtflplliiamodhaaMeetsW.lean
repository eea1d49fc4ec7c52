/- ClockMeets, walked. -/
import Derived.Test.YtflplliiamodhaaMeetsM
namespace Go.Proofs.Ytflplliiamodhaa
open Go.RowKit
set_option linter.unusedVariables false
set_option linter.unusedSimpArgs false

set_option maxHeartbeats 4000000 in
set_option maxRecDepth 100000 in
theorem meets_any (r t : Int) (x : Option Addr) (xc : Nat) (A : List Sm) (ma mg ms mc : Int) (w : World) (hx : QuadRow w x A) (hl : A.length ≤ 60) (hn : newOk r 2) :
    Calls Try.prog 7 #[.int .i64 r, .slice x A.length xc, .agg #[.int .i64 ma, .int .i64 mg, .int .i64 ms, .int .i64 mc], .int .i64 t] w fun e w' => e = .returned (.bool true) ∧ Below w.heap.size w w' := by
  obtain ⟨i0, hi, hz0, hz1, hz2⟩ := info_parts2 info_gap
  have CN := Lib.hid fun W => cknew_any r 2 W hn
  obtain ⟨W0, hW0⟩ : ∃ W0, w.alloc (.cells #[.int .i64 ma, .int .i64 mg, .int .i64 ms, .int .i64 mc] 33) = W0 := ⟨_, rfl⟩
  have B00 : Hid (Below w.heap.size w W0) := Lib.hid (by rw [← hW0]; exact one_alloc _ _)
  have KM : Hid (Kept W0 w.heap.size #[.int .i64 ma, .int .i64 mg, .int .i64 ms, .int .i64 mc] 33) := Lib.hid (by rw [← hW0]; exact Kept.new rfl)
  have HX : Hid (QuadRow W0 x A) := Lib.hid (hx.below B00.out)
  have HW0 := Lib.hid hW0
  have HL := Lib.hid hl
  have h60 : ¬ (60 : Int) < (A.length : Int) := by omega
  clear hx hl hn hW0
  go_enter Try.func7, Try.ntmps7
  go_wp2_with fail
  rw [HW0.out]
  refine (alive_any _).mono ?_
  rintro _ w1 ⟨rfl, b1⟩
  have B1 := Lib.hid b1
  clear b1
  go_wp2_with fail
  refine (CN.out _).mono ?_
  rintro _ w2 ⟨g, rfl, hg, hC, b2⟩
  have START : Hid (AdRel r 2 g A.length W0 (.int .i64 0) w2) := Lib.hid ⟨0, .slice none 0 0, ⟨r, 2, 0, false, []⟩, Nat.zero_le _, rfl, Lib.hid hC, Lib.hid (B1.out.trans (b2.mono B1.out.size)), Lib.hid fun k hk => by simp [Value.ownBlock] at hk, Lib.hid ⟨rfl, rfl, by simp, Int.le_refl _, Int.le_refl _, fun s hs => by simp at hs⟩⟩
  have GB : Hid (W0.heap.size ≤ g) := Lib.hid (Nat.le_trans B1.out.size hg)
  clear hg hC b2 B1 CN HW0
  go_wp2
  go_loopw [11] (fun i wr => AdRel r 2 g A.length W0 i wr) (fun i _ => A.length - (intOf i).toNat)
  case atStart => exact START.out
  case round =>
    obtain ⟨k, v, c, hk, rfl, HC, BB, VV, LL⟩ := hrel
    clear START
    by_cases hlt : k < A.length
    · have HLT := Lib.hid hlt
      obtain ⟨b, off, rfl, q1, q2, q3, q4⟩ := (HX.out.below BB.out) k hlt
      have hkk : (k : Int) < (A.length : Int) := by omega
      have hk0 : (0 : Int) ≤ (k : Int) := by omega
      have e2 : wrap64 ((k : Int) + 1) = (k : Int) + 1 := IntWalk.wrap64_in _ (by have := HL.out; omega)
      obtain ⟨⟨sa, sg, ss, sc⟩, hs⟩ : ∃ s, A.getD k smZ = s := ⟨_, rfl⟩
      rw [hs] at q1 q2 q3 q4
      dsimp only at q1 q2 q3 q4
      have CAD := Lib.hid (ckadd_any g v c sa sg ss sc wr HC.out LL.out.2.2.1 (by unfold InI; have h4 := LL.out.2.2.2.1; have h5 := LL.out.2.2.2.2.1; have := HL.out; omega))
      obtain ⟨v0, hv0⟩ : ∃ x, x = wr := ⟨_, rfl⟩
      subst hv0
      clear hlt hk hs HC
      go_wp2_with fail
      refine CAD.out.mono ?_
      rintro _ w5 ⟨v5, rfl, h5, k5, f5⟩
      have FF := Lib.hid (AdRel.next HLT.out (by have := HL.out; omega) BB.out GB.out VV.out LL.out h5 k5 f5)
      clear h5 k5 f5 CAD q1 q2 q3 q4 LL BB VV
      go_wp2
      go_roundw
      case rel => (try rw [e2]); exact FF.out
      case measure => have := HLT.out; (try rw [e2]); simp [intOf]; omega
    · have e : k = A.length := by omega
      obtain ⟨v0, hv0⟩ : ∃ x, x = wr := ⟨_, rfl⟩
      subst hv0
      clear hlt hk
      subst e
      obtain ⟨rho, need, st, hd, L⟩ := c
      have hr0 : rho = r := LL.out.1
      have hn0 : need = 2 := LL.out.2.1
      subst hr0 hn0
      have hl8 : L.length ≤ 8 := LL.out.2.2.1
      have HL8 := Lib.hid hl8
      have HST : Hid (InI st) := Lib.hid (by
        have h1 : 0 ≤ st := LL.out.2.2.2.1
        have h2 : st ≤ (A.length : Int) := LL.out.2.2.2.2.1
        have := HL.out
        unfold InI; omega)
      have CA0 := Lib.hid (ckat_any g v _ t v0 HC.out (by show L.length ≤ 1000; omega))
      unfold CkAtOut at CA0
      obtain ⟨glo, ghi, hG⟩ : ∃ a b, ckG ⟨rho, 2, st, hd, L⟩ t = (a, b) := ⟨_, _, rfl⟩
      obtain ⟨f0, hf0⟩ : ∃ f, ckE ⟨rho, 2, st, hd, L⟩ t = f := ⟨_, rfl⟩
      rw [hG, hf0] at CA0
      dsimp only at CA0
      have HG := Lib.hid (And.intro hG hf0)
      clear hG hf0 LL hl8
      go_wp2_with fail
      refine CA0.out.mono ?_
      rintro _ w3 ⟨rfl, b3⟩
      have N12 : Hid (KA (w3.alloc (.cells #[.int .i64 glo, .int .i64 ghi] 39)) g v w3.heap.size #[.int .i64 glo, .int .i64 ghi] 39) := Lib.hid (KA.new (HC.out.below b3))
      have bb := b3.trans ((one_alloc w3 (.cells #[.int .i64 glo, .int .i64 ghi] 39)).mono b3.size)
      have HC3 := Lib.hid (HC.out.below bb)
      have B3 := Lib.hid (BB.out.trans (bb.mono BB.out.size))
      clear b3 bb CA0 BB HC
      go_upto_region 13 with fail
      generalize w3.alloc (.cells #[.int .i64 glo, .int .i64 ghi] 39) = W3 at *
      generalize w3.heap.size = k12 at *
      go_wp2_with fail
      refine (samples_any g v _ W3 HC3.out (by have := HL8.out; show L.length ≤ 4000000; omega)).mono ?_
      rintro _ w4 ⟨aL, cL, rfl, oL, b4⟩
      (try dsimp only)
      have OL : Hid (OA w4 g v (.slice aL L.length cL) L) := Lib.hid ⟨owns_base (Nat.zero_le _) oL, fun k hk => Ap.fresh HC3.out (oL.lt k hk).1 (oL.lt k hk).2⟩
      have HC4 := Lib.hid (HC3.out.below b4)
      have B4 := Lib.hid (B3.out.trans (b4.mono B3.out.size))
      have N12' := Lib.hid (N12.out.next b4)
      clear oL b4 HC3 B3 N12
      have START2 : Hid (MtRel L t rho w4 (.slice (some ⟨w4.heap.size, 0, none⟩) 0 0) (.int .i64 0) (w4.alloc (.cells #[] 39))) := Lib.hid ⟨0, Nat.zero_le _, rfl, Lib.hid (World.ownsRow_made _ #[] 0 (Nat.le_refl _) (by unfold maxLen; omega) rfl), Lib.hid fun j hj => by omega, Lib.hid (one_alloc _ _)⟩
      have hGet := Lib.hid (QuadRow.own (L := L) OL.out.1)
      go_wp2
      go_loopw [15, 16] (fun m i wr => MtRel L t rho w4 m i wr) (fun _ i _ => L.length - (intOf i).toNat)
      case atStart => exact START2.out
      case round =>
        obtain ⟨k, hk, rfl, OW, AZ, B5⟩ := hrel
        clear START2
        obtain ⟨v5, hv5⟩ : ∃ x, x = wr := ⟨_, rfl⟩
        subst hv5
        by_cases hlt : k < L.length
        · have HLT := Lib.hid hlt
          obtain ⟨aL', cL', eL, -, -, -, -, qL⟩ := hGet.out
          cases eL
          obtain ⟨b, off, rfl, q1, q2, q3, q4⟩ := (qL.below B5.out) k hlt
          have hkk : (k : Int) < (L.length : Int) := by omega
          have hk0 : (0 : Int) ≤ (k : Int) := by omega
          have e2 : wrap64 ((k : Int) + 1) = (k : Int) + 1 := IntWalk.wrap64_in _ (by have := HL8.out; omega)
          have F : Hid (atE (L.getD k smZ) t rho = 0 → ∀ m W, W.ownsRow w4.heap.size 39 2 m (k + 1) (cells2 (gapsS (L.take k) t rho) ++ [.int .i64 (gapS (L.getD k smZ) t rho).1, .int .i64 (gapS (L.getD k smZ) t rho).2]) → Below w4.heap.size w4 W → MtRel L t rho w4 m (.int .i64 ((k : Int) + 1)) W) := Lib.hid fun h0 m W h1 h2 => ⟨k + 1, hlt, rfl, Lib.hid (by rw [← gapsS_take L t rho k hlt]; exact h1), Lib.hid (fun j hj => by
            by_cases hj' : j < k
            · exact AZ.out j hj'
            · have : j = k := by omega
              rw [this]; exact h0), Lib.hid h2⟩
          have BADF : Hid (atE (L.getD k smZ) t rho ≠ 0 → (f0 = 13 ∨ f0 = 11)) := Lib.hid fun hb => by
            rw [← HG.out.2]
            rcases ckE_cases ⟨rho, 2, st, hd, L⟩ t with ⟨h1, h2⟩ | ⟨h1, h2, h3⟩ | ⟨h1, h2, h3, h4⟩ | ⟨h1, h2, h3, h4⟩
            · have : L.length = 0 := h1
              omega
            · exact .inr h3
            · exact .inl h4
            · exact absurd h3 (mt_bad hlt hb)
          have H63 : Hid (k + 1 ≤ maxLen ∧ (k + 1) * 16 ≤ 140737488355328) := Lib.hid (by have := HL8.out; unfold maxLen; omega)
          obtain ⟨⟨sa, sg, ss, sc⟩, hs⟩ : ∃ s, L.getD k smZ = s := ⟨_, rfl⟩
          rw [hs] at q1 q2 q3 q4 F BADF
          dsimp only at q1 q2 q3 q4
          have CS := Lib.hid (fun W => at_any sa sg ss sc t rho W)
          unfold AtOut at CS
          have hgs : atE (sa, sg, ss, sc) t rho = 0 → gapS (sa, sg, ss, sc) t rho = atG (sa, sg, ss, sc) t rho := fun h => by unfold gapS atG; rw [if_pos h, if_pos h]
          generalize cells2 (gapsS (L.take k) t rho) = xs at *
          clear hlt hk hs qL
          go_wp2_with fail
          refine (CS.out _).mono ?_
          generalize atG (sa, sg, ss, sc) t rho = z at *
          obtain ⟨lo, up⟩ := z
          dsimp only
          rintro _ w6 ⟨rfl, b6⟩
          have bb := b6.trans ((one_alloc w6 (.cells #[.int .i64 lo, .int .i64 up] 39)).mono b6.size)
          have B6 := Lib.hid (B5.out.trans (bb.mono B5.out.size))
          have O6 := Lib.hid (owns_below OW.out bb)
          have K6 : Hid (Kept (w6.alloc (.cells #[.int .i64 lo, .int .i64 up] 39)) w6.heap.size #[.int .i64 lo, .int .i64 up] 39) := Lib.hid (Kept.new rfl)
          clear b6 bb OW B5 q1 q2 q3 q4 CS
          go_upto_region 19 with fail
          generalize w6.alloc (.cells #[.int .i64 lo, .int .i64 up] 39) = W6 at *
          generalize w6.heap.size = k6 at *
          by_cases h0 : atE (sa, sg, ss, sc) t rho = 0
          · rw [h0]
            have F' := Lib.hid (F.out h0)
            rw [hgs h0] at F'
            dsimp only at F'
            obtain ⟨y1, y2, y3, y4, y5⟩ := K6.out.two
            have KX : Hid (Kept (W6.alloc (.cells #[.int .i64 lo, .int .i64 up] 39)) W6.heap.size #[.int .i64 lo, .int .i64 up] 39) := Lib.hid (Kept.new rfl)
            have O7 := Lib.hid (O6.out.alloc (.cells #[.int .i64 lo, .int .i64 up] 39))
            have B7 := Lib.hid (B6.out.alloc B6.out.size (.cells #[.int .i64 lo, .int .i64 up] 39))
            have hb1 := H63.out.1
            have hb2 := H63.out.2
            clear F h0 hgs O6 B6 K6 BADF
            go_wp2_with (at_builtin; refine wpList_appendBlk rfl _ _ 69 rfl w4.heap.size 39 i0 (.agg #[.int .i64 0, .int .i64 0]) 2 16 Try.underlying69 hi hz0 hz1 hz2 rfl (by decide) u15 k xs rfl O7.out W6.heap.size 1 #[.int .i64 lo, .int .i64 up] 39 rfl KX.out rfl two_cells hb1 hb2 B7.out.size ?_)
            intro v7 w7 o7 g7
            have FF := Lib.hid (F'.out v7 w7 o7 (B7.out.grown g7 B7.out.size (fun k hk => (O7.out.lt k hk).1)))
            clear o7 g7 F' KX O7 B7 hb1 hb2 y1 y2 y3 y4 y5
            go_wp2
            go_roundw
            case rel => (try rw [e2]); exact FF.out
            case measure => have := HLT.out; (try rw [e2]); simp [intOf]; omega
          · have hd1 : (atE (sa, sg, ss, sc) t rho != 0) = true := by rw [bne_iff_ne]; exact h0
            have hd2 : (atE (sa, sg, ss, sc) t rho == 0) = false := beq_eq_false_iff_ne.mpr h0
            have BE : Hid (Below w.heap.size w W6) := Lib.hid (B00.out.trans ((B4.out.trans (B6.out.mono B4.out.size)).mono B00.out.size))
            generalize atE (sa, sg, ss, sc) t rho = er at *
            have hff := BADF.out h0
            clear F h0 hgs O6 B6 K6 BADF
            rcases hff with hff | hff
            · subst hff
              go_wp2
              go_ret
              exact ⟨by rfl, BE.out⟩
            · subst hff
              go_wp2
              go_ret
              exact ⟨by rfl, BE.out⟩
        · -- @f
          have e : k = L.length := by omega
          clear hlt hk
          subst e
          have o := OW.out
          rw [List.take_length] at o
          obtain ⟨a2, cap2, rfl, -, -, -, -, p2⟩ := PairRow.own o
          have CM := Lib.hid (meet_any a2 cap2 _ v5 p2 (by rw [gapsS_len]; have := HL8.out; omega))
          unfold GapRes at CM
          rw [gapsS_len] at CM
          have ML := Lib.hid (fun hne => meets_all (c := ⟨rho, 2, st, hd, L⟩) (t := t) hne AZ.out)
          rw [HG.out.1, HG.out.2] at ML
          dsimp only at ML
          generalize combL (gapsS L t rho) ((gapsS L t rho).foldl opM fullP) = lo at *
          generalize combH (gapsS L t rho) ((gapsS L t rho).foldl opM fullP) = up at *
          generalize combE (gapsS L t rho) ((gapsS L t rho).foldl opM fullP) = er at *
          have HC5 := Lib.hid (HC4.out.below B5.out)
          have N5 := Lib.hid (N12'.out.next B5.out)
          have O5 := Lib.hid (OL.out.next B5.out)
          have B5' := Lib.hid (B4.out.trans (B5.out.mono B4.out.size))
          clear o p2 OW AZ B5 HC4 N12' OL B4 hGet
          go_wp2_with fail
          refine CM.out.mono ?_
          rintro _ w6 ⟨rfl, b6⟩
          have N19 : Hid (KA (w6.alloc (.cells #[.int .i64 lo, .int .i64 up] 39)) g v w6.heap.size #[.int .i64 lo, .int .i64 up] 39) := Lib.hid (KA.new (HC5.out.below b6))
          have bb := b6.trans ((one_alloc w6 (.cells #[.int .i64 lo, .int .i64 up] 39)).mono b6.size)
          have HC6 := Lib.hid (HC5.out.below bb)
          have B6 := Lib.hid (B5'.out.trans (bb.mono B5'.out.size))
          have N6 := Lib.hid (N5.out.next bb)
          have O6 := Lib.hid (O5.out.next bb)
          clear b6 bb CM HC5 B5' N5 O5
          go_upto_region 23 with fail
          generalize w6.alloc (.cells #[.int .i64 lo, .int .i64 up] 39) = W6 at *
          generalize w6.heap.size = k19 at *
          have BE : Hid (Below w.heap.size w W6) := Lib.hid (B00.out.trans (B6.out.mono B00.out.size))
          by_cases hne : L.length = 0
          · have hf : f0 = 19 := by
              rw [← HG.out.2]
              exact if_pos hne
            have hz : ((L.length : Int) == 0) = true := by rw [hne]; rfl
            subst hf
            clear hne
            go_wp2
            go_ret
            exact ⟨by rfl, BE.out⟩
          · have hz : ((L.length : Int) == 0) = false := by rw [beq_eq_false_iff_ne]; omega
            have hm := ML.out hne
            have HNE := Lib.hid hne
            have CAD := Lib.hid (ckadd_any g v _ ma mg ms mc W6 HC6.out HL8.out HST.out)
            have KM6 : Hid (Kept W6 w.heap.size #[.int .i64 ma, .int .i64 mg, .int .i64 ms, .int .i64 mc] 33) := Lib.hid (KM.out.below B6.out KM.out.lt)
            obtain ⟨m1, m2, m3, m4, -⟩ := KM6.out.four
            have LA8 : Hid (∀ s, (addC ⟨rho, 2, st, hd, L⟩ s).2.L.length ≤ 8) := Lib.hid fun s => by
              cases hr : rgtS s
              · rw [addC_no hr]; exact HL8.out
              · cases hag : agreeB (gapsS (pushL L s) s.2.2.1 rho)
                · rw [addC_un (c := ⟨rho, 2, st, hd, L⟩) hr hag]; dsimp only; split <;> simp
                · rw [addC_yes (c := ⟨rho, 2, st, hd, L⟩) hr hag]; exact (pushL_len HL8.out).2
            have MORE := Lib.hid (fun h8 h0 ha h1 => meets_more (c := ⟨rho, 2, st, hd, L⟩) (t := t) (s := (ma, mg, ms, mc)) h8 h0 ha h1)
            have LA := Lib.hid (LA8.out (ma, mg, ms, mc))
            unfold AddOut at CAD
            generalize addC ⟨rho, 2, st, hd, L⟩ (ma, mg, ms, mc) = ac at *
            obtain ⟨ae, c'⟩ := ac
            dsimp only at CAD MORE LA
            clear hne ML LA8
            rcases hm with ⟨h1, h2, h3, h4⟩ | ⟨h1, h2⟩
            · subst h1 h2 h3 h4
              obtain ⟨y1, y2, -⟩ := N6.out.1.two
              obtain ⟨z1, z2, -⟩ := N19.out.1.two
              have hgg := fun W => g_neq_self lo up W
              go_wp2_with fail
              clear y1 y2 z1 z2 hgg
              refine CAD.out.mono ?_
              rintro _ w7 ⟨v7, rfl, h7, k7, f7⟩
              have N7 := Lib.hid (N6.out.add k7 f7)
              have B7 := Lib.hid (B6.out.trans (k7.out B6.out.size GB.out VV.out))
              have CB := Lib.hid (ckat_any g v7 c' t w7 h7 (by have := LA.out; omega))
              unfold CkAtOut at CB
              clear h7 k7 f7 CAD N6 N19 B6 HC6 O6 BE KM6 m1 m2 m3 m4
              obtain ⟨⟨olo, oup⟩, ho⟩ : ∃ z, ckG c' t = z := ⟨_, rfl⟩
              obtain ⟨ie, hie⟩ : ∃ z, ckE c' t = z := ⟨_, rfl⟩
              rw [ho, hie] at CB
              (try rw [ho, hie] at MORE)
              dsimp only at CB
              clear ho hie
              go_wp2_with fail
              refine CB.out.mono ?_
              rintro _ w8 ⟨rfl, b8⟩
              have bb := b8.trans ((one_alloc w8 (.cells #[.int .i64 olo, .int .i64 oup] 39)).mono b8.size)
              have K22 : Hid (Kept (w8.alloc (.cells #[.int .i64 olo, .int .i64 oup] 39)) w8.heap.size #[.int .i64 olo, .int .i64 oup] 39) := Lib.hid (Kept.new rfl)
              have N8 := Lib.hid (N7.out.1.next bb)
              have BE := Lib.hid (B00.out.trans ((B7.out.trans (bb.mono B7.out.size)).mono B00.out.size))
              clear b8 bb CB N7 B7
              go_upto_region 29 with fail
              generalize w8.alloc (.cells #[.int .i64 olo, .int .i64 oup] 39) = W8 at *
              generalize w8.heap.size = k22 at *
              by_cases ha : ae = 0
              · by_cases hj : ie = 0
                · by_cases h8 : L.length = 8
                  · have hz8 : ((L.length : Int) == 8) = true := by rw [h8]; rfl
                    subst ha hj
                    clear MORE h8
                    go_wp2
                    go_ret
                    exact ⟨by rfl, BE.out⟩
                  · have hm := MORE.out (by have := HL8.out; omega) HG.out.2 ha hj
                    rw [HG.out.1] at hm
                    dsimp only at hm
                    have CWI := Lib.hid (fun W => within_any olo oup lo up true (decide_eq_true hm) W)
                    have hz8 : ((L.length : Int) == 8) = false := by rw [beq_eq_false_iff_ne]; omega
                    obtain ⟨y1, y2, -⟩ := N8.out.two
                    obtain ⟨z1, z2, -⟩ := K22.out.two
                    subst ha hj
                    clear MORE h8 hm
                    go_wp2_with fail
                    refine (CWI.out _).mono ?_
                    rintro _ w9 ⟨rfl, b9⟩
                    have BF := Lib.hid (BE.out.trans (b9.mono BE.out.size))
                    clear b9 BE
                    go_wp2
                    go_ret
                    exact ⟨by rfl, BF.out⟩
                · have hd1 : (ie != 0) = true := by rw [bne_iff_ne]; exact hj
                  subst ha
                  clear MORE hj
                  go_wp2
                  go_ret
                  exact ⟨by rfl, BE.out⟩
              · have hd1 : (ae != 0) = true := by rw [bne_iff_ne]; exact ha
                clear MORE ha
                go_wp2
                go_ret
                exact ⟨by rfl, BE.out⟩
            · subst h1 h2
              go_wp2_with fail
              refine CAD.out.mono ?_
              rintro _ w7 ⟨v7, rfl, h7, k7, f7⟩
              have N7 := Lib.hid (N6.out.add k7 f7)
              have B7 := Lib.hid (B6.out.trans (k7.out B6.out.size GB.out VV.out))
              have CB := Lib.hid (ckat_any g v7 c' t w7 h7 (by have := LA.out; omega))
              unfold CkAtOut at CB
              clear h7 k7 f7 CAD N6 N19 B6 HC6 O6 BE KM6 m1 m2 m3 m4
              obtain ⟨⟨olo, oup⟩, ho⟩ : ∃ z, ckG c' t = z := ⟨_, rfl⟩
              obtain ⟨ie, hie⟩ : ∃ z, ckE c' t = z := ⟨_, rfl⟩
              rw [ho, hie] at CB
              (try rw [ho, hie] at MORE)
              dsimp only at CB
              clear ho hie
              go_wp2_with fail
              refine CB.out.mono ?_
              rintro _ w8 ⟨rfl, b8⟩
              have bb := b8.trans ((one_alloc w8 (.cells #[.int .i64 olo, .int .i64 oup] 39)).mono b8.size)
              have K22 : Hid (Kept (w8.alloc (.cells #[.int .i64 olo, .int .i64 oup] 39)) w8.heap.size #[.int .i64 olo, .int .i64 oup] 39) := Lib.hid (Kept.new rfl)
              have N8 := Lib.hid (N7.out.1.next bb)
              have BE := Lib.hid (B00.out.trans ((B7.out.trans (bb.mono B7.out.size)).mono B00.out.size))
              clear b8 bb CB N7 B7
              go_upto_region 29 with fail
              generalize w8.alloc (.cells #[.int .i64 olo, .int .i64 oup] 39) = W8 at *
              generalize w8.heap.size = k22 at *
              go_wp2
              go_ret
              exact ⟨by rfl, BE.out⟩
end Go.Proofs.Ytflplliiamodhaa
