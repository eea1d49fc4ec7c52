import Derived.Test.YtflplliiamodhaaZDriftC
import Derived.Test.YtflplliiamodhaaZWideF
/- drift.rises with the closure 1: for every list of points. -/
namespace Go.Proofs.Ytflplliiamodhaa
open Go.RowKit
set_option linter.unusedVariables false

def RisRel1 (r : Int) (l : List (Int × Int)) (w : World) (i : Value) (wr : World) : Prop := ∃ (k : Nat) (L : Int), k ≤ l.length ∧ i = .int .i64 k ∧ Hid (Kept wr w.heap.size #[.int .i64 (hiW L), .int .u64 (loW L)] 121) ∧ Hid (k ≠ 0 → ∃ j, j < k ∧ L = fastV r (l.getD j (0, 0))) ∧ Hid (∀ j, j < k → L ≤ fastV r (l.getD j (0, 0))) ∧
  Hid (∀ j, j < k → ∀ i, i < j + 1 → fastV r (l.getD j (0, 0)) - fastV r (l.getD i (0, 0)) ≤ 1000000) ∧ Hid (Below w.heap.size w wr)
set_option maxHeartbeats 8000000 in
set_option maxRecDepth 100000 in
theorem ris1_any (x : Option Addr) (xc : Nat) (l : List (Int × Int)) (r : Int) (rb : Nat) (w : World) (hx : PairRow w x l) (hl : l.length ≤ 4000000000) (hs : soundP l) (h1 : 0 ≤ r) (h2 : r ≤ 100000) (hr : w.cell? ⟨rb, 0, none⟩ = some (.int .i64 r)) :
    Calls Try.prog 82 #[.slice x l.length xc, .func (.func 79) #[] #[.pointer (some ⟨rb, 0, none⟩)]] w (Gives (.bool (decide (risesP (fastV r) l))) w) := by
  have HX := Lib.hid hx
  have HS := Lib.hid hs
  have HR := Lib.hid hr
  have H1 := Lib.hid h1
  have H2 := Lib.hid h2
  clear hx hs hr h1 h2
  have KS : Hid (RisRel1 r l w (.int .i64 0) (w.alloc (.cells #[.int .i64 0, .int .u64 0] 121))) := Lib.hid ⟨0, 0, Nat.zero_le _, rfl, Lib.hid (by
    have e1 : hiW 0 = 0 := by decide +kernel
    have e2 : loW 0 = 0 := by decide +kernel
    rw [e1, e2]
    exact Kept.new rfl), Lib.hid (fun h => absurd rfl h), Lib.hid (fun j hj => by omega), Lib.hid (fun j hj => by omega), Lib.hid (one_alloc _ _)⟩
  go_enter Try.func82, Try.ntmps82
  go_wp2
  go_loopw [13] (fun i wr => RisRel1 r l w i wr) (fun i _ => l.length - (intOf i).toNat)
  case atStart => exact KS.out
  case round =>
    obtain ⟨k, L, hk, rfl, K0, HL, HM, HP, B0⟩ := hrel
    clear KS
    by_cases hlt : k < l.length
    · obtain ⟨b, off, rfl, h1, h2⟩ := HX.out k hlt
      have c1 := (B0.out.cell (World.block_lt_of_cell? w _ h1)).trans h1
      have c2 := (B0.out.cell (World.block_lt_of_cell? w _ h2)).trans h2
      have hin := HS.out k hlt
      have Cv0 : ∀ W, Below w.heap.size w W → Calls Try.prog 79 #[.agg #[.int .i64 (l.getD k (0, 0)).1, .int .i64 (l.getD k (0, 0)).2], .pointer (some ⟨rb, 0, none⟩)] W (Gives (wI (fastV r (l.getD k (0, 0)))) W) := fun W hW => fast_any _ r rb W (keep1 hW HR.out) hin H1.out H2.out
      have hVb := (fast_inW hin H1.out H2.out).2
      obtain ⟨p, hp⟩ : ∃ p, (l.getD k (0, 0)).1 = p := ⟨_, rfl⟩
      obtain ⟨q, hq⟩ : ∃ q, (l.getD k (0, 0)).2 = q := ⟨_, rfl⟩
      obtain ⟨V, hV⟩ : ∃ V, fastV r (l.getD k (0, 0)) = V := ⟨_, rfl⟩
      rw [hp] at c1
      rw [hq] at c2
      rw [hp, hq, hV] at Cv0
      rw [hV] at hVb
      obtain ⟨hv, lv, eV, -, -, ehv, elv⟩ := wI_letters V
      rw [eV] at Cv0
      have Cv := Lib.hid Cv0
      have HVE := Lib.hid hV
      have B1 := Lib.hid (B0.out.alloc B0.out.size (.cells #[.int .i64 p, .int .i64 q] 59))
      obtain ⟨hm, lm, eM, -, -, -, -⟩ := wI_letters 1000000
      have EMM := Lib.hid eM
      have Co : Hid (∀ W, Calls Try.prog 102 #[.int .i64 1000000] W (Gives (.agg #[.int .i64 hm, .int .u64 lm]) W)) := Lib.hid fun W => by
        have h := wof_any 1000000 W (by unfold InI; omega)
        rwa [eM] at h
      -- the least one is the new one
      have Fnew : Hid ((k ≠ 0 → V < L) → ∀ w' v, v = .int .i64 ((k : Int) + 1) → Hid (Kept w' w.heap.size #[.int .i64 hv, .int .u64 lv] 121) → Hid (Below w.heap.size w w') → RisRel1 r l w v w') := Lib.hid fun hnew w' v hv' hK hB => ⟨k + 1, V, hlt, hv', by rw [← ehv, ← elv]; exact hK, Lib.hid (fun _ => ⟨k, by omega, HVE.out.symm⟩), Lib.hid (fun j hj => by
          by_cases e : j = k
          · rw [e, HVE.out]; exact Int.le_refl _
          · have a := HM.out j (by omega)
            have c := hnew (by omega)
            omega), Lib.hid (fun j hj i hi => by
          by_cases e : j = k
          · rw [e, HVE.out]
            by_cases e2 : i = k
            · rw [e2, HVE.out]; omega
            · have a := HM.out i (by omega)
              have c := hnew (by omega)
              omega
          · exact HP.out j (by omega) i hi), hB⟩
      have Fold : Hid (k ≠ 0 → ¬ V < L → V - L ≤ 1000000 → ∀ w' v, v = .int .i64 ((k : Int) + 1) → Hid (Kept w' w.heap.size #[.int .i64 (hiW L), .int .u64 (loW L)] 121) → Hid (Below w.heap.size w w') → RisRel1 r l w v w') := Lib.hid fun h0 hnl hle w' v hv' hK hB => ⟨k + 1, L, hlt, hv', hK, Lib.hid (fun _ => by
          obtain ⟨j, hj, e⟩ := HL.out h0
          exact ⟨j, by omega, e⟩), Lib.hid (fun j hj => by
          by_cases e : j = k
          · rw [e, HVE.out]; omega
          · exact HM.out j (by omega)), Lib.hid (fun j hj i hi => by
          by_cases e : j = k
          · rw [e, HVE.out]
            by_cases e2 : i = k
            · rw [e2, HVE.out]; omega
            · have a := HM.out i (by omega)
              omega
          · exact HP.out j (by omega) i hi), hB⟩
      have Fbad : Hid (k ≠ 0 → 1000000 < V - L → Hid (decide (risesP (fastV r) l) = false)) := Lib.hid fun h0 hgt => Lib.hid (decide_eq_false fun hr => by
          obtain ⟨j, hj, e⟩ := HL.out h0
          have := hr k hlt j (by omega)
          rw [HVE.out, ← e] at this
          omega)
      have HLb : Hid (k ≠ 0 → -9000000000000000000000000 ≤ L ∧ L ≤ 9000000000000000000000000) := Lib.hid fun h0 => by
        obtain ⟨j, hj, e⟩ := HL.out h0
        rw [e]
        exact (fast_inW (HS.out j (by omega)) H1.out H2.out).2
      have HVB := Lib.hid hVb
      have HI : Hid (k < l.length) := Lib.hid hlt
      clear HM HP HL hV hp hq h1 h2 hin eM ehv elv hVb Cv0 HX HS
      by_cases hk0 : k = 0
      · obtain ⟨hd, ld, eD, -, -, -, -⟩ := wI_letters 0
        have Cs : Hid (∀ W, Calls Try.prog 101 #[.agg #[.int .i64 hv, .int .u64 lv], .agg #[.int .i64 hv, .int .u64 lv]] W (Gives (.tuple #[.agg #[.int .i64 hd, .int .u64 ld], .int .i64 0]) W)) := Lib.hid fun W => by
          have h := wsub_any V V W (by have := HVB.out; unfold InW; omega) (by have := HVB.out; unfold InW; omega)
          rw [vW_in (by have := HVB.out; unfold InW; omega), eW_in (by have := HVB.out; unfold InW; omega), show V - V = 0 by omega, eV, eD] at h
          exact h
        obtain ⟨o2, ho2⟩ : ∃ o, ordI 0 1000000 = o := ⟨_, rfl⟩
        have Cf : Hid (∀ W, Calls Try.prog 100 #[.agg #[.int .i64 hd, .int .u64 ld], .agg #[.int .i64 hm, .int .u64 lm]] W (Gives (.int .i64 o2) W)) := Lib.hid fun W => by
          have h := wcmp_any 0 1000000 W (by have := HVB.out; unfold InW; omega) (by unfold InW; omega)
          rwa [eD, EMM.out, ho2] at h
        have d2 : decide (0 < o2) = false := decide_eq_false (by rw [← ho2]; unfold ordI; rw [if_pos (by omega)]; omega)
        have F := Lib.hid (Fnew.out (fun h => absurd hk0 h))
        clear ho2 eV eD EMM Fnew Fold Fbad HLb HVB
        subst hk0
        simp only [Nat.zero_mul, Nat.add_zero] at c1 c2
        go_wp2_with fail
        refine (Cv.out _ B1.out).mono ?_
        rintro _ w1 ⟨rfl, hb1⟩
        have K1 := Lib.hid ((K0.out.alloc _).next hb1)
        have B2 := Lib.hid (bnext B1.out B1.out.size hb1)
        clear hb1 c1 c2
        obtain ⟨k1, k2, k3, k4, kl⟩ := K1.out.two
        have hlw : w.heap.size < w1.heap.size := kl
        have KV := (Kept.new (w := w1) (g := w1.heap.size) (cs := #[.int .i64 hv, .int .u64 lv]) (t := 121) rfl)
        have y1 := set2_far (b := w.heap.size) (x := .int .i64 hv) (y := .int .u64 lv) KV.two.1 (by simp; omega)
        have y2 := set2_far (b := w.heap.size) (x := .int .i64 hv) (y := .int .u64 lv) KV.two.2.1 (by simp; omega)
        have KL := (K1.out.alloc (.cells #[.int .i64 hv, .int .u64 lv] 121)).set2 (.int .i64 hv) (.int .u64 lv)
        have y3 := KL.two.1
        have y4 := KL.two.2.1
        clear KL KV
        go_wp2_with fail
        refine (Cs.out _).mono ?_
        rintro _ w3 ⟨rfl, hb3⟩
        clear y1 y2 y3 y4
        have K3 := Lib.hid (((K1.out.set2 _ _).alloc _).next hb3)
        have B4 := Lib.hid (bnext ((bset2 B2.out (Nat.le_refl _) _ _).alloc (by have := B2.out.size; simp; omega) _) (by have := B2.out.size; simp; omega) hb3)
        clear hb3 k1 k2 k3 k4 kl
        obtain ⟨W, hW⟩ : ∃ W, w3.alloc (.cells #[.int .i64 hd, .int .u64 ld] 121) = W := ⟨_, rfl⟩
        have KD : Hid (Kept W w3.heap.size #[.int .i64 hd, .int .u64 ld] 121) := Lib.hid (by rw [← hW]; exact Kept.new rfl)
        have K3 : Hid (Kept W.drew w.heap.size _ _) := Lib.hid (show Kept W _ _ _ by rw [← hW]; exact K3.out.alloc _)
        have SS : Hid (Below w.heap.size w W.drew) ∧ W.drew.cell? ⟨w3.heap.size, 0, none⟩ = some (.int .i64 hd) ∧ W.drew.cell? ⟨w3.heap.size, 1, none⟩ = some (.int .u64 ld) := ⟨Lib.hid (below_drewN (by rw [← hW]; exact B4.out.alloc B4.out.size _) 1), KD.out.two.1, KD.out.two.2.1⟩
        have HW := Lib.hid hW
        have HLD := Lib.hid SS
        clear hW KD B4 SS
        go_wp2
        rw [HW.out]
        have SS := HLD.out
        go_region_held3 (fun w' => Hid (Below w.heap.size w w') ∧ w'.cell? ⟨w3.heap.size, 0, none⟩ = some (.int .i64 hd) ∧ w'.cell? ⟨w3.heap.size, 1, none⟩ = some (.int .u64 ld))
          (first | exact SS | go_keep)
          (first
            | (go_at_call 102; refine (Co.out _).mono ?_; rintro _ u1 ⟨rfl, hu1⟩; have SS := keepB2 (a := w) hu1 SS; have K3 := Lib.hid (K3.out.next hu1))
            | (go_at_call 100; refine (Cf.out _).mono ?_; rintro _ u2 ⟨rfl, hu2⟩; have SS := keepB2 (a := w) hu2 SS; have K3 := Lib.hid (K3.out.next hu2)))
        all_goals
          have B5 := SS.1
          clear SS HLD
          have F := Lib.hid (F.out _ _ rfl K3 B5)
          go_wp2
          go_roundw
          case rel => exact F.out
          case measure => have := HI.out; simp [intOf]; omega
      · have hkb : ((k : Int) == 0) = false := by rw [beq_eq_false_iff_ne]; omega
        have HLB := Lib.hid (HLb.out hk0)
        obtain ⟨hL, lL, eL, -, -, ehL, elL⟩ := wI_letters L
        obtain ⟨o1, ho1⟩ : ∃ o, ordI V L = o := ⟨_, rfl⟩
        have Cc : Hid (∀ W, Calls Try.prog 100 #[.agg #[.int .i64 hv, .int .u64 lv], .agg #[.int .i64 hL, .int .u64 lL]] W (Gives (.int .i64 o1) W)) := Lib.hid fun W => by
          have h := wcmp_any V L W (by have := HVB.out; unfold InW; omega) (by have := HLB.out; unfold InW; omega)
          rwa [eV, eL, ho1] at h
        rw [← ehL, ← elL] at K0
        rw [← ehL, ← elL] at Fold
        by_cases hvl : V < L
        · obtain ⟨hd, ld, eD, -, -, -, -⟩ := wI_letters 0
          have Cs : Hid (∀ W, Calls Try.prog 101 #[.agg #[.int .i64 hv, .int .u64 lv], .agg #[.int .i64 hv, .int .u64 lv]] W (Gives (.tuple #[.agg #[.int .i64 hd, .int .u64 ld], .int .i64 0]) W)) := Lib.hid fun W => by
            have h := wsub_any V V W (by have := HVB.out; unfold InW; omega) (by have := HVB.out; unfold InW; omega)
            rw [vW_in (by have := HVB.out; unfold InW; omega), eW_in (by have := HVB.out; unfold InW; omega), show V - V = 0 by omega, eV, eD] at h
            exact h
          obtain ⟨o2, ho2⟩ : ∃ o, ordI 0 1000000 = o := ⟨_, rfl⟩
          have Cf : Hid (∀ W, Calls Try.prog 100 #[.agg #[.int .i64 hd, .int .u64 ld], .agg #[.int .i64 hm, .int .u64 lm]] W (Gives (.int .i64 o2) W)) := Lib.hid fun W => by
            have h := wcmp_any 0 1000000 W (by have := HVB.out; unfold InW; omega) (by unfold InW; omega)
            rwa [eD, EMM.out, ho2] at h
          have d1 : decide (o1 < 0) = true := decide_eq_true (by rw [← ho1]; unfold ordI; rw [if_pos hvl]; omega)
          have d2 : decide (0 < o2) = false := decide_eq_false (by rw [← ho2]; unfold ordI; rw [if_pos (by omega)]; omega)
          have F := Lib.hid (Fnew.out (fun _ => hvl))
          clear ho2 ho1 eV eL eD EMM Fnew Fold Fbad HLb HLB HVB hvl ehL elL hk0
          go_wp2_with fail
          refine (Cv.out _ B1.out).mono ?_
          rintro _ w1 ⟨rfl, hb1⟩
          have K1 := Lib.hid ((K0.out.alloc _).next hb1)
          have B2 := Lib.hid (bnext B1.out B1.out.size hb1)
          clear hb1 c1 c2
          obtain ⟨k1, k2, k3, k4, kl⟩ := K1.out.two
          go_wp2_with fail
          refine (Cc.out _).mono ?_
          rintro _ w2 ⟨rfl, hb2⟩
          have KV := Lib.hid ((Kept.new (w := w1) (cs := #[.int .i64 hv, .int .u64 lv]) (t := 121) rfl).next hb2)
          have K2 := Lib.hid ((K1.out.alloc _).next hb2)
          have B3 := Lib.hid (bnext (B2.out.alloc B2.out.size _) (by have := B2.out.size; simp; omega) hb2)
          have hlw : w.heap.size < w1.heap.size := kl
          clear hb2 k1 k2 k3 k4 kl
          obtain ⟨v1, v2, -, -, vl⟩ := KV.out.two
          obtain ⟨k1, k2, k3, k4, kl⟩ := K2.out.two
          have y1 := set2_far (b := w.heap.size) (x := .int .i64 hv) (y := .int .u64 lv) v1 (by simp; omega)
          have y2 := set2_far (b := w.heap.size) (x := .int .i64 hv) (y := .int .u64 lv) v2 (by simp; omega)
          have KL := K2.out.set2 (.int .i64 hv) (.int .u64 lv)
          have y3 := KL.two.1
          have y4 := KL.two.2.1
          clear KL
          go_wp2_with fail
          refine (Cs.out _).mono ?_
          rintro _ w3 ⟨rfl, hb3⟩
          clear y1 y2 y3 y4
          have K3 := Lib.hid ((K2.out.set2 _ _).next hb3)
          have B4 := Lib.hid (bnext (bset2 B3.out (Nat.le_refl _) _ _) (by have := B3.out.size; simp; omega) hb3)
          clear hb3 k1 k2 k3 k4 kl v1 v2 vl
          obtain ⟨W, hW⟩ : ∃ W, w3.alloc (.cells #[.int .i64 hd, .int .u64 ld] 121) = W := ⟨_, rfl⟩
          have KD : Hid (Kept W w3.heap.size #[.int .i64 hd, .int .u64 ld] 121) := Lib.hid (by rw [← hW]; exact Kept.new rfl)
          have K3 : Hid (Kept W.drew w.heap.size _ _) := Lib.hid (show Kept W _ _ _ by rw [← hW]; exact K3.out.alloc _)
          have SS : Hid (Below w.heap.size w W.drew) ∧ W.drew.cell? ⟨w3.heap.size, 0, none⟩ = some (.int .i64 hd) ∧ W.drew.cell? ⟨w3.heap.size, 1, none⟩ = some (.int .u64 ld) := ⟨Lib.hid (below_drewN (by rw [← hW]; exact B4.out.alloc B4.out.size _) 1), KD.out.two.1, KD.out.two.2.1⟩
          have HW := Lib.hid hW
          have HLD := Lib.hid SS
          clear hW KD B4 SS
          go_wp2
          rw [HW.out]
          have SS := HLD.out
          go_region_held3 (fun w' => Hid (Below w.heap.size w w') ∧ w'.cell? ⟨w3.heap.size, 0, none⟩ = some (.int .i64 hd) ∧ w'.cell? ⟨w3.heap.size, 1, none⟩ = some (.int .u64 ld))
            (first | exact SS | go_keep)
            (first
              | (go_at_call 102; refine (Co.out _).mono ?_; rintro _ u1 ⟨rfl, hu1⟩; have SS := keepB2 (a := w) hu1 SS; have K3 := Lib.hid (K3.out.next hu1))
              | (go_at_call 100; refine (Cf.out _).mono ?_; rintro _ u2 ⟨rfl, hu2⟩; have SS := keepB2 (a := w) hu2 SS; have K3 := Lib.hid (K3.out.next hu2)))
          all_goals
            have B5 := SS.1
            clear SS HLD
            have F := Lib.hid (F.out _ _ rfl K3 B5)
            go_wp2
            go_roundw
            case rel => exact F.out
            case measure => have := HI.out; simp [intOf]; omega
        · have d1 : decide (o1 < 0) = false := decide_eq_false (by rw [← ho1]; unfold ordI; rw [if_neg hvl]; split <;> omega)
          obtain ⟨hd, ld, eD, -, -, -, -⟩ := wI_letters (V - L)
          have Cs : Hid (∀ W, Calls Try.prog 101 #[.agg #[.int .i64 hv, .int .u64 lv], .agg #[.int .i64 hL, .int .u64 lL]] W (Gives (.tuple #[.agg #[.int .i64 hd, .int .u64 ld], .int .i64 0]) W)) := Lib.hid fun W => by
            have h := wsub_any V L W (by have := HVB.out; unfold InW; omega) (by have := HLB.out; unfold InW; omega)
            rw [vW_in (by have := HVB.out; have := HLB.out; unfold InW; omega), eW_in (by have := HVB.out; have := HLB.out; unfold InW; omega), eV, eL, eD] at h
            exact h
          obtain ⟨o2, ho2⟩ : ∃ o, ordI (V - L) 1000000 = o := ⟨_, rfl⟩
          have Cf : Hid (∀ W, Calls Try.prog 100 #[.agg #[.int .i64 hd, .int .u64 ld], .agg #[.int .i64 hm, .int .u64 lm]] W (Gives (.int .i64 o2) W)) := Lib.hid fun W => by
            have h := wcmp_any (V - L) 1000000 W (by have := HVB.out; have := HLB.out; unfold InW; omega) (by unfold InW; omega)
            rwa [eD, EMM.out, ho2] at h
          by_cases hle : V - L ≤ 1000000
          · have d2 : decide (0 < o2) = false := decide_eq_false (by rw [← ho2]; unfold ordI; split <;> (try split) <;> omega)
            have F := Lib.hid (Fold.out hk0 hvl hle)
            clear ho2 ho1 eV eL eD EMM Fnew Fold Fbad HLb HLB HVB hvl ehL elL hk0 hle
            go_wp2_with fail
            refine (Cv.out _ B1.out).mono ?_
            rintro _ w1 ⟨rfl, hb1⟩
            have K1 := Lib.hid ((K0.out.alloc _).next hb1)
            have B2 := Lib.hid (bnext B1.out B1.out.size hb1)
            clear hb1 c1 c2
            obtain ⟨k1, k2, k3, k4, kl⟩ := K1.out.two
            go_wp2_with fail
            refine (Cc.out _).mono ?_
            rintro _ w2 ⟨rfl, hb2⟩
            have KV := Lib.hid ((Kept.new (w := w1) (cs := #[.int .i64 hv, .int .u64 lv]) (t := 121) rfl).next hb2)
            have K2 := Lib.hid ((K1.out.alloc _).next hb2)
            have B3 := Lib.hid (bnext (B2.out.alloc B2.out.size _) (by have := B2.out.size; simp; omega) hb2)
            have hlw : w.heap.size < w1.heap.size := kl
            clear hb2 k1 k2 k3 k4 kl
            obtain ⟨v1, v2, -, -, vl⟩ := KV.out.two
            obtain ⟨k1, k2, k3, k4, kl⟩ := K2.out.two
            go_wp2_with fail
            refine (Cs.out _).mono ?_
            rintro _ w3 ⟨rfl, hb3⟩
            have K3 := Lib.hid (K2.out.next hb3)
            have B4 := Lib.hid (bnext B3.out B3.out.size hb3)
            clear hb3 k1 k2 k3 k4 kl v1 v2 vl
            obtain ⟨W, hW⟩ : ∃ W, w3.alloc (.cells #[.int .i64 hd, .int .u64 ld] 121) = W := ⟨_, rfl⟩
            have KD : Hid (Kept W w3.heap.size #[.int .i64 hd, .int .u64 ld] 121) := Lib.hid (by rw [← hW]; exact Kept.new rfl)
            have K3 : Hid (Kept W.drew w.heap.size _ _) := Lib.hid (show Kept W _ _ _ by rw [← hW]; exact K3.out.alloc _)
            have SS : Hid (Below w.heap.size w W.drew) ∧ W.drew.cell? ⟨w3.heap.size, 0, none⟩ = some (.int .i64 hd) ∧ W.drew.cell? ⟨w3.heap.size, 1, none⟩ = some (.int .u64 ld) := ⟨Lib.hid (below_drewN (by rw [← hW]; exact B4.out.alloc B4.out.size _) 1), KD.out.two.1, KD.out.two.2.1⟩
            have HW := Lib.hid hW
            have HLD := Lib.hid SS
            clear hW KD B4 SS
            go_wp2
            rw [HW.out]
            have SS := HLD.out
            go_region_held3 (fun w' => Hid (Below w.heap.size w w') ∧ w'.cell? ⟨w3.heap.size, 0, none⟩ = some (.int .i64 hd) ∧ w'.cell? ⟨w3.heap.size, 1, none⟩ = some (.int .u64 ld))
              (first | exact SS | go_keep)
              (first
                | (go_at_call 102; refine (Co.out _).mono ?_; rintro _ u1 ⟨rfl, hu1⟩; have SS := keepB2 (a := w) hu1 SS; have K3 := Lib.hid (K3.out.next hu1))
                | (go_at_call 100; refine (Cf.out _).mono ?_; rintro _ u2 ⟨rfl, hu2⟩; have SS := keepB2 (a := w) hu2 SS; have K3 := Lib.hid (K3.out.next hu2)))
            all_goals
              have B5 := SS.1
              clear SS HLD
              have F := Lib.hid (F.out _ _ rfl K3 B5)
              go_wp2
              go_roundw
              case rel => exact F.out
              case measure => have := HI.out; simp [intOf]; omega
          · have d2 : decide (0 < o2) = true := decide_eq_true (by rw [← ho2]; unfold ordI; split <;> (try split) <;> omega)
            have F := Lib.hid (Fbad.out hk0 (by omega))
            clear ho2 ho1 eV eL eD EMM Fnew Fold Fbad HLb HLB HVB hvl ehL elL hk0 hle
            go_wp2_with fail
            refine (Cv.out _ B1.out).mono ?_
            rintro _ w1 ⟨rfl, hb1⟩
            have K1 := Lib.hid ((K0.out.alloc _).next hb1)
            have B2 := Lib.hid (bnext B1.out B1.out.size hb1)
            clear hb1 c1 c2
            obtain ⟨k1, k2, k3, k4, kl⟩ := K1.out.two
            go_wp2_with fail
            refine (Cc.out _).mono ?_
            rintro _ w2 ⟨rfl, hb2⟩
            have KV := Lib.hid ((Kept.new (w := w1) (cs := #[.int .i64 hv, .int .u64 lv]) (t := 121) rfl).next hb2)
            have K2 := Lib.hid ((K1.out.alloc _).next hb2)
            have B3 := Lib.hid (bnext (B2.out.alloc B2.out.size _) (by have := B2.out.size; simp; omega) hb2)
            have hlw : w.heap.size < w1.heap.size := kl
            clear hb2 k1 k2 k3 k4 kl
            obtain ⟨v1, v2, -, -, vl⟩ := KV.out.two
            obtain ⟨k1, k2, k3, k4, kl⟩ := K2.out.two
            go_wp2_with fail
            refine (Cs.out _).mono ?_
            rintro _ w3 ⟨rfl, hb3⟩
            have K3 := Lib.hid (K2.out.next hb3)
            have B4 := Lib.hid (bnext B3.out B3.out.size hb3)
            clear hb3 k1 k2 k3 k4 kl v1 v2 vl
            obtain ⟨W, hW⟩ : ∃ W, w3.alloc (.cells #[.int .i64 hd, .int .u64 ld] 121) = W := ⟨_, rfl⟩
            have KD : Hid (Kept W w3.heap.size #[.int .i64 hd, .int .u64 ld] 121) := Lib.hid (by rw [← hW]; exact Kept.new rfl)
            have K3 : Hid (Kept W.drew w.heap.size _ _) := Lib.hid (show Kept W _ _ _ by rw [← hW]; exact K3.out.alloc _)
            have SS : Hid (Below w.heap.size w W.drew) ∧ W.drew.cell? ⟨w3.heap.size, 0, none⟩ = some (.int .i64 hd) ∧ W.drew.cell? ⟨w3.heap.size, 1, none⟩ = some (.int .u64 ld) := ⟨Lib.hid (below_drewN (by rw [← hW]; exact B4.out.alloc B4.out.size _) 1), KD.out.two.1, KD.out.two.2.1⟩
            have HW := Lib.hid hW
            have HLD := Lib.hid SS
            clear hW KD B4 SS
            go_wp2
            rw [HW.out]
            have SS := HLD.out
            go_region_held3 (fun w' => Hid (Below w.heap.size w w') ∧ w'.cell? ⟨w3.heap.size, 0, none⟩ = some (.int .i64 hd) ∧ w'.cell? ⟨w3.heap.size, 1, none⟩ = some (.int .u64 ld))
              (first | exact SS | go_keep)
              (first
                | (go_at_call 102; refine (Co.out _).mono ?_; rintro _ u1 ⟨rfl, hu1⟩; have SS := keepB2 (a := w) hu1 SS; have K3 := Lib.hid (K3.out.next hu1))
                | (go_at_call 100; refine (Cf.out _).mono ?_; rintro _ u2 ⟨rfl, hu2⟩; have SS := keepB2 (a := w) hu2 SS; have K3 := Lib.hid (K3.out.next hu2)))
            all_goals
              have B5 := SS.1
              clear SS HLD
              go_wp2
              go_ret
              exact ⟨ret_bool F.out.out.symm, B5.out⟩
    · have F : Hid (decide (risesP (fastV r) l) = true) := Lib.hid (decide_eq_true fun j hj => HP.out j (by omega))
      clear HM HP HL K0
      go_wp2
      go_ret
      exact ⟨ret_bool F.out.symm, B0.out⟩
end Go.Proofs.Ytflplliiamodhaa
