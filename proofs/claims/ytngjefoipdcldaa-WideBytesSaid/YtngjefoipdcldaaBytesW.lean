/- noonmarklaw02.WideBytes, walked: for every input. -/
import Derived.Test.YtngjefoipdcldaaBytesF
namespace Go.Proofs.Ytngjefoipdcldaa
open Go.RowKit
set_option linter.unusedVariables false

theorem copyBytes16 (b o c : Nat) (L : List Int) (w : World) (hr : IntRow w (some ⟨b, o, none⟩) .u8 L) (hl : L.length = 16) :
    Calls Try.prog 33 #[.slice (some ⟨b, o, none⟩) 16 c] w fun e w' => ∃ a c', e = .returned (.slice a 16 c') ∧ IntRow w' a .u8 L ∧ Below w.heap.size w w' := by
  have h := copyBytes_any (some ⟨b, o, none⟩) c L w hr (by simp) (by omega)
  rw [hl] at h
  refine h.mono ?_
  rintro e w' ⟨v, rfl, hown, hb⟩
  obtain ⟨a, cap, rfl, e2, -, -, -, e6⟩ := IntRow.ownK hown
  rw [hl]
  exact ⟨a, cap, rfl, e6, hb⟩
def LexRel (X Y : List Int) (W : World) (f i : Value) (wr : World) : Prop := ∃ (k n : Nat) (K q : Int), k ≤ 16 ∧ i = .int .i64 K ∧ Hid ((k : Int) = K) ∧ f = .int .i64 q ∧ LexSt X Y k q ∧ wr = W.drewN n
set_option maxHeartbeats 8000000 in
theorem bytes_walk (za zb : Int) (h l g m : Int) (ra : Option Addr) (rc : Nat) (R : List Int) (w : World) (ha : InW za) (hb : InW zb) (ea : wI za = .agg #[.int .i64 h, .int .u64 l]) (eb : wI zb = .agg #[.int .i64 g, .int .u64 m]) (eh : h = hiW za) (eg : g = hiW zb)
    (hr : IntRow w ra .u8 R) (hrb : ByteL R) (hrl : R.length ≤ 9223372036854775807) :
    Calls Try.prog 6 #[.agg #[.int .i64 h, .int .u64 l], .agg #[.int .i64 g, .int .u64 m], .slice ra R.length rc] w fun e w' => e = .returned (.bool true) ∧ Below w.heap.size w w' := by
  have CB1 := Lib.hid (fun W => wbytes_any za W)
  have CB2 := Lib.hid (fun W => wbytes_any zb W)
  have CK := Lib.hid (fun a c n W hn hr => back_byL za a c n W hn hr)
  rw [ea] at CB1 CK
  rw [eb] at CB2
  obtain ⟨X, hX⟩ : ∃ X, byL za = X := ⟨_, rfl⟩
  obtain ⟨Y, hY⟩ : ∃ X, byL zb = X := ⟨_, rfl⟩
  have hXb : ByteL X := by rw [← hX]; exact byL_byte _
  have hYb : ByteL Y := by rw [← hY]; exact byL_byte _
  have hXl : X.length = 16 := by rw [← hX]; exact byL_len _
  have hYl : Y.length = 16 := by rw [← hY]; exact byL_len _
  have hfb := first_byte za ha
  rw [← eh, hX] at hfb
  have hord : (h < 0 ↔ g < 0) → ordI (bv X 16) (bv Y 16) = ordI za zb := fun hh => by
    rw [← hX, ← hY]
    exact ord_same ha hb (by rw [eh, eg, hiW_neg ha, hiW_neg hb] at hh; exact hh)
  have CC := Lib.hid (fun W => wcmp_any za zb W ha hb)
  rw [ea, eb] at CC
  rw [hX] at CB1 CK
  rw [hY] at CB2
  have HO := Lib.hid hord
  have HXB := Lib.hid hXb
  have HYB := Lib.hid hYb
  have HXL := Lib.hid hXl
  have HYL := Lib.hid hYl
  have HR := Lib.hid hr
  have HRB := Lib.hid hrb
  have HRL := Lib.hid hrl
  clear hXb hYb hXl hYl hord hX hY ea eb eh eg ha hb hr hrb hrl
  go_enter Try.func6, Try.ntmps6
  have B0 : Hid (Below w.heap.size w w) := Lib.hid (Below.refl w.heap.size w)
  go_wp2_with fail
  refine (alive_any _).mono ?_
  rintro e1 w1 ⟨rfl, hb1⟩
  have HR : Hid (IntRow w1 _ _ _) := Lib.hid (((HR.out.alloc _).alloc _).below hb1)
  have Ka : Hid (Kept w1 _ #[.int .i64 h, .int .u64 l] 24) := Lib.hid (((Kept.new (w := w) (cs := #[.int .i64 h, .int .u64 l]) (t := 24) rfl).alloc (.cells #[.int .i64 g, .int .u64 m] 24)).next hb1)
  have Kb : Hid (Kept w1 _ #[.int .i64 g, .int .u64 m] 24) := Lib.hid ((Kept.new (w := (w.alloc (.cells #[.int .i64 h, .int .u64 l] 24))) (g := w.heap.size + 1) (cs := #[.int .i64 g, .int .u64 m]) (t := 24) (by simp)).next hb1)
  have B1 : Hid (Below w.heap.size w w1) := Lib.hid (bnext (((((B0.out).alloc (by have := B0.out.size; first | omega | (simp <;> omega)) _)).alloc (by have := B0.out.size; first | omega | (simp <;> omega)) _)) (by have := B0.out.size; first | omega | (simp <;> omega)) hb1)
  clear hb1
  obtain ⟨a1, a2, -, -, al⟩ := Ka.out.two
  go_wp2_with fail
  refine (CB1.out _).mono ?_
  rintro e2 w2 ⟨v2, rfl, hv2, hb2⟩
  clear a1 a2 al
  have Ka : Hid (Kept w2 _ _ _) := Lib.hid (Ka.out.next hb2)
  have Kb : Hid (Kept w2 _ _ _) := Lib.hid (Kb.out.next hb2)
  have HR : Hid (IntRow w2 _ _ _) := Lib.hid (HR.out.below hb2)
  have B2 : Hid (Below w.heap.size w w2) := Lib.hid (bnext (B1.out) (by have := B1.out.size; first | omega | (simp <;> omega)) hb2)
  clear hb2
  obtain ⟨xb, xo, xc, rfl, hxc, hxr⟩ := bytes16 hv2 HXL.out
  have XR := Lib.hid hxr
  clear hxr hv2
  obtain ⟨b1, b2, -, -, bl⟩ := Kb.out.two
  go_wp2_with fail
  refine (CB2.out _).mono ?_
  rintro e3 w3 ⟨v3, rfl, hv3, hb3⟩
  clear b1 b2 bl
  have Ka : Hid (Kept w3 _ _ _) := Lib.hid (Ka.out.next hb3)
  have Kb : Hid (Kept w3 _ _ _) := Lib.hid (Kb.out.next hb3)
  have HR : Hid (IntRow w3 _ _ _) := Lib.hid (HR.out.below hb3)
  have XR : Hid (IntRow w3 _ _ _) := Lib.hid (XR.out.below hb3)
  have B3 : Hid (Below w.heap.size w w3) := Lib.hid (bnext (B2.out) (by have := B2.out.size; first | omega | (simp <;> omega)) hb3)
  clear hb3
  obtain ⟨yb, yo, yc, rfl, hyc, hyr⟩ := bytes16 hv3 HYL.out
  have YR := Lib.hid hyr
  clear hyr hv3
  go_wp2_with fail
  refine (copyBytes16 xb xo xc X _ XR.out HXL.out).mono ?_
  rintro e4 w4 ⟨cb, cc, rfl, hcr, hb4⟩
  have Ka : Hid (Kept w4 _ _ _) := Lib.hid (Ka.out.next hb4)
  have Kb : Hid (Kept w4 _ _ _) := Lib.hid (Kb.out.next hb4)
  have HR : Hid (IntRow w4 _ _ _) := Lib.hid (HR.out.below hb4)
  have XR : Hid (IntRow w4 _ _ _) := Lib.hid (XR.out.below hb4)
  have YR : Hid (IntRow w4 _ _ _) := Lib.hid (YR.out.below hb4)
  have B4 : Hid (Below w.heap.size w w4) := Lib.hid (bnext (B3.out) (by have := B3.out.size; first | omega | (simp <;> omega)) hb4)
  clear hb4
  have CR := Lib.hid hcr
  clear hcr
  go_wp2_with fail
  refine (CK.out cb cc 16 _ (by rfl) CR.out).mono ?_
  rintro e5 w5 ⟨rfl, hb5⟩
  have Ka : Hid (Kept w5 _ _ _) := Lib.hid (Ka.out.next hb5)
  have Kb : Hid (Kept w5 _ _ _) := Lib.hid (Kb.out.next hb5)
  have HR : Hid (IntRow w5 _ _ _) := Lib.hid (HR.out.below hb5)
  have XR : Hid (IntRow w5 _ _ _) := Lib.hid (XR.out.below hb5)
  have YR : Hid (IntRow w5 _ _ _) := Lib.hid (YR.out.below hb5)
  have CR : Hid (IntRow w5 _ _ _) := Lib.hid (CR.out.below hb5)
  have B5 : Hid (Below w.heap.size w w5) := Lib.hid (bnext (B4.out) (by have := B4.out.size; first | omega | (simp <;> omega)) hb5)
  clear hb5
  have Kd : Hid (Kept (w5.alloc (.cells #[.int .i64 h, .int .u64 l] 24)) w5.heap.size #[.int .i64 h, .int .u64 l] 24) := Lib.hid (Kept.new rfl)
  have Ka := Lib.hid (Ka.out.alloc (.cells #[.int .i64 h, .int .u64 l] 24))
  have Kb := Lib.hid (Kb.out.alloc (.cells #[.int .i64 h, .int .u64 l] 24))
  have XR := Lib.hid (XR.out.alloc (.cells #[.int .i64 h, .int .u64 l] 24))
  have YR := Lib.hid (YR.out.alloc (.cells #[.int .i64 h, .int .u64 l] 24))
  have HR := Lib.hid (HR.out.alloc (.cells #[.int .i64 h, .int .u64 l] 24))
  have BV := Lib.hid (B5.out.alloc B5.out.size (.cells #[.int .i64 h, .int .u64 l] 24))
  go_wp2
  obtain ⟨V, hV⟩ : ∃ V, w5.alloc (.cells #[.int .i64 h, .int .u64 l] 24) = V := ⟨_, rfl⟩
  rw [hV] at Kd Ka Kb XR YR HR BV ⊢
  clear hV
  obtain ⟨a1, a2, -, -, al⟩ := Ka.out.two
  obtain ⟨d1, d2, -, -, dl⟩ := Kd.out.two
  obtain ⟨b', o', e', hx0⟩ := XR.out 0 (by rw [HXL.out]; omega)
  injection e' with e'; injection e' with e1 e2; subst e1 e2
  rw [Nat.add_zero] at hx0
  generalize X.getD 0 0 = x0 at *
  have hxc' : (0 : Int) < 16 := by omega
  have hfe : (decide (h < 0) != decide (127 < x0)) = false := by
    rcases hfb with ⟨f1, f2⟩ | ⟨f1, f2⟩ <;> rw [f1, f2] <;> rfl
  have hfe2 : (decide (h < 0) == decide (127 < x0)) = true := by
    rcases hfb with ⟨f1, f2⟩ | ⟨f1, f2⟩ <;> rw [f1, f2] <;> rfl
  clear hfb hfe
  go_quiet (fail)
  go_wp2
  clear hx0 hfe2
  go_loopw [11, 12] (fun f i wr => LexRel X Y V f i wr) (fun _ i _ => 16 - (intOf i).toNat)
  case atStart => exact ⟨0, _, 0, 0, by omega, rfl, Lib.hid rfl, rfl, .inl ⟨rfl, fun j hj => by omega⟩, rfl⟩
  case round =>
    obtain ⟨k, nd, K, q, hk, rfl, hK, rfl, hst, rfl⟩ := hrel
    have hKe := hK.out
    by_cases hgo : k < 16 ∧ q = 0
    · obtain ⟨hlt, rfl⟩ := hgo
      obtain ⟨b', o', e', hx⟩ := XR.out k (by rw [HXL.out]; exact hlt)
      injection e' with e'; injection e' with e1 e2; subst e1 e2
      obtain ⟨b', o', e', hy⟩ := YR.out k (by rw [HYL.out]; exact hlt)
      injection e' with e'; injection e' with e1 e2; subst e1 e2
      have hcase := hst.step HXB.out HYB.out hlt
      generalize X.getD k 0 = x at *
      generalize Y.getD k 0 = y at *
      have hK0 : 0 ≤ K := by omega
      have hK16 : K < 16 := by omega
      have hKt : K.toNat = k := by omega
      have fin : ∀ nd' q', LexSt X Y (k + 1) q' → LexRel X Y V (.int .i64 q') (.int .i64 (K + 1)) (V.drewN nd') := fun nd' q' h => ⟨k + 1, nd', K + 1, q', by omega, rfl, Lib.hid (by omega), rfl, h, rfl⟩
      have Fin := Lib.hid fin
      have hcase2 : ∃ q', Hid (LexSt X Y (k + 1) q') ∧ (q' = 1 ∧ decide (y < x) = true ∧ decide (x < y) = false ∨ q' = -1 ∧ decide (y < x) = false ∧ decide (x < y) = true ∨ q' = 0 ∧ decide (y < x) = false ∧ decide (x < y) = false) := by
        rcases hcase with ⟨h3, st⟩ | ⟨h3, st⟩ | ⟨h3, st⟩
        · exact ⟨1, Lib.hid st, .inl ⟨rfl, decide_eq_true h3, decide_eq_false (by omega)⟩⟩
        · exact ⟨-1, Lib.hid st, .inr (.inl ⟨rfl, decide_eq_false (by omega), decide_eq_true h3⟩)⟩
        · exact ⟨0, Lib.hid st, .inr (.inr ⟨rfl, decide_eq_false (by omega), decide_eq_false (by omega)⟩)⟩
      obtain ⟨q', st, hcase3⟩ := hcase2
      have HKE := Lib.hid hKe
      clear hcase fin hst hk hlt hKe hxc'
      rcases hcase3 with ⟨rfl, c1, c2⟩ | ⟨rfl, c1, c2⟩ | ⟨rfl, c1, c2⟩
      all_goals
        go_wp2
        go_quiet (fail)
        go_wp2
        go_quiet (fail)
        go_wp2
        go_roundw
        case rel => first | exact Fin.out _ _ st.out | (rw [World.drewN_drewN]; exact Fin.out _ _ st.out)
        case measure => have := HKE.out; simp only [intOf]; omega
    · have hf := hst.done (k := k) (by omega)
      have hexit : decide (K < 16) = false ∨ (decide (K < 16) = true ∧ (q == 0) = false) := by
        by_cases h16 : K < 16
        · refine .inr ⟨decide_eq_true h16, ?_⟩
          rw [beq_eq_false_iff_ne]
          intro h0
          exact hgo ⟨by omega, h0⟩
        · exact .inl (decide_eq_false h16)
      have hsign : (decide (h < 0) == decide (g < 0)) = true ∧ q = ordI za zb ∨ (decide (h < 0) == decide (g < 0)) = false := by
        by_cases hs : (h < 0 ↔ g < 0)
        · refine .inl ⟨?_, hf.trans (HO.out hs)⟩
          rw [show decide (h < 0) = decide (g < 0) from decide_eq_decide.2 hs]; simp
        · refine .inr ?_
          rw [beq_eq_false_iff_ne]
          intro e
          exact hs (decide_eq_decide.1 e)
      have CBk : Hid (∀ W, IntRow W ra .u8 R → Calls Try.prog 32 #[.slice ra R.length rc] W (BackOut R W)) := Lib.hid (fun W hr => wback_any ra rc R W hr HRB.out HRL.out)
      obtain ⟨b1', b2', -, -, bl'⟩ := Kb.out.two
      clear hf hgo hK hKe hk hst hxc' hxc hyc
      rcases hexit with c1 | ⟨c1, c2⟩ <;> rcases hsign with ⟨c3, rfl⟩ | c3
      · have h16c : R.length = 16 ∨ R.length ≠ 16 := by omega
        rcases h16c with h16 | h16
        · have hd16 : ((R.length : Int) != 16) = false := by simp; omega
          obtain ⟨p1, p2, ep, -, -, -, -⟩ := wI_letters (bv R 16)
          have CB3 := Lib.hid (fun W => wbytes_any (bv R 16) W)
          rw [byL_bv R HRB.out h16, ep] at CB3
          have CB4 : Hid (∀ W, IntRow W ra .u8 R → Calls Try.prog 32 #[.slice ra R.length rc] W (Gives (.tuple #[.agg #[.int .i64 p1, .int .u64 p2], .bool true]) W)) := Lib.hid (fun W hr => (CBk.out W hr).mono (fun e w' h => by unfold BackOut at h; rw [if_pos h16, decide_eq_true h16, ep] at h; exact h))
          have CS : Hid (∀ W a c, IntRow W a .u8 R → IntRow W ra .u8 R → Calls Try.prog 34 #[.slice a 16 c, .slice ra R.length rc] W (fun e w' => e = .returned (.bool true) ∧ ∃ n, w' = W.drewN n)) := Lib.hid (fun W a c h1 h2 => by
            have h := sameBytes_any a ra c rc R R W h1 h2 (by omega) HRL.out
            rw [h16] at h ⊢
            exact h.mono (fun e w' ⟨h3, h4⟩ => ⟨by rw [h3, decide_eq_true rfl], h4⟩))
          have H16 := Lib.hid h16
          clear h16
          have RD : Hid (IntRow (V.drewN nd) ra .u8 R) := Lib.hid HR.out
          have BD := Lib.hid (below_drewN BV.out nd)
          go_wp2_with fail
          refine (CC.out _).mono ?_
          rintro _ w7 ⟨rfl, hb7⟩
          have R7 := Lib.hid (RD.out.below hb7)
          have B7 := Lib.hid (BD.out.trans (hb7.mono BD.out.size))
          clear hb7
          go_wp2_with fail
          refine (CB4.out _ R7.out).mono ?_
          rintro _ w8 ⟨rfl, hb8⟩
          have B8 := Lib.hid (B7.out.trans (hb8.mono B7.out.size))
          have R8 := Lib.hid ((R7.out.below hb8).alloc (.cells #[.int .i64 p1, .int .u64 p2] 24))
          have B9 := Lib.hid (B8.out.alloc B8.out.size (.cells #[.int .i64 p1, .int .u64 p2] 24))
          clear hb8
          go_wp2_with fail
          refine (CB3.out _).mono ?_
          rintro _ w9 ⟨v9, rfl, hv9, hb9⟩
          obtain ⟨zb', zo, zc, rfl, -, hz⟩ := bytes16 hv9 H16.out
          have Z9 := Lib.hid hz
          have R9 := Lib.hid (R8.out.below hb9)
          have BA := Lib.hid (B9.out.trans (hb9.mono B9.out.size))
          clear hz hv9 hb9
          go_wp2_with fail
          refine (CS.out _ _ _ Z9.out R9.out).mono ?_
          rintro _ wa ⟨rfl, na, hwa⟩
          cases hwa
          go_wp2
          go_ret
          exact ⟨rfl, below_drewN BA.out na⟩
        · have hd16 : ((R.length : Int) != 16) = true := by simp; omega
          have CB4 : Hid (∀ W, IntRow W ra .u8 R → Calls Try.prog 32 #[.slice ra R.length rc] W (Gives (.tuple #[.agg #[.int .i64 0, .int .u64 0], .bool false]) W)) := Lib.hid (fun W hr => (CBk.out W hr).mono (fun e w' h => by unfold BackOut at h; rw [if_neg h16, decide_eq_false h16, wI_zero] at h; exact h))
          clear h16
          have RD : Hid (IntRow (V.drewN nd) ra .u8 R) := Lib.hid HR.out
          have BD := Lib.hid (below_drewN BV.out nd)
          go_wp2_with fail
          refine (CC.out _).mono ?_
          rintro _ w7 ⟨rfl, hb7⟩
          have R7 := Lib.hid (RD.out.below hb7)
          have B7 := Lib.hid (BD.out.trans (hb7.mono BD.out.size))
          clear hb7
          go_wp2_with fail
          refine (CB4.out _ R7.out).mono ?_
          rintro _ w8 ⟨rfl, hb8⟩
          have B8 := Lib.hid (B7.out.trans (hb8.mono B7.out.size))
          clear hb8
          go_wp2
          go_ret
          exact ⟨rfl, B8.out.alloc B8.out.size _⟩
      · have h16c : R.length = 16 ∨ R.length ≠ 16 := by omega
        rcases h16c with h16 | h16
        · have hd16 : ((R.length : Int) != 16) = false := by simp; omega
          obtain ⟨p1, p2, ep, -, -, -, -⟩ := wI_letters (bv R 16)
          have CB3 := Lib.hid (fun W => wbytes_any (bv R 16) W)
          rw [byL_bv R HRB.out h16, ep] at CB3
          have CB4 : Hid (∀ W, IntRow W ra .u8 R → Calls Try.prog 32 #[.slice ra R.length rc] W (Gives (.tuple #[.agg #[.int .i64 p1, .int .u64 p2], .bool true]) W)) := Lib.hid (fun W hr => (CBk.out W hr).mono (fun e w' h => by unfold BackOut at h; rw [if_pos h16, decide_eq_true h16, ep] at h; exact h))
          have CS : Hid (∀ W a c, IntRow W a .u8 R → IntRow W ra .u8 R → Calls Try.prog 34 #[.slice a 16 c, .slice ra R.length rc] W (fun e w' => e = .returned (.bool true) ∧ ∃ n, w' = W.drewN n)) := Lib.hid (fun W a c h1 h2 => by
            have h := sameBytes_any a ra c rc R R W h1 h2 (by omega) HRL.out
            rw [h16] at h ⊢
            exact h.mono (fun e w' ⟨h3, h4⟩ => ⟨by rw [h3, decide_eq_true rfl], h4⟩))
          have H16 := Lib.hid h16
          clear h16
          have RD : Hid (IntRow (V.drewN nd) ra .u8 R) := Lib.hid HR.out
          have BD := Lib.hid (below_drewN BV.out nd)
          go_wp2_with fail
          have R7 := RD
          have B7 := BD
          refine (CB4.out _ R7.out).mono ?_
          rintro _ w8 ⟨rfl, hb8⟩
          have B8 := Lib.hid (B7.out.trans (hb8.mono B7.out.size))
          have R8 := Lib.hid ((R7.out.below hb8).alloc (.cells #[.int .i64 p1, .int .u64 p2] 24))
          have B9 := Lib.hid (B8.out.alloc B8.out.size (.cells #[.int .i64 p1, .int .u64 p2] 24))
          clear hb8
          go_wp2_with fail
          refine (CB3.out _).mono ?_
          rintro _ w9 ⟨v9, rfl, hv9, hb9⟩
          obtain ⟨zb', zo, zc, rfl, -, hz⟩ := bytes16 hv9 H16.out
          have Z9 := Lib.hid hz
          have R9 := Lib.hid (R8.out.below hb9)
          have BA := Lib.hid (B9.out.trans (hb9.mono B9.out.size))
          clear hz hv9 hb9
          go_wp2_with fail
          refine (CS.out _ _ _ Z9.out R9.out).mono ?_
          rintro _ wa ⟨rfl, na, hwa⟩
          cases hwa
          go_wp2
          go_ret
          exact ⟨rfl, below_drewN BA.out na⟩
        · have hd16 : ((R.length : Int) != 16) = true := by simp; omega
          have CB4 : Hid (∀ W, IntRow W ra .u8 R → Calls Try.prog 32 #[.slice ra R.length rc] W (Gives (.tuple #[.agg #[.int .i64 0, .int .u64 0], .bool false]) W)) := Lib.hid (fun W hr => (CBk.out W hr).mono (fun e w' h => by unfold BackOut at h; rw [if_neg h16, decide_eq_false h16, wI_zero] at h; exact h))
          clear h16
          have RD : Hid (IntRow (V.drewN nd) ra .u8 R) := Lib.hid HR.out
          have BD := Lib.hid (below_drewN BV.out nd)
          go_wp2_with fail
          have R7 := RD
          have B7 := BD
          refine (CB4.out _ R7.out).mono ?_
          rintro _ w8 ⟨rfl, hb8⟩
          have B8 := Lib.hid (B7.out.trans (hb8.mono B7.out.size))
          clear hb8
          go_wp2
          go_ret
          exact ⟨rfl, B8.out.alloc B8.out.size _⟩
      · have h16c : R.length = 16 ∨ R.length ≠ 16 := by omega
        rcases h16c with h16 | h16
        · have hd16 : ((R.length : Int) != 16) = false := by simp; omega
          obtain ⟨p1, p2, ep, -, -, -, -⟩ := wI_letters (bv R 16)
          have CB3 := Lib.hid (fun W => wbytes_any (bv R 16) W)
          rw [byL_bv R HRB.out h16, ep] at CB3
          have CB4 : Hid (∀ W, IntRow W ra .u8 R → Calls Try.prog 32 #[.slice ra R.length rc] W (Gives (.tuple #[.agg #[.int .i64 p1, .int .u64 p2], .bool true]) W)) := Lib.hid (fun W hr => (CBk.out W hr).mono (fun e w' h => by unfold BackOut at h; rw [if_pos h16, decide_eq_true h16, ep] at h; exact h))
          have CS : Hid (∀ W a c, IntRow W a .u8 R → IntRow W ra .u8 R → Calls Try.prog 34 #[.slice a 16 c, .slice ra R.length rc] W (fun e w' => e = .returned (.bool true) ∧ ∃ n, w' = W.drewN n)) := Lib.hid (fun W a c h1 h2 => by
            have h := sameBytes_any a ra c rc R R W h1 h2 (by omega) HRL.out
            rw [h16] at h ⊢
            exact h.mono (fun e w' ⟨h3, h4⟩ => ⟨by rw [h3, decide_eq_true rfl], h4⟩))
          have H16 := Lib.hid h16
          clear h16
          have RD : Hid (IntRow (V.drewN nd) ra .u8 R) := Lib.hid HR.out
          have BD := Lib.hid (below_drewN BV.out nd)
          go_wp2_with fail
          refine (CC.out _).mono ?_
          rintro _ w7 ⟨rfl, hb7⟩
          have R7 := Lib.hid (RD.out.below hb7)
          have B7 := Lib.hid (BD.out.trans (hb7.mono BD.out.size))
          clear hb7
          go_wp2_with fail
          refine (CB4.out _ R7.out).mono ?_
          rintro _ w8 ⟨rfl, hb8⟩
          have B8 := Lib.hid (B7.out.trans (hb8.mono B7.out.size))
          have R8 := Lib.hid ((R7.out.below hb8).alloc (.cells #[.int .i64 p1, .int .u64 p2] 24))
          have B9 := Lib.hid (B8.out.alloc B8.out.size (.cells #[.int .i64 p1, .int .u64 p2] 24))
          clear hb8
          go_wp2_with fail
          refine (CB3.out _).mono ?_
          rintro _ w9 ⟨v9, rfl, hv9, hb9⟩
          obtain ⟨zb', zo, zc, rfl, -, hz⟩ := bytes16 hv9 H16.out
          have Z9 := Lib.hid hz
          have R9 := Lib.hid (R8.out.below hb9)
          have BA := Lib.hid (B9.out.trans (hb9.mono B9.out.size))
          clear hz hv9 hb9
          go_wp2_with fail
          refine (CS.out _ _ _ Z9.out R9.out).mono ?_
          rintro _ wa ⟨rfl, na, hwa⟩
          cases hwa
          go_wp2
          go_ret
          exact ⟨rfl, below_drewN BA.out na⟩
        · have hd16 : ((R.length : Int) != 16) = true := by simp; omega
          have CB4 : Hid (∀ W, IntRow W ra .u8 R → Calls Try.prog 32 #[.slice ra R.length rc] W (Gives (.tuple #[.agg #[.int .i64 0, .int .u64 0], .bool false]) W)) := Lib.hid (fun W hr => (CBk.out W hr).mono (fun e w' h => by unfold BackOut at h; rw [if_neg h16, decide_eq_false h16, wI_zero] at h; exact h))
          clear h16
          have RD : Hid (IntRow (V.drewN nd) ra .u8 R) := Lib.hid HR.out
          have BD := Lib.hid (below_drewN BV.out nd)
          go_wp2_with fail
          refine (CC.out _).mono ?_
          rintro _ w7 ⟨rfl, hb7⟩
          have R7 := Lib.hid (RD.out.below hb7)
          have B7 := Lib.hid (BD.out.trans (hb7.mono BD.out.size))
          clear hb7
          go_wp2_with fail
          refine (CB4.out _ R7.out).mono ?_
          rintro _ w8 ⟨rfl, hb8⟩
          have B8 := Lib.hid (B7.out.trans (hb8.mono B7.out.size))
          clear hb8
          go_wp2
          go_ret
          exact ⟨rfl, B8.out.alloc B8.out.size _⟩
      · have h16c : R.length = 16 ∨ R.length ≠ 16 := by omega
        rcases h16c with h16 | h16
        · have hd16 : ((R.length : Int) != 16) = false := by simp; omega
          obtain ⟨p1, p2, ep, -, -, -, -⟩ := wI_letters (bv R 16)
          have CB3 := Lib.hid (fun W => wbytes_any (bv R 16) W)
          rw [byL_bv R HRB.out h16, ep] at CB3
          have CB4 : Hid (∀ W, IntRow W ra .u8 R → Calls Try.prog 32 #[.slice ra R.length rc] W (Gives (.tuple #[.agg #[.int .i64 p1, .int .u64 p2], .bool true]) W)) := Lib.hid (fun W hr => (CBk.out W hr).mono (fun e w' h => by unfold BackOut at h; rw [if_pos h16, decide_eq_true h16, ep] at h; exact h))
          have CS : Hid (∀ W a c, IntRow W a .u8 R → IntRow W ra .u8 R → Calls Try.prog 34 #[.slice a 16 c, .slice ra R.length rc] W (fun e w' => e = .returned (.bool true) ∧ ∃ n, w' = W.drewN n)) := Lib.hid (fun W a c h1 h2 => by
            have h := sameBytes_any a ra c rc R R W h1 h2 (by omega) HRL.out
            rw [h16] at h ⊢
            exact h.mono (fun e w' ⟨h3, h4⟩ => ⟨by rw [h3, decide_eq_true rfl], h4⟩))
          have H16 := Lib.hid h16
          clear h16
          have RD : Hid (IntRow (V.drewN nd) ra .u8 R) := Lib.hid HR.out
          have BD := Lib.hid (below_drewN BV.out nd)
          go_wp2_with fail
          have R7 := RD
          have B7 := BD
          refine (CB4.out _ R7.out).mono ?_
          rintro _ w8 ⟨rfl, hb8⟩
          have B8 := Lib.hid (B7.out.trans (hb8.mono B7.out.size))
          have R8 := Lib.hid ((R7.out.below hb8).alloc (.cells #[.int .i64 p1, .int .u64 p2] 24))
          have B9 := Lib.hid (B8.out.alloc B8.out.size (.cells #[.int .i64 p1, .int .u64 p2] 24))
          clear hb8
          go_wp2_with fail
          refine (CB3.out _).mono ?_
          rintro _ w9 ⟨v9, rfl, hv9, hb9⟩
          obtain ⟨zb', zo, zc, rfl, -, hz⟩ := bytes16 hv9 H16.out
          have Z9 := Lib.hid hz
          have R9 := Lib.hid (R8.out.below hb9)
          have BA := Lib.hid (B9.out.trans (hb9.mono B9.out.size))
          clear hz hv9 hb9
          go_wp2_with fail
          refine (CS.out _ _ _ Z9.out R9.out).mono ?_
          rintro _ wa ⟨rfl, na, hwa⟩
          cases hwa
          go_wp2
          go_ret
          exact ⟨rfl, below_drewN BA.out na⟩
        · have hd16 : ((R.length : Int) != 16) = true := by simp; omega
          have CB4 : Hid (∀ W, IntRow W ra .u8 R → Calls Try.prog 32 #[.slice ra R.length rc] W (Gives (.tuple #[.agg #[.int .i64 0, .int .u64 0], .bool false]) W)) := Lib.hid (fun W hr => (CBk.out W hr).mono (fun e w' h => by unfold BackOut at h; rw [if_neg h16, decide_eq_false h16, wI_zero] at h; exact h))
          clear h16
          have RD : Hid (IntRow (V.drewN nd) ra .u8 R) := Lib.hid HR.out
          have BD := Lib.hid (below_drewN BV.out nd)
          go_wp2_with fail
          have R7 := RD
          have B7 := BD
          refine (CB4.out _ R7.out).mono ?_
          rintro _ w8 ⟨rfl, hb8⟩
          have B8 := Lib.hid (B7.out.trans (hb8.mono B7.out.size))
          clear hb8
          go_wp2
          go_ret
          exact ⟨rfl, B8.out.alloc B8.out.size _⟩
end Go.Proofs.Ytngjefoipdcldaa
