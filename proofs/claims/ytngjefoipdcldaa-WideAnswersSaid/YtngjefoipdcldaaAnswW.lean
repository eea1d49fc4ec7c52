/- noonmarklaw02.WideAnswers, walked: for every input. -/
import Derived.Test.YtngjefoipdcldaaRefU
import Derived.Test.YtngjefoipdcldaaAlive
namespace Go.Proofs.Ytngjefoipdcldaa
open Go.RowKit
set_option linter.unusedVariables false

set_option maxHeartbeats 16000000 in
theorem answers_walk (za zb : Int) (h l g m : Int) (w : World) (ha : InW za) (hb : InW zb) (ea : wI za = .agg #[.int .i64 h, .int .u64 l]) (eb : wI zb = .agg #[.int .i64 g, .int .u64 m]) :
    Calls Try.prog 3 #[.agg #[.int .i64 h, .int .u64 l], .agg #[.int .i64 g, .int .u64 m]] w fun e w' => e = .returned (.bool true) ∧ Below w.heap.size w w' := by
  have C1 := Lib.hid (fun W => wadd_any za zb W ha hb)
  have C2 := Lib.hid (fun W => wsub_any za zb W ha hb)
  have C3 := Lib.hid (fun W => wlong_any za W ha)
  have CNA := Lib.hid (fun W => lnum_any za W ha)
  have CNB := Lib.hid (fun W => lnum_any zb W hb)
  have CL := Lib.hid (fun v W hn => long_any v za W hn)
  have CC := Lib.hid (fun W => wcmp_any za zb W ha hb)
  have hab : -(18446744073709551616 * 18446744073709551616 * 65536) < za + zb ∧ za + zb < 18446744073709551616 * 18446744073709551616 * 65536 := by unfold InW at ha hb; omega
  have hsb : -(18446744073709551616 * 18446744073709551616 * 65536) < za - zb ∧ za - zb < 18446744073709551616 * 18446744073709551616 * 65536 := by unfold InW at ha hb; omega
  have hua : Hund za := hund_small (by unfold InW at ha; omega)
  have hub : Hund zb := hund_small (by unfold InW at hb; omega)
  have CA : Hid (∀ W u v, NumAt W u za → NumAt W v zb → Calls Try.prog 15 #[u, v] W (NumOut (za + zb) W)) := Lib.hid (fun W u v h1 h2 => num_add u v _ _ W h1 h2 hua hub)
  have CD : Hid (∀ W u v, NumAt W u za → NumAt W v (-zb) → Calls Try.prog 15 #[u, v] W (NumOut (za - zb) W)) := Lib.hid (fun W u v h1 h2 => by
    have h := num_add u v _ _ W h1 h2 hua (hund_neg hub)
    rwa [← Int.sub_eq_add_neg] at h)
  have CG : Hid (∀ W u, NumAt W u zb → Calls Try.prog 16 #[u] W (NumOut (-zb) W)) := Lib.hid (fun W u h => num_neg u _ W h)
  have CR : Hid (∀ W u v, NumAt W u za → NumAt W v zb → Calls Try.prog 18 #[u, v] W (Gives (.int .i64 (ordI za zb)) W)) := Lib.hid (fun W u v h1 h2 => num_cmp u v _ _ W h1 h2 hua hub)
  have S1 : Hid (∀ W v, NumAt W v (za + zb) → Calls Try.prog 14 #[wI (vW (za + zb)), .int .i64 (eW (za + zb)), v] W (Gives (.bool true) W)) := Lib.hid (fun W v h => same_any _ v W h hab)
  have S2 : Hid (∀ W v, NumAt W v (za - zb) → Calls Try.prog 14 #[wI (vW (za - zb)), .int .i64 (eW (za - zb)), v] W (Gives (.bool true) W)) := Lib.hid (fun W v h => same_any _ v W h hsb)
  rw [ea, eb] at C1 C2 CC
  rw [ea] at C3 CNA
  rw [eb] at CNB
  obtain ⟨s1, s2, e3, -, -, -, -⟩ := wI_letters (vW (za + zb))
  obtain ⟨t1, t2, e4, -, -, -, -⟩ := wI_letters (vW (za - zb))
  rw [e3] at C1 S1
  rw [e4] at C2 S2
  generalize eW (za + zb) = er1 at *
  generalize eW (za - zb) = er2 at *
  generalize ordI za zb = oo at *
  have hcase : (Hid (InI za) ∧ decide (InI za) = true ∧ vI za = za) ∨ (Hid (¬ InI za) ∧ decide (InI za) = false ∧ vI za = 0) := by
    by_cases hi : InI za
    · exact .inl ⟨Lib.hid hi, decide_eq_true hi, vI_in hi⟩
    · exact .inr ⟨Lib.hid hi, decide_eq_false hi, vI_out hi⟩
  clear ha hb ea eb e3 e4 hab hsb hua hub
  rcases hcase with ⟨HI, d1, d2⟩ | ⟨HI, d1, d2⟩
  · go_enter Try.func3, Try.ntmps3
    have B0 : Hid (Below w.heap.size w w) := Lib.hid (Below.refl w.heap.size w)
    go_wp2_with fail
    refine (alive_any _).mono ?_
    rintro e1 w1 ⟨rfl, hb1⟩
    have Ka : Hid (Kept w1 _ #[.int .i64 h, .int .u64 l] 24) := Lib.hid (((Kept.new (w := w) (cs := #[.int .i64 h, .int .u64 l]) (t := 24) rfl).alloc (.cells #[.int .i64 g, .int .u64 m] 24)).next hb1)
    have Kb : Hid (Kept w1 _ #[.int .i64 g, .int .u64 m] 24) := Lib.hid ((Kept.new (w := (w.alloc (.cells #[.int .i64 h, .int .u64 l] 24))) (g := w.heap.size + 1) (cs := #[.int .i64 g, .int .u64 m]) (t := 24) (by simp)).next hb1)
    have B1 : Hid (Below w.heap.size w w1) := Lib.hid (bnext (((((B0.out).alloc (by have := B0.out.size; first | omega | (simp <;> omega)) _)).alloc (by have := B0.out.size; first | omega | (simp <;> omega)) _)) (by have := B0.out.size; first | omega | (simp <;> omega)) hb1)
    clear hb1
    obtain ⟨a1, a2, -, -, al⟩ := Ka.out.two
    obtain ⟨b1, b2, -, -, bl⟩ := Kb.out.two
    go_wp2_with fail
    refine (C1.out _).mono ?_
    rintro e2 w2 ⟨rfl, hb2⟩
    clear a1 a2 al
    clear b1 b2 bl
    have Ka : Hid (Kept w2 _ _ _) := Lib.hid (Ka.out.next hb2)
    have Kb : Hid (Kept w2 _ _ _) := Lib.hid (Kb.out.next hb2)
    have B2 : Hid (Below w.heap.size w w2) := Lib.hid (bnext (B1.out) (by have := B1.out.size; first | omega | (simp <;> omega)) hb2)
    clear hb2
    obtain ⟨a1, a2, -, -, al⟩ := Ka.out.two
    obtain ⟨b1, b2, -, -, bl⟩ := Kb.out.two
    go_wp2_with fail
    refine (C2.out _).mono ?_
    rintro e3 w3 ⟨rfl, hb3⟩
    clear a1 a2 al
    clear b1 b2 bl
    have Ka : Hid (Kept w3 _ _ _) := Lib.hid ((Ka.out.alloc _).next hb3)
    have Kb : Hid (Kept w3 _ _ _) := Lib.hid ((Kb.out.alloc _).next hb3)
    have Ks : Hid (Kept w3 _ #[.int .i64 s1, .int .u64 s2] 24) := Lib.hid ((Kept.new (w := w2) (cs := #[.int .i64 s1, .int .u64 s2]) (t := 24) rfl).next hb3)
    have B3 : Hid (Below w.heap.size w w3) := Lib.hid (bnext (((B2.out).alloc (by have := B2.out.size; first | omega | (simp <;> omega)) _)) (by have := B2.out.size; first | omega | (simp <;> omega)) hb3)
    clear hb3
    obtain ⟨a1, a2, -, -, al⟩ := Ka.out.two
    go_wp2_with fail
    refine (C3.out _).mono ?_
    rintro e4 w4 ⟨rfl, hb4⟩
    clear a1 a2 al
    have Ka : Hid (Kept w4 _ _ _) := Lib.hid ((Ka.out.alloc _).next hb4)
    have Kb : Hid (Kept w4 _ _ _) := Lib.hid ((Kb.out.alloc _).next hb4)
    have Ks : Hid (Kept w4 _ _ _) := Lib.hid ((Ks.out.alloc _).next hb4)
    have Kt : Hid (Kept w4 _ #[.int .i64 t1, .int .u64 t2] 24) := Lib.hid ((Kept.new (w := w3) (cs := #[.int .i64 t1, .int .u64 t2]) (t := 24) rfl).next hb4)
    have B4 : Hid (Below w.heap.size w w4) := Lib.hid (bnext (((B3.out).alloc (by have := B3.out.size; first | omega | (simp <;> omega)) _)) (by have := B3.out.size; first | omega | (simp <;> omega)) hb4)
    clear hb4
    obtain ⟨a1, a2, -, -, al⟩ := Ka.out.two
    go_wp2_with fail
    refine (CNA.out _).mono ?_
    rintro e5 w5 ⟨vn, rfl, hvn, hb5⟩
    clear a1 a2 al
    have Ka : Hid (Kept w5 _ _ _) := Lib.hid (Ka.out.next hb5)
    have Kb : Hid (Kept w5 _ _ _) := Lib.hid (Kb.out.next hb5)
    have Ks : Hid (Kept w5 _ _ _) := Lib.hid (Ks.out.next hb5)
    have Kt : Hid (Kept w5 _ _ _) := Lib.hid (Kt.out.next hb5)
    have B5 : Hid (Below w.heap.size w w5) := Lib.hid (bnext (B4.out) (by have := B4.out.size; first | omega | (simp <;> omega)) hb5)
    clear hb5
    have HVN := Lib.hid hvn
    clear hvn
    go_wp2_with fail
    refine (CL.out vn _ HVN.out).mono ?_
    rintro e6 w6 ⟨⟨u, rfl, hu⟩, hb6⟩
    have Ka : Hid (Kept w6 _ _ _) := Lib.hid (Ka.out.next hb6)
    have Kb : Hid (Kept w6 _ _ _) := Lib.hid (Kb.out.next hb6)
    have Ks : Hid (Kept w6 _ _ _) := Lib.hid (Ks.out.next hb6)
    have Kt : Hid (Kept w6 _ _ _) := Lib.hid (Kt.out.next hb6)
    have B6 : Hid (Below w.heap.size w w6) := Lib.hid (bnext (B5.out) (by have := B5.out.size; first | omega | (simp <;> omega)) hb6)
    clear hb6
    obtain rfl := hu HI.out
    rw [d1]
    have hsz : w.heap.size < w6.heap.size := Ka.out.lt
    go_wp2
    have SS : Hid (Below w.heap.size w w6.drew) ∧ w6.drew.cell? ⟨_, 0, none⟩ = _ ∧ w6.drew.cell? ⟨_, 1, none⟩ = _ ∧ w6.drew.cell? ⟨_, 0, none⟩ = _ ∧ w6.drew.cell? ⟨_, 1, none⟩ = _ ∧ w6.drew.cell? ⟨_, 0, none⟩ = _ ∧ w6.drew.cell? ⟨_, 1, none⟩ = _ ∧ w6.drew.cell? ⟨_, 0, none⟩ = _ ∧ w6.drew.cell? ⟨_, 1, none⟩ = _ := ⟨Lib.hid (below_drewN B6.out 1), Ka.out.two.1, Ka.out.two.2.1, Kb.out.two.1, Kb.out.two.2.1, Ks.out.two.1, Ks.out.two.2.1, Kt.out.two.1, Kt.out.two.2.1⟩
    obtain ⟨q0, q1, q2, q3, q4, q5, q6, q7, q8⟩ := SS
    have SH := Lib.hid (show Hid (Below w.heap.size w w6.drew) ∧ _ ∧ _ ∧ _ ∧ _ ∧ _ ∧ _ ∧ _ ∧ _ from ⟨q0, q1, q2, q3, q4, q5, q6, q7, q8⟩)
    have SS := SH.out
    go_region_held3 (fun w' => Hid (Below w.heap.size w w') ∧ w'.cell? ⟨w.heap.size, 0, none⟩ = some (.int .i64 h) ∧ w'.cell? ⟨w.heap.size, 1, none⟩ = some (.int .u64 l) ∧ w'.cell? ⟨w.heap.size + 1, 0, none⟩ = some (.int .i64 g) ∧ w'.cell? ⟨w.heap.size + 1, 1, none⟩ = some (.int .u64 m) ∧ w'.cell? ⟨w2.heap.size, 0, none⟩ = some (.int .i64 s1) ∧ w'.cell? ⟨w2.heap.size, 1, none⟩ = some (.int .u64 s2) ∧ w'.cell? ⟨w3.heap.size, 0, none⟩ = some (.int .i64 t1) ∧ w'.cell? ⟨w3.heap.size, 1, none⟩ = some (.int .u64 t2))
      (first | exact SS | go_keep)
      (first | (go_at_call_of 13 (Value.agg #[Value.int IntKind.i64 h, Value.int IntKind.u64 l]); refine (CNA.out _).mono ?_; rintro _ w21 ⟨vA, rfl, hnA, hb21⟩; have SS := keepB8 (a := w) hb21 SS; (try have hnB := NumAt.below hnB hb21); (try have hnS := NumAt.below hnS hb21); (try have hnN := NumAt.below hnN hb21); (try have hnD := NumAt.below hnD hb21)) | (go_at_call_of 13 (Value.agg #[Value.int IntKind.i64 g, Value.int IntKind.u64 m]); refine (CNB.out _).mono ?_; rintro _ w22 ⟨vB, rfl, hnB, hb22⟩; have SS := keepB8 (a := w) hb22 SS; (try have hnA := NumAt.below hnA hb22); (try have hnS := NumAt.below hnS hb22); (try have hnN := NumAt.below hnN hb22); (try have hnD := NumAt.below hnD hb22)) | (go_at_call 16; refine (CG.out _ vB hnB).mono ?_; rintro _ w23 ⟨vN, rfl, hnN, hb23⟩; have SS := keepB8 (a := w) hb23 SS; (try have hnA := NumAt.below hnA hb23); (try have hnB := NumAt.below hnB hb23); (try have hnS := NumAt.below hnS hb23); (try have hnD := NumAt.below hnD hb23)) | (go_at_call 15; (first | (skip; refine (CD.out _ vA vN hnA hnN).mono ?_; rintro _ w24 ⟨vD, rfl, hnD, hb24⟩; have SS := keepB8 (a := w) hb24 SS; (try have hnA := NumAt.below hnA hb24); (try have hnB := NumAt.below hnB hb24); (try have hnS := NumAt.below hnS hb24); (try have hnN := NumAt.below hnN hb24)) | (skip; refine (CA.out _ vA vB hnA hnB).mono ?_; rintro _ w25 ⟨vS, rfl, hnS, hb25⟩; have SS := keepB8 (a := w) hb25 SS; (try have hnA := NumAt.below hnA hb25); (try have hnB := NumAt.below hnB hb25); (try have hnN := NumAt.below hnN hb25); (try have hnD := NumAt.below hnD hb25)))) | (go_at_call 14; (first | (skip; refine (S2.out _ vD hnD).mono ?_; rintro _ w26 ⟨rfl, hb26⟩; have SS := keepB8 (a := w) hb26 SS; (try have hnA := NumAt.below hnA hb26); (try have hnB := NumAt.below hnB hb26); (try have hnS := NumAt.below hnS hb26); (try have hnN := NumAt.below hnN hb26); (try have hnD := NumAt.below hnD hb26)) | (skip; refine (S1.out _ vS hnS).mono ?_; rintro _ w27 ⟨rfl, hb27⟩; have SS := keepB8 (a := w) hb27 SS; (try have hnA := NumAt.below hnA hb27); (try have hnB := NumAt.below hnB hb27); (try have hnS := NumAt.below hnS hb27); (try have hnN := NumAt.below hnN hb27); (try have hnD := NumAt.below hnD hb27)))) | (go_at_call 17; refine (CC.out _).mono ?_; rintro _ w28 ⟨rfl, hb28⟩; have SS := keepB8 (a := w) hb28 SS; (try have hnA := NumAt.below hnA hb28); (try have hnB := NumAt.below hnB hb28); (try have hnS := NumAt.below hnS hb28); (try have hnN := NumAt.below hnN hb28); (try have hnD := NumAt.below hnD hb28)) | (go_at_call 18; refine (CR.out _ vA vB hnA hnB).mono ?_; rintro _ w29 ⟨rfl, hb29⟩; have SS := keepB8 (a := w) hb29 SS; (try have hnA := NumAt.below hnA hb29); (try have hnB := NumAt.below hnB hb29); (try have hnS := NumAt.below hnS hb29); (try have hnN := NumAt.below hnN hb29); (try have hnD := NumAt.below hnD hb29)))
    all_goals
      go_wp2
      go_ret
      exact ⟨rfl, SS.1.out⟩
  · go_enter Try.func3, Try.ntmps3
    have B0 : Hid (Below w.heap.size w w) := Lib.hid (Below.refl w.heap.size w)
    go_wp2_with fail
    refine (alive_any _).mono ?_
    rintro e1 w1 ⟨rfl, hb1⟩
    have Ka : Hid (Kept w1 _ #[.int .i64 h, .int .u64 l] 24) := Lib.hid (((Kept.new (w := w) (cs := #[.int .i64 h, .int .u64 l]) (t := 24) rfl).alloc (.cells #[.int .i64 g, .int .u64 m] 24)).next hb1)
    have Kb : Hid (Kept w1 _ #[.int .i64 g, .int .u64 m] 24) := Lib.hid ((Kept.new (w := (w.alloc (.cells #[.int .i64 h, .int .u64 l] 24))) (g := w.heap.size + 1) (cs := #[.int .i64 g, .int .u64 m]) (t := 24) (by simp)).next hb1)
    have B1 : Hid (Below w.heap.size w w1) := Lib.hid (bnext (((((B0.out).alloc (by have := B0.out.size; first | omega | (simp <;> omega)) _)).alloc (by have := B0.out.size; first | omega | (simp <;> omega)) _)) (by have := B0.out.size; first | omega | (simp <;> omega)) hb1)
    clear hb1
    obtain ⟨a1, a2, -, -, al⟩ := Ka.out.two
    obtain ⟨b1, b2, -, -, bl⟩ := Kb.out.two
    go_wp2_with fail
    refine (C1.out _).mono ?_
    rintro e2 w2 ⟨rfl, hb2⟩
    clear a1 a2 al
    clear b1 b2 bl
    have Ka : Hid (Kept w2 _ _ _) := Lib.hid (Ka.out.next hb2)
    have Kb : Hid (Kept w2 _ _ _) := Lib.hid (Kb.out.next hb2)
    have B2 : Hid (Below w.heap.size w w2) := Lib.hid (bnext (B1.out) (by have := B1.out.size; first | omega | (simp <;> omega)) hb2)
    clear hb2
    obtain ⟨a1, a2, -, -, al⟩ := Ka.out.two
    obtain ⟨b1, b2, -, -, bl⟩ := Kb.out.two
    go_wp2_with fail
    refine (C2.out _).mono ?_
    rintro e3 w3 ⟨rfl, hb3⟩
    clear a1 a2 al
    clear b1 b2 bl
    have Ka : Hid (Kept w3 _ _ _) := Lib.hid ((Ka.out.alloc _).next hb3)
    have Kb : Hid (Kept w3 _ _ _) := Lib.hid ((Kb.out.alloc _).next hb3)
    have Ks : Hid (Kept w3 _ #[.int .i64 s1, .int .u64 s2] 24) := Lib.hid ((Kept.new (w := w2) (cs := #[.int .i64 s1, .int .u64 s2]) (t := 24) rfl).next hb3)
    have B3 : Hid (Below w.heap.size w w3) := Lib.hid (bnext (((B2.out).alloc (by have := B2.out.size; first | omega | (simp <;> omega)) _)) (by have := B2.out.size; first | omega | (simp <;> omega)) hb3)
    clear hb3
    obtain ⟨a1, a2, -, -, al⟩ := Ka.out.two
    go_wp2_with fail
    refine (C3.out _).mono ?_
    rintro e4 w4 ⟨rfl, hb4⟩
    clear a1 a2 al
    have Ka : Hid (Kept w4 _ _ _) := Lib.hid ((Ka.out.alloc _).next hb4)
    have Kb : Hid (Kept w4 _ _ _) := Lib.hid ((Kb.out.alloc _).next hb4)
    have Ks : Hid (Kept w4 _ _ _) := Lib.hid ((Ks.out.alloc _).next hb4)
    have Kt : Hid (Kept w4 _ #[.int .i64 t1, .int .u64 t2] 24) := Lib.hid ((Kept.new (w := w3) (cs := #[.int .i64 t1, .int .u64 t2]) (t := 24) rfl).next hb4)
    have B4 : Hid (Below w.heap.size w w4) := Lib.hid (bnext (((B3.out).alloc (by have := B3.out.size; first | omega | (simp <;> omega)) _)) (by have := B3.out.size; first | omega | (simp <;> omega)) hb4)
    clear hb4
    obtain ⟨a1, a2, -, -, al⟩ := Ka.out.two
    go_wp2_with fail
    refine (CNA.out _).mono ?_
    rintro e5 w5 ⟨vn, rfl, hvn, hb5⟩
    clear a1 a2 al
    have Ka : Hid (Kept w5 _ _ _) := Lib.hid (Ka.out.next hb5)
    have Kb : Hid (Kept w5 _ _ _) := Lib.hid (Kb.out.next hb5)
    have Ks : Hid (Kept w5 _ _ _) := Lib.hid (Ks.out.next hb5)
    have Kt : Hid (Kept w5 _ _ _) := Lib.hid (Kt.out.next hb5)
    have B5 : Hid (Below w.heap.size w w5) := Lib.hid (bnext (B4.out) (by have := B4.out.size; first | omega | (simp <;> omega)) hb5)
    clear hb5
    have HVN := Lib.hid hvn
    clear hvn
    go_wp2_with fail
    refine (CL.out vn _ HVN.out).mono ?_
    rintro e6 w6 ⟨⟨u, rfl, hu⟩, hb6⟩
    have Ka : Hid (Kept w6 _ _ _) := Lib.hid (Ka.out.next hb6)
    have Kb : Hid (Kept w6 _ _ _) := Lib.hid (Kb.out.next hb6)
    have Ks : Hid (Kept w6 _ _ _) := Lib.hid (Ks.out.next hb6)
    have Kt : Hid (Kept w6 _ _ _) := Lib.hid (Kt.out.next hb6)
    have B6 : Hid (Below w.heap.size w w6) := Lib.hid (bnext (B5.out) (by have := B5.out.size; first | omega | (simp <;> omega)) hb6)
    clear hb6
    clear hu
    rw [d1]
    have hsz : w.heap.size < w6.heap.size := Ka.out.lt
    go_wp2
    have SS : Hid (Below w.heap.size w w6.drew) ∧ w6.drew.cell? ⟨_, 0, none⟩ = _ ∧ w6.drew.cell? ⟨_, 1, none⟩ = _ ∧ w6.drew.cell? ⟨_, 0, none⟩ = _ ∧ w6.drew.cell? ⟨_, 1, none⟩ = _ ∧ w6.drew.cell? ⟨_, 0, none⟩ = _ ∧ w6.drew.cell? ⟨_, 1, none⟩ = _ ∧ w6.drew.cell? ⟨_, 0, none⟩ = _ ∧ w6.drew.cell? ⟨_, 1, none⟩ = _ := ⟨Lib.hid (below_drewN B6.out 1), Ka.out.two.1, Ka.out.two.2.1, Kb.out.two.1, Kb.out.two.2.1, Ks.out.two.1, Ks.out.two.2.1, Kt.out.two.1, Kt.out.two.2.1⟩
    obtain ⟨q0, q1, q2, q3, q4, q5, q6, q7, q8⟩ := SS
    have SH := Lib.hid (show Hid (Below w.heap.size w w6.drew) ∧ _ ∧ _ ∧ _ ∧ _ ∧ _ ∧ _ ∧ _ ∧ _ from ⟨q0, q1, q2, q3, q4, q5, q6, q7, q8⟩)
    have SS := SH.out
    go_region_held3 (fun w' => Hid (Below w.heap.size w w') ∧ w'.cell? ⟨w.heap.size, 0, none⟩ = some (.int .i64 h) ∧ w'.cell? ⟨w.heap.size, 1, none⟩ = some (.int .u64 l) ∧ w'.cell? ⟨w.heap.size + 1, 0, none⟩ = some (.int .i64 g) ∧ w'.cell? ⟨w.heap.size + 1, 1, none⟩ = some (.int .u64 m) ∧ w'.cell? ⟨w2.heap.size, 0, none⟩ = some (.int .i64 s1) ∧ w'.cell? ⟨w2.heap.size, 1, none⟩ = some (.int .u64 s2) ∧ w'.cell? ⟨w3.heap.size, 0, none⟩ = some (.int .i64 t1) ∧ w'.cell? ⟨w3.heap.size, 1, none⟩ = some (.int .u64 t2))
      (first | exact SS | go_keep)
      (first | (go_at_call_of 13 (Value.agg #[Value.int IntKind.i64 h, Value.int IntKind.u64 l]); refine (CNA.out _).mono ?_; rintro _ w21 ⟨vA, rfl, hnA, hb21⟩; have SS := keepB8 (a := w) hb21 SS; (try have hnB := NumAt.below hnB hb21); (try have hnS := NumAt.below hnS hb21); (try have hnN := NumAt.below hnN hb21); (try have hnD := NumAt.below hnD hb21)) | (go_at_call_of 13 (Value.agg #[Value.int IntKind.i64 g, Value.int IntKind.u64 m]); refine (CNB.out _).mono ?_; rintro _ w22 ⟨vB, rfl, hnB, hb22⟩; have SS := keepB8 (a := w) hb22 SS; (try have hnA := NumAt.below hnA hb22); (try have hnS := NumAt.below hnS hb22); (try have hnN := NumAt.below hnN hb22); (try have hnD := NumAt.below hnD hb22)) | (go_at_call 16; refine (CG.out _ vB hnB).mono ?_; rintro _ w23 ⟨vN, rfl, hnN, hb23⟩; have SS := keepB8 (a := w) hb23 SS; (try have hnA := NumAt.below hnA hb23); (try have hnB := NumAt.below hnB hb23); (try have hnS := NumAt.below hnS hb23); (try have hnD := NumAt.below hnD hb23)) | (go_at_call 15; (first | (skip; refine (CD.out _ vA vN hnA hnN).mono ?_; rintro _ w24 ⟨vD, rfl, hnD, hb24⟩; have SS := keepB8 (a := w) hb24 SS; (try have hnA := NumAt.below hnA hb24); (try have hnB := NumAt.below hnB hb24); (try have hnS := NumAt.below hnS hb24); (try have hnN := NumAt.below hnN hb24)) | (skip; refine (CA.out _ vA vB hnA hnB).mono ?_; rintro _ w25 ⟨vS, rfl, hnS, hb25⟩; have SS := keepB8 (a := w) hb25 SS; (try have hnA := NumAt.below hnA hb25); (try have hnB := NumAt.below hnB hb25); (try have hnN := NumAt.below hnN hb25); (try have hnD := NumAt.below hnD hb25)))) | (go_at_call 14; (first | (skip; refine (S2.out _ vD hnD).mono ?_; rintro _ w26 ⟨rfl, hb26⟩; have SS := keepB8 (a := w) hb26 SS; (try have hnA := NumAt.below hnA hb26); (try have hnB := NumAt.below hnB hb26); (try have hnS := NumAt.below hnS hb26); (try have hnN := NumAt.below hnN hb26); (try have hnD := NumAt.below hnD hb26)) | (skip; refine (S1.out _ vS hnS).mono ?_; rintro _ w27 ⟨rfl, hb27⟩; have SS := keepB8 (a := w) hb27 SS; (try have hnA := NumAt.below hnA hb27); (try have hnB := NumAt.below hnB hb27); (try have hnS := NumAt.below hnS hb27); (try have hnN := NumAt.below hnN hb27); (try have hnD := NumAt.below hnD hb27)))) | (go_at_call 17; refine (CC.out _).mono ?_; rintro _ w28 ⟨rfl, hb28⟩; have SS := keepB8 (a := w) hb28 SS; (try have hnA := NumAt.below hnA hb28); (try have hnB := NumAt.below hnB hb28); (try have hnS := NumAt.below hnS hb28); (try have hnN := NumAt.below hnN hb28); (try have hnD := NumAt.below hnD hb28)) | (go_at_call 18; refine (CR.out _ vA vB hnA hnB).mono ?_; rintro _ w29 ⟨rfl, hb29⟩; have SS := keepB8 (a := w) hb29 SS; (try have hnA := NumAt.below hnA hb29); (try have hnB := NumAt.below hnB hb29); (try have hnS := NumAt.below hnS hb29); (try have hnN := NumAt.below hnN hb29); (try have hnD := NumAt.below hnD hb29)))
    all_goals
      go_wp2
      go_ret
      exact ⟨rfl, SS.1.out⟩
end Go.Proofs.Ytngjefoipdcldaa
