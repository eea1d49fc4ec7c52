/- noonmarklaw19.GridAnswers, walked where both are ones. -/
import Derived.Test.YthipeefhkaanbaaAlive
import Derived.Test.YthipeefhkaanbaaRefH
import Derived.Test.YthipeefhkaanbaaRefM
import Derived.Deep.RegionHeld3
namespace Go.Proofs.Ythipeefhkaanbaa
open Go.RowKit
set_option linter.unusedVariables false

set_option maxHeartbeats 16000000 in
set_option maxRecDepth 100000 in
theorem answ_ok (wd p m t a b SL SH SE PV PE TW U V : Int) (CB : Bool) (w : World)
    (CN : Hid (∀ W, Calls Try.prog 8 #[.int .i64 wd, .int .i64 p, .int .i64 m] W (Gives (.tuple #[.agg #[.int .i64 wd, .int .i64 p, .int .i64 m], .int .i64 0]) W)))
    (CO : Hid (∀ W, Calls Try.prog 10 #[.agg #[.int .i64 wd, .int .i64 p, .int .i64 m]] W (Gives (.agg #[.int .i64 wd, .int .i64 p, .int .i64 m]) W)))
    (CR : Hid (∀ W, Calls Try.prog 9 #[.agg #[.int .i64 wd, .int .i64 p, .int .i64 m]] W (Gives (.bool true) W)))
    (CS : Hid (∀ W, Calls Try.prog 11 #[.agg #[.int .i64 wd, .int .i64 p, .int .i64 m], .int .i64 t] W (Gives (.tuple #[.agg #[.int .i64 SL, .int .i64 SH], .int .i64 SE]) W)))
    (RS : Hid (∀ W, Calls Try.prog 12 #[.agg #[.int .i64 wd, .int .i64 p, .int .i64 m], .int .i64 t] W (Gives (.tuple #[.agg #[.int .i64 SL, .int .i64 SH], .int .i64 SE]) W)))
    (CP : Hid (∀ W, Calls Try.prog 13 #[.agg #[.int .i64 wd, .int .i64 p, .int .i64 m], .agg #[.int .i64 a, .int .i64 b]] W (Gives (.tuple #[.int .i64 PV, .int .i64 PE]) W)))
    (RP : Hid (∀ W, Calls Try.prog 14 #[.agg #[.int .i64 wd, .int .i64 p, .int .i64 m], .agg #[.int .i64 a, .int .i64 b]] W (Gives (.tuple #[.int .i64 PV, .int .i64 PE]) W)))
    (CM : Hid (∀ W, Calls Try.prog 15 #[.agg #[.int .i64 wd, .int .i64 p, .int .i64 m], .agg #[.int .i64 a, .int .i64 b]] W (Gives (.tuple #[.int .i64 U, .int .i64 V, .int .i64 0]) W)))
    (CW : Hid (∀ W, Calls Try.prog 16 #[.agg #[.int .i64 wd, .int .i64 p, .int .i64 m], .int .i64 t] W (Gives (.int .i64 TW) W)))
    (RW : Hid (∀ W, Calls Try.prog 17 #[.agg #[.int .i64 wd, .int .i64 p, .int .i64 m], .int .i64 t] W (Gives (.int .i64 TW) W)))
    (CC : Hid (∀ W, Calls Try.prog 18 #[.agg #[.int .i64 wd, .int .i64 p, .int .i64 m], .agg #[.int .i64 a, .int .i64 b]] W (Gives (.bool CB) W)))
    (CY : Hid (∀ W, Calls Try.prog 19 #[.agg #[.int .i64 a, .int .i64 b]] W (Gives (.bool true) W)))
    (CU : Hid (∀ W, Calls Try.prog 17 #[.agg #[.int .i64 wd, .int .i64 p, .int .i64 m], .int .i64 a] W (Gives (.int .i64 U) W)))
    (CV : Hid (∀ W, Calls Try.prog 17 #[.agg #[.int .i64 wd, .int .i64 p, .int .i64 m], .int .i64 b] W (Gives (.int .i64 V) W)))
    (hc : (U == V) = CB) :
    Calls Try.prog 3 #[.agg #[.int .i64 wd, .int .i64 p, .int .i64 m], .int .i64 t, .agg #[.int .i64 a, .int .i64 b]] w fun e w' => e = .returned (.bool true) ∧ Below w.heap.size w w' := by
  go_enter Try.func3, Try.ntmps3
  have B0 : Hid (Below w.heap.size w w) := Lib.hid (Below.refl w.heap.size w)
  go_wp2_with fail
  refine (alive_any _).mono ?_
  rintro e1 w1 ⟨rfl, hb1⟩
  have Kg : Hid (Kept w1 _ #[.int .i64 wd, .int .i64 p, .int .i64 m] 23) := Lib.hid (((Kept.new (w := w) (cs := #[.int .i64 wd, .int .i64 p, .int .i64 m]) (t := 23) rfl).alloc (.cells #[.int .i64 a, .int .i64 b] 25)).next hb1)
  have Kx : Hid (Kept w1 _ #[.int .i64 a, .int .i64 b] 25) := Lib.hid ((Kept.new (w := (w.alloc (.cells #[.int .i64 wd, .int .i64 p, .int .i64 m] 23))) (g := w.heap.size + 1) (cs := #[.int .i64 a, .int .i64 b]) (t := 25) (by simp)).next hb1)
  have B1 : Hid (Below w.heap.size w w1) := Lib.hid (bnext (((((B0.out).alloc (by have := B0.out.size; first | omega | (simp <;> omega)) _)).alloc (by have := B0.out.size; first | omega | (simp <;> omega)) _)) (by have := B0.out.size; first | omega | (simp <;> omega)) hb1)
  clear hb1
  obtain ⟨g1, g2, g3, -, -, -, gl⟩ := Kg.out.three
  go_wp2_with fail
  refine (CN.out _).mono ?_
  rintro e2 w2 ⟨rfl, hb2⟩
  clear g1 g2 g3 gl
  have Kg : Hid (Kept w2 _ _ _) := Lib.hid (Kg.out.next hb2)
  have Kx : Hid (Kept w2 _ _ _) := Lib.hid (Kx.out.next hb2)
  have B2 : Hid (Below w.heap.size w w2) := Lib.hid (bnext (B1.out) (by have := B1.out.size; first | omega | (simp <;> omega)) hb2)
  clear hb2
  obtain ⟨g1, g2, g3, -, -, -, gl⟩ := Kg.out.three
  go_wp2_with fail
  refine (CO.out _).mono ?_
  rintro e3 w3 ⟨rfl, hb3⟩
  clear g1 g2 g3 gl
  have Kg : Hid (Kept w3 _ _ _) := Lib.hid ((Kg.out.alloc _).next hb3)
  have Kx : Hid (Kept w3 _ _ _) := Lib.hid ((Kx.out.alloc _).next hb3)
  have Kn : Hid (Kept w3 _ #[.int .i64 wd, .int .i64 p, .int .i64 m] 23) := Lib.hid ((Kept.new (w := w2) (cs := #[.int .i64 wd, .int .i64 p, .int .i64 m]) (t := 23) rfl).next hb3)
  have B3 : Hid (Below w.heap.size w w3) := Lib.hid (bnext (((B2.out).alloc (by have := B2.out.size; first | omega | (simp <;> omega)) _)) (by have := B2.out.size; first | omega | (simp <;> omega)) hb3)
  clear hb3
  go_wp2_with fail
  refine (CR.out _).mono ?_
  rintro e4 w4 ⟨rfl, hb4⟩
  have Kg : Hid (Kept w4 _ _ _) := Lib.hid (Kg.out.next hb4)
  have Kx : Hid (Kept w4 _ _ _) := Lib.hid (Kx.out.next hb4)
  have Kn : Hid (Kept w4 _ _ _) := Lib.hid (Kn.out.next hb4)
  have B4 : Hid (Below w.heap.size w w4) := Lib.hid (bnext (B3.out) (by have := B3.out.size; first | omega | (simp <;> omega)) hb4)
  clear hb4
  obtain ⟨g1, g2, g3, -, -, -, gl⟩ := Kg.out.three
  obtain ⟨n1, n2, n3, -, -, -, nl⟩ := Kn.out.three
  obtain ⟨x1, x2, -, -, xl⟩ := Kx.out.two
  go_wp2_with fail
  refine (CS.out _).mono ?_
  rintro e5 w5 ⟨rfl, hb5⟩
  clear g1 g2 g3 gl
  clear n1 n2 n3 nl
  clear x1 x2 xl
  have Kg : Hid (Kept w5 _ _ _) := Lib.hid ((Kg.out.alloc _).next hb5)
  have Kx : Hid (Kept w5 _ _ _) := Lib.hid ((Kx.out.alloc _).next hb5)
  have Kn : Hid (Kept w5 _ _ _) := Lib.hid ((Kn.out.alloc _).next hb5)
  have Ky : Hid (Kept w5 _ #[.int .i64 a, .int .i64 b] 33) := Lib.hid ((Kept.new (w := w4) (cs := #[.int .i64 a, .int .i64 b]) (t := 33) rfl).next hb5)
  have B5 : Hid (Below w.heap.size w w5) := Lib.hid (bnext (((B4.out).alloc (by have := B4.out.size; first | omega | (simp <;> omega)) _)) (by have := B4.out.size; first | omega | (simp <;> omega)) hb5)
  clear hb5
  obtain ⟨g1, g2, g3, -, -, -, gl⟩ := Kg.out.three
  go_wp2_with fail
  refine (CO.out _).mono ?_
  rintro e6 w6 ⟨rfl, hb6⟩
  clear g1 g2 g3 gl
  have Kg : Hid (Kept w6 _ _ _) := Lib.hid ((Kg.out.alloc _).next hb6)
  have Kx : Hid (Kept w6 _ _ _) := Lib.hid ((Kx.out.alloc _).next hb6)
  have Kn : Hid (Kept w6 _ _ _) := Lib.hid ((Kn.out.alloc _).next hb6)
  have Ky : Hid (Kept w6 _ _ _) := Lib.hid ((Ky.out.alloc _).next hb6)
  have Ks : Hid (Kept w6 _ #[.int .i64 SL, .int .i64 SH] 25) := Lib.hid ((Kept.new (w := w5) (cs := #[.int .i64 SL, .int .i64 SH]) (t := 25) rfl).next hb6)
  have B6 : Hid (Below w.heap.size w w6) := Lib.hid (bnext (((B5.out).alloc (by have := B5.out.size; first | omega | (simp <;> omega)) _)) (by have := B5.out.size; first | omega | (simp <;> omega)) hb6)
  clear hb6
  go_wp2_with fail
  refine (RS.out _).mono ?_
  rintro e7 w7 ⟨rfl, hb7⟩
  have Kg : Hid (Kept w7 _ _ _) := Lib.hid (Kg.out.next hb7)
  have Kx : Hid (Kept w7 _ _ _) := Lib.hid (Kx.out.next hb7)
  have Kn : Hid (Kept w7 _ _ _) := Lib.hid (Kn.out.next hb7)
  have Ky : Hid (Kept w7 _ _ _) := Lib.hid (Ky.out.next hb7)
  have Ks : Hid (Kept w7 _ _ _) := Lib.hid (Ks.out.next hb7)
  have B7 : Hid (Below w.heap.size w w7) := Lib.hid (bnext (B6.out) (by have := B6.out.size; first | omega | (simp <;> omega)) hb7)
  clear hb7
  obtain ⟨g1, g2, g3, -, -, -, gl⟩ := Kg.out.three
  obtain ⟨x1, x2, -, -, xl⟩ := Kx.out.two
  go_wp2_with fail
  refine (CP.out _).mono ?_
  rintro e8 w8 ⟨rfl, hb8⟩
  clear g1 g2 g3 gl
  clear x1 x2 xl
  have Kg : Hid (Kept w8 _ _ _) := Lib.hid ((Kg.out.alloc _).next hb8)
  have Kx : Hid (Kept w8 _ _ _) := Lib.hid ((Kx.out.alloc _).next hb8)
  have Kn : Hid (Kept w8 _ _ _) := Lib.hid ((Kn.out.alloc _).next hb8)
  have Ky : Hid (Kept w8 _ _ _) := Lib.hid ((Ky.out.alloc _).next hb8)
  have Ks : Hid (Kept w8 _ _ _) := Lib.hid ((Ks.out.alloc _).next hb8)
  have Ku : Hid (Kept w8 _ #[.int .i64 SL, .int .i64 SH] 33) := Lib.hid ((Kept.new (w := w7) (cs := #[.int .i64 SL, .int .i64 SH]) (t := 33) rfl).next hb8)
  have B8 : Hid (Below w.heap.size w w8) := Lib.hid (bnext (((B7.out).alloc (by have := B7.out.size; first | omega | (simp <;> omega)) _)) (by have := B7.out.size; first | omega | (simp <;> omega)) hb8)
  clear hb8
  obtain ⟨q0, q1, q2, q3, q4, q5, q6, q7, q8, q9, q10, q11⟩ : Hid (Below w.heap.size w w8) ∧ w8.cell? ⟨w.heap.size, 0, none⟩ = some (.int .i64 wd) ∧ w8.cell? ⟨w.heap.size, 1, none⟩ = some (.int .i64 p) ∧ w8.cell? ⟨w.heap.size, 2, none⟩ = some (.int .i64 m) ∧ w8.cell? ⟨w.heap.size + 1, 0, none⟩ = some (.int .i64 a) ∧ w8.cell? ⟨w.heap.size + 1, 1, none⟩ = some (.int .i64 b) ∧ w8.cell? ⟨w4.heap.size, 0, none⟩ = some (.int .i64 a) ∧ w8.cell? ⟨w4.heap.size, 1, none⟩ = some (.int .i64 b) ∧ w8.cell? ⟨w5.heap.size, 0, none⟩ = some (.int .i64 SL) ∧ w8.cell? ⟨w5.heap.size, 1, none⟩ = some (.int .i64 SH) ∧ w8.cell? ⟨w7.heap.size, 0, none⟩ = some (.int .i64 SL) ∧ w8.cell? ⟨w7.heap.size, 1, none⟩ = some (.int .i64 SH) := ⟨B8, Kg.out.three.1, Kg.out.three.2.1, Kg.out.three.2.2.1, Kx.out.two.1, Kx.out.two.2.1, Ky.out.two.1, Ky.out.two.2.1, Ks.out.two.1, Ks.out.two.2.1, Ku.out.two.1, Ku.out.two.2.1⟩
  clear Kg Kx Kn Ky Ks Ku
  have SS : Hid (Below w.heap.size w w8.drew) ∧ w8.drew.cell? ⟨w.heap.size, 0, none⟩ = some (.int .i64 wd) ∧ w8.drew.cell? ⟨w.heap.size, 1, none⟩ = some (.int .i64 p) ∧ w8.drew.cell? ⟨w.heap.size, 2, none⟩ = some (.int .i64 m) ∧ w8.drew.cell? ⟨w.heap.size + 1, 0, none⟩ = some (.int .i64 a) ∧ w8.drew.cell? ⟨w.heap.size + 1, 1, none⟩ = some (.int .i64 b) ∧ w8.drew.cell? ⟨w4.heap.size, 0, none⟩ = some (.int .i64 a) ∧ w8.drew.cell? ⟨w4.heap.size, 1, none⟩ = some (.int .i64 b) ∧ w8.drew.cell? ⟨w5.heap.size, 0, none⟩ = some (.int .i64 SL) ∧ w8.drew.cell? ⟨w5.heap.size, 1, none⟩ = some (.int .i64 SH) ∧ w8.drew.cell? ⟨w7.heap.size, 0, none⟩ = some (.int .i64 SL) ∧ w8.drew.cell? ⟨w7.heap.size, 1, none⟩ = some (.int .i64 SH) := ⟨Lib.hid (below_drewN q0.out 1), q1, q2, q3, q4, q5, q6, q7, q8, q9, q10, q11⟩
  clear q0 q1 q2 q3 q4 q5 q6 q7 q8 q9 q10 q11
  go_wp2
  have HLD := Lib.hid SS
  clear SS
  have SS := HLD.out
  go_region_held3 (fun w' => Hid (Below w.heap.size w w') ∧ w'.cell? ⟨w.heap.size, 0, none⟩ = some (.int .i64 wd) ∧ w'.cell? ⟨w.heap.size, 1, none⟩ = some (.int .i64 p) ∧ w'.cell? ⟨w.heap.size, 2, none⟩ = some (.int .i64 m) ∧ w'.cell? ⟨w.heap.size + 1, 0, none⟩ = some (.int .i64 a) ∧ w'.cell? ⟨w.heap.size + 1, 1, none⟩ = some (.int .i64 b) ∧ w'.cell? ⟨w4.heap.size, 0, none⟩ = some (.int .i64 a) ∧ w'.cell? ⟨w4.heap.size, 1, none⟩ = some (.int .i64 b) ∧ w'.cell? ⟨w5.heap.size, 0, none⟩ = some (.int .i64 SL) ∧ w'.cell? ⟨w5.heap.size, 1, none⟩ = some (.int .i64 SH) ∧ w'.cell? ⟨w7.heap.size, 0, none⟩ = some (.int .i64 SL) ∧ w'.cell? ⟨w7.heap.size, 1, none⟩ = some (.int .i64 SH))
    (first | exact SS | go_keep)
    (first
      | (go_at_call 10; refine (CO.out _).mono ?_; rintro _ v1 ⟨rfl, hv1⟩; have SS := keepB11 (a := w) hv1 SS)
      | (go_at_call 14; refine (RP.out _).mono ?_; rintro _ v2 ⟨rfl, hv2⟩; have SS := keepB11 (a := w) hv2 SS))
  all_goals
    clear HLD
    obtain ⟨q0, q1, q2, q3, q4, q5, q6, q7, q8, q9, q10, q11⟩ := SS
    go_wp2_with fail
    refine (CM.out _).mono ?_
    rintro _ v3 ⟨rfl, hb⟩
    have SS := keepB11 (a := w) hb ⟨q0, q1, q2, q3, q4, q5, q6, q7, q8, q9, q10, q11⟩
    clear hb q0 q1 q2 q3 q4 q5 q6 q7 q8 q9 q10 q11
    obtain ⟨q0, q1, q2, q3, q4, q5, q6, q7, q8, q9, q10, q11⟩ := SS
    have SS : Hid (Below w.heap.size w v3.drew) ∧ v3.drew.cell? ⟨w.heap.size, 0, none⟩ = some (.int .i64 wd) ∧ v3.drew.cell? ⟨w.heap.size, 1, none⟩ = some (.int .i64 p) ∧ v3.drew.cell? ⟨w.heap.size, 2, none⟩ = some (.int .i64 m) ∧ v3.drew.cell? ⟨w.heap.size + 1, 0, none⟩ = some (.int .i64 a) ∧ v3.drew.cell? ⟨w.heap.size + 1, 1, none⟩ = some (.int .i64 b) ∧ v3.drew.cell? ⟨w4.heap.size, 0, none⟩ = some (.int .i64 a) ∧ v3.drew.cell? ⟨w4.heap.size, 1, none⟩ = some (.int .i64 b) ∧ v3.drew.cell? ⟨w5.heap.size, 0, none⟩ = some (.int .i64 SL) ∧ v3.drew.cell? ⟨w5.heap.size, 1, none⟩ = some (.int .i64 SH) ∧ v3.drew.cell? ⟨w7.heap.size, 0, none⟩ = some (.int .i64 SL) ∧ v3.drew.cell? ⟨w7.heap.size, 1, none⟩ = some (.int .i64 SH) := ⟨Lib.hid (below_drewN q0.out 1), q1, q2, q3, q4, q5, q6, q7, q8, q9, q10, q11⟩
    clear q0 q1 q2 q3 q4 q5 q6 q7 q8 q9 q10 q11
    go_wp2
    have HLD := Lib.hid SS
    clear SS
    have SS := HLD.out
    go_region_held3 (fun w' => Hid (Below w.heap.size w w') ∧ w'.cell? ⟨w.heap.size, 0, none⟩ = some (.int .i64 wd) ∧ w'.cell? ⟨w.heap.size, 1, none⟩ = some (.int .i64 p) ∧ w'.cell? ⟨w.heap.size, 2, none⟩ = some (.int .i64 m) ∧ w'.cell? ⟨w.heap.size + 1, 0, none⟩ = some (.int .i64 a) ∧ w'.cell? ⟨w.heap.size + 1, 1, none⟩ = some (.int .i64 b) ∧ w'.cell? ⟨w4.heap.size, 0, none⟩ = some (.int .i64 a) ∧ w'.cell? ⟨w4.heap.size, 1, none⟩ = some (.int .i64 b) ∧ w'.cell? ⟨w5.heap.size, 0, none⟩ = some (.int .i64 SL) ∧ w'.cell? ⟨w5.heap.size, 1, none⟩ = some (.int .i64 SH) ∧ w'.cell? ⟨w7.heap.size, 0, none⟩ = some (.int .i64 SL) ∧ w'.cell? ⟨w7.heap.size, 1, none⟩ = some (.int .i64 SH))
      (first | exact SS | go_keep)
      (first
        | (go_at_call 16; refine (CW.out _).mono ?_; rintro _ v4 ⟨rfl, hv4⟩; have SS := keepB11 (a := w) hv4 SS)
        | (go_at_call 10; refine (CO.out _).mono ?_; rintro _ v5 ⟨rfl, hv5⟩; have SS := keepB11 (a := w) hv5 SS)
        | (go_at_call 17; refine (RW.out _).mono ?_; rintro _ v6 ⟨rfl, hv6⟩; have SS := keepB11 (a := w) hv6 SS))
    all_goals
      clear HLD
      obtain ⟨q0, q1, q2, q3, q4, q5, q6, q7, q8, q9, q10, q11⟩ := SS
      go_wp2_with fail
      refine (CY.out _).mono ?_
      rintro _ v7 ⟨rfl, hb⟩
      have SS := keepB11 (a := w) hb ⟨q0, q1, q2, q3, q4, q5, q6, q7, q8, q9, q10, q11⟩
      clear hb q0 q1 q2 q3 q4 q5 q6 q7 q8 q9 q10 q11
      obtain ⟨q0, q1, q2, q3, q4, q5, q6, q7, q8, q9, q10, q11⟩ := SS
      have SS : Hid (Below w.heap.size w v7.drew) ∧ v7.drew.cell? ⟨w.heap.size, 0, none⟩ = some (.int .i64 wd) ∧ v7.drew.cell? ⟨w.heap.size, 1, none⟩ = some (.int .i64 p) ∧ v7.drew.cell? ⟨w.heap.size, 2, none⟩ = some (.int .i64 m) ∧ v7.drew.cell? ⟨w.heap.size + 1, 0, none⟩ = some (.int .i64 a) ∧ v7.drew.cell? ⟨w.heap.size + 1, 1, none⟩ = some (.int .i64 b) ∧ v7.drew.cell? ⟨w4.heap.size, 0, none⟩ = some (.int .i64 a) ∧ v7.drew.cell? ⟨w4.heap.size, 1, none⟩ = some (.int .i64 b) ∧ v7.drew.cell? ⟨w5.heap.size, 0, none⟩ = some (.int .i64 SL) ∧ v7.drew.cell? ⟨w5.heap.size, 1, none⟩ = some (.int .i64 SH) ∧ v7.drew.cell? ⟨w7.heap.size, 0, none⟩ = some (.int .i64 SL) ∧ v7.drew.cell? ⟨w7.heap.size, 1, none⟩ = some (.int .i64 SH) := ⟨Lib.hid (below_drewN q0.out 1), q1, q2, q3, q4, q5, q6, q7, q8, q9, q10, q11⟩
      clear q0 q1 q2 q3 q4 q5 q6 q7 q8 q9 q10 q11
      go_wp2
      have HLD := Lib.hid SS
      clear SS
      have SS := HLD.out
      go_region_held3 (fun w' => Hid (Below w.heap.size w w') ∧ w'.cell? ⟨w.heap.size, 0, none⟩ = some (.int .i64 wd) ∧ w'.cell? ⟨w.heap.size, 1, none⟩ = some (.int .i64 p) ∧ w'.cell? ⟨w.heap.size, 2, none⟩ = some (.int .i64 m) ∧ w'.cell? ⟨w.heap.size + 1, 0, none⟩ = some (.int .i64 a) ∧ w'.cell? ⟨w.heap.size + 1, 1, none⟩ = some (.int .i64 b) ∧ w'.cell? ⟨w4.heap.size, 0, none⟩ = some (.int .i64 a) ∧ w'.cell? ⟨w4.heap.size, 1, none⟩ = some (.int .i64 b) ∧ w'.cell? ⟨w5.heap.size, 0, none⟩ = some (.int .i64 SL) ∧ w'.cell? ⟨w5.heap.size, 1, none⟩ = some (.int .i64 SH) ∧ w'.cell? ⟨w7.heap.size, 0, none⟩ = some (.int .i64 SL) ∧ w'.cell? ⟨w7.heap.size, 1, none⟩ = some (.int .i64 SH))
        (first | exact SS | go_keep)
        (first
          | (go_at_call 10; refine (CO.out _).mono ?_; rintro _ t1 ⟨rfl, ht1⟩; have SS := keepB11 (a := w) ht1 SS)
          | (go_at_call 17; refine (CU.out _).mono ?_; rintro _ t2 ⟨rfl, ht2⟩; have SS := keepB11 (a := w) ht2 SS))
      all_goals
        clear HLD
        obtain ⟨q0, q1, q2, q3, q4, q5, q6, q7, q8, q9, q10, q11⟩ := SS
        have SS : Hid (Below w.heap.size w t2.drew) ∧ t2.drew.cell? ⟨w.heap.size, 0, none⟩ = some (.int .i64 wd) ∧ t2.drew.cell? ⟨w.heap.size, 1, none⟩ = some (.int .i64 p) ∧ t2.drew.cell? ⟨w.heap.size, 2, none⟩ = some (.int .i64 m) ∧ t2.drew.cell? ⟨w.heap.size + 1, 0, none⟩ = some (.int .i64 a) ∧ t2.drew.cell? ⟨w.heap.size + 1, 1, none⟩ = some (.int .i64 b) ∧ t2.drew.cell? ⟨w4.heap.size, 0, none⟩ = some (.int .i64 a) ∧ t2.drew.cell? ⟨w4.heap.size, 1, none⟩ = some (.int .i64 b) ∧ t2.drew.cell? ⟨w5.heap.size, 0, none⟩ = some (.int .i64 SL) ∧ t2.drew.cell? ⟨w5.heap.size, 1, none⟩ = some (.int .i64 SH) ∧ t2.drew.cell? ⟨w7.heap.size, 0, none⟩ = some (.int .i64 SL) ∧ t2.drew.cell? ⟨w7.heap.size, 1, none⟩ = some (.int .i64 SH) := ⟨Lib.hid (below_drewN q0.out 1), q1, q2, q3, q4, q5, q6, q7, q8, q9, q10, q11⟩
        clear q0 q1 q2 q3 q4 q5 q6 q7 q8 q9 q10 q11
        go_wp2
        have HLD := Lib.hid SS
        clear SS
        have SS := HLD.out
        go_region_held3 (fun w' => Hid (Below w.heap.size w w') ∧ w'.cell? ⟨w.heap.size, 0, none⟩ = some (.int .i64 wd) ∧ w'.cell? ⟨w.heap.size, 1, none⟩ = some (.int .i64 p) ∧ w'.cell? ⟨w.heap.size, 2, none⟩ = some (.int .i64 m) ∧ w'.cell? ⟨w.heap.size + 1, 0, none⟩ = some (.int .i64 a) ∧ w'.cell? ⟨w.heap.size + 1, 1, none⟩ = some (.int .i64 b) ∧ w'.cell? ⟨w4.heap.size, 0, none⟩ = some (.int .i64 a) ∧ w'.cell? ⟨w4.heap.size, 1, none⟩ = some (.int .i64 b) ∧ w'.cell? ⟨w5.heap.size, 0, none⟩ = some (.int .i64 SL) ∧ w'.cell? ⟨w5.heap.size, 1, none⟩ = some (.int .i64 SH) ∧ w'.cell? ⟨w7.heap.size, 0, none⟩ = some (.int .i64 SL) ∧ w'.cell? ⟨w7.heap.size, 1, none⟩ = some (.int .i64 SH))
          (first | exact SS | go_keep)
          (first
            | (go_at_call 10; refine (CO.out _).mono ?_; rintro _ t3 ⟨rfl, ht3⟩; have SS := keepB11 (a := w) ht3 SS)
            | (go_at_call 17; refine (CV.out _).mono ?_; rintro _ t4 ⟨rfl, ht4⟩; have SS := keepB11 (a := w) ht4 SS))
        all_goals
          clear HLD
          obtain ⟨q0, q1, q2, q3, q4, q5, q6, q7, q8, q9, q10, q11⟩ := SS
          cases CB
          all_goals
            go_wp2_with fail
            refine (CC.out _).mono ?_
            rintro _ v8 ⟨rfl, hb⟩
            have SS := keepB11 (a := w) hb ⟨q0, q1, q2, q3, q4, q5, q6, q7, q8, q9, q10, q11⟩
            clear hb q0 q1 q2 q3 q4 q5 q6 q7 q8 q9 q10 q11
            obtain ⟨q0, q1, q2, q3, q4, q5, q6, q7, q8, q9, q10, q11⟩ := SS
            go_wp2
            go_ret
            exact ⟨rfl, q0.out⟩
end Go.Proofs.Ythipeefhkaanbaa
