/- noonmarklaw03.GapAnswers, walked where the gap is none. -/
import Derived.Test.YtahenediimoboaaAlive
import Derived.Test.YtahenediimoboaaRefC
import Derived.Test.YtahenediimoboaaKeep
import Derived.Deep.RegionHeld3
namespace Go.Proofs.Ytahenediimoboaa
open Go.RowKit
set_option linter.unusedVariables false

set_option maxHeartbeats 16000000 in
set_option maxRecDepth 100000 in
theorem answ_bad (a b c d x y SL SH SE GL GH GE M : Int) (w : World)
    (CN : Hid (∀ W, Calls Try.prog 8 #[.int .i64 a, .int .i64 b] W (Gives (.tuple #[.agg #[.int .i64 0, .int .i64 0], .bool false]) W)))
    (CR : Hid (∀ W, Calls Try.prog 14 #[.agg #[.int .i64 a, .int .i64 b]] W (Gives (.bool false) W)))
    (CS : Hid (∀ W, Calls Try.prog 9 #[.agg #[.int .i64 a, .int .i64 b], .int .i64 x] W (Gives (.tuple #[.agg #[.int .i64 SL, .int .i64 SH], .int .i64 SE]) W)))
    (CG : Hid (∀ W, Calls Try.prog 10 #[.agg #[.int .i64 a, .int .i64 b], .int .i64 x, .int .i64 y] W (Gives (.tuple #[.agg #[.int .i64 GL, .int .i64 GH], .int .i64 GE]) W)))
    (RS : Hid (∀ W, Calls Try.prog 11 #[.agg #[.int .i64 a, .int .i64 b], .int .i64 x] W (Gives (.tuple #[.agg #[.int .i64 SL, .int .i64 SH], .int .i64 SE]) W)))
    (RG : Hid (∀ W, Calls Try.prog 13 #[.agg #[.int .i64 a, .int .i64 b], .int .i64 x, .int .i64 y] W (Gives (.tuple #[.agg #[.int .i64 GL, .int .i64 GH], .int .i64 GE]) W)))
    (CM : Hid (∀ W, Calls Try.prog 15 #[.agg #[.int .i64 a, .int .i64 b]] W (Gives (.int .i64 M) W)))
    (RM : Hid (∀ W, Calls Try.prog 16 #[.agg #[.int .i64 a, .int .i64 b]] W (Gives (.int .i64 M) W)))
    (CH : Hid (∀ W, Calls Try.prog 17 #[.agg #[.int .i64 a, .int .i64 b], .int .i64 x] W (Gives (.bool false) W)))
    (CI : Hid (∀ W, Calls Try.prog 18 #[.agg #[.int .i64 a, .int .i64 b], .agg #[.int .i64 c, .int .i64 d]] W (Gives (.bool false) W)))
    (CJ : Hid (∀ W, Calls Try.prog 18 #[.agg #[.int .i64 c, .int .i64 d], .agg #[.int .i64 a, .int .i64 b]] W (Gives (.bool false) W)))
    (CW : Hid (∀ W, Calls Try.prog 19 #[.agg #[.int .i64 a, .int .i64 b]] W (Gives (.int .u64 0) W)))
    (d0 : decide (a ≤ b) = false) :
    Calls Try.prog 3 #[.agg #[.int .i64 a, .int .i64 b], .agg #[.int .i64 c, .int .i64 d], .int .i64 x, .int .i64 y] w fun e w' => e = .returned (.bool true) ∧ Below w.heap.size w w' := by
  have O1 : Hid (∀ W, Calls Try.prog 12 #[.agg #[.int .i64 SL, .int .i64 SH]] W (Gives (.agg #[.int .i64 SL, .int .i64 SH]) W)) := Lib.hid fun W => lawof_any SL SH W
  have O2 : Hid (∀ W, Calls Try.prog 12 #[.agg #[.int .i64 GL, .int .i64 GH]] W (Gives (.agg #[.int .i64 GL, .int .i64 GH]) W)) := Lib.hid fun W => lawof_any GL GH W
  have O3 : Hid (∀ W, Calls Try.prog 12 #[.agg #[.int .i64 a, .int .i64 b]] W (Gives (.agg #[.int .i64 a, .int .i64 b]) W)) := Lib.hid fun W => lawof_any a b W
  go_enter Try.func3, Try.ntmps3
  have B0 : Hid (Below w.heap.size w w) := Lib.hid (Below.refl w.heap.size w)
  go_wp2_with fail
  refine (alive_any _).mono ?_
  rintro e1 w1 ⟨rfl, hb1⟩
  have Ka : Hid (Kept w1 _ #[.int .i64 a, .int .i64 b] 23) := Lib.hid (((Kept.new (w := w) (cs := #[.int .i64 a, .int .i64 b]) (t := 23) rfl).alloc (.cells #[.int .i64 c, .int .i64 d] 23)).next hb1)
  have Ko : Hid (Kept w1 _ #[.int .i64 c, .int .i64 d] 23) := Lib.hid ((Kept.new (w := (w.alloc (.cells #[.int .i64 a, .int .i64 b] 23))) (g := w.heap.size + 1) (cs := #[.int .i64 c, .int .i64 d]) (t := 23) (by simp)).next hb1)
  have B1 : Hid (Below w.heap.size w w1) := Lib.hid (bnext (((((B0.out).alloc (by have := B0.out.size; first | omega | (simp <;> omega)) _)).alloc (by have := B0.out.size; first | omega | (simp <;> omega)) _)) (by have := B0.out.size; first | omega | (simp <;> omega)) hb1)
  clear hb1
  obtain ⟨a1, a2, -, -, al⟩ := Ka.out.two
  go_wp2_with fail
  refine (CN.out _).mono ?_
  rintro e2 w2 ⟨rfl, hb2⟩
  clear a1 a2 al
  have Ka : Hid (Kept w2 _ _ _) := Lib.hid (Ka.out.next hb2)
  have Ko : Hid (Kept w2 _ _ _) := Lib.hid (Ko.out.next hb2)
  have B2 : Hid (Below w.heap.size w w2) := Lib.hid (bnext (B1.out) (by have := B1.out.size; first | omega | (simp <;> omega)) hb2)
  clear hb2
  obtain ⟨a1, a2, -, -, al⟩ := Ka.out.two
  go_wp2_with fail
  refine (CS.out _).mono ?_
  rintro e3 w3 ⟨rfl, hb3⟩
  clear a1 a2 al
  have Ka : Hid (Kept w3 _ _ _) := Lib.hid ((Ka.out.alloc _).next hb3)
  have Ko : Hid (Kept w3 _ _ _) := Lib.hid ((Ko.out.alloc _).next hb3)
  have Kn : Hid (Kept w3 _ #[.int .i64 0, .int .i64 0] 23) := Lib.hid ((Kept.new (w := w2) (cs := #[.int .i64 0, .int .i64 0]) (t := 23) rfl).next hb3)
  have B3 : Hid (Below w.heap.size w w3) := Lib.hid (bnext (((B2.out).alloc (by have := B2.out.size; first | omega | (simp <;> omega)) _)) (by have := B2.out.size; first | omega | (simp <;> omega)) hb3)
  clear hb3
  obtain ⟨a1, a2, -, -, al⟩ := Ka.out.two
  go_wp2_with fail
  refine (CG.out _).mono ?_
  rintro e4 w4 ⟨rfl, hb4⟩
  clear a1 a2 al
  have Ka : Hid (Kept w4 _ _ _) := Lib.hid ((Ka.out.alloc _).next hb4)
  have Ko : Hid (Kept w4 _ _ _) := Lib.hid ((Ko.out.alloc _).next hb4)
  have Kn : Hid (Kept w4 _ _ _) := Lib.hid ((Kn.out.alloc _).next hb4)
  have Ks : Hid (Kept w4 _ #[.int .i64 SL, .int .i64 SH] 23) := Lib.hid ((Kept.new (w := w3) (cs := #[.int .i64 SL, .int .i64 SH]) (t := 23) rfl).next hb4)
  have B4 : Hid (Below w.heap.size w w4) := Lib.hid (bnext (((B3.out).alloc (by have := B3.out.size; first | omega | (simp <;> omega)) _)) (by have := B3.out.size; first | omega | (simp <;> omega)) hb4)
  clear hb4
  obtain ⟨a1, a2, -, -, al⟩ := Ka.out.two
  go_wp2_with fail
  refine (O3.out _).mono ?_
  rintro e5 w5 ⟨rfl, hb5⟩
  clear a1 a2 al
  have Ka : Hid (Kept w5 _ _ _) := Lib.hid ((Ka.out.alloc _).next hb5)
  have Ko : Hid (Kept w5 _ _ _) := Lib.hid ((Ko.out.alloc _).next hb5)
  have Kn : Hid (Kept w5 _ _ _) := Lib.hid ((Kn.out.alloc _).next hb5)
  have Ks : Hid (Kept w5 _ _ _) := Lib.hid ((Ks.out.alloc _).next hb5)
  have Kg : Hid (Kept w5 _ #[.int .i64 GL, .int .i64 GH] 23) := Lib.hid ((Kept.new (w := w4) (cs := #[.int .i64 GL, .int .i64 GH]) (t := 23) rfl).next hb5)
  have B5 : Hid (Below w.heap.size w w5) := Lib.hid (bnext (((B4.out).alloc (by have := B4.out.size; first | omega | (simp <;> omega)) _)) (by have := B4.out.size; first | omega | (simp <;> omega)) hb5)
  clear hb5
  go_wp2_with fail
  refine (RS.out _).mono ?_
  rintro e6 w6 ⟨rfl, hb6⟩
  have Ka : Hid (Kept w6 _ _ _) := Lib.hid (Ka.out.next hb6)
  have Ko : Hid (Kept w6 _ _ _) := Lib.hid (Ko.out.next hb6)
  have Kn : Hid (Kept w6 _ _ _) := Lib.hid (Kn.out.next hb6)
  have Ks : Hid (Kept w6 _ _ _) := Lib.hid (Ks.out.next hb6)
  have Kg : Hid (Kept w6 _ _ _) := Lib.hid (Kg.out.next hb6)
  have B6 : Hid (Below w.heap.size w w6) := Lib.hid (bnext (B5.out) (by have := B5.out.size; first | omega | (simp <;> omega)) hb6)
  clear hb6
  obtain ⟨a1, a2, -, -, al⟩ := Ka.out.two
  go_wp2_with fail
  refine (O3.out _).mono ?_
  rintro e7 w7 ⟨rfl, hb7⟩
  clear a1 a2 al
  have Ka : Hid (Kept w7 _ _ _) := Lib.hid ((Ka.out.alloc _).next hb7)
  have Ko : Hid (Kept w7 _ _ _) := Lib.hid ((Ko.out.alloc _).next hb7)
  have Kn : Hid (Kept w7 _ _ _) := Lib.hid ((Kn.out.alloc _).next hb7)
  have Ks : Hid (Kept w7 _ _ _) := Lib.hid ((Ks.out.alloc _).next hb7)
  have Kg : Hid (Kept w7 _ _ _) := Lib.hid ((Kg.out.alloc _).next hb7)
  have Kp : Hid (Kept w7 _ #[.int .i64 SL, .int .i64 SH] 31) := Lib.hid ((Kept.new (w := w6) (cs := #[.int .i64 SL, .int .i64 SH]) (t := 31) rfl).next hb7)
  have B7 : Hid (Below w.heap.size w w7) := Lib.hid (bnext (((B6.out).alloc (by have := B6.out.size; first | omega | (simp <;> omega)) _)) (by have := B6.out.size; first | omega | (simp <;> omega)) hb7)
  clear hb7
  go_wp2_with fail
  refine (RG.out _).mono ?_
  rintro e8 w8 ⟨rfl, hb8⟩
  have Ka : Hid (Kept w8 _ _ _) := Lib.hid (Ka.out.next hb8)
  have Ko : Hid (Kept w8 _ _ _) := Lib.hid (Ko.out.next hb8)
  have Kn : Hid (Kept w8 _ _ _) := Lib.hid (Kn.out.next hb8)
  have Ks : Hid (Kept w8 _ _ _) := Lib.hid (Ks.out.next hb8)
  have Kg : Hid (Kept w8 _ _ _) := Lib.hid (Kg.out.next hb8)
  have Kp : Hid (Kept w8 _ _ _) := Lib.hid (Kp.out.next hb8)
  have B8 : Hid (Below w.heap.size w w8) := Lib.hid (bnext (B7.out) (by have := B7.out.size; first | omega | (simp <;> omega)) hb8)
  clear hb8
  obtain ⟨a1, a2, -, -, al⟩ := Ka.out.two
  obtain ⟨W, hW⟩ : ∃ W, w8.alloc (.cells #[.int .i64 GL, .int .i64 GH] 31) = W := ⟨_, rfl⟩
  have Ka : Hid (Kept W _ _ _) := Lib.hid (by rw [← hW]; exact Ka.out.alloc _)
  have Ko : Hid (Kept W _ _ _) := Lib.hid (by rw [← hW]; exact Ko.out.alloc _)
  have Kn : Hid (Kept W _ _ _) := Lib.hid (by rw [← hW]; exact Kn.out.alloc _)
  have Ks : Hid (Kept W _ _ _) := Lib.hid (by rw [← hW]; exact Ks.out.alloc _)
  have Kg : Hid (Kept W _ _ _) := Lib.hid (by rw [← hW]; exact Kg.out.alloc _)
  have Kp : Hid (Kept W _ _ _) := Lib.hid (by rw [← hW]; exact Kp.out.alloc _)
  have Kq : Hid (Kept W w8.heap.size #[.int .i64 GL, .int .i64 GH] 31) := Lib.hid (by rw [← hW]; exact Kept.new rfl)
  have B9 : Hid (Below w.heap.size w W) := Lib.hid (by rw [← hW]; exact B8.out.alloc B8.out.size _)
  have HW := Lib.hid hW
  clear hW
  go_wp2
  rw [HW.out]
  have SS : Hid (Below w.heap.size w W.drew) ∧ W.drew.cell? ⟨w.heap.size, 0, none⟩ = some (.int .i64 a) ∧ W.drew.cell? ⟨w.heap.size, 1, none⟩ = some (.int .i64 b) ∧ W.drew.cell? ⟨w.heap.size + 1, 0, none⟩ = some (.int .i64 c) ∧ W.drew.cell? ⟨w.heap.size + 1, 1, none⟩ = some (.int .i64 d) ∧ W.drew.cell? ⟨w2.heap.size, 0, none⟩ = some (.int .i64 0) ∧ W.drew.cell? ⟨w2.heap.size, 1, none⟩ = some (.int .i64 0) ∧ W.drew.cell? ⟨w3.heap.size, 0, none⟩ = some (.int .i64 SL) ∧ W.drew.cell? ⟨w3.heap.size, 1, none⟩ = some (.int .i64 SH) ∧ W.drew.cell? ⟨w4.heap.size, 0, none⟩ = some (.int .i64 GL) ∧ W.drew.cell? ⟨w4.heap.size, 1, none⟩ = some (.int .i64 GH) ∧ W.drew.cell? ⟨w6.heap.size, 0, none⟩ = some (.int .i64 SL) ∧ W.drew.cell? ⟨w6.heap.size, 1, none⟩ = some (.int .i64 SH) ∧ W.drew.cell? ⟨w8.heap.size, 0, none⟩ = some (.int .i64 GL) ∧ W.drew.cell? ⟨w8.heap.size, 1, none⟩ = some (.int .i64 GH) := ⟨Lib.hid (below_drewN B9.out 1), Ka.out.two.1, Ka.out.two.2.1, Ko.out.two.1, Ko.out.two.2.1, Kn.out.two.1, Kn.out.two.2.1, Ks.out.two.1, Ks.out.two.2.1, Kg.out.two.1, Kg.out.two.2.1, Kp.out.two.1, Kp.out.two.2.1, Kq.out.two.1, Kq.out.two.2.1⟩
  clear HW
  obtain ⟨q0, q1, q2, q3, q4, q5, q6, q7, q8, q9, q10, q11, q12, q13, q14⟩ := SS
  have HSS := Lib.hid (show Hid (Below w.heap.size w W.drew) ∧ W.drew.cell? ⟨w.heap.size, 0, none⟩ = some (.int .i64 a) ∧ W.drew.cell? ⟨w.heap.size, 1, none⟩ = some (.int .i64 b) ∧ W.drew.cell? ⟨w.heap.size + 1, 0, none⟩ = some (.int .i64 c) ∧ W.drew.cell? ⟨w.heap.size + 1, 1, none⟩ = some (.int .i64 d) ∧ W.drew.cell? ⟨w2.heap.size, 0, none⟩ = some (.int .i64 0) ∧ W.drew.cell? ⟨w2.heap.size, 1, none⟩ = some (.int .i64 0) ∧ W.drew.cell? ⟨w3.heap.size, 0, none⟩ = some (.int .i64 SL) ∧ W.drew.cell? ⟨w3.heap.size, 1, none⟩ = some (.int .i64 SH) ∧ W.drew.cell? ⟨w4.heap.size, 0, none⟩ = some (.int .i64 GL) ∧ W.drew.cell? ⟨w4.heap.size, 1, none⟩ = some (.int .i64 GH) ∧ W.drew.cell? ⟨w6.heap.size, 0, none⟩ = some (.int .i64 SL) ∧ W.drew.cell? ⟨w6.heap.size, 1, none⟩ = some (.int .i64 SH) ∧ W.drew.cell? ⟨w8.heap.size, 0, none⟩ = some (.int .i64 GL) ∧ W.drew.cell? ⟨w8.heap.size, 1, none⟩ = some (.int .i64 GH) from ⟨q0, q1, q2, q3, q4, q5, q6, q7, q8, q9, q10, q11, q12, q13, q14⟩)
  have SS := HSS.out
  clear q0 q1 q2 q3 q4 q5 q6 q7 q8 q9 q10 q11 q12 q13 q14 a1 a2 al
  go_region_held3 (fun w' => Hid (Below w.heap.size w w') ∧ w'.cell? ⟨w.heap.size, 0, none⟩ = some (.int .i64 a) ∧ w'.cell? ⟨w.heap.size, 1, none⟩ = some (.int .i64 b) ∧ w'.cell? ⟨w.heap.size + 1, 0, none⟩ = some (.int .i64 c) ∧ w'.cell? ⟨w.heap.size + 1, 1, none⟩ = some (.int .i64 d) ∧ w'.cell? ⟨w2.heap.size, 0, none⟩ = some (.int .i64 0) ∧ w'.cell? ⟨w2.heap.size, 1, none⟩ = some (.int .i64 0) ∧ w'.cell? ⟨w3.heap.size, 0, none⟩ = some (.int .i64 SL) ∧ w'.cell? ⟨w3.heap.size, 1, none⟩ = some (.int .i64 SH) ∧ w'.cell? ⟨w4.heap.size, 0, none⟩ = some (.int .i64 GL) ∧ w'.cell? ⟨w4.heap.size, 1, none⟩ = some (.int .i64 GH) ∧ w'.cell? ⟨w6.heap.size, 0, none⟩ = some (.int .i64 SL) ∧ w'.cell? ⟨w6.heap.size, 1, none⟩ = some (.int .i64 SH) ∧ w'.cell? ⟨w8.heap.size, 0, none⟩ = some (.int .i64 GL) ∧ w'.cell? ⟨w8.heap.size, 1, none⟩ = some (.int .i64 GH))
    (first | exact SS | go_keep)
    (first
      | (go_at_call 14; refine (CR.out _).mono ?_; rintro _ v1 ⟨rfl, hv1⟩; have SS := keepB14 (a := w) hv1 SS)
      | (go_at_call_of 12 (Value.agg #[Value.int IntKind.i64 SL, Value.int IntKind.i64 SH]); refine (O1.out _).mono ?_; rintro _ v2 ⟨rfl, hv2⟩; have SS := keepB14 (a := w) hv2 SS)
      | (go_at_call_of 12 (Value.agg #[Value.int IntKind.i64 GL, Value.int IntKind.i64 GH]); refine (O2.out _).mono ?_; rintro _ v3 ⟨rfl, hv3⟩; have SS := keepB14 (a := w) hv3 SS)
      | (go_at_call 15; refine (CM.out _).mono ?_; rintro _ v4 ⟨rfl, hv4⟩; have SS := keepB14 (a := w) hv4 SS)
      | (go_at_call_of 12 (Value.agg #[Value.int IntKind.i64 a, Value.int IntKind.i64 b]); refine (O3.out _).mono ?_; rintro _ v5 ⟨rfl, hv5⟩; have SS := keepB14 (a := w) hv5 SS)
      | (go_at_call 16; refine (RM.out _).mono ?_; rintro _ v6 ⟨rfl, hv6⟩; have SS := keepB14 (a := w) hv6 SS))
  all_goals
    obtain ⟨q0, q1, q2, q3, q4, q5, q6, q7, q8, q9, q10, q11, q12, q13, q14⟩ := SS
    go_wp2_with fail
    refine (CH.out _).mono ?_
    rintro _ u1 ⟨rfl, hb⟩
    have SS := keepB14 (a := w) hb ⟨q0, q1, q2, q3, q4, q5, q6, q7, q8, q9, q10, q11, q12, q13, q14⟩
    clear hb q0 q1 q2 q3 q4 q5 q6 q7 q8 q9 q10 q11 q12 q13 q14
    obtain ⟨q0, q1, q2, q3, q4, q5, q6, q7, q8, q9, q10, q11, q12, q13, q14⟩ := SS
    go_wp2_with fail
    refine (CI.out _).mono ?_
    rintro _ u2 ⟨rfl, hb⟩
    have SS := keepB14 (a := w) hb ⟨q0, q1, q2, q3, q4, q5, q6, q7, q8, q9, q10, q11, q12, q13, q14⟩
    clear hb q0 q1 q2 q3 q4 q5 q6 q7 q8 q9 q10 q11 q12 q13 q14
    obtain ⟨q0, q1, q2, q3, q4, q5, q6, q7, q8, q9, q10, q11, q12, q13, q14⟩ := SS
    go_wp2_with fail
    refine (CJ.out _).mono ?_
    rintro _ u3 ⟨rfl, hb⟩
    have SS := keepB14 (a := w) hb ⟨q0, q1, q2, q3, q4, q5, q6, q7, q8, q9, q10, q11, q12, q13, q14⟩
    clear hb q0 q1 q2 q3 q4 q5 q6 q7 q8 q9 q10 q11 q12 q13 q14
    obtain ⟨q0, q1, q2, q3, q4, q5, q6, q7, q8, q9, q10, q11, q12, q13, q14⟩ := SS
    go_wp2_with fail
    refine (CW.out _).mono ?_
    rintro _ u4 ⟨rfl, hb⟩
    have SS := keepB14 (a := w) hb ⟨q0, q1, q2, q3, q4, q5, q6, q7, q8, q9, q10, q11, q12, q13, q14⟩
    clear hb q0 q1 q2 q3 q4 q5 q6 q7 q8 q9 q10 q11 q12 q13 q14
    have B := SS.1
    clear SS
    go_wp2
    go_ret
    exact ⟨rfl, B.out⟩
end Go.Proofs.Ytahenediimoboaa
