/- noonmarklaw03.GapAnswers, walked where the gap is one. -/
import Derived.Test.YtahenediimoboaaAlive
import Derived.Test.YtahenediimoboaaRefC
import Derived.Test.YtahenediimoboaaKeep
import Derived.Deep.RegionHeld3
namespace Go.Proofs.Ytahenediimoboaa
open Go.RowKit
set_option linter.unusedVariables false

set_option maxHeartbeats 16000000 in
set_option maxRecDepth 100000 in
theorem answ_good (a b c d x y SL SH SE GL GH GE M D : Int) (HA IN : Bool) (w : World)
    (CN : Hid (∀ W, Calls Try.prog 8 #[.int .i64 a, .int .i64 b] W (Gives (.tuple #[.agg #[.int .i64 a, .int .i64 b], .bool true]) W)))
    (CR : Hid (∀ W, Calls Try.prog 14 #[.agg #[.int .i64 a, .int .i64 b]] W (Gives (.bool true) W)))
    (CS : Hid (∀ W, Calls Try.prog 9 #[.agg #[.int .i64 a, .int .i64 b], .int .i64 x] W (Gives (.tuple #[.agg #[.int .i64 SL, .int .i64 SH], .int .i64 SE]) W)))
    (CG : Hid (∀ W, Calls Try.prog 10 #[.agg #[.int .i64 a, .int .i64 b], .int .i64 x, .int .i64 y] W (Gives (.tuple #[.agg #[.int .i64 GL, .int .i64 GH], .int .i64 GE]) W)))
    (RS : Hid (∀ W, Calls Try.prog 11 #[.agg #[.int .i64 a, .int .i64 b], .int .i64 x] W (Gives (.tuple #[.agg #[.int .i64 SL, .int .i64 SH], .int .i64 SE]) W)))
    (RG : Hid (∀ W, Calls Try.prog 13 #[.agg #[.int .i64 a, .int .i64 b], .int .i64 x, .int .i64 y] W (Gives (.tuple #[.agg #[.int .i64 GL, .int .i64 GH], .int .i64 GE]) W)))
    (CM : Hid (∀ W, Calls Try.prog 15 #[.agg #[.int .i64 a, .int .i64 b]] W (Gives (.int .i64 M) W)))
    (RM : Hid (∀ W, Calls Try.prog 16 #[.agg #[.int .i64 a, .int .i64 b]] W (Gives (.int .i64 M) W)))
    (CH : Hid (∀ W, Calls Try.prog 17 #[.agg #[.int .i64 a, .int .i64 b], .int .i64 x] W (Gives (.bool HA) W)))
    (CI : Hid (∀ W, Calls Try.prog 18 #[.agg #[.int .i64 a, .int .i64 b], .agg #[.int .i64 c, .int .i64 d]] W (Gives (.bool IN) W)))
    (CW : Hid (∀ W, Calls Try.prog 19 #[.agg #[.int .i64 a, .int .i64 b]] W (Gives (.int .u64 D) W)))
    (d0 : decide (a ≤ b) = true) (hw : IntKind.u64.wrap (IntKind.u64.wrap b - IntKind.u64.wrap a) = D)
    (hin : Hid ((decide (c ≤ a) = true ∧ decide (b ≤ d) = true ∧ IN = true) ∨ (decide (c ≤ a) = true ∧ decide (b ≤ d) = false ∧ IN = false) ∨ (decide (c ≤ a) = false ∧ IN = false)))
    (hhas : Hid ((decide (a ≤ x) = true ∧ decide (x ≤ b) = true ∧ HA = true) ∨ (decide (a ≤ x) = true ∧ decide (x ≤ b) = false ∧ HA = false) ∨ (decide (a ≤ x) = false ∧ HA = false))) :
    Calls Try.prog 3 #[.agg #[.int .i64 a, .int .i64 b], .agg #[.int .i64 c, .int .i64 d], .int .i64 x, .int .i64 y] w fun e w' => e = .returned (.bool true) ∧ Below w.heap.size w w' := by
  have HWD := Lib.hid hw
  clear hw
  have O1 : Hid (∀ W, Calls Try.prog 12 #[.agg #[.int .i64 SL, .int .i64 SH]] W (Gives (.agg #[.int .i64 SL, .int .i64 SH]) W)) := Lib.hid fun W => lawof_any SL SH W
  have O2 : Hid (∀ W, Calls Try.prog 12 #[.agg #[.int .i64 GL, .int .i64 GH]] W (Gives (.agg #[.int .i64 GL, .int .i64 GH]) W)) := Lib.hid fun W => lawof_any GL GH W
  have O3 : Hid (∀ W, Calls Try.prog 12 #[.agg #[.int .i64 a, .int .i64 b]] W (Gives (.agg #[.int .i64 a, .int .i64 b]) W)) := Lib.hid fun W => lawof_any a b W
  go_enter Try.func3, Try.ntmps3
  have B0 : Hid (Below w.heap.size w w) := Lib.hid (Below.refl w.heap.size w)
  go_wp2_with fail
  refine (alive_any _).mono ?_
  rintro e1 w1 ⟨rfl, hb1⟩
  have Ka : Hid (Kept w1 _ #[.int .i64 a, .int .i64 b] 23) := Lib.hid (((Kept.new (w := w) (cs := #[.int .i64 a, .int .i64 b]) (t := 23) rfl).alloc (.cells #[.int .i64 c, .int .i64 d] 23)).next hb1)
  have Ko : Hid (Kept w1 _ #[.int .i64 c, .int .i64 d] 23) := Lib.hid ((Kept.new (w := (w.alloc (.cells #[.int .i64 a, .int .i64 b] 23))) (g := w.heap.size + 1) (cs := #[.int .i64 c, .int .i64 d]) (t := 23) (by simp)).next hb1)
  have B1 : Hid (Below w.heap.size w w1) := Lib.hid (bnext (((((B0.out).alloc (by have := B0.out.size; first | omega | (simp <;> omega)) _)).alloc (by have := B0.out.size; first | omega | (simp <;> omega)) _)) (by have := B0.out.size; first | omega | (simp <;> omega)) hb1)
  clear hb1
  obtain ⟨a1, a2, -, -, al⟩ := Ka.out.two
  go_wp2_with fail
  refine (CN.out _).mono ?_
  rintro e2 w2 ⟨rfl, hb2⟩
  clear a1 a2 al
  have Ka : Hid (Kept w2 _ _ _) := Lib.hid (Ka.out.next hb2)
  have Ko : Hid (Kept w2 _ _ _) := Lib.hid (Ko.out.next hb2)
  have B2 : Hid (Below w.heap.size w w2) := Lib.hid (bnext (B1.out) (by have := B1.out.size; first | omega | (simp <;> omega)) hb2)
  clear hb2
  obtain ⟨a1, a2, -, -, al⟩ := Ka.out.two
  go_wp2_with fail
  refine (CS.out _).mono ?_
  rintro e3 w3 ⟨rfl, hb3⟩
  clear a1 a2 al
  have Ka : Hid (Kept w3 _ _ _) := Lib.hid ((Ka.out.alloc _).next hb3)
  have Ko : Hid (Kept w3 _ _ _) := Lib.hid ((Ko.out.alloc _).next hb3)
  have Kn : Hid (Kept w3 _ #[.int .i64 a, .int .i64 b] 23) := Lib.hid ((Kept.new (w := w2) (cs := #[.int .i64 a, .int .i64 b]) (t := 23) rfl).next hb3)
  have B3 : Hid (Below w.heap.size w w3) := Lib.hid (bnext (((B2.out).alloc (by have := B2.out.size; first | omega | (simp <;> omega)) _)) (by have := B2.out.size; first | omega | (simp <;> omega)) hb3)
  clear hb3
  obtain ⟨a1, a2, -, -, al⟩ := Ka.out.two
  go_wp2_with fail
  refine (CG.out _).mono ?_
  rintro e4 w4 ⟨rfl, hb4⟩
  clear a1 a2 al
  have Ka : Hid (Kept w4 _ _ _) := Lib.hid ((Ka.out.alloc _).next hb4)
  have Ko : Hid (Kept w4 _ _ _) := Lib.hid ((Ko.out.alloc _).next hb4)
  have Kn : Hid (Kept w4 _ _ _) := Lib.hid ((Kn.out.alloc _).next hb4)
  have Ks : Hid (Kept w4 _ #[.int .i64 SL, .int .i64 SH] 23) := Lib.hid ((Kept.new (w := w3) (cs := #[.int .i64 SL, .int .i64 SH]) (t := 23) rfl).next hb4)
  have B4 : Hid (Below w.heap.size w w4) := Lib.hid (bnext (((B3.out).alloc (by have := B3.out.size; first | omega | (simp <;> omega)) _)) (by have := B3.out.size; first | omega | (simp <;> omega)) hb4)
  clear hb4
  obtain ⟨a1, a2, -, -, al⟩ := Ka.out.two
  go_wp2_with fail
  refine (O3.out _).mono ?_
  rintro e5 w5 ⟨rfl, hb5⟩
  clear a1 a2 al
  have Ka : Hid (Kept w5 _ _ _) := Lib.hid ((Ka.out.alloc _).next hb5)
  have Ko : Hid (Kept w5 _ _ _) := Lib.hid ((Ko.out.alloc _).next hb5)
  have Kn : Hid (Kept w5 _ _ _) := Lib.hid ((Kn.out.alloc _).next hb5)
  have Ks : Hid (Kept w5 _ _ _) := Lib.hid ((Ks.out.alloc _).next hb5)
  have Kg : Hid (Kept w5 _ #[.int .i64 GL, .int .i64 GH] 23) := Lib.hid ((Kept.new (w := w4) (cs := #[.int .i64 GL, .int .i64 GH]) (t := 23) rfl).next hb5)
  have B5 : Hid (Below w.heap.size w w5) := Lib.hid (bnext (((B4.out).alloc (by have := B4.out.size; first | omega | (simp <;> omega)) _)) (by have := B4.out.size; first | omega | (simp <;> omega)) hb5)
  clear hb5
  go_wp2_with fail
  refine (RS.out _).mono ?_
  rintro e6 w6 ⟨rfl, hb6⟩
  have Ka : Hid (Kept w6 _ _ _) := Lib.hid (Ka.out.next hb6)
  have Ko : Hid (Kept w6 _ _ _) := Lib.hid (Ko.out.next hb6)
  have Kn : Hid (Kept w6 _ _ _) := Lib.hid (Kn.out.next hb6)
  have Ks : Hid (Kept w6 _ _ _) := Lib.hid (Ks.out.next hb6)
  have Kg : Hid (Kept w6 _ _ _) := Lib.hid (Kg.out.next hb6)
  have B6 : Hid (Below w.heap.size w w6) := Lib.hid (bnext (B5.out) (by have := B5.out.size; first | omega | (simp <;> omega)) hb6)
  clear hb6
  obtain ⟨a1, a2, -, -, al⟩ := Ka.out.two
  go_wp2_with fail
  refine (O3.out _).mono ?_
  rintro e7 w7 ⟨rfl, hb7⟩
  clear a1 a2 al
  have Ka : Hid (Kept w7 _ _ _) := Lib.hid ((Ka.out.alloc _).next hb7)
  have Ko : Hid (Kept w7 _ _ _) := Lib.hid ((Ko.out.alloc _).next hb7)
  have Kn : Hid (Kept w7 _ _ _) := Lib.hid ((Kn.out.alloc _).next hb7)
  have Ks : Hid (Kept w7 _ _ _) := Lib.hid ((Ks.out.alloc _).next hb7)
  have Kg : Hid (Kept w7 _ _ _) := Lib.hid ((Kg.out.alloc _).next hb7)
  have Kp : Hid (Kept w7 _ #[.int .i64 SL, .int .i64 SH] 31) := Lib.hid ((Kept.new (w := w6) (cs := #[.int .i64 SL, .int .i64 SH]) (t := 31) rfl).next hb7)
  have B7 : Hid (Below w.heap.size w w7) := Lib.hid (bnext (((B6.out).alloc (by have := B6.out.size; first | omega | (simp <;> omega)) _)) (by have := B6.out.size; first | omega | (simp <;> omega)) hb7)
  clear hb7
  go_wp2_with fail
  refine (RG.out _).mono ?_
  rintro e8 w8 ⟨rfl, hb8⟩
  have Ka : Hid (Kept w8 _ _ _) := Lib.hid (Ka.out.next hb8)
  have Ko : Hid (Kept w8 _ _ _) := Lib.hid (Ko.out.next hb8)
  have Kn : Hid (Kept w8 _ _ _) := Lib.hid (Kn.out.next hb8)
  have Ks : Hid (Kept w8 _ _ _) := Lib.hid (Ks.out.next hb8)
  have Kg : Hid (Kept w8 _ _ _) := Lib.hid (Kg.out.next hb8)
  have Kp : Hid (Kept w8 _ _ _) := Lib.hid (Kp.out.next hb8)
  have B8 : Hid (Below w.heap.size w w8) := Lib.hid (bnext (B7.out) (by have := B7.out.size; first | omega | (simp <;> omega)) hb8)
  clear hb8
  obtain ⟨a1, a2, -, -, al⟩ := Ka.out.two
  obtain ⟨W, hW⟩ : ∃ W, w8.alloc (.cells #[.int .i64 GL, .int .i64 GH] 31) = W := ⟨_, rfl⟩
  have Ka : Hid (Kept W _ _ _) := Lib.hid (by rw [← hW]; exact Ka.out.alloc _)
  have Ko : Hid (Kept W _ _ _) := Lib.hid (by rw [← hW]; exact Ko.out.alloc _)
  have Kn : Hid (Kept W _ _ _) := Lib.hid (by rw [← hW]; exact Kn.out.alloc _)
  have Ks : Hid (Kept W _ _ _) := Lib.hid (by rw [← hW]; exact Ks.out.alloc _)
  have Kg : Hid (Kept W _ _ _) := Lib.hid (by rw [← hW]; exact Kg.out.alloc _)
  have Kp : Hid (Kept W _ _ _) := Lib.hid (by rw [← hW]; exact Kp.out.alloc _)
  have Kq : Hid (Kept W w8.heap.size #[.int .i64 GL, .int .i64 GH] 31) := Lib.hid (by rw [← hW]; exact Kept.new rfl)
  have B9 : Hid (Below w.heap.size w W) := Lib.hid (by rw [← hW]; exact B8.out.alloc B8.out.size _)
  have HW := Lib.hid hW
  clear hW
  go_wp2
  rw [HW.out]
  have SS : Hid (Below w.heap.size w W.drew) ∧ W.drew.cell? ⟨w.heap.size, 0, none⟩ = some (.int .i64 a) ∧ W.drew.cell? ⟨w.heap.size, 1, none⟩ = some (.int .i64 b) ∧ W.drew.cell? ⟨w.heap.size + 1, 0, none⟩ = some (.int .i64 c) ∧ W.drew.cell? ⟨w.heap.size + 1, 1, none⟩ = some (.int .i64 d) ∧ W.drew.cell? ⟨w2.heap.size, 0, none⟩ = some (.int .i64 a) ∧ W.drew.cell? ⟨w2.heap.size, 1, none⟩ = some (.int .i64 b) ∧ W.drew.cell? ⟨w3.heap.size, 0, none⟩ = some (.int .i64 SL) ∧ W.drew.cell? ⟨w3.heap.size, 1, none⟩ = some (.int .i64 SH) ∧ W.drew.cell? ⟨w4.heap.size, 0, none⟩ = some (.int .i64 GL) ∧ W.drew.cell? ⟨w4.heap.size, 1, none⟩ = some (.int .i64 GH) ∧ W.drew.cell? ⟨w6.heap.size, 0, none⟩ = some (.int .i64 SL) ∧ W.drew.cell? ⟨w6.heap.size, 1, none⟩ = some (.int .i64 SH) ∧ W.drew.cell? ⟨w8.heap.size, 0, none⟩ = some (.int .i64 GL) ∧ W.drew.cell? ⟨w8.heap.size, 1, none⟩ = some (.int .i64 GH) := ⟨Lib.hid (below_drewN B9.out 1), Ka.out.two.1, Ka.out.two.2.1, Ko.out.two.1, Ko.out.two.2.1, Kn.out.two.1, Kn.out.two.2.1, Ks.out.two.1, Ks.out.two.2.1, Kg.out.two.1, Kg.out.two.2.1, Kp.out.two.1, Kp.out.two.2.1, Kq.out.two.1, Kq.out.two.2.1⟩
  clear HW
  obtain ⟨q0, q1, q2, q3, q4, q5, q6, q7, q8, q9, q10, q11, q12, q13, q14⟩ := SS
  have HSS := Lib.hid (show Hid (Below w.heap.size w W.drew) ∧ W.drew.cell? ⟨w.heap.size, 0, none⟩ = some (.int .i64 a) ∧ W.drew.cell? ⟨w.heap.size, 1, none⟩ = some (.int .i64 b) ∧ W.drew.cell? ⟨w.heap.size + 1, 0, none⟩ = some (.int .i64 c) ∧ W.drew.cell? ⟨w.heap.size + 1, 1, none⟩ = some (.int .i64 d) ∧ W.drew.cell? ⟨w2.heap.size, 0, none⟩ = some (.int .i64 a) ∧ W.drew.cell? ⟨w2.heap.size, 1, none⟩ = some (.int .i64 b) ∧ W.drew.cell? ⟨w3.heap.size, 0, none⟩ = some (.int .i64 SL) ∧ W.drew.cell? ⟨w3.heap.size, 1, none⟩ = some (.int .i64 SH) ∧ W.drew.cell? ⟨w4.heap.size, 0, none⟩ = some (.int .i64 GL) ∧ W.drew.cell? ⟨w4.heap.size, 1, none⟩ = some (.int .i64 GH) ∧ W.drew.cell? ⟨w6.heap.size, 0, none⟩ = some (.int .i64 SL) ∧ W.drew.cell? ⟨w6.heap.size, 1, none⟩ = some (.int .i64 SH) ∧ W.drew.cell? ⟨w8.heap.size, 0, none⟩ = some (.int .i64 GL) ∧ W.drew.cell? ⟨w8.heap.size, 1, none⟩ = some (.int .i64 GH) from ⟨q0, q1, q2, q3, q4, q5, q6, q7, q8, q9, q10, q11, q12, q13, q14⟩)
  have SS := HSS.out
  clear q0 q1 q2 q3 q4 q5 q6 q7 q8 q9 q10 q11 q12 q13 q14 a1 a2 al
  go_region_held3 (fun w' => Hid (Below w.heap.size w w') ∧ w'.cell? ⟨w.heap.size, 0, none⟩ = some (.int .i64 a) ∧ w'.cell? ⟨w.heap.size, 1, none⟩ = some (.int .i64 b) ∧ w'.cell? ⟨w.heap.size + 1, 0, none⟩ = some (.int .i64 c) ∧ w'.cell? ⟨w.heap.size + 1, 1, none⟩ = some (.int .i64 d) ∧ w'.cell? ⟨w2.heap.size, 0, none⟩ = some (.int .i64 a) ∧ w'.cell? ⟨w2.heap.size, 1, none⟩ = some (.int .i64 b) ∧ w'.cell? ⟨w3.heap.size, 0, none⟩ = some (.int .i64 SL) ∧ w'.cell? ⟨w3.heap.size, 1, none⟩ = some (.int .i64 SH) ∧ w'.cell? ⟨w4.heap.size, 0, none⟩ = some (.int .i64 GL) ∧ w'.cell? ⟨w4.heap.size, 1, none⟩ = some (.int .i64 GH) ∧ w'.cell? ⟨w6.heap.size, 0, none⟩ = some (.int .i64 SL) ∧ w'.cell? ⟨w6.heap.size, 1, none⟩ = some (.int .i64 SH) ∧ w'.cell? ⟨w8.heap.size, 0, none⟩ = some (.int .i64 GL) ∧ w'.cell? ⟨w8.heap.size, 1, none⟩ = some (.int .i64 GH))
    (first | exact SS | go_keep)
    (first
      | (go_at_call 14; refine (CR.out _).mono ?_; rintro _ v1 ⟨rfl, hv1⟩; have SS := keepB14 (a := w) hv1 SS)
      | (go_at_call_of 12 (Value.agg #[Value.int IntKind.i64 SL, Value.int IntKind.i64 SH]); refine (O1.out _).mono ?_; rintro _ v2 ⟨rfl, hv2⟩; have SS := keepB14 (a := w) hv2 SS)
      | (go_at_call_of 12 (Value.agg #[Value.int IntKind.i64 GL, Value.int IntKind.i64 GH]); refine (O2.out _).mono ?_; rintro _ v3 ⟨rfl, hv3⟩; have SS := keepB14 (a := w) hv3 SS)
      | (go_at_call 15; refine (CM.out _).mono ?_; rintro _ v4 ⟨rfl, hv4⟩; have SS := keepB14 (a := w) hv4 SS)
      | (go_at_call_of 12 (Value.agg #[Value.int IntKind.i64 a, Value.int IntKind.i64 b]); refine (O3.out _).mono ?_; rintro _ v5 ⟨rfl, hv5⟩; have SS := keepB14 (a := w) hv5 SS)
      | (go_at_call 16; refine (RM.out _).mono ?_; rintro _ v6 ⟨rfl, hv6⟩; have SS := keepB14 (a := w) hv6 SS))
  all_goals
    obtain ⟨q0, q1, q2, q3, q4, q5, q6, q7, q8, q9, q10, q11, q12, q13, q14⟩ := SS
    rcases hin.out with ⟨i1, i2, rfl⟩ | ⟨i1, i2, rfl⟩ | ⟨i1, rfl⟩
    all_goals
      rcases hhas.out with ⟨j1, j2, rfl⟩ | ⟨j1, j2, rfl⟩ | ⟨j1, rfl⟩
      · have HQ := Lib.hid (show Hid (Below w.heap.size w v6) ∧ v6.cell? ⟨w.heap.size, 0, none⟩ = some (.int .i64 a) ∧ v6.cell? ⟨w.heap.size, 1, none⟩ = some (.int .i64 b) ∧ v6.cell? ⟨w.heap.size + 1, 0, none⟩ = some (.int .i64 c) ∧ v6.cell? ⟨w.heap.size + 1, 1, none⟩ = some (.int .i64 d) ∧ v6.cell? ⟨w2.heap.size, 0, none⟩ = some (.int .i64 a) ∧ v6.cell? ⟨w2.heap.size, 1, none⟩ = some (.int .i64 b) from ⟨q0, q1, q2, q3, q4, q5, q6⟩)
        clear q7 q8 q9 q10 q11 q12 q13 q14
        go_wp2
        have SS : Hid (Below w.heap.size w v6.drew) ∧ v6.drew.cell? ⟨w.heap.size, 0, none⟩ = some (.int .i64 a) ∧ v6.drew.cell? ⟨w.heap.size, 1, none⟩ = some (.int .i64 b) ∧ v6.drew.cell? ⟨w.heap.size + 1, 0, none⟩ = some (.int .i64 c) ∧ v6.drew.cell? ⟨w.heap.size + 1, 1, none⟩ = some (.int .i64 d) ∧ v6.drew.cell? ⟨w2.heap.size, 0, none⟩ = some (.int .i64 a) ∧ v6.drew.cell? ⟨w2.heap.size, 1, none⟩ = some (.int .i64 b) := ⟨Lib.hid (below_drewN HQ.out.1.out 1), HQ.out.2.1, HQ.out.2.2.1, HQ.out.2.2.2.1, HQ.out.2.2.2.2.1, HQ.out.2.2.2.2.2.1, HQ.out.2.2.2.2.2.2⟩
        clear q0 q1 q2 q3 q4 q5 q6
        go_region_held3 (fun w' => Hid (Below w.heap.size w w') ∧ w'.cell? ⟨w.heap.size, 0, none⟩ = some (.int .i64 a) ∧ w'.cell? ⟨w.heap.size, 1, none⟩ = some (.int .i64 b) ∧ w'.cell? ⟨w.heap.size + 1, 0, none⟩ = some (.int .i64 c) ∧ w'.cell? ⟨w.heap.size + 1, 1, none⟩ = some (.int .i64 d) ∧ w'.cell? ⟨w2.heap.size, 0, none⟩ = some (.int .i64 a) ∧ w'.cell? ⟨w2.heap.size, 1, none⟩ = some (.int .i64 b))
          (first | exact SS | go_keep)
          (first
            | (go_at_call 17; refine (CH.out _).mono ?_; rintro _ t1 ⟨rfl, ht1⟩; have SS := keepB6 (a := w) ht1 SS)
            | (go_at_call 18; refine (CI.out _).mono ?_; rintro _ t2 ⟨rfl, ht2⟩; have SS := keepB6 (a := w) ht2 SS)
            | (go_at_call 19; refine (CW.out _).mono ?_; rintro _ t3 ⟨rfl, ht3⟩; have SS := keepB6 (a := w) ht3 SS))
        all_goals
          have B := SS.1
          clear SS
          go_wp2
          go_ret
          exact ⟨by rw [HWD.out]; simp, B.out⟩
      · have HQ := Lib.hid (show Hid (Below w.heap.size w v6) ∧ v6.cell? ⟨w.heap.size, 0, none⟩ = some (.int .i64 a) ∧ v6.cell? ⟨w.heap.size, 1, none⟩ = some (.int .i64 b) ∧ v6.cell? ⟨w.heap.size + 1, 0, none⟩ = some (.int .i64 c) ∧ v6.cell? ⟨w.heap.size + 1, 1, none⟩ = some (.int .i64 d) ∧ v6.cell? ⟨w2.heap.size, 0, none⟩ = some (.int .i64 a) ∧ v6.cell? ⟨w2.heap.size, 1, none⟩ = some (.int .i64 b) from ⟨q0, q1, q2, q3, q4, q5, q6⟩)
        clear q7 q8 q9 q10 q11 q12 q13 q14
        go_wp2
        have SS : Hid (Below w.heap.size w v6.drew) ∧ v6.drew.cell? ⟨w.heap.size, 0, none⟩ = some (.int .i64 a) ∧ v6.drew.cell? ⟨w.heap.size, 1, none⟩ = some (.int .i64 b) ∧ v6.drew.cell? ⟨w.heap.size + 1, 0, none⟩ = some (.int .i64 c) ∧ v6.drew.cell? ⟨w.heap.size + 1, 1, none⟩ = some (.int .i64 d) ∧ v6.drew.cell? ⟨w2.heap.size, 0, none⟩ = some (.int .i64 a) ∧ v6.drew.cell? ⟨w2.heap.size, 1, none⟩ = some (.int .i64 b) := ⟨Lib.hid (below_drewN HQ.out.1.out 1), HQ.out.2.1, HQ.out.2.2.1, HQ.out.2.2.2.1, HQ.out.2.2.2.2.1, HQ.out.2.2.2.2.2.1, HQ.out.2.2.2.2.2.2⟩
        clear q0 q1 q2 q3 q4 q5 q6
        go_region_held3 (fun w' => Hid (Below w.heap.size w w') ∧ w'.cell? ⟨w.heap.size, 0, none⟩ = some (.int .i64 a) ∧ w'.cell? ⟨w.heap.size, 1, none⟩ = some (.int .i64 b) ∧ w'.cell? ⟨w.heap.size + 1, 0, none⟩ = some (.int .i64 c) ∧ w'.cell? ⟨w.heap.size + 1, 1, none⟩ = some (.int .i64 d) ∧ w'.cell? ⟨w2.heap.size, 0, none⟩ = some (.int .i64 a) ∧ w'.cell? ⟨w2.heap.size, 1, none⟩ = some (.int .i64 b))
          (first | exact SS | go_keep)
          (first
            | (go_at_call 17; refine (CH.out _).mono ?_; rintro _ t1 ⟨rfl, ht1⟩; have SS := keepB6 (a := w) ht1 SS)
            | (go_at_call 18; refine (CI.out _).mono ?_; rintro _ t2 ⟨rfl, ht2⟩; have SS := keepB6 (a := w) ht2 SS)
            | (go_at_call 19; refine (CW.out _).mono ?_; rintro _ t3 ⟨rfl, ht3⟩; have SS := keepB6 (a := w) ht3 SS))
        all_goals
          have B := SS.1
          clear SS
          go_wp2
          go_ret
          exact ⟨by rw [HWD.out]; simp, B.out⟩
      · have HQ := Lib.hid (show Hid (Below w.heap.size w v6) ∧ v6.cell? ⟨w.heap.size, 0, none⟩ = some (.int .i64 a) ∧ v6.cell? ⟨w.heap.size, 1, none⟩ = some (.int .i64 b) ∧ v6.cell? ⟨w.heap.size + 1, 0, none⟩ = some (.int .i64 c) ∧ v6.cell? ⟨w.heap.size + 1, 1, none⟩ = some (.int .i64 d) ∧ v6.cell? ⟨w2.heap.size, 0, none⟩ = some (.int .i64 a) ∧ v6.cell? ⟨w2.heap.size, 1, none⟩ = some (.int .i64 b) from ⟨q0, q1, q2, q3, q4, q5, q6⟩)
        clear q7 q8 q9 q10 q11 q12 q13 q14
        go_wp2
        have SS : Hid (Below w.heap.size w v6.drew) ∧ v6.drew.cell? ⟨w.heap.size, 0, none⟩ = some (.int .i64 a) ∧ v6.drew.cell? ⟨w.heap.size, 1, none⟩ = some (.int .i64 b) ∧ v6.drew.cell? ⟨w.heap.size + 1, 0, none⟩ = some (.int .i64 c) ∧ v6.drew.cell? ⟨w.heap.size + 1, 1, none⟩ = some (.int .i64 d) ∧ v6.drew.cell? ⟨w2.heap.size, 0, none⟩ = some (.int .i64 a) ∧ v6.drew.cell? ⟨w2.heap.size, 1, none⟩ = some (.int .i64 b) := ⟨Lib.hid (below_drewN HQ.out.1.out 1), HQ.out.2.1, HQ.out.2.2.1, HQ.out.2.2.2.1, HQ.out.2.2.2.2.1, HQ.out.2.2.2.2.2.1, HQ.out.2.2.2.2.2.2⟩
        clear q0 q1 q2 q3 q4 q5 q6
        refine wp_region_held_drew (S := (fun w' => Hid (Below w.heap.size w w') ∧ w'.cell? ⟨w.heap.size, 0, none⟩ = some (.int .i64 a) ∧ w'.cell? ⟨w.heap.size, 1, none⟩ = some (.int .i64 b) ∧ w'.cell? ⟨w.heap.size + 1, 0, none⟩ = some (.int .i64 c) ∧ w'.cell? ⟨w.heap.size + 1, 1, none⟩ = some (.int .i64 d) ∧ w'.cell? ⟨w2.heap.size, 0, none⟩ = some (.int .i64 a) ∧ w'.cell? ⟨w2.heap.size, 1, none⟩ = some (.int .i64 b))) (by kernel_rfl) SS (fun hHeld => ?_)
        refine wpAnyH_take (i := 0) (oi := ({ dst := some 143, op := Op.load 23 (Operand.tmp 9), type := 23, pos := "law.go:52", after := #[], guard := none } : Oper)) (v := ?_) rfl (by kernel_rfl) (by kernel_rfl) (by kernel_rfl) (fun _ _ _ h => h) (Or.inl ⟨by rfl, ?_⟩) (by assumption) ?_
        rotate_left
        · ((intro w hSw; (try dsimp only at hSw); go_simp); (try with_reducible rfl))
        try simp only [Act.put, List.setIfInBounds_toArray, List.set_cons_zero, List.set_cons_succ]
        refine wpAnyH_take (i := 1) (oi := ({ dst := some 144, op := Op.load 23 (Operand.tmp 4), type := 23, pos := "law.go:52", after := #[], guard := none } : Oper)) (v := ?_) rfl (by kernel_rfl) (by kernel_rfl) (by kernel_rfl) (fun _ _ _ h => h) (Or.inl ⟨by rfl, ?_⟩) (by assumption) ?_
        rotate_left
        · ((intro w hSw; (try dsimp only at hSw); go_simp); (try with_reducible rfl))
        try simp only [Act.put, List.setIfInBounds_toArray, List.set_cons_zero, List.set_cons_succ]
        refine wpAnyH_take (i := 2) (oi := ({ dst := some 145, op := Op.binOp BinOp.eql 23 (Operand.tmp 143) (Operand.tmp 144) 23, type := 4, pos := "law.go:52", after := #[{ on := 0, ground := Ground.data }, { on := 1, ground := Ground.data }], guard := none } : Oper)) (v := ?_) rfl (by kernel_rfl) (by kernel_rfl) (by kernel_rfl) (fun _ _ _ h => h) (Or.inl ⟨by rfl, ?_⟩) (by assumption) ?_
        rotate_left
        · ((intro w hSw; (try dsimp only at hSw); go_simp); (try with_reducible rfl))
        try simp only [Act.put, List.setIfInBounds_toArray, List.set_cons_zero, List.set_cons_succ]
        refine wpAnyH_take (i := 3) (oi := ({ dst := some 146, op := Op.move (Operand.tmp 145), type := 4, pos := "law.go:52", after := #[{ on := 2, ground := Ground.data }], guard := none } : Oper)) (v := ?_) rfl (by kernel_rfl) (by kernel_rfl) (by kernel_rfl) (fun _ _ _ h => h) (Or.inl ⟨by rfl, ?_⟩) (by assumption) ?_
        rotate_left
        · ((intro w hSw; (try dsimp only at hSw); go_simp); (try with_reducible rfl))
        try simp only [Act.put, List.setIfInBounds_toArray, List.set_cons_zero, List.set_cons_succ]
        refine wpAnyH_take (i := 4) (oi := ({ dst := some 147, op := Op.load 23 (Operand.tmp 4), type := 23, pos := "law.go:52", after := #[{ on := 3, ground := Ground.guard }], guard := some (3, true) } : Oper)) (v := ?_) rfl (by kernel_rfl) (by kernel_rfl) (by kernel_rfl) (fun _ _ _ h => h) (Or.inl ⟨by rfl, ?_⟩) (by assumption) ?_
        rotate_left
        · ((intro w hSw; (try dsimp only at hSw); go_simp); (try with_reducible rfl))
        try simp only [Act.put, List.setIfInBounds_toArray, List.set_cons_zero, List.set_cons_succ]
        refine wpAnyH_take (i := 5) (oi := ({ dst := some 148, op := Op.move (Operand.tmp 2), type := 2, pos := "law.go:52", after := #[{ on := 3, ground := Ground.guard }], guard := some (3, true) } : Oper)) (v := ?_) rfl (by kernel_rfl) (by kernel_rfl) (by kernel_rfl) (fun _ _ _ h => h) (Or.inl ⟨by rfl, ?_⟩) (by assumption) ?_
        rotate_left
        · ((intro w hSw; (try dsimp only at hSw); go_simp); (try with_reducible rfl))
        try simp only [Act.put, List.setIfInBounds_toArray, List.set_cons_zero, List.set_cons_succ]
        refine wpAnyH_take (i := 7) (oi := ({ dst := some 150, op := Op.move (Operand.tmp 2), type := 2, pos := "law.go:52", after := #[{ on := 3, ground := Ground.guard }], guard := some (3, true) } : Oper)) (v := ?_) rfl (by kernel_rfl) (by kernel_rfl) (by kernel_rfl) (fun _ _ _ h => h) (Or.inl ⟨by rfl, ?_⟩) (by assumption) ?_
        rotate_left
        · ((intro w hSw; (try dsimp only at hSw); go_simp); (try with_reducible rfl))
        try simp only [Act.put, List.setIfInBounds_toArray, List.set_cons_zero, List.set_cons_succ]
        refine wpAnyH_take (i := 8) (oi := ({ dst := some 151, op := Op.fieldAddr 23 (Operand.tmp 4) 0, type := 0, pos := "law.go:52", after := #[{ on := 3, ground := Ground.guard }], guard := some (3, true) } : Oper)) (v := ?_) rfl (by kernel_rfl) (by kernel_rfl) (by kernel_rfl) (fun _ _ _ h => h) (Or.inl ⟨by rfl, ?_⟩) (by assumption) ?_
        rotate_left
        · ((intro w hSw; (try dsimp only at hSw); go_simp); (try with_reducible rfl))
        try simp only [Act.put, List.setIfInBounds_toArray, List.set_cons_zero, List.set_cons_succ]
        refine wpAnyH_take (i := 9) (oi := ({ dst := some 152, op := Op.load 2 (Operand.tmp 151), type := 2, pos := "law.go:52", after := #[{ on := 8, ground := Ground.data }, { on := 3, ground := Ground.guard }], guard := some (3, true) } : Oper)) (v := ?_) rfl (by kernel_rfl) (by kernel_rfl) (by kernel_rfl) (fun _ _ _ h => h) (Or.inl ⟨by rfl, ?_⟩) (by assumption) ?_
        rotate_left
        · ((intro w hSw; (try dsimp only at hSw); go_simp); (try with_reducible rfl))
        try simp only [Act.put, List.setIfInBounds_toArray, List.set_cons_zero, List.set_cons_succ]
        refine wpAnyH_take (i := 10) (oi := ({ dst := some 153, op := Op.binOp BinOp.geq 2 (Operand.tmp 150) (Operand.tmp 152) 2, type := 4, pos := "law.go:52", after := #[{ on := 7, ground := Ground.data }, { on := 9, ground := Ground.data }, { on := 3, ground := Ground.guard }], guard := some (3, true) } : Oper)) (v := ?_) rfl (by kernel_rfl) (by kernel_rfl) (by kernel_rfl) (fun _ _ _ h => h) (Or.inl ⟨by rfl, ?_⟩) (by assumption) ?_
        rotate_left
        · ((intro w hSw; (try dsimp only at hSw); go_simp); (try with_reducible rfl))
        try simp only [Act.put, List.setIfInBounds_toArray, List.set_cons_zero, List.set_cons_succ]
        refine wpAnyH_ready (rs := [6]) (by kernel_rfl) (by simp) ?_
        refine AllReadyH.cons (o := ({ dst := some 149, op := Op.call { callee := Callee.value (Operand.func 17), args := #[Operand.tmp 147, Operand.tmp 148], argTypes := #[23, 2] }, type := 4, pos := "law.go:52", after := #[{ on := 4, ground := Ground.data }, { on := 5, ground := Ground.data }, { on := 3, ground := Ground.chain }, { on := 3, ground := Ground.guard }], guard := some (3, true) } : Oper)) rfl (fun K hK => ?_) AllReadyH.nil
        go_simp
        (with_reducible refine (CH.out _).mono ?_)
        rintro _ t0 ⟨rfl, ht0⟩
        refine hK.out _ _ ?_ (fun hHeld => ?_)
        · exact keepB6 (a := w) ht0 hHeld
        clear hK K
        try simp only [Act.put, List.setIfInBounds_toArray, List.set_cons_zero, List.set_cons_succ]
        refine wpAnyH_take (i := 11) (oi := ({ dst := some 154, op := Op.move (Operand.tmp 153), type := 4, pos := "law.go:52", after := #[{ on := 10, ground := Ground.data }, { on := 6, ground := Ground.chain }, { on := 3, ground := Ground.guard }], guard := some (3, true) } : Oper)) (v := ?_) rfl (by kernel_rfl) (by kernel_rfl) (by kernel_rfl) (fun _ _ _ h => h) (Or.inl ⟨by rfl, ?_⟩) (by assumption) ?_
        rotate_left
        · ((intro w hSw; (try dsimp only at hSw); go_simp); (try with_reducible rfl))
        try simp only [Act.put, List.setIfInBounds_toArray, List.set_cons_zero, List.set_cons_succ]
        refine wpAnyH_take (i := 12) (oi := ({ dst := some 155, op := Op.move (Operand.tmp 2), type := 2, pos := "law.go:52", after := #[{ on := 11, ground := Ground.guard }], guard := some (11, true) } : Oper)) (v := undef) rfl (by kernel_rfl) (by kernel_rfl) (by kernel_rfl) (fun _ _ _ h => h) (Or.inr ⟨by rfl, rfl⟩) (by assumption) ?_
        try simp only [Act.put, List.setIfInBounds_toArray, List.set_cons_zero, List.set_cons_succ]
        refine wpAnyH_take (i := 13) (oi := ({ dst := some 156, op := Op.fieldAddr 23 (Operand.tmp 4) 1, type := 0, pos := "law.go:52", after := #[{ on := 11, ground := Ground.guard }], guard := some (11, true) } : Oper)) (v := undef) rfl (by kernel_rfl) (by kernel_rfl) (by kernel_rfl) (fun _ _ _ h => h) (Or.inr ⟨by rfl, rfl⟩) (by assumption) ?_
        try simp only [Act.put, List.setIfInBounds_toArray, List.set_cons_zero, List.set_cons_succ]
        refine wpAnyH_take (i := 14) (oi := ({ dst := some 157, op := Op.load 2 (Operand.tmp 156), type := 2, pos := "law.go:52", after := #[{ on := 13, ground := Ground.data }, { on := 11, ground := Ground.guard }], guard := some (11, true) } : Oper)) (v := undef) rfl (by kernel_rfl) (by kernel_rfl) (by kernel_rfl) (fun _ _ _ h => h) (Or.inr ⟨by rfl, rfl⟩) (by assumption) ?_
        try simp only [Act.put, List.setIfInBounds_toArray, List.set_cons_zero, List.set_cons_succ]
        refine wpAnyH_take (i := 15) (oi := ({ dst := some 158, op := Op.binOp BinOp.leq 2 (Operand.tmp 155) (Operand.tmp 157) 2, type := 4, pos := "law.go:52", after := #[{ on := 12, ground := Ground.data }, { on := 14, ground := Ground.data }, { on := 11, ground := Ground.guard }], guard := some (11, true) } : Oper)) (v := undef) rfl (by kernel_rfl) (by kernel_rfl) (by kernel_rfl) (fun _ _ _ h => h) (Or.inr ⟨by rfl, rfl⟩) (by assumption) ?_
        try simp only [Act.put, List.setIfInBounds_toArray, List.set_cons_zero, List.set_cons_succ]
        refine wpAnyH_take (i := 16) (oi := ({ dst := some 159, op := Op.pick (Operand.tmp 154) (Operand.tmp 158) (Operand.const (Value.bool false)), type := 4, pos := "law.go:52", after := #[{ on := 11, ground := Ground.data }, { on := 15, ground := Ground.data }, { on := 3, ground := Ground.guard }], guard := some (3, true) } : Oper)) (v := ?_) rfl (by kernel_rfl) (by kernel_rfl) (by kernel_rfl) (fun _ _ _ h => h) (Or.inl ⟨by rfl, ?_⟩) (by assumption) ?_
        rotate_left
        · ((intro w hSw; (try dsimp only at hSw); go_simp); (try with_reducible rfl))
        try simp only [Act.put, List.setIfInBounds_toArray, List.set_cons_zero, List.set_cons_succ]
        refine wpAnyH_take (i := 17) (oi := ({ dst := some 160, op := Op.binOp BinOp.eql 4 (Operand.tmp 149) (Operand.tmp 159) 4, type := 4, pos := "law.go:52", after := #[{ on := 6, ground := Ground.data }, { on := 16, ground := Ground.data }, { on := 3, ground := Ground.guard }], guard := some (3, true) } : Oper)) (v := ?_) rfl (by kernel_rfl) (by kernel_rfl) (by kernel_rfl) (fun _ _ _ h => h) (Or.inl ⟨by rfl, ?_⟩) (by assumption) ?_
        rotate_left
        · ((intro w hSw; (try dsimp only at hSw); go_simp); (try with_reducible rfl))
        try simp only [Act.put, List.setIfInBounds_toArray, List.set_cons_zero, List.set_cons_succ]
        refine wpAnyH_take (i := 18) (oi := ({ dst := some 161, op := Op.pick (Operand.tmp 146) (Operand.tmp 160) (Operand.const (Value.bool false)), type := 4, pos := "law.go:52", after := #[{ on := 3, ground := Ground.data }, { on := 17, ground := Ground.data }], guard := none } : Oper)) (v := ?_) rfl (by kernel_rfl) (by kernel_rfl) (by kernel_rfl) (fun _ _ _ h => h) (Or.inl ⟨by rfl, ?_⟩) (by assumption) ?_
        rotate_left
        · ((intro w hSw; (try dsimp only at hSw); go_simp); (try with_reducible rfl))
        try simp only [Act.put, List.setIfInBounds_toArray, List.set_cons_zero, List.set_cons_succ]
        refine wpAnyH_take (i := 19) (oi := ({ dst := some 162, op := Op.move (Operand.tmp 161), type := 4, pos := "law.go:52", after := #[{ on := 18, ground := Ground.data }, { on := 11, ground := Ground.chain }], guard := none } : Oper)) (v := ?_) rfl (by kernel_rfl) (by kernel_rfl) (by kernel_rfl) (fun _ _ _ h => h) (Or.inl ⟨by rfl, ?_⟩) (by assumption) ?_
        rotate_left
        · ((intro w hSw; (try dsimp only at hSw); go_simp); (try with_reducible rfl))
        try simp only [Act.put, List.setIfInBounds_toArray, List.set_cons_zero, List.set_cons_succ]
        refine wpAnyH_take (i := 20) (oi := ({ dst := some 163, op := Op.load 23 (Operand.tmp 4), type := 23, pos := "law.go:52", after := #[{ on := 19, ground := Ground.guard }], guard := some (19, true) } : Oper)) (v := ?_) rfl (by kernel_rfl) (by kernel_rfl) (by kernel_rfl) (fun _ _ _ h => h) (Or.inl ⟨by rfl, ?_⟩) (by assumption) ?_
        rotate_left
        · ((intro w hSw; (try dsimp only at hSw); go_simp); (try with_reducible rfl))
        try simp only [Act.put, List.setIfInBounds_toArray, List.set_cons_zero, List.set_cons_succ]
        refine wpAnyH_take (i := 21) (oi := ({ dst := some 164, op := Op.load 23 (Operand.tmp 5), type := 23, pos := "law.go:52", after := #[{ on := 19, ground := Ground.guard }], guard := some (19, true) } : Oper)) (v := ?_) rfl (by kernel_rfl) (by kernel_rfl) (by kernel_rfl) (fun _ _ _ h => h) (Or.inl ⟨by rfl, ?_⟩) (by assumption) ?_
        rotate_left
        · ((intro w hSw; (try dsimp only at hSw); go_simp); (try with_reducible rfl))
        try simp only [Act.put, List.setIfInBounds_toArray, List.set_cons_zero, List.set_cons_succ]
        refine wpAnyH_take (i := 23) (oi := ({ dst := some 166, op := Op.move (Operand.tmp 20), type := 4, pos := "law.go:52", after := #[{ on := 19, ground := Ground.guard }], guard := some (19, true) } : Oper)) (v := ?_) rfl (by kernel_rfl) (by kernel_rfl) (by kernel_rfl) (fun _ _ _ h => h) (Or.inl ⟨by rfl, ?_⟩) (by assumption) ?_
        rotate_left
        · ((intro w hSw; (try dsimp only at hSw); go_simp); (try with_reducible rfl))
        try simp only [Act.put, List.setIfInBounds_toArray, List.set_cons_zero, List.set_cons_succ]
        refine wpAnyH_ready (rs := [22]) (by kernel_rfl) (by simp) ?_
        refine AllReadyH.cons (o := ({ dst := some 165, op := Op.call { callee := Callee.value (Operand.func 18), args := #[Operand.tmp 163, Operand.tmp 164], argTypes := #[23, 23] }, type := 4, pos := "law.go:52", after := #[{ on := 20, ground := Ground.data }, { on := 21, ground := Ground.data }, { on := 19, ground := Ground.chain }, { on := 19, ground := Ground.guard }], guard := some (19, true) } : Oper)) rfl (fun K hK => ?_) AllReadyH.nil
        go_simp
        (with_reducible refine (CI.out _).mono ?_)
        rintro _ t1 ⟨rfl, ht1⟩
        refine hK.out _ _ ?_ (fun hHeld => ?_)
        · exact keepB6 (a := w) ht1 hHeld
        clear hK K
        try simp only [Act.put, List.setIfInBounds_toArray, List.set_cons_zero, List.set_cons_succ]
        refine wpAnyH_take (i := 24) (oi := ({ dst := some 167, op := Op.binOp BinOp.eql 4 (Operand.tmp 165) (Operand.tmp 166) 4, type := 4, pos := "law.go:52", after := #[{ on := 22, ground := Ground.data }, { on := 23, ground := Ground.data }, { on := 19, ground := Ground.guard }], guard := some (19, true) } : Oper)) (v := ?_) rfl (by kernel_rfl) (by kernel_rfl) (by kernel_rfl) (fun _ _ _ h => h) (Or.inl ⟨by rfl, ?_⟩) (by assumption) ?_
        rotate_left
        · ((intro w hSw; (try dsimp only at hSw); go_simp); (try with_reducible rfl))
        try simp only [Act.put, List.setIfInBounds_toArray, List.set_cons_zero, List.set_cons_succ]
        refine wpAnyH_take (i := 25) (oi := ({ dst := some 168, op := Op.pick (Operand.tmp 162) (Operand.tmp 167) (Operand.const (Value.bool false)), type := 4, pos := "law.go:52", after := #[{ on := 19, ground := Ground.data }, { on := 24, ground := Ground.data }], guard := none } : Oper)) (v := ?_) rfl (by kernel_rfl) (by kernel_rfl) (by kernel_rfl) (fun _ _ _ h => h) (Or.inl ⟨by rfl, ?_⟩) (by assumption) ?_
        rotate_left
        · ((intro w hSw; (try dsimp only at hSw); go_simp); (try with_reducible rfl))
        try simp only [Act.put, List.setIfInBounds_toArray, List.set_cons_zero, List.set_cons_succ]
        refine wpAnyH_take (i := 26) (oi := ({ dst := some 169, op := Op.move (Operand.tmp 168), type := 4, pos := "law.go:52", after := #[{ on := 25, ground := Ground.data }, { on := 22, ground := Ground.chain }], guard := none } : Oper)) (v := ?_) rfl (by kernel_rfl) (by kernel_rfl) (by kernel_rfl) (fun _ _ _ h => h) (Or.inl ⟨by rfl, ?_⟩) (by assumption) ?_
        rotate_left
        · ((intro w hSw; (try dsimp only at hSw); go_simp); (try with_reducible rfl))
        try simp only [Act.put, List.setIfInBounds_toArray, List.set_cons_zero, List.set_cons_succ]
        refine wpAnyH_take (i := 27) (oi := ({ dst := some 170, op := Op.load 23 (Operand.tmp 4), type := 23, pos := "law.go:52", after := #[{ on := 26, ground := Ground.guard }], guard := some (26, true) } : Oper)) (v := ?_) rfl (by kernel_rfl) (by kernel_rfl) (by kernel_rfl) (fun _ _ _ h => h) (Or.inl ⟨by rfl, ?_⟩) (by assumption) ?_
        rotate_left
        · ((intro w hSw; (try dsimp only at hSw); go_simp); (try with_reducible rfl))
        try simp only [Act.put, List.setIfInBounds_toArray, List.set_cons_zero, List.set_cons_succ]
        refine wpAnyH_take (i := 29) (oi := ({ dst := some 172, op := Op.fieldAddr 23 (Operand.tmp 4) 1, type := 0, pos := "law.go:52", after := #[{ on := 26, ground := Ground.guard }], guard := some (26, true) } : Oper)) (v := ?_) rfl (by kernel_rfl) (by kernel_rfl) (by kernel_rfl) (fun _ _ _ h => h) (Or.inl ⟨by rfl, ?_⟩) (by assumption) ?_
        rotate_left
        · ((intro w hSw; (try dsimp only at hSw); go_simp); (try with_reducible rfl))
        try simp only [Act.put, List.setIfInBounds_toArray, List.set_cons_zero, List.set_cons_succ]
        refine wpAnyH_take (i := 30) (oi := ({ dst := some 173, op := Op.load 2 (Operand.tmp 172), type := 2, pos := "law.go:52", after := #[{ on := 29, ground := Ground.data }, { on := 26, ground := Ground.guard }], guard := some (26, true) } : Oper)) (v := ?_) rfl (by kernel_rfl) (by kernel_rfl) (by kernel_rfl) (fun _ _ _ h => h) (Or.inl ⟨by rfl, ?_⟩) (by assumption) ?_
        rotate_left
        · ((intro w hSw; (try dsimp only at hSw); go_simp); (try with_reducible rfl))
        try simp only [Act.put, List.setIfInBounds_toArray, List.set_cons_zero, List.set_cons_succ]
        refine wpAnyH_take (i := 31) (oi := ({ dst := some 174, op := Op.convert 2 40 (Operand.tmp 173), type := 40, pos := "law.go:52", after := #[{ on := 30, ground := Ground.data }, { on := 26, ground := Ground.guard }], guard := some (26, true) } : Oper)) (v := ?_) rfl (by kernel_rfl) (by kernel_rfl) (by kernel_rfl) (fun _ _ _ h => h) (Or.inl ⟨by rfl, ?_⟩) (by assumption) ?_
        rotate_left
        · ((intro w hSw; (try dsimp only at hSw); go_simp); (try with_reducible rfl))
        try simp only [Act.put, List.setIfInBounds_toArray, List.set_cons_zero, List.set_cons_succ]
        refine wpAnyH_take (i := 32) (oi := ({ dst := some 175, op := Op.fieldAddr 23 (Operand.tmp 4) 0, type := 0, pos := "law.go:52", after := #[{ on := 26, ground := Ground.guard }], guard := some (26, true) } : Oper)) (v := ?_) rfl (by kernel_rfl) (by kernel_rfl) (by kernel_rfl) (fun _ _ _ h => h) (Or.inl ⟨by rfl, ?_⟩) (by assumption) ?_
        rotate_left
        · ((intro w hSw; (try dsimp only at hSw); go_simp); (try with_reducible rfl))
        try simp only [Act.put, List.setIfInBounds_toArray, List.set_cons_zero, List.set_cons_succ]
        refine wpAnyH_take (i := 33) (oi := ({ dst := some 176, op := Op.load 2 (Operand.tmp 175), type := 2, pos := "law.go:52", after := #[{ on := 32, ground := Ground.data }, { on := 26, ground := Ground.guard }], guard := some (26, true) } : Oper)) (v := ?_) rfl (by kernel_rfl) (by kernel_rfl) (by kernel_rfl) (fun _ _ _ h => h) (Or.inl ⟨by rfl, ?_⟩) (by assumption) ?_
        rotate_left
        · ((intro w hSw; (try dsimp only at hSw); go_simp); (try with_reducible rfl))
        try simp only [Act.put, List.setIfInBounds_toArray, List.set_cons_zero, List.set_cons_succ]
        refine wpAnyH_take (i := 34) (oi := ({ dst := some 177, op := Op.convert 2 40 (Operand.tmp 176), type := 40, pos := "law.go:52", after := #[{ on := 33, ground := Ground.data }, { on := 26, ground := Ground.guard }], guard := some (26, true) } : Oper)) (v := ?_) rfl (by kernel_rfl) (by kernel_rfl) (by kernel_rfl) (fun _ _ _ h => h) (Or.inl ⟨by rfl, ?_⟩) (by assumption) ?_
        rotate_left
        · ((intro w hSw; (try dsimp only at hSw); go_simp); (try with_reducible rfl))
        try simp only [Act.put, List.setIfInBounds_toArray, List.set_cons_zero, List.set_cons_succ]
        refine wpAnyH_take (i := 35) (oi := ({ dst := some 178, op := Op.binOp BinOp.sub 40 (Operand.tmp 174) (Operand.tmp 177) 40, type := 40, pos := "law.go:52", after := #[{ on := 31, ground := Ground.data }, { on := 34, ground := Ground.data }, { on := 26, ground := Ground.guard }], guard := some (26, true) } : Oper)) (v := ?_) rfl (by kernel_rfl) (by kernel_rfl) (by kernel_rfl) (fun _ _ _ h => h) (Or.inl ⟨by rfl, ?_⟩) (by assumption) ?_
        rotate_left
        · ((intro w hSw; (try dsimp only at hSw); go_simp); (try with_reducible rfl))
        try simp only [Act.put, List.setIfInBounds_toArray, List.set_cons_zero, List.set_cons_succ]
        refine wpAnyH_ready (rs := [28]) (by kernel_rfl) (by simp) ?_
        refine AllReadyH.cons (o := ({ dst := some 171, op := Op.call { callee := Callee.value (Operand.func 19), args := #[Operand.tmp 170], argTypes := #[23] }, type := 40, pos := "law.go:52", after := #[{ on := 27, ground := Ground.data }, { on := 26, ground := Ground.chain }, { on := 26, ground := Ground.guard }], guard := some (26, true) } : Oper)) rfl (fun K hK => ?_) AllReadyH.nil
        go_simp
        (with_reducible refine (CW.out _).mono ?_)
        rintro _ t2 ⟨rfl, ht2⟩
        refine hK.out _ _ ?_ (fun hHeld => ?_)
        · exact keepB6 (a := w) ht2 hHeld
        clear hK K
        try simp only [Act.put, List.setIfInBounds_toArray, List.set_cons_zero, List.set_cons_succ]
        refine wpAnyH_take (i := 36) (oi := ({ dst := some 179, op := Op.binOp BinOp.eql 40 (Operand.tmp 171) (Operand.tmp 178) 40, type := 4, pos := "law.go:52", after := #[{ on := 28, ground := Ground.data }, { on := 35, ground := Ground.data }, { on := 26, ground := Ground.guard }], guard := some (26, true) } : Oper)) (v := ?_) rfl (by kernel_rfl) (by kernel_rfl) (by kernel_rfl) (fun _ _ _ h => h) (Or.inl ⟨by rfl, ?_⟩) (by assumption) ?_
        rotate_left
        · ((intro w hSw; (try dsimp only at hSw); go_simp); (try with_reducible rfl))
        try simp only [Act.put, List.setIfInBounds_toArray, List.set_cons_zero, List.set_cons_succ]
        refine wpAnyH_take (i := 37) (oi := ({ dst := some 180, op := Op.pick (Operand.tmp 169) (Operand.tmp 179) (Operand.const (Value.bool false)), type := 4, pos := "law.go:52", after := #[{ on := 26, ground := Ground.data }, { on := 36, ground := Ground.data }], guard := none } : Oper)) (v := ?_) rfl (by kernel_rfl) (by kernel_rfl) (by kernel_rfl) (fun _ _ _ h => h) (Or.inl ⟨by rfl, ?_⟩) (by assumption) ?_
        rotate_left
        · ((intro w hSw; (try dsimp only at hSw); go_simp); (try with_reducible rfl))
        try simp only [Act.put, List.setIfInBounds_toArray, List.set_cons_zero, List.set_cons_succ]
        refine wpAnyH_take (i := 38) (oi := ({ dst := some 8, op := Op.assign (Operand.tmp 180), type := 4, pos := "law.go:52", after := #[{ on := 37, ground := Ground.data }, { on := 28, ground := Ground.chain }, { on := 0, ground := Ground.phase }, { on := 1, ground := Ground.phase }, { on := 2, ground := Ground.phase }, { on := 3, ground := Ground.phase }, { on := 4, ground := Ground.phase }, { on := 5, ground := Ground.phase }, { on := 6, ground := Ground.phase }, { on := 7, ground := Ground.phase }, { on := 8, ground := Ground.phase }, { on := 9, ground := Ground.phase }, { on := 10, ground := Ground.phase }, { on := 11, ground := Ground.phase }, { on := 12, ground := Ground.phase }, { on := 13, ground := Ground.phase }, { on := 14, ground := Ground.phase }, { on := 15, ground := Ground.phase }, { on := 16, ground := Ground.phase }, { on := 17, ground := Ground.phase }, { on := 18, ground := Ground.phase }, { on := 19, ground := Ground.phase }, { on := 20, ground := Ground.phase }, { on := 21, ground := Ground.phase }, { on := 22, ground := Ground.phase }, { on := 23, ground := Ground.phase }, { on := 24, ground := Ground.phase }, { on := 25, ground := Ground.phase }, { on := 26, ground := Ground.phase }, { on := 27, ground := Ground.phase }, { on := 28, ground := Ground.phase }, { on := 29, ground := Ground.phase }, { on := 30, ground := Ground.phase }, { on := 31, ground := Ground.phase }, { on := 32, ground := Ground.phase }, { on := 33, ground := Ground.phase }, { on := 34, ground := Ground.phase }, { on := 35, ground := Ground.phase }, { on := 36, ground := Ground.phase }, { on := 37, ground := Ground.phase }], guard := none } : Oper)) (v := ?_) rfl (by kernel_rfl) (by kernel_rfl) (by kernel_rfl) (fun _ _ _ h => h) (Or.inl ⟨by rfl, ?_⟩) (by assumption) ?_
        rotate_left
        · ((intro w hSw; (try dsimp only at hSw); go_simp); (try with_reducible rfl))
        try simp only [Act.put, List.setIfInBounds_toArray, List.set_cons_zero, List.set_cons_succ]
        refine wpAnyH_done (by kernel_rfl) ?_ _
        have SS := hHeld
        have B := SS.1
        clear SS
        go_wp2
        go_ret
        exact ⟨by rw [HWD.out]; simp, B.out⟩
end Go.Proofs.Ytahenediimoboaa
