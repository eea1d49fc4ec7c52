/- noonmarklaw06.alive returns true. -/
import Derived.Test.YtojahaimelkhlaaAliveA
namespace Go.Proofs.Ytojahaimelkhlaa
open Go.RowKit
set_option linter.unusedVariables false

set_option maxHeartbeats 4000000 in
set_option maxRecDepth 100000 in
theorem alive_any (w : World) : Calls Try.prog 7 #[] w fun e w' => e = .returned (.bool true) ∧ Below w.heap.size w w' := by
  have CN := al_CN
  have C1 := al_C1
  have C2 := al_C2
  have C3 := al_C3
  have C4 := al_C4
  have C5 := al_C5
  have C6 := al_C6
  have C7 := al_C7
  have C8 := al_C8
  have D1 := al_D1
  have D2 := al_D2
  have D3 := al_D3
  have E1 := al_E1
  have E2 := al_E2
  have E3 := al_E3
  have T1 := al_T1
  have T2 := al_T2
  have B0 := Lib.hid (Below.refl w.heap.size w)
  go_enter Try.func7, Try.ntmps7
  go_wp2_with fail
  refine (CN.out _ w.heap.size (Cel.new rfl)).mono ?_
  rintro _ w1 ⟨g, rfl, hg, R1, b1⟩
  have hg2 : w.heap.size ≤ g := by simp at hg; omega
  have B1 : Hid (Below w.heap.size w w1) := Lib.hid (bnext (one_alloc w _) (by simp) b1.out)
  clear hg b1
  go_wp2_with fail
  refine (C1.out _ _ R1.out).mono ?_
  rintro _ w2 ⟨rfl, R2, b2⟩
  have B2 : Hid (Below w.heap.size w w2) := Lib.hid (B1.out.trans (b2.out.mono hg2))
  clear R1 b2
  go_wp2_with fail
  refine (C2.out _ _ R2.out).mono ?_
  rintro _ w3 ⟨rfl, R3, b3⟩
  have B3 : Hid (Below w.heap.size w w3) := Lib.hid (B2.out.trans (b3.out.mono hg2))
  clear R2 b3
  go_wp2_with fail
  refine (C3.out _ _ R3.out).mono ?_
  rintro _ w4 ⟨rfl, R4, b4⟩
  have B4 : Hid (Below w.heap.size w w4) := Lib.hid (B3.out.trans (b4.out.mono hg2))
  clear R3 b4
  go_wp2_with fail
  refine (C4.out _ _ R4.out).mono ?_
  rintro _ _ ⟨rfl, rfl⟩
  go_wp2_with fail
  refine (C5.out _ _ R4.out).mono ?_
  rintro _ _ ⟨rfl, rfl⟩
  go_wp2_with fail
  refine (C6.out _ _ R4.out).mono ?_
  rintro _ w5 ⟨rfl, R5, b5⟩
  have B5 : Hid (Below w.heap.size w w5) := Lib.hid (B4.out.trans (b5.out.mono hg2))
  clear R4 b5
  go_wp2_with fail
  refine (C7.out _ _ R5.out).mono ?_
  rintro _ _ ⟨rfl, rfl⟩
  go_wp2_with fail
  refine (C8.out _ _ R5.out).mono ?_
  rintro _ w6 ⟨rfl, R6, b6⟩
  have B6 : Hid (Below w.heap.size w w6) := Lib.hid (B5.out.trans (b6.out.mono hg2))
  clear R5 R6 b6
  go_wp2_with fail
  refine (D1.out _ _ (Cel.new rfl)).mono ?_
  rintro _ w7 ⟨v7, rfl, o7, b7⟩
  obtain ⟨a7, c7, rfl, -, -, -, -, r7⟩ := IntRow.ownK o7
  have B7 : Hid (Below w.heap.size w w7) := Lib.hid (bnext (B6.out.alloc B6.out.size _) (by have := B6.out.size; simp; omega) b7)
  have R7 := Lib.hid r7
  clear o7 b7 r7
  go_wp2_with fail
  refine (E1.out _ _ _ _ (R7.out.alloc _) (Cel.new rfl)).mono ?_
  rintro _ _ ⟨rfl, n7, rfl⟩
  go_wp2_with fail
  refine (D2.out _ _ (Cel.new (by simp))).mono ?_
  rintro _ w8 ⟨v8, rfl, o8, b8⟩
  obtain ⟨a8, c8, rfl, -, -, -, -, r8⟩ := IntRow.ownK o8
  have B8 : Hid (Below w.heap.size w w8) := Lib.hid (bnext ((below_drewN (B7.out.alloc B7.out.size _) _).alloc (by have := B7.out.size; simp; omega) _) (by have := B7.out.size; simp; omega) b8)
  have R8 := Lib.hid r8
  clear o8 b8 r8
  go_wp2_with fail
  refine (E2.out _ _ _ _ (R8.out.alloc _) (Cel.new (by simp))).mono ?_
  rintro _ _ ⟨rfl, n8, rfl⟩
  go_wp2_with fail
  refine (D3.out _ _ (Cel.new (by simp))).mono ?_
  rintro _ w9 ⟨v9, rfl, o9, b9⟩
  obtain ⟨a9, c9, rfl, -, -, -, -, r9⟩ := IntRow.ownK o9
  have B9 : Hid (Below w.heap.size w w9) := Lib.hid (bnext ((below_drewN (B8.out.alloc B8.out.size _) _).alloc (by have := B8.out.size; simp; omega) _) (by have := B8.out.size; simp; omega) b9)
  have R9 := Lib.hid r9
  clear o9 b9 r9
  go_wp2_with fail
  refine (E3.out _ _ _ _ (R9.out.alloc _) (Cel.new (by simp))).mono ?_
  rintro _ _ ⟨rfl, n9, rfl⟩
  go_wp2_with fail
  refine (T1.out _).mono ?_
  rintro _ _ ⟨rfl, rfl⟩
  go_wp2_with fail
  refine (T2.out _).mono ?_
  rintro _ _ ⟨rfl, rfl⟩
  go_wp2
  go_ret
  exact ⟨rfl, below_drewN (B9.out.alloc B9.out.size _) _⟩
end Go.Proofs.Ytojahaimelkhlaa
