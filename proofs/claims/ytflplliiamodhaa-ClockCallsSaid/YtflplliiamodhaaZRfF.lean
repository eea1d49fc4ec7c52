import Derived.Test.YtflplliiamodhaaZRfE
import Derived.Test.YtflplliiamodhaaZAddL
import Derived.StillTailTactics
import Derived.Deep.RegionHeld3
/- noonmarklaw18.Agree: a clock, and the reference's, of the same state. Of gen_rff.py. -/
namespace Go.Proofs.Ytflplliiamodhaa
open Go.RowKit
set_option linter.unusedVariables false
set_option linter.unusedSimpArgs false

theorem s_neq_self (a b c d : Int) (w : World) : (binOp .neq 35 (.agg #[.int .i64 a, .int .i64 b, .int .i64 c, .int .i64 d]) (.agg #[.int .i64 a, .int .i64 b, .int .i64 c, .int .i64 d])).run Try.prog w = .ok (.bool false) w := by
  simp [go_sem]
def AgRel (n : Nat) (w4 : World) (i : Value) (wr : World) : Prop := ∃ k : Nat, k ≤ n ∧ i = .int .i64 k ∧ Hid (Below w4.heap.size w4 wr)
set_option maxHeartbeats 4000000 in
set_option maxRecDepth 100000 in
theorem agree2_any (g g' : Nat) (v : Value) (a : Option Addr) (cap : Nat) (c : Ck) (w : World) (h : CkO w g v c) (h' : RkO w g' a cap c) (hl : c.L.length ≤ 8) : Calls Try.prog 15 #[.pointer (some ⟨g, 0, none⟩), .pointer (some ⟨g', 0, none⟩)] w (Gives (.bool true) w) := by
  have HH := Lib.hid h
  have HR := Lib.hid h'
  have HL := Lib.hid hl
  clear h h' hl
  go_enter Try.func15, Try.ntmps15
  go_wp2_with fail
  refine (samples_any g v c w HH.out (by have := HL.out; omega)).mono ?_
  rintro _ w1 ⟨aL, cL, rfl, oL, b1⟩
  obtain ⟨aL', cL', eL, -, -, -, -, qL⟩ := QuadRow.own oL
  cases eL
  have QL := Lib.hid qL
  have B1 := Lib.hid b1
  have H1 := Lib.hid (HH.out.below b1)
  have R1 := Lib.hid (HR.out.below b1)
  clear oL b1 HH HR qL
  obtain ⟨rho, need, st, hd, L⟩ := c
  dsimp only at *
  have hbb : (hd != hd) = false := by simp
  have hss : (st != st) = false := by simp
  obtain ⟨N, hN⟩ : ∃ N : Nat, L.length = N := ⟨_, rfl⟩
  obtain ⟨NI, hNI⟩ : ∃ NI : Int, (N : Int) = NI := ⟨_, rfl⟩
  have hnn : (NI != NI) = false := by simp
  have CH : Hid (∀ W, Below w1.heap.size w1 W → Calls Try.prog 24 #[.pointer (some ⟨g, 0, none⟩)] W (Gives (.bool hd) W)) := Lib.hid fun W hb => held_any g v _ W (H1.out.below hb)
  have CS : Hid (∀ W, Below w1.heap.size w1 W → Calls Try.prog 25 #[.pointer (some ⟨g, 0, none⟩)] W (Gives (.int .i64 st) W)) := Lib.hid fun W hb => streak_any g v _ W (H1.out.below hb)
  go_upto_region 2 with fail
  obtain ⟨y1, y2, y3, y4, y5, -⟩ := R1.out.1.five
  (try dsimp only at y1 y2 y3 y4 y5)
  have S0 : Hid (Below w1.heap.size w1 w1.drew) ∧ w1.drew.cell? ⟨g', 2, none⟩ = some (.bool hd) ∧ w1.drew.cell? ⟨g', 3, none⟩ = some (.int .i64 st) ∧ w1.drew.cell? ⟨g', 4, none⟩ = some (.slice a L.length cap) := ⟨Lib.hid (Below.refl _ _).drew, y3, y4, y5⟩
  have KS : ∀ W, Hid (Below w1.heap.size w1 W) → Hid (Below w1.heap.size w1 W) ∧ W.cell? ⟨g', 2, none⟩ = some (.bool hd) ∧ W.cell? ⟨g', 3, none⟩ = some (.int .i64 st) ∧ W.cell? ⟨g', 4, none⟩ = some (.slice a L.length cap) := fun W hb => ⟨hb, keep3 hb.out ⟨y3, y4, y5⟩⟩
  have KS := Lib.hid KS
  have hnn2 : ((L.length : Int) != (L.length : Int)) = false := by simp
  refine wp_region_held_drew (S := fun w' => Hid (Below w1.heap.size w1 w') ∧ w'.cell? ⟨g', 2, none⟩ = some (.bool hd) ∧ w'.cell? ⟨g', 3, none⟩ = some (.int .i64 st) ∧ w'.cell? ⟨g', 4, none⟩ = some (.slice a L.length cap)) (by kernel_rfl) S0 (fun hHeld => ?_)
  have Bz := S0.1
  clear y1 y2 y3 y4 y5 S0
  generalize w1.drew = v2 at *
  refine wpAnyH_take (i := 0) (oi := ({ dst := some 9, op := Op.move (Operand.tmp 0), type := 24, pos := "law.go:44", after := #[], guard := none } : Oper)) (v := ?_) rfl (by kernel_rfl) (by kernel_rfl) (by kernel_rfl) (fun _ _ _ h => h) (Or.inl ⟨by rfl, ?_⟩) hHeld ?_
  rotate_left
  · ((intro w hSw; obtain ⟨-, s1, s2, s3⟩ := hSw; go_simp); (try with_reducible rfl))
  (try simp only [Act.put, List.setIfInBounds_toArray, List.set_cons_zero, List.set_cons_succ])
  refine wpAnyH_take (i := 2) (oi := ({ dst := some 11, op := Op.move (Operand.tmp 1), type := 28, pos := "law.go:44", after := #[], guard := none } : Oper)) (v := ?_) rfl (by kernel_rfl) (by kernel_rfl) (by kernel_rfl) (fun _ _ _ h => h) (Or.inl ⟨by rfl, ?_⟩) hHeld ?_
  rotate_left
  · ((intro w hSw; obtain ⟨-, s1, s2, s3⟩ := hSw; go_simp); (try with_reducible rfl))
  (try simp only [Act.put, List.setIfInBounds_toArray, List.set_cons_zero, List.set_cons_succ])
  refine wpAnyH_take (i := 3) (oi := ({ dst := some 12, op := Op.nilCheck (Operand.tmp 11), type := 0, pos := "law.go:44", after := #[{ on := 2, ground := Ground.data }], guard := none } : Oper)) (v := ?_) rfl (by kernel_rfl) (by kernel_rfl) (by kernel_rfl) (fun _ _ _ h => h) (Or.inl ⟨by rfl, ?_⟩) hHeld ?_
  rotate_left
  · ((intro w hSw; obtain ⟨-, s1, s2, s3⟩ := hSw; go_simp); (try with_reducible rfl))
  (try simp only [Act.put, List.setIfInBounds_toArray, List.set_cons_zero, List.set_cons_succ])
  refine wpAnyH_take (i := 4) (oi := ({ dst := some 13, op := Op.fieldAddr 81 (Operand.tmp 12) 2, type := 0, pos := "law.go:44", after := #[{ on := 3, ground := Ground.data }], guard := none } : Oper)) (v := ?_) rfl (by kernel_rfl) (by kernel_rfl) (by kernel_rfl) (fun _ _ _ h => h) (Or.inl ⟨by rfl, ?_⟩) hHeld ?_
  rotate_left
  · ((intro w hSw; obtain ⟨-, s1, s2, s3⟩ := hSw; go_simp); (try with_reducible rfl))
  (try simp only [Act.put, List.setIfInBounds_toArray, List.set_cons_zero, List.set_cons_succ])
  refine wpAnyH_take (i := 5) (oi := ({ dst := some 14, op := Op.load 4 (Operand.tmp 13), type := 4, pos := "law.go:44", after := #[{ on := 4, ground := Ground.data }], guard := none } : Oper)) (v := ?_) rfl (by kernel_rfl) (by kernel_rfl) (by kernel_rfl) (fun _ _ _ h => h) (Or.inl ⟨by rfl, ?_⟩) hHeld ?_
  rotate_left
  · ((intro w hSw; obtain ⟨-, s1, s2, s3⟩ := hSw; go_simp); (try with_reducible rfl))
  (try simp only [Act.put, List.setIfInBounds_toArray, List.set_cons_zero, List.set_cons_succ])
  refine wpAnyH_ready (rs := [1]) (by kernel_rfl) (by simp) ?_
  refine AllReadyH.cons (o := ({ dst := some 10, op := Op.call { callee := Callee.value (Operand.func 24), args := #[Operand.tmp 9], argTypes := #[24] }, type := 4, pos := "law.go:44", after := #[{ on := 0, ground := Ground.data }], guard := none } : Oper)) rfl (fun K hK => ?_) (AllReadyH.nil)
  go_simp
  (with_reducible refine (CH.out _ Bz.out).mono ?_)
  rintro _ u1 ⟨rfl, b1⟩
  have BM := Lib.hid (Bz.out.trans (b1.mono Bz.out.size))
  clear b1
  refine hK.out _ _ ?_ (fun hHeld => ?_)
  · exact KS.out _ BM
  clear hK K
  (try simp only [Act.put, List.setIfInBounds_toArray, List.set_cons_zero, List.set_cons_succ])
  refine wpAnyH_take (i := 6) (oi := ({ dst := some 15, op := Op.binOp BinOp.neq 4 (Operand.tmp 10) (Operand.tmp 14) 4, type := 4, pos := "law.go:44", after := #[{ on := 1, ground := Ground.data }, { on := 5, ground := Ground.data }], guard := none } : Oper)) (v := ?_) rfl (by kernel_rfl) (by kernel_rfl) (by kernel_rfl) (fun _ _ _ h => h) (Or.inl ⟨by rfl, ?_⟩) hHeld ?_
  rotate_left
  · ((intro w hSw; obtain ⟨-, s1, s2, s3⟩ := hSw; go_simp); (try with_reducible rfl))
  (try simp only [Act.put, List.setIfInBounds_toArray, List.set_cons_zero, List.set_cons_succ])
  refine wpAnyH_take (i := 7) (oi := ({ dst := some 16, op := Op.move (Operand.tmp 15), type := 4, pos := "law.go:44", after := #[{ on := 6, ground := Ground.data }, { on := 1, ground := Ground.chain }], guard := none } : Oper)) (v := ?_) rfl (by kernel_rfl) (by kernel_rfl) (by kernel_rfl) (fun _ _ _ h => h) (Or.inl ⟨by rfl, ?_⟩) hHeld ?_
  rotate_left
  · ((intro w hSw; obtain ⟨-, s1, s2, s3⟩ := hSw; go_simp); (try with_reducible rfl))
  (try simp only [Act.put, List.setIfInBounds_toArray, List.set_cons_zero, List.set_cons_succ])
  refine wpAnyH_take (i := 8) (oi := ({ dst := some 17, op := Op.move (Operand.tmp 0), type := 24, pos := "law.go:44", after := #[{ on := 7, ground := Ground.guard }], guard := some (7, false) } : Oper)) (v := ?_) rfl (by kernel_rfl) (by kernel_rfl) (by kernel_rfl) (fun _ _ _ h => h) (Or.inl ⟨by rfl, ?_⟩) hHeld ?_
  rotate_left
  · ((intro w hSw; obtain ⟨-, s1, s2, s3⟩ := hSw; go_simp); (try with_reducible rfl))
  (try simp only [Act.put, List.setIfInBounds_toArray, List.set_cons_zero, List.set_cons_succ])
  refine wpAnyH_take (i := 10) (oi := ({ dst := some 19, op := Op.move (Operand.tmp 1), type := 28, pos := "law.go:44", after := #[{ on := 7, ground := Ground.guard }], guard := some (7, false) } : Oper)) (v := ?_) rfl (by kernel_rfl) (by kernel_rfl) (by kernel_rfl) (fun _ _ _ h => h) (Or.inl ⟨by rfl, ?_⟩) hHeld ?_
  rotate_left
  · ((intro w hSw; obtain ⟨-, s1, s2, s3⟩ := hSw; go_simp); (try with_reducible rfl))
  (try simp only [Act.put, List.setIfInBounds_toArray, List.set_cons_zero, List.set_cons_succ])
  refine wpAnyH_take (i := 11) (oi := ({ dst := some 20, op := Op.nilCheck (Operand.tmp 19), type := 0, pos := "law.go:44", after := #[{ on := 10, ground := Ground.data }, { on := 7, ground := Ground.guard }], guard := some (7, false) } : Oper)) (v := ?_) rfl (by kernel_rfl) (by kernel_rfl) (by kernel_rfl) (fun _ _ _ h => h) (Or.inl ⟨by rfl, ?_⟩) hHeld ?_
  rotate_left
  · ((intro w hSw; obtain ⟨-, s1, s2, s3⟩ := hSw; go_simp); (try with_reducible rfl))
  (try simp only [Act.put, List.setIfInBounds_toArray, List.set_cons_zero, List.set_cons_succ])
  refine wpAnyH_take (i := 12) (oi := ({ dst := some 21, op := Op.fieldAddr 81 (Operand.tmp 20) 3, type := 0, pos := "law.go:44", after := #[{ on := 11, ground := Ground.data }, { on := 7, ground := Ground.guard }], guard := some (7, false) } : Oper)) (v := ?_) rfl (by kernel_rfl) (by kernel_rfl) (by kernel_rfl) (fun _ _ _ h => h) (Or.inl ⟨by rfl, ?_⟩) hHeld ?_
  rotate_left
  · ((intro w hSw; obtain ⟨-, s1, s2, s3⟩ := hSw; go_simp); (try with_reducible rfl))
  (try simp only [Act.put, List.setIfInBounds_toArray, List.set_cons_zero, List.set_cons_succ])
  refine wpAnyH_take (i := 13) (oi := ({ dst := some 22, op := Op.load 3 (Operand.tmp 21), type := 3, pos := "law.go:44", after := #[{ on := 12, ground := Ground.data }, { on := 7, ground := Ground.guard }], guard := some (7, false) } : Oper)) (v := ?_) rfl (by kernel_rfl) (by kernel_rfl) (by kernel_rfl) (fun _ _ _ h => h) (Or.inl ⟨by rfl, ?_⟩) hHeld ?_
  rotate_left
  · ((intro w hSw; obtain ⟨-, s1, s2, s3⟩ := hSw; go_simp); (try with_reducible rfl))
  (try simp only [Act.put, List.setIfInBounds_toArray, List.set_cons_zero, List.set_cons_succ])
  refine wpAnyH_ready (rs := [9]) (by kernel_rfl) (by simp) ?_
  refine AllReadyH.cons (o := ({ dst := some 18, op := Op.call { callee := Callee.value (Operand.func 25), args := #[Operand.tmp 17], argTypes := #[24] }, type := 3, pos := "law.go:44", after := #[{ on := 8, ground := Ground.data }, { on := 7, ground := Ground.chain }, { on := 7, ground := Ground.guard }], guard := some (7, false) } : Oper)) rfl (fun K hK => ?_) (AllReadyH.nil)
  go_simp
  (with_reducible refine (CS.out _ BM.out).mono ?_)
  rintro _ u2 ⟨rfl, b2⟩
  have BL := Lib.hid (BM.out.trans (b2.mono BM.out.size))
  clear b2 BM
  refine hK.out _ _ ?_ (fun hHeld => ?_)
  · exact KS.out _ BL
  clear hK K
  (try simp only [Act.put, List.setIfInBounds_toArray, List.set_cons_zero, List.set_cons_succ])
  refine wpAnyH_take (i := 14) (oi := ({ dst := some 23, op := Op.binOp BinOp.neq 3 (Operand.tmp 18) (Operand.tmp 22) 3, type := 4, pos := "law.go:44", after := #[{ on := 9, ground := Ground.data }, { on := 13, ground := Ground.data }, { on := 7, ground := Ground.guard }], guard := some (7, false) } : Oper)) (v := ?_) rfl (by kernel_rfl) (by kernel_rfl) (by kernel_rfl) (fun _ _ _ h => h) (Or.inl ⟨by rfl, ?_⟩) hHeld ?_
  rotate_left
  · ((intro w hSw; obtain ⟨-, s1, s2, s3⟩ := hSw; go_simp); (try with_reducible rfl))
  (try simp only [Act.put, List.setIfInBounds_toArray, List.set_cons_zero, List.set_cons_succ])
  refine wpAnyH_take (i := 15) (oi := ({ dst := some 24, op := Op.pick (Operand.tmp 16) (Operand.const (Value.bool true)) (Operand.tmp 23), type := 4, pos := "law.go:44", after := #[{ on := 7, ground := Ground.data }, { on := 14, ground := Ground.data }], guard := none } : Oper)) (v := ?_) rfl (by kernel_rfl) (by kernel_rfl) (by kernel_rfl) (fun _ _ _ h => h) (Or.inl ⟨by rfl, ?_⟩) hHeld ?_
  rotate_left
  · ((intro w hSw; obtain ⟨-, s1, s2, s3⟩ := hSw; go_simp); (try with_reducible rfl))
  (try simp only [Act.put, List.setIfInBounds_toArray, List.set_cons_zero, List.set_cons_succ])
  refine wpAnyH_take (i := 16) (oi := ({ dst := some 25, op := Op.move (Operand.tmp 24), type := 4, pos := "law.go:44", after := #[{ on := 15, ground := Ground.data }, { on := 9, ground := Ground.chain }], guard := none } : Oper)) (v := ?_) rfl (by kernel_rfl) (by kernel_rfl) (by kernel_rfl) (fun _ _ _ h => h) (Or.inl ⟨by rfl, ?_⟩) hHeld ?_
  rotate_left
  · ((intro w hSw; obtain ⟨-, s1, s2, s3⟩ := hSw; go_simp); (try with_reducible rfl))
  (try simp only [Act.put, List.setIfInBounds_toArray, List.set_cons_zero, List.set_cons_succ])
  refine wpAnyH_take (i := 17) (oi := ({ dst := some 26, op := Op.move (Operand.tmp 5), type := 22, pos := "law.go:44", after := #[{ on := 16, ground := Ground.guard }], guard := some (16, false) } : Oper)) (v := ?_) rfl (by kernel_rfl) (by kernel_rfl) (by kernel_rfl) (fun _ _ _ h => h) (Or.inl ⟨by rfl, ?_⟩) hHeld ?_
  rotate_left
  · ((intro w hSw; obtain ⟨-, s1, s2, s3⟩ := hSw; go_simp); (try with_reducible rfl))
  (try simp only [Act.put, List.setIfInBounds_toArray, List.set_cons_zero, List.set_cons_succ])
  refine wpAnyH_take (i := 18) (oi := ({ dst := some 27, op := Op.call { callee := Callee.builtin Builtin.len, args := #[Operand.tmp 26], argTypes := #[22] }, type := 3, pos := "law.go:44", after := #[{ on := 17, ground := Ground.data }, { on := 16, ground := Ground.guard }], guard := some (16, false) } : Oper)) (v := ?_) rfl (by kernel_rfl) (by kernel_rfl) (by kernel_rfl) (fun _ _ _ h => h) (Or.inl ⟨by rfl, ?_⟩) hHeld ?_
  rotate_left
  · ((intro w hSw; obtain ⟨-, s1, s2, s3⟩ := hSw; go_simp); (try with_reducible rfl))
  (try simp only [Act.put, List.setIfInBounds_toArray, List.set_cons_zero, List.set_cons_succ])
  refine wpAnyH_take (i := 19) (oi := ({ dst := some 28, op := Op.move (Operand.tmp 1), type := 28, pos := "law.go:44", after := #[{ on := 16, ground := Ground.guard }], guard := some (16, false) } : Oper)) (v := ?_) rfl (by kernel_rfl) (by kernel_rfl) (by kernel_rfl) (fun _ _ _ h => h) (Or.inl ⟨by rfl, ?_⟩) hHeld ?_
  rotate_left
  · ((intro w hSw; obtain ⟨-, s1, s2, s3⟩ := hSw; go_simp); (try with_reducible rfl))
  (try simp only [Act.put, List.setIfInBounds_toArray, List.set_cons_zero, List.set_cons_succ])
  refine wpAnyH_take (i := 20) (oi := ({ dst := some 29, op := Op.nilCheck (Operand.tmp 28), type := 0, pos := "law.go:44", after := #[{ on := 19, ground := Ground.data }, { on := 16, ground := Ground.guard }], guard := some (16, false) } : Oper)) (v := ?_) rfl (by kernel_rfl) (by kernel_rfl) (by kernel_rfl) (fun _ _ _ h => h) (Or.inl ⟨by rfl, ?_⟩) hHeld ?_
  rotate_left
  · ((intro w hSw; obtain ⟨-, s1, s2, s3⟩ := hSw; go_simp); (try with_reducible rfl))
  (try simp only [Act.put, List.setIfInBounds_toArray, List.set_cons_zero, List.set_cons_succ])
  refine wpAnyH_take (i := 21) (oi := ({ dst := some 30, op := Op.fieldAddr 81 (Operand.tmp 29) 4, type := 0, pos := "law.go:44", after := #[{ on := 20, ground := Ground.data }, { on := 16, ground := Ground.guard }], guard := some (16, false) } : Oper)) (v := ?_) rfl (by kernel_rfl) (by kernel_rfl) (by kernel_rfl) (fun _ _ _ h => h) (Or.inl ⟨by rfl, ?_⟩) hHeld ?_
  rotate_left
  · ((intro w hSw; obtain ⟨-, s1, s2, s3⟩ := hSw; go_simp); (try with_reducible rfl))
  (try simp only [Act.put, List.setIfInBounds_toArray, List.set_cons_zero, List.set_cons_succ])
  refine wpAnyH_take (i := 22) (oi := ({ dst := some 31, op := Op.load 79 (Operand.tmp 30), type := 79, pos := "law.go:44", after := #[{ on := 21, ground := Ground.data }, { on := 16, ground := Ground.guard }], guard := some (16, false) } : Oper)) (v := ?_) rfl (by kernel_rfl) (by kernel_rfl) (by kernel_rfl) (fun _ _ _ h => h) (Or.inl ⟨by rfl, ?_⟩) hHeld ?_
  rotate_left
  · ((intro w hSw; obtain ⟨-, s1, s2, s3⟩ := hSw; go_simp); (try with_reducible rfl))
  (try simp only [Act.put, List.setIfInBounds_toArray, List.set_cons_zero, List.set_cons_succ])
  refine wpAnyH_take (i := 23) (oi := ({ dst := some 32, op := Op.call { callee := Callee.builtin Builtin.len, args := #[Operand.tmp 31], argTypes := #[79] }, type := 3, pos := "law.go:44", after := #[{ on := 22, ground := Ground.data }, { on := 16, ground := Ground.guard }], guard := some (16, false) } : Oper)) (v := ?_) rfl (by kernel_rfl) (by kernel_rfl) (by kernel_rfl) (fun _ _ _ h => h) (Or.inl ⟨by rfl, ?_⟩) hHeld ?_
  rotate_left
  · ((intro w hSw; obtain ⟨-, s1, s2, s3⟩ := hSw; go_simp); (try with_reducible rfl))
  (try simp only [Act.put, List.setIfInBounds_toArray, List.set_cons_zero, List.set_cons_succ])
  refine wpAnyH_take (i := 24) (oi := ({ dst := some 33, op := Op.binOp BinOp.neq 3 (Operand.tmp 27) (Operand.tmp 32) 3, type := 4, pos := "law.go:44", after := #[{ on := 18, ground := Ground.data }, { on := 23, ground := Ground.data }, { on := 16, ground := Ground.guard }], guard := some (16, false) } : Oper)) (v := ?_) rfl (by kernel_rfl) (by kernel_rfl) (by kernel_rfl) (fun _ _ _ h => h) (Or.inl ⟨by rfl, ?_⟩) hHeld ?_
  rotate_left
  · ((intro w hSw; obtain ⟨-, s1, s2, s3⟩ := hSw; go_simp); (try with_reducible rfl))
  (try simp only [Act.put, List.setIfInBounds_toArray, List.set_cons_zero, List.set_cons_succ])
  refine wpAnyH_take (i := 25) (oi := ({ dst := some 34, op := Op.pick (Operand.tmp 25) (Operand.const (Value.bool true)) (Operand.tmp 33), type := 4, pos := "law.go:44", after := #[{ on := 16, ground := Ground.data }, { on := 24, ground := Ground.data }], guard := none } : Oper)) (v := ?_) rfl (by kernel_rfl) (by kernel_rfl) (by kernel_rfl) (fun _ _ _ h => h) (Or.inl ⟨by rfl, ?_⟩) hHeld ?_
  rotate_left
  · ((intro w hSw; obtain ⟨-, s1, s2, s3⟩ := hSw; go_simp); (try with_reducible rfl))
  (try simp only [Act.put, List.setIfInBounds_toArray, List.set_cons_zero, List.set_cons_succ])
  refine wpAnyH_done (by kernel_rfl) ?_ _
  have START : Hid (AgRel L.length w1 (.int .i64 0) u2) := Lib.hid ⟨0, Nat.zero_le _, rfl, BL⟩
  clear hHeld BL Bz KS CH CS
  go_wp2
  go_loopw [6] (fun i wr => AgRel L.length w1 i wr) (fun i _ => L.length - (intOf i).toNat)
  case atStart => exact START.out
  case round =>
    obtain ⟨k, hk, rfl, BB⟩ := hrel
    clear START
    obtain ⟨v0, hv0⟩ : ∃ x, x = wr := ⟨_, rfl⟩
    subst hv0
    by_cases hlt : k < L.length
    · have HLT := Lib.hid hlt
      obtain ⟨b, off, rfl, q1, q2, q3, q4⟩ := (QL.out.below BB.out) k hlt
      obtain ⟨b', off', rfl, p1, p2, p3, p4⟩ := (R1.out.2.1.below BB.out) k hlt
      have yl := keep1 BB.out R1.out.1.five.2.2.2.2.1
      have hkk : (k : Int) < (L.length : Int) := by omega
      have hk0 : (0 : Int) ≤ (k : Int) := by omega
      have e2 : wrap64 ((k : Int) + 1) = (k : Int) + 1 := IntWalk.wrap64_in _ (by have := HL.out; omega)
      obtain ⟨⟨sa, sg, ss, sc⟩, hs⟩ : ∃ s, L.getD k smZ = s := ⟨_, rfl⟩
      rw [hs] at q1 q2 q3 q4 p1 p2 p3 p4
      dsimp only at q1 q2 q3 q4 p1 p2 p3 p4 yl
      have CO := Lib.hid (fun W => lawof_any sa sg ss sc W)
      have hne := fun W => s_neq_self sa sg ss sc W
      have F : Hid (∀ W, Below w1.heap.size w1 W → AgRel L.length w1 (.int .i64 ((k : Int) + 1)) W) := Lib.hid fun W h => ⟨k + 1, hlt, rfl, Lib.hid h⟩
      clear hlt hk hs
      go_upto_region 7 with fail
      have SS : Hid (Below w1.heap.size w1 v0.drew) ∧ v0.drew.cell? ⟨b, off + k * 4, none⟩ = some (.int .i64 sa) ∧ v0.drew.cell? ⟨b, off + k * 4 + 1, none⟩ = some (.int .i64 sg) ∧ v0.drew.cell? ⟨b, off + k * 4 + 2, none⟩ = some (.int .i64 ss) ∧ v0.drew.cell? ⟨b, off + k * 4 + 3, none⟩ = some (.int .i64 sc) ∧ v0.drew.cell? ⟨b', off' + k * 4, none⟩ = some (.int .i64 sa) ∧ v0.drew.cell? ⟨b', off' + k * 4 + 1, none⟩ = some (.int .i64 sg) ∧ v0.drew.cell? ⟨b', off' + k * 4 + 2, none⟩ = some (.int .i64 ss) ∧ v0.drew.cell? ⟨b', off' + k * 4 + 3, none⟩ = some (.int .i64 sc) ∧ v0.drew.cell? ⟨g', 4, none⟩ = some (.slice (some ⟨b', off', none⟩) L.length cap) := ⟨Lib.hid BB.out.drew, q1, q2, q3, q4, p1, p2, p3, p4, yl⟩
      clear q1 q2 q3 q4 p1 p2 p3 p4 yl BB
      go_region_held3 (fun w' => Hid (Below w1.heap.size w1 w') ∧ w'.cell? ⟨b, off + k * 4, none⟩ = some (.int .i64 sa) ∧ w'.cell? ⟨b, off + k * 4 + 1, none⟩ = some (.int .i64 sg) ∧ w'.cell? ⟨b, off + k * 4 + 2, none⟩ = some (.int .i64 ss) ∧ w'.cell? ⟨b, off + k * 4 + 3, none⟩ = some (.int .i64 sc) ∧ w'.cell? ⟨b', off' + k * 4, none⟩ = some (.int .i64 sa) ∧ w'.cell? ⟨b', off' + k * 4 + 1, none⟩ = some (.int .i64 sg) ∧ w'.cell? ⟨b', off' + k * 4 + 2, none⟩ = some (.int .i64 ss) ∧ w'.cell? ⟨b', off' + k * 4 + 3, none⟩ = some (.int .i64 sc) ∧ w'.cell? ⟨g', 4, none⟩ = some (.slice (some ⟨b', off', none⟩) L.length cap))
        (first | exact SS | go_keep)
        (first | (go_at_call 14; refine (CO.out _).mono ?_; rintro _ wd ⟨rfl, bd⟩; have SS := keepB9 (a := w1) bd SS))
      all_goals
        have FF := Lib.hid (F.out _ SS.1.out)
        clear SS
        go_wp2
        go_roundw
        case rel => (try rw [e2]); exact FF.out
        case measure => have := HLT.out; (try rw [e2]); simp [intOf]; omega
    · have e : k = L.length := by omega
      have BE := Lib.hid (B1.out.trans (BB.out.mono B1.out.size))
      clear BB hlt hk
      subst e
      go_wp2
      go_ret
      exact ⟨rfl, BE.out⟩
end Go.Proofs.Ytflplliiamodhaa
