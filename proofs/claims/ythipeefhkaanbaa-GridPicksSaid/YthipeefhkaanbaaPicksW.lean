/- GridPicks, walked. -/
import Derived.Test.YthipeefhkaanbaaAlive
namespace Go.Proofs.Ythipeefhkaanbaa
open Go.RowKit
set_option linter.unusedVariables false
set_option maxHeartbeats 4000000 in
theorem picks_bad (w p m a b o e : Int) (W0 : World)
    (Cp : Hid (∀ W, Calls Try.prog 13 #[.agg #[.int .i64 w, .int .i64 p, .int .i64 m], .agg #[.int .i64 a, .int .i64 b]] W (Gives (.tuple #[.int .i64 0, .int .i64 e]) W))) (he : (e != 0) = true) :
    Calls Try.prog 5 #[.agg #[.int .i64 w, .int .i64 p, .int .i64 m], .agg #[.int .i64 a, .int .i64 b], .int .i64 o] W0 fun e w' => e = .returned (.bool true) ∧ Below W0.heap.size W0 w' := by
  go_enter Try.func5, Try.ntmps5
  have B0 : Hid (Below W0.heap.size W0 W0) := Lib.hid (Below.refl W0.heap.size W0)
  go_wp2_with fail
  refine (alive_any _).mono ?_
  rintro e1 w1 ⟨rfl, hb1⟩
  have Kg : Hid (Kept w1 _ #[.int .i64 w, .int .i64 p, .int .i64 m] 23) := Lib.hid (((Kept.new (w := W0) (cs := #[.int .i64 w, .int .i64 p, .int .i64 m]) (t := 23) rfl).alloc (.cells #[.int .i64 a, .int .i64 b] 25)).next hb1)
  have Kx : Hid (Kept w1 _ #[.int .i64 a, .int .i64 b] 25) := Lib.hid ((Kept.new (w := (W0.alloc (.cells #[.int .i64 w, .int .i64 p, .int .i64 m] 23))) (g := W0.heap.size + 1) (cs := #[.int .i64 a, .int .i64 b]) (t := 25) (by simp)).next hb1)
  have B1 : Hid (Below W0.heap.size W0 w1) := Lib.hid (bnext (((((B0.out).alloc (by have := B0.out.size; first | omega | (simp <;> omega)) _)).alloc (by have := B0.out.size; first | omega | (simp <;> omega)) _)) (by have := B0.out.size; first | omega | (simp <;> omega)) hb1)
  clear hb1
  obtain ⟨g1, g2, g3, -, -, -, gl⟩ := Kg.out.three
  obtain ⟨x1, x2, -, -, xl⟩ := Kx.out.two
  go_wp2_with fail
  refine (Cp.out _).mono ?_
  rintro e2 w2 ⟨rfl, hb2⟩
  clear g1 g2 g3 gl
  clear x1 x2 xl
  have Kg : Hid (Kept w2 _ _ _) := Lib.hid (Kg.out.next hb2)
  have Kx : Hid (Kept w2 _ _ _) := Lib.hid (Kx.out.next hb2)
  have B2 : Hid (Below W0.heap.size W0 w2) := Lib.hid (bnext (B1.out) (by have := B1.out.size; first | omega | (simp <;> omega)) hb2)
  clear hb2
  go_wp2
  go_ret
  exact ⟨rfl, B2.out⟩
set_option maxHeartbeats 4000000 in
theorem picks_any_none (w p m a b o x y v z : Int) (W0 : World)
    (Cp : Hid (∀ W, Calls Try.prog 13 #[.agg #[.int .i64 w, .int .i64 p, .int .i64 m], .agg #[.int .i64 a, .int .i64 b]] W (Gives (.tuple #[.int .i64 v, .int .i64 0]) W))) (Cm : Hid (∀ W, Calls Try.prog 15 #[.agg #[.int .i64 w, .int .i64 p, .int .i64 m], .agg #[.int .i64 a, .int .i64 b]] W (MeetRes x y 0 W))) (Cd : Hid (∀ W, Calls Try.prog 21 #[.agg #[.int .i64 a, .int .i64 b]] W (Gives (.int .u64 z) W))) (h1 : decide (v < x) = false) (h2 : decide (y < v) = false) (h3 : 0 ≤ m) (h4 : m ≤ 4611686018427387903) (h5 : decide (m < z) = false) (hp : (p == 3) = false) (Cn : Hid (∀ W, Calls Try.prog 8 #[.int .i64 w, .int .i64 o, .int .i64 m] W (GridRes 0 0 0 11 W))) :
    Calls Try.prog 5 #[.agg #[.int .i64 w, .int .i64 p, .int .i64 m], .agg #[.int .i64 a, .int .i64 b], .int .i64 o] W0 fun e w' => e = .returned (.bool true) ∧ Below W0.heap.size W0 w' := by
  go_enter Try.func5, Try.ntmps5
  have B0 : Hid (Below W0.heap.size W0 W0) := Lib.hid (Below.refl W0.heap.size W0)
  go_wp2_with fail
  refine (alive_any _).mono ?_
  rintro e1 w1 ⟨rfl, hb1⟩
  have Kg : Hid (Kept w1 _ #[.int .i64 w, .int .i64 p, .int .i64 m] 23) := Lib.hid (((Kept.new (w := W0) (cs := #[.int .i64 w, .int .i64 p, .int .i64 m]) (t := 23) rfl).alloc (.cells #[.int .i64 a, .int .i64 b] 25)).next hb1)
  have Kx : Hid (Kept w1 _ #[.int .i64 a, .int .i64 b] 25) := Lib.hid ((Kept.new (w := (W0.alloc (.cells #[.int .i64 w, .int .i64 p, .int .i64 m] 23))) (g := W0.heap.size + 1) (cs := #[.int .i64 a, .int .i64 b]) (t := 25) (by simp)).next hb1)
  have B1 : Hid (Below W0.heap.size W0 w1) := Lib.hid (bnext (((((B0.out).alloc (by have := B0.out.size; first | omega | (simp <;> omega)) _)).alloc (by have := B0.out.size; first | omega | (simp <;> omega)) _)) (by have := B0.out.size; first | omega | (simp <;> omega)) hb1)
  clear hb1
  obtain ⟨g1, g2, g3, -, -, -, gl⟩ := Kg.out.three
  obtain ⟨x1, x2, -, -, xl⟩ := Kx.out.two
  go_wp2_with fail
  refine (Cp.out _).mono ?_
  rintro e2 w2 ⟨rfl, hb2⟩
  clear g1 g2 g3 gl
  clear x1 x2 xl
  have Kg : Hid (Kept w2 _ _ _) := Lib.hid (Kg.out.next hb2)
  have Kx : Hid (Kept w2 _ _ _) := Lib.hid (Kx.out.next hb2)
  have B2 : Hid (Below W0.heap.size W0 w2) := Lib.hid (bnext (B1.out) (by have := B1.out.size; first | omega | (simp <;> omega)) hb2)
  clear hb2
  obtain ⟨g1, g2, g3, -, -, -, gl⟩ := Kg.out.three
  obtain ⟨x1, x2, -, -, xl⟩ := Kx.out.two
  go_wp2_with fail
  refine (Cm.out _).mono ?_
  rintro e3 w3 ⟨rfl, hb3⟩
  clear g1 g2 g3 gl
  clear x1 x2 xl
  have Kg : Hid (Kept w3 _ _ _) := Lib.hid (Kg.out.next hb3)
  have Kx : Hid (Kept w3 _ _ _) := Lib.hid (Kx.out.next hb3)
  have B3 : Hid (Below W0.heap.size W0 w3) := Lib.hid (bnext (B2.out) (by have := B2.out.size; first | omega | (simp <;> omega)) hb3)
  clear hb3
  obtain ⟨g1, g2, g3, -, -, -, gl⟩ := Kg.out.three
  obtain ⟨x1, x2, -, -, xl⟩ := Kx.out.two
  have wm : IntKind.u64.wrap m = m := by simp only [IntKind.wrap_u64]; omega
  go_wp2
  refine wp_region_held_drew (S := (fun w' => Hid (Below W0.heap.size W0 w') ∧ w'.cell? ⟨W0.heap.size, 0, none⟩ = some (.int .i64 w) ∧ w'.cell? ⟨W0.heap.size, 1, none⟩ = some (.int .i64 p) ∧ w'.cell? ⟨W0.heap.size, 2, none⟩ = some (.int .i64 m) ∧ w'.cell? ⟨W0.heap.size + 1, 0, none⟩ = some (.int .i64 a) ∧ w'.cell? ⟨W0.heap.size + 1, 1, none⟩ = some (.int .i64 b))) (by kernel_rfl) ⟨Lib.hid ⟨B3.out.os, B3.out.tape, B3.out.output, B3.out.size, B3.out.block⟩, g1, g2, g3, x1, x2⟩ (fun hHeld => ?_)
  refine wpAnyH_take (i := 0) (oi := ({ dst := some 35, op := Op.move (Operand.tmp 11), type := 27, pos := "law.go:86", after := #[], guard := none } : Oper)) (v := ?_) rfl (by kernel_rfl) (by kernel_rfl) (by kernel_rfl) (fun _ _ _ h => h) (Or.inl ⟨by rfl, ?_⟩) (by assumption) ?_
  rotate_left
  · ((intro w hSw; (try dsimp only at hSw); go_simp); (try with_reducible rfl))
  try simp only [Act.put, List.setIfInBounds_toArray, List.set_cons_zero, List.set_cons_succ]
  refine wpAnyH_take (i := 1) (oi := ({ dst := some 36, op := Op.binOp BinOp.neq 27 (Operand.tmp 35) (Operand.const (Value.int IntKind.i64 0)) 27, type := 4, pos := "law.go:86", after := #[{ on := 0, ground := Ground.data }], guard := none } : Oper)) (v := ?_) rfl (by kernel_rfl) (by kernel_rfl) (by kernel_rfl) (fun _ _ _ h => h) (Or.inl ⟨by rfl, ?_⟩) (by assumption) ?_
  rotate_left
  · ((intro w hSw; (try dsimp only at hSw); go_simp); (try with_reducible rfl))
  try simp only [Act.put, List.setIfInBounds_toArray, List.set_cons_zero, List.set_cons_succ]
  refine wpAnyH_take (i := 2) (oi := ({ dst := some 37, op := Op.move (Operand.tmp 36), type := 4, pos := "law.go:86", after := #[{ on := 1, ground := Ground.data }], guard := none } : Oper)) (v := ?_) rfl (by kernel_rfl) (by kernel_rfl) (by kernel_rfl) (fun _ _ _ h => h) (Or.inl ⟨by rfl, ?_⟩) (by assumption) ?_
  rotate_left
  · ((intro w hSw; (try dsimp only at hSw); go_simp); (try with_reducible rfl))
  try simp only [Act.put, List.setIfInBounds_toArray, List.set_cons_zero, List.set_cons_succ]
  refine wpAnyH_take (i := 3) (oi := ({ dst := some 38, op := Op.move (Operand.tmp 7), type := 2, pos := "law.go:86", after := #[{ on := 2, ground := Ground.guard }], guard := some (2, false) } : Oper)) (v := ?_) rfl (by kernel_rfl) (by kernel_rfl) (by kernel_rfl) (fun _ _ _ h => h) (Or.inl ⟨by rfl, ?_⟩) (by assumption) ?_
  rotate_left
  · ((intro w hSw; (try dsimp only at hSw); go_simp); (try with_reducible rfl))
  try simp only [Act.put, List.setIfInBounds_toArray, List.set_cons_zero, List.set_cons_succ]
  refine wpAnyH_take (i := 4) (oi := ({ dst := some 39, op := Op.move (Operand.tmp 9), type := 2, pos := "law.go:86", after := #[{ on := 2, ground := Ground.guard }], guard := some (2, false) } : Oper)) (v := ?_) rfl (by kernel_rfl) (by kernel_rfl) (by kernel_rfl) (fun _ _ _ h => h) (Or.inl ⟨by rfl, ?_⟩) (by assumption) ?_
  rotate_left
  · ((intro w hSw; (try dsimp only at hSw); go_simp); (try with_reducible rfl))
  try simp only [Act.put, List.setIfInBounds_toArray, List.set_cons_zero, List.set_cons_succ]
  refine wpAnyH_take (i := 5) (oi := ({ dst := some 40, op := Op.binOp BinOp.lss 2 (Operand.tmp 38) (Operand.tmp 39) 2, type := 4, pos := "law.go:86", after := #[{ on := 3, ground := Ground.data }, { on := 4, ground := Ground.data }, { on := 2, ground := Ground.guard }], guard := some (2, false) } : Oper)) (v := ?_) rfl (by kernel_rfl) (by kernel_rfl) (by kernel_rfl) (fun _ _ _ h => h) (Or.inl ⟨by rfl, ?_⟩) (by assumption) ?_
  rotate_left
  · ((intro w hSw; (try dsimp only at hSw); go_simp); (try with_reducible rfl))
  try simp only [Act.put, List.setIfInBounds_toArray, List.set_cons_zero, List.set_cons_succ]
  refine wpAnyH_take (i := 6) (oi := ({ dst := some 41, op := Op.pick (Operand.tmp 37) (Operand.const (Value.bool true)) (Operand.tmp 40), type := 4, pos := "law.go:86", after := #[{ on := 2, ground := Ground.data }, { on := 5, ground := Ground.data }], guard := none } : Oper)) (v := ?_) rfl (by kernel_rfl) (by kernel_rfl) (by kernel_rfl) (fun _ _ _ h => h) (Or.inl ⟨by rfl, ?_⟩) (by assumption) ?_
  rotate_left
  · ((intro w hSw; (try dsimp only at hSw); go_simp); (try with_reducible rfl))
  try simp only [Act.put, List.setIfInBounds_toArray, List.set_cons_zero, List.set_cons_succ]
  refine wpAnyH_take (i := 7) (oi := ({ dst := some 42, op := Op.move (Operand.tmp 41), type := 4, pos := "law.go:86", after := #[{ on := 6, ground := Ground.data }, { on := 2, ground := Ground.chain }], guard := none } : Oper)) (v := ?_) rfl (by kernel_rfl) (by kernel_rfl) (by kernel_rfl) (fun _ _ _ h => h) (Or.inl ⟨by rfl, ?_⟩) (by assumption) ?_
  rotate_left
  · ((intro w hSw; (try dsimp only at hSw); go_simp); (try with_reducible rfl))
  try simp only [Act.put, List.setIfInBounds_toArray, List.set_cons_zero, List.set_cons_succ]
  refine wpAnyH_take (i := 8) (oi := ({ dst := some 43, op := Op.move (Operand.tmp 7), type := 2, pos := "law.go:86", after := #[{ on := 7, ground := Ground.guard }], guard := some (7, false) } : Oper)) (v := ?_) rfl (by kernel_rfl) (by kernel_rfl) (by kernel_rfl) (fun _ _ _ h => h) (Or.inl ⟨by rfl, ?_⟩) (by assumption) ?_
  rotate_left
  · ((intro w hSw; (try dsimp only at hSw); go_simp); (try with_reducible rfl))
  try simp only [Act.put, List.setIfInBounds_toArray, List.set_cons_zero, List.set_cons_succ]
  refine wpAnyH_take (i := 9) (oi := ({ dst := some 44, op := Op.move (Operand.tmp 10), type := 2, pos := "law.go:86", after := #[{ on := 7, ground := Ground.guard }], guard := some (7, false) } : Oper)) (v := ?_) rfl (by kernel_rfl) (by kernel_rfl) (by kernel_rfl) (fun _ _ _ h => h) (Or.inl ⟨by rfl, ?_⟩) (by assumption) ?_
  rotate_left
  · ((intro w hSw; (try dsimp only at hSw); go_simp); (try with_reducible rfl))
  try simp only [Act.put, List.setIfInBounds_toArray, List.set_cons_zero, List.set_cons_succ]
  refine wpAnyH_take (i := 10) (oi := ({ dst := some 45, op := Op.binOp BinOp.gtr 2 (Operand.tmp 43) (Operand.tmp 44) 2, type := 4, pos := "law.go:86", after := #[{ on := 8, ground := Ground.data }, { on := 9, ground := Ground.data }, { on := 7, ground := Ground.guard }], guard := some (7, false) } : Oper)) (v := ?_) rfl (by kernel_rfl) (by kernel_rfl) (by kernel_rfl) (fun _ _ _ h => h) (Or.inl ⟨by rfl, ?_⟩) (by assumption) ?_
  rotate_left
  · ((intro w hSw; (try dsimp only at hSw); go_simp); (try with_reducible rfl))
  try simp only [Act.put, List.setIfInBounds_toArray, List.set_cons_zero, List.set_cons_succ]
  refine wpAnyH_take (i := 11) (oi := ({ dst := some 46, op := Op.pick (Operand.tmp 42) (Operand.const (Value.bool true)) (Operand.tmp 45), type := 4, pos := "law.go:86", after := #[{ on := 7, ground := Ground.data }, { on := 10, ground := Ground.data }], guard := none } : Oper)) (v := ?_) rfl (by kernel_rfl) (by kernel_rfl) (by kernel_rfl) (fun _ _ _ h => h) (Or.inl ⟨by rfl, ?_⟩) (by assumption) ?_
  rotate_left
  · ((intro w hSw; (try dsimp only at hSw); go_simp); (try with_reducible rfl))
  try simp only [Act.put, List.setIfInBounds_toArray, List.set_cons_zero, List.set_cons_succ]
  refine wpAnyH_take (i := 12) (oi := ({ dst := some 47, op := Op.move (Operand.tmp 46), type := 4, pos := "law.go:86", after := #[{ on := 11, ground := Ground.data }, { on := 7, ground := Ground.chain }], guard := none } : Oper)) (v := ?_) rfl (by kernel_rfl) (by kernel_rfl) (by kernel_rfl) (fun _ _ _ h => h) (Or.inl ⟨by rfl, ?_⟩) (by assumption) ?_
  rotate_left
  · ((intro w hSw; (try dsimp only at hSw); go_simp); (try with_reducible rfl))
  try simp only [Act.put, List.setIfInBounds_toArray, List.set_cons_zero, List.set_cons_succ]
  refine wpAnyH_take (i := 13) (oi := ({ dst := some 48, op := Op.load 25 (Operand.tmp 4), type := 25, pos := "law.go:86", after := #[{ on := 12, ground := Ground.guard }], guard := some (12, false) } : Oper)) (v := ?_) rfl (by kernel_rfl) (by kernel_rfl) (by kernel_rfl) (fun _ _ _ h => h) (Or.inl ⟨by rfl, ?_⟩) (by assumption) ?_
  rotate_left
  · ((intro w hSw; (try dsimp only at hSw); go_simp); (try with_reducible rfl))
  try simp only [Act.put, List.setIfInBounds_toArray, List.set_cons_zero, List.set_cons_succ]
  refine wpAnyH_take (i := 15) (oi := ({ dst := some 50, op := Op.fieldAddr 23 (Operand.tmp 3) 2, type := 0, pos := "law.go:86", after := #[{ on := 12, ground := Ground.guard }], guard := some (12, false) } : Oper)) (v := ?_) rfl (by kernel_rfl) (by kernel_rfl) (by kernel_rfl) (fun _ _ _ h => h) (Or.inl ⟨by rfl, ?_⟩) (by assumption) ?_
  rotate_left
  · ((intro w hSw; (try dsimp only at hSw); go_simp); (try with_reducible rfl))
  try simp only [Act.put, List.setIfInBounds_toArray, List.set_cons_zero, List.set_cons_succ]
  refine wpAnyH_take (i := 16) (oi := ({ dst := some 51, op := Op.load 2 (Operand.tmp 50), type := 2, pos := "law.go:86", after := #[{ on := 15, ground := Ground.data }, { on := 12, ground := Ground.guard }], guard := some (12, false) } : Oper)) (v := ?_) rfl (by kernel_rfl) (by kernel_rfl) (by kernel_rfl) (fun _ _ _ h => h) (Or.inl ⟨by rfl, ?_⟩) (by assumption) ?_
  rotate_left
  · ((intro w hSw; (try dsimp only at hSw); go_simp); (try with_reducible rfl))
  try simp only [Act.put, List.setIfInBounds_toArray, List.set_cons_zero, List.set_cons_succ]
  refine wpAnyH_take (i := 17) (oi := ({ dst := some 52, op := Op.convert 2 48 (Operand.tmp 51), type := 48, pos := "law.go:86", after := #[{ on := 16, ground := Ground.data }, { on := 12, ground := Ground.guard }], guard := some (12, false) } : Oper)) (v := ?_) rfl (by kernel_rfl) (by kernel_rfl) (by kernel_rfl) (fun _ _ _ h => h) (Or.inl ⟨by rfl, ?_⟩) (by assumption) ?_
  rotate_left
  · ((intro w hSw; (try dsimp only at hSw); go_simp); (try with_reducible rfl))
  try simp only [Act.put, List.setIfInBounds_toArray, List.set_cons_zero, List.set_cons_succ]
  refine wpAnyH_ready (rs := [14]) (by kernel_rfl) (by simp) ?_
  refine AllReadyH.cons (o := ({ dst := some 49, op := Op.call { callee := Callee.value (Operand.func 21), args := #[Operand.tmp 48], argTypes := #[25] }, type := 48, pos := "law.go:86", after := #[{ on := 13, ground := Ground.data }, { on := 12, ground := Ground.chain }, { on := 12, ground := Ground.guard }], guard := some (12, false) } : Oper)) rfl (fun K hK => ?_) AllReadyH.nil
  go_simp
  (with_reducible refine (Cd.out _).mono ?_)
  rintro e w7 ⟨rfl, hb7⟩
  refine hK.out _ _ ?_ (fun hHeld => ?_)
  · exact keepB5 hb7 hHeld
  clear hK K
  try simp only [Act.put, List.setIfInBounds_toArray, List.set_cons_zero, List.set_cons_succ]
  refine wpAnyH_take (i := 18) (oi := ({ dst := some 53, op := Op.binOp BinOp.gtr 48 (Operand.tmp 49) (Operand.tmp 52) 48, type := 4, pos := "law.go:86", after := #[{ on := 14, ground := Ground.data }, { on := 17, ground := Ground.data }, { on := 12, ground := Ground.guard }], guard := some (12, false) } : Oper)) (v := ?_) rfl (by kernel_rfl) (by kernel_rfl) (by kernel_rfl) (fun _ _ _ h => h) (Or.inl ⟨by rfl, ?_⟩) (by assumption) ?_
  rotate_left
  · ((intro w hSw; (try dsimp only at hSw); go_simp); (try with_reducible rfl))
  try simp only [Act.put, List.setIfInBounds_toArray, List.set_cons_zero, List.set_cons_succ]
  refine wpAnyH_take (i := 19) (oi := ({ dst := some 54, op := Op.pick (Operand.tmp 47) (Operand.const (Value.bool true)) (Operand.tmp 53), type := 4, pos := "law.go:86", after := #[{ on := 12, ground := Ground.data }, { on := 18, ground := Ground.data }], guard := none } : Oper)) (v := ?_) rfl (by kernel_rfl) (by kernel_rfl) (by kernel_rfl) (fun _ _ _ h => h) (Or.inl ⟨by rfl, ?_⟩) (by assumption) ?_
  rotate_left
  · ((intro w hSw; (try dsimp only at hSw); go_simp); (try with_reducible rfl))
  try simp only [Act.put, List.setIfInBounds_toArray, List.set_cons_zero, List.set_cons_succ]
  refine wpAnyH_take (i := 20) (oi := ({ dst := some 55, op := Op.move (Operand.tmp 54), type := 4, pos := "law.go:86", after := #[{ on := 19, ground := Ground.data }, { on := 14, ground := Ground.chain }], guard := none } : Oper)) (v := ?_) rfl (by kernel_rfl) (by kernel_rfl) (by kernel_rfl) (fun _ _ _ h => h) (Or.inl ⟨by rfl, ?_⟩) (by assumption) ?_
  rotate_left
  · ((intro w hSw; (try dsimp only at hSw); go_simp); (try with_reducible rfl))
  try simp only [Act.put, List.setIfInBounds_toArray, List.set_cons_zero, List.set_cons_succ]
  refine wpAnyH_take (i := 21) (oi := ({ dst := some 56, op := Op.fieldAddr 23 (Operand.tmp 3) 1, type := 0, pos := "law.go:86", after := #[{ on := 20, ground := Ground.guard }], guard := some (20, false) } : Oper)) (v := ?_) rfl (by kernel_rfl) (by kernel_rfl) (by kernel_rfl) (fun _ _ _ h => h) (Or.inl ⟨by rfl, ?_⟩) (by assumption) ?_
  rotate_left
  · ((intro w hSw; (try dsimp only at hSw); go_simp); (try with_reducible rfl))
  try simp only [Act.put, List.setIfInBounds_toArray, List.set_cons_zero, List.set_cons_succ]
  refine wpAnyH_take (i := 22) (oi := ({ dst := some 57, op := Op.load 3 (Operand.tmp 56), type := 3, pos := "law.go:86", after := #[{ on := 21, ground := Ground.data }, { on := 20, ground := Ground.guard }], guard := some (20, false) } : Oper)) (v := ?_) rfl (by kernel_rfl) (by kernel_rfl) (by kernel_rfl) (fun _ _ _ h => h) (Or.inl ⟨by rfl, ?_⟩) (by assumption) ?_
  rotate_left
  · ((intro w hSw; (try dsimp only at hSw); go_simp); (try with_reducible rfl))
  try simp only [Act.put, List.setIfInBounds_toArray, List.set_cons_zero, List.set_cons_succ]
  refine wpAnyH_take (i := 23) (oi := ({ dst := some 58, op := Op.binOp BinOp.eql 3 (Operand.tmp 57) (Operand.const (Value.int IntKind.i64 3)) 3, type := 4, pos := "law.go:86", after := #[{ on := 22, ground := Ground.data }, { on := 20, ground := Ground.guard }], guard := some (20, false) } : Oper)) (v := ?_) rfl (by kernel_rfl) (by kernel_rfl) (by kernel_rfl) (fun _ _ _ h => h) (Or.inl ⟨by rfl, ?_⟩) (by assumption) ?_
  rotate_left
  · ((intro w hSw; (try dsimp only at hSw); go_simp); (try with_reducible rfl))
  try simp only [Act.put, List.setIfInBounds_toArray, List.set_cons_zero, List.set_cons_succ]
  refine wpAnyH_take (i := 24) (oi := ({ dst := some 59, op := Op.move (Operand.tmp 58), type := 4, pos := "law.go:86", after := #[{ on := 23, ground := Ground.data }, { on := 20, ground := Ground.chain }, { on := 20, ground := Ground.guard }], guard := some (20, false) } : Oper)) (v := ?_) rfl (by kernel_rfl) (by kernel_rfl) (by kernel_rfl) (fun _ _ _ h => h) (Or.inl ⟨by rfl, ?_⟩) (by assumption) ?_
  rotate_left
  · ((intro w hSw; (try dsimp only at hSw); go_simp); (try with_reducible rfl))
  try simp only [Act.put, List.setIfInBounds_toArray, List.set_cons_zero, List.set_cons_succ]
  refine wpAnyH_take (i := 25) (oi := ({ dst := some 60, op := Op.move (Operand.tmp 9), type := 2, pos := "law.go:86", after := #[{ on := 24, ground := Ground.guard }], guard := some (24, true) } : Oper)) (v := undef) rfl (by kernel_rfl) (by kernel_rfl) (by kernel_rfl) (fun _ _ _ h => h) (Or.inr ⟨by rfl, rfl⟩) (by assumption) ?_
  try simp only [Act.put, List.setIfInBounds_toArray, List.set_cons_zero, List.set_cons_succ]
  refine wpAnyH_take (i := 26) (oi := ({ dst := some 61, op := Op.move (Operand.tmp 10), type := 2, pos := "law.go:86", after := #[{ on := 24, ground := Ground.guard }], guard := some (24, true) } : Oper)) (v := undef) rfl (by kernel_rfl) (by kernel_rfl) (by kernel_rfl) (fun _ _ _ h => h) (Or.inr ⟨by rfl, rfl⟩) (by assumption) ?_
  try simp only [Act.put, List.setIfInBounds_toArray, List.set_cons_zero, List.set_cons_succ]
  refine wpAnyH_take (i := 27) (oi := ({ dst := some 62, op := Op.binOp BinOp.neq 2 (Operand.tmp 60) (Operand.tmp 61) 2, type := 4, pos := "law.go:86", after := #[{ on := 25, ground := Ground.data }, { on := 26, ground := Ground.data }, { on := 24, ground := Ground.guard }], guard := some (24, true) } : Oper)) (v := undef) rfl (by kernel_rfl) (by kernel_rfl) (by kernel_rfl) (fun _ _ _ h => h) (Or.inr ⟨by rfl, rfl⟩) (by assumption) ?_
  try simp only [Act.put, List.setIfInBounds_toArray, List.set_cons_zero, List.set_cons_succ]
  refine wpAnyH_take (i := 28) (oi := ({ dst := some 63, op := Op.pick (Operand.tmp 59) (Operand.tmp 62) (Operand.const (Value.bool false)), type := 4, pos := "law.go:86", after := #[{ on := 24, ground := Ground.data }, { on := 27, ground := Ground.data }, { on := 20, ground := Ground.guard }], guard := some (20, false) } : Oper)) (v := ?_) rfl (by kernel_rfl) (by kernel_rfl) (by kernel_rfl) (fun _ _ _ h => h) (Or.inl ⟨by rfl, ?_⟩) (by assumption) ?_
  rotate_left
  · ((intro w hSw; (try dsimp only at hSw); go_simp); (try with_reducible rfl))
  try simp only [Act.put, List.setIfInBounds_toArray, List.set_cons_zero, List.set_cons_succ]
  refine wpAnyH_take (i := 29) (oi := ({ dst := some 64, op := Op.pick (Operand.tmp 55) (Operand.const (Value.bool true)) (Operand.tmp 63), type := 4, pos := "law.go:86", after := #[{ on := 20, ground := Ground.data }, { on := 28, ground := Ground.data }], guard := none } : Oper)) (v := ?_) rfl (by kernel_rfl) (by kernel_rfl) (by kernel_rfl) (fun _ _ _ h => h) (Or.inl ⟨by rfl, ?_⟩) (by assumption) ?_
  rotate_left
  · ((intro w hSw; (try dsimp only at hSw); go_simp); (try with_reducible rfl))
  try simp only [Act.put, List.setIfInBounds_toArray, List.set_cons_zero, List.set_cons_succ]
  refine wpAnyH_done (by kernel_rfl) ?_ _
  have HH := hHeld
  clear g1 g2 g3 x1 x2 gl xl
  obtain ⟨B6, g1, g2, g3, x1, x2⟩ := HH
  go_wp2_with fail
  refine (Cn.out _).mono ?_
  rintro e8 w8 ⟨rfl, hb8⟩
  have B8 : Hid (Below W0.heap.size W0 w8) := Lib.hid (bstep B6.out hb8)
  clear g1 g2 g3 x1 x2 hb8
  go_wp2
  go_ret
  exact ⟨rfl, B8.out.alloc B8.out.size _⟩
set_option maxHeartbeats 4000000 in
theorem picks_any_unsure (w p m a b o x y v z : Int) (W0 : World)
    (Cp : Hid (∀ W, Calls Try.prog 13 #[.agg #[.int .i64 w, .int .i64 p, .int .i64 m], .agg #[.int .i64 a, .int .i64 b]] W (Gives (.tuple #[.int .i64 v, .int .i64 0]) W))) (Cm : Hid (∀ W, Calls Try.prog 15 #[.agg #[.int .i64 w, .int .i64 p, .int .i64 m], .agg #[.int .i64 a, .int .i64 b]] W (MeetRes x y 0 W))) (Cd : Hid (∀ W, Calls Try.prog 21 #[.agg #[.int .i64 a, .int .i64 b]] W (Gives (.int .u64 z) W))) (h1 : decide (v < x) = false) (h2 : decide (y < v) = false) (h3 : 0 ≤ m) (h4 : m ≤ 4611686018427387903) (h5 : decide (m < z) = false) (hp : (p == 3) = false) (Cn : Hid (∀ W, Calls Try.prog 8 #[.int .i64 w, .int .i64 o, .int .i64 m] W (GridRes w o m 0 W))) (Cc : Hid (∀ W, Calls Try.prog 18 #[.agg #[.int .i64 w, .int .i64 p, .int .i64 m], .agg #[.int .i64 a, .int .i64 b]] W (Gives (.bool false) W))) :
    Calls Try.prog 5 #[.agg #[.int .i64 w, .int .i64 p, .int .i64 m], .agg #[.int .i64 a, .int .i64 b], .int .i64 o] W0 fun e w' => e = .returned (.bool true) ∧ Below W0.heap.size W0 w' := by
  go_enter Try.func5, Try.ntmps5
  have B0 : Hid (Below W0.heap.size W0 W0) := Lib.hid (Below.refl W0.heap.size W0)
  go_wp2_with fail
  refine (alive_any _).mono ?_
  rintro e1 w1 ⟨rfl, hb1⟩
  have Kg : Hid (Kept w1 _ #[.int .i64 w, .int .i64 p, .int .i64 m] 23) := Lib.hid (((Kept.new (w := W0) (cs := #[.int .i64 w, .int .i64 p, .int .i64 m]) (t := 23) rfl).alloc (.cells #[.int .i64 a, .int .i64 b] 25)).next hb1)
  have Kx : Hid (Kept w1 _ #[.int .i64 a, .int .i64 b] 25) := Lib.hid ((Kept.new (w := (W0.alloc (.cells #[.int .i64 w, .int .i64 p, .int .i64 m] 23))) (g := W0.heap.size + 1) (cs := #[.int .i64 a, .int .i64 b]) (t := 25) (by simp)).next hb1)
  have B1 : Hid (Below W0.heap.size W0 w1) := Lib.hid (bnext (((((B0.out).alloc (by have := B0.out.size; first | omega | (simp <;> omega)) _)).alloc (by have := B0.out.size; first | omega | (simp <;> omega)) _)) (by have := B0.out.size; first | omega | (simp <;> omega)) hb1)
  clear hb1
  obtain ⟨g1, g2, g3, -, -, -, gl⟩ := Kg.out.three
  obtain ⟨x1, x2, -, -, xl⟩ := Kx.out.two
  go_wp2_with fail
  refine (Cp.out _).mono ?_
  rintro e2 w2 ⟨rfl, hb2⟩
  clear g1 g2 g3 gl
  clear x1 x2 xl
  have Kg : Hid (Kept w2 _ _ _) := Lib.hid (Kg.out.next hb2)
  have Kx : Hid (Kept w2 _ _ _) := Lib.hid (Kx.out.next hb2)
  have B2 : Hid (Below W0.heap.size W0 w2) := Lib.hid (bnext (B1.out) (by have := B1.out.size; first | omega | (simp <;> omega)) hb2)
  clear hb2
  obtain ⟨g1, g2, g3, -, -, -, gl⟩ := Kg.out.three
  obtain ⟨x1, x2, -, -, xl⟩ := Kx.out.two
  go_wp2_with fail
  refine (Cm.out _).mono ?_
  rintro e3 w3 ⟨rfl, hb3⟩
  clear g1 g2 g3 gl
  clear x1 x2 xl
  have Kg : Hid (Kept w3 _ _ _) := Lib.hid (Kg.out.next hb3)
  have Kx : Hid (Kept w3 _ _ _) := Lib.hid (Kx.out.next hb3)
  have B3 : Hid (Below W0.heap.size W0 w3) := Lib.hid (bnext (B2.out) (by have := B2.out.size; first | omega | (simp <;> omega)) hb3)
  clear hb3
  obtain ⟨g1, g2, g3, -, -, -, gl⟩ := Kg.out.three
  obtain ⟨x1, x2, -, -, xl⟩ := Kx.out.two
  have wm : IntKind.u64.wrap m = m := by simp only [IntKind.wrap_u64]; omega
  go_wp2
  refine wp_region_held_drew (S := (fun w' => Hid (Below W0.heap.size W0 w') ∧ w'.cell? ⟨W0.heap.size, 0, none⟩ = some (.int .i64 w) ∧ w'.cell? ⟨W0.heap.size, 1, none⟩ = some (.int .i64 p) ∧ w'.cell? ⟨W0.heap.size, 2, none⟩ = some (.int .i64 m) ∧ w'.cell? ⟨W0.heap.size + 1, 0, none⟩ = some (.int .i64 a) ∧ w'.cell? ⟨W0.heap.size + 1, 1, none⟩ = some (.int .i64 b))) (by kernel_rfl) ⟨Lib.hid ⟨B3.out.os, B3.out.tape, B3.out.output, B3.out.size, B3.out.block⟩, g1, g2, g3, x1, x2⟩ (fun hHeld => ?_)
  refine wpAnyH_take (i := 0) (oi := ({ dst := some 35, op := Op.move (Operand.tmp 11), type := 27, pos := "law.go:86", after := #[], guard := none } : Oper)) (v := ?_) rfl (by kernel_rfl) (by kernel_rfl) (by kernel_rfl) (fun _ _ _ h => h) (Or.inl ⟨by rfl, ?_⟩) (by assumption) ?_
  rotate_left
  · ((intro w hSw; (try dsimp only at hSw); go_simp); (try with_reducible rfl))
  try simp only [Act.put, List.setIfInBounds_toArray, List.set_cons_zero, List.set_cons_succ]
  refine wpAnyH_take (i := 1) (oi := ({ dst := some 36, op := Op.binOp BinOp.neq 27 (Operand.tmp 35) (Operand.const (Value.int IntKind.i64 0)) 27, type := 4, pos := "law.go:86", after := #[{ on := 0, ground := Ground.data }], guard := none } : Oper)) (v := ?_) rfl (by kernel_rfl) (by kernel_rfl) (by kernel_rfl) (fun _ _ _ h => h) (Or.inl ⟨by rfl, ?_⟩) (by assumption) ?_
  rotate_left
  · ((intro w hSw; (try dsimp only at hSw); go_simp); (try with_reducible rfl))
  try simp only [Act.put, List.setIfInBounds_toArray, List.set_cons_zero, List.set_cons_succ]
  refine wpAnyH_take (i := 2) (oi := ({ dst := some 37, op := Op.move (Operand.tmp 36), type := 4, pos := "law.go:86", after := #[{ on := 1, ground := Ground.data }], guard := none } : Oper)) (v := ?_) rfl (by kernel_rfl) (by kernel_rfl) (by kernel_rfl) (fun _ _ _ h => h) (Or.inl ⟨by rfl, ?_⟩) (by assumption) ?_
  rotate_left
  · ((intro w hSw; (try dsimp only at hSw); go_simp); (try with_reducible rfl))
  try simp only [Act.put, List.setIfInBounds_toArray, List.set_cons_zero, List.set_cons_succ]
  refine wpAnyH_take (i := 3) (oi := ({ dst := some 38, op := Op.move (Operand.tmp 7), type := 2, pos := "law.go:86", after := #[{ on := 2, ground := Ground.guard }], guard := some (2, false) } : Oper)) (v := ?_) rfl (by kernel_rfl) (by kernel_rfl) (by kernel_rfl) (fun _ _ _ h => h) (Or.inl ⟨by rfl, ?_⟩) (by assumption) ?_
  rotate_left
  · ((intro w hSw; (try dsimp only at hSw); go_simp); (try with_reducible rfl))
  try simp only [Act.put, List.setIfInBounds_toArray, List.set_cons_zero, List.set_cons_succ]
  refine wpAnyH_take (i := 4) (oi := ({ dst := some 39, op := Op.move (Operand.tmp 9), type := 2, pos := "law.go:86", after := #[{ on := 2, ground := Ground.guard }], guard := some (2, false) } : Oper)) (v := ?_) rfl (by kernel_rfl) (by kernel_rfl) (by kernel_rfl) (fun _ _ _ h => h) (Or.inl ⟨by rfl, ?_⟩) (by assumption) ?_
  rotate_left
  · ((intro w hSw; (try dsimp only at hSw); go_simp); (try with_reducible rfl))
  try simp only [Act.put, List.setIfInBounds_toArray, List.set_cons_zero, List.set_cons_succ]
  refine wpAnyH_take (i := 5) (oi := ({ dst := some 40, op := Op.binOp BinOp.lss 2 (Operand.tmp 38) (Operand.tmp 39) 2, type := 4, pos := "law.go:86", after := #[{ on := 3, ground := Ground.data }, { on := 4, ground := Ground.data }, { on := 2, ground := Ground.guard }], guard := some (2, false) } : Oper)) (v := ?_) rfl (by kernel_rfl) (by kernel_rfl) (by kernel_rfl) (fun _ _ _ h => h) (Or.inl ⟨by rfl, ?_⟩) (by assumption) ?_
  rotate_left
  · ((intro w hSw; (try dsimp only at hSw); go_simp); (try with_reducible rfl))
  try simp only [Act.put, List.setIfInBounds_toArray, List.set_cons_zero, List.set_cons_succ]
  refine wpAnyH_take (i := 6) (oi := ({ dst := some 41, op := Op.pick (Operand.tmp 37) (Operand.const (Value.bool true)) (Operand.tmp 40), type := 4, pos := "law.go:86", after := #[{ on := 2, ground := Ground.data }, { on := 5, ground := Ground.data }], guard := none } : Oper)) (v := ?_) rfl (by kernel_rfl) (by kernel_rfl) (by kernel_rfl) (fun _ _ _ h => h) (Or.inl ⟨by rfl, ?_⟩) (by assumption) ?_
  rotate_left
  · ((intro w hSw; (try dsimp only at hSw); go_simp); (try with_reducible rfl))
  try simp only [Act.put, List.setIfInBounds_toArray, List.set_cons_zero, List.set_cons_succ]
  refine wpAnyH_take (i := 7) (oi := ({ dst := some 42, op := Op.move (Operand.tmp 41), type := 4, pos := "law.go:86", after := #[{ on := 6, ground := Ground.data }, { on := 2, ground := Ground.chain }], guard := none } : Oper)) (v := ?_) rfl (by kernel_rfl) (by kernel_rfl) (by kernel_rfl) (fun _ _ _ h => h) (Or.inl ⟨by rfl, ?_⟩) (by assumption) ?_
  rotate_left
  · ((intro w hSw; (try dsimp only at hSw); go_simp); (try with_reducible rfl))
  try simp only [Act.put, List.setIfInBounds_toArray, List.set_cons_zero, List.set_cons_succ]
  refine wpAnyH_take (i := 8) (oi := ({ dst := some 43, op := Op.move (Operand.tmp 7), type := 2, pos := "law.go:86", after := #[{ on := 7, ground := Ground.guard }], guard := some (7, false) } : Oper)) (v := ?_) rfl (by kernel_rfl) (by kernel_rfl) (by kernel_rfl) (fun _ _ _ h => h) (Or.inl ⟨by rfl, ?_⟩) (by assumption) ?_
  rotate_left
  · ((intro w hSw; (try dsimp only at hSw); go_simp); (try with_reducible rfl))
  try simp only [Act.put, List.setIfInBounds_toArray, List.set_cons_zero, List.set_cons_succ]
  refine wpAnyH_take (i := 9) (oi := ({ dst := some 44, op := Op.move (Operand.tmp 10), type := 2, pos := "law.go:86", after := #[{ on := 7, ground := Ground.guard }], guard := some (7, false) } : Oper)) (v := ?_) rfl (by kernel_rfl) (by kernel_rfl) (by kernel_rfl) (fun _ _ _ h => h) (Or.inl ⟨by rfl, ?_⟩) (by assumption) ?_
  rotate_left
  · ((intro w hSw; (try dsimp only at hSw); go_simp); (try with_reducible rfl))
  try simp only [Act.put, List.setIfInBounds_toArray, List.set_cons_zero, List.set_cons_succ]
  refine wpAnyH_take (i := 10) (oi := ({ dst := some 45, op := Op.binOp BinOp.gtr 2 (Operand.tmp 43) (Operand.tmp 44) 2, type := 4, pos := "law.go:86", after := #[{ on := 8, ground := Ground.data }, { on := 9, ground := Ground.data }, { on := 7, ground := Ground.guard }], guard := some (7, false) } : Oper)) (v := ?_) rfl (by kernel_rfl) (by kernel_rfl) (by kernel_rfl) (fun _ _ _ h => h) (Or.inl ⟨by rfl, ?_⟩) (by assumption) ?_
  rotate_left
  · ((intro w hSw; (try dsimp only at hSw); go_simp); (try with_reducible rfl))
  try simp only [Act.put, List.setIfInBounds_toArray, List.set_cons_zero, List.set_cons_succ]
  refine wpAnyH_take (i := 11) (oi := ({ dst := some 46, op := Op.pick (Operand.tmp 42) (Operand.const (Value.bool true)) (Operand.tmp 45), type := 4, pos := "law.go:86", after := #[{ on := 7, ground := Ground.data }, { on := 10, ground := Ground.data }], guard := none } : Oper)) (v := ?_) rfl (by kernel_rfl) (by kernel_rfl) (by kernel_rfl) (fun _ _ _ h => h) (Or.inl ⟨by rfl, ?_⟩) (by assumption) ?_
  rotate_left
  · ((intro w hSw; (try dsimp only at hSw); go_simp); (try with_reducible rfl))
  try simp only [Act.put, List.setIfInBounds_toArray, List.set_cons_zero, List.set_cons_succ]
  refine wpAnyH_take (i := 12) (oi := ({ dst := some 47, op := Op.move (Operand.tmp 46), type := 4, pos := "law.go:86", after := #[{ on := 11, ground := Ground.data }, { on := 7, ground := Ground.chain }], guard := none } : Oper)) (v := ?_) rfl (by kernel_rfl) (by kernel_rfl) (by kernel_rfl) (fun _ _ _ h => h) (Or.inl ⟨by rfl, ?_⟩) (by assumption) ?_
  rotate_left
  · ((intro w hSw; (try dsimp only at hSw); go_simp); (try with_reducible rfl))
  try simp only [Act.put, List.setIfInBounds_toArray, List.set_cons_zero, List.set_cons_succ]
  refine wpAnyH_take (i := 13) (oi := ({ dst := some 48, op := Op.load 25 (Operand.tmp 4), type := 25, pos := "law.go:86", after := #[{ on := 12, ground := Ground.guard }], guard := some (12, false) } : Oper)) (v := ?_) rfl (by kernel_rfl) (by kernel_rfl) (by kernel_rfl) (fun _ _ _ h => h) (Or.inl ⟨by rfl, ?_⟩) (by assumption) ?_
  rotate_left
  · ((intro w hSw; (try dsimp only at hSw); go_simp); (try with_reducible rfl))
  try simp only [Act.put, List.setIfInBounds_toArray, List.set_cons_zero, List.set_cons_succ]
  refine wpAnyH_take (i := 15) (oi := ({ dst := some 50, op := Op.fieldAddr 23 (Operand.tmp 3) 2, type := 0, pos := "law.go:86", after := #[{ on := 12, ground := Ground.guard }], guard := some (12, false) } : Oper)) (v := ?_) rfl (by kernel_rfl) (by kernel_rfl) (by kernel_rfl) (fun _ _ _ h => h) (Or.inl ⟨by rfl, ?_⟩) (by assumption) ?_
  rotate_left
  · ((intro w hSw; (try dsimp only at hSw); go_simp); (try with_reducible rfl))
  try simp only [Act.put, List.setIfInBounds_toArray, List.set_cons_zero, List.set_cons_succ]
  refine wpAnyH_take (i := 16) (oi := ({ dst := some 51, op := Op.load 2 (Operand.tmp 50), type := 2, pos := "law.go:86", after := #[{ on := 15, ground := Ground.data }, { on := 12, ground := Ground.guard }], guard := some (12, false) } : Oper)) (v := ?_) rfl (by kernel_rfl) (by kernel_rfl) (by kernel_rfl) (fun _ _ _ h => h) (Or.inl ⟨by rfl, ?_⟩) (by assumption) ?_
  rotate_left
  · ((intro w hSw; (try dsimp only at hSw); go_simp); (try with_reducible rfl))
  try simp only [Act.put, List.setIfInBounds_toArray, List.set_cons_zero, List.set_cons_succ]
  refine wpAnyH_take (i := 17) (oi := ({ dst := some 52, op := Op.convert 2 48 (Operand.tmp 51), type := 48, pos := "law.go:86", after := #[{ on := 16, ground := Ground.data }, { on := 12, ground := Ground.guard }], guard := some (12, false) } : Oper)) (v := ?_) rfl (by kernel_rfl) (by kernel_rfl) (by kernel_rfl) (fun _ _ _ h => h) (Or.inl ⟨by rfl, ?_⟩) (by assumption) ?_
  rotate_left
  · ((intro w hSw; (try dsimp only at hSw); go_simp); (try with_reducible rfl))
  try simp only [Act.put, List.setIfInBounds_toArray, List.set_cons_zero, List.set_cons_succ]
  refine wpAnyH_ready (rs := [14]) (by kernel_rfl) (by simp) ?_
  refine AllReadyH.cons (o := ({ dst := some 49, op := Op.call { callee := Callee.value (Operand.func 21), args := #[Operand.tmp 48], argTypes := #[25] }, type := 48, pos := "law.go:86", after := #[{ on := 13, ground := Ground.data }, { on := 12, ground := Ground.chain }, { on := 12, ground := Ground.guard }], guard := some (12, false) } : Oper)) rfl (fun K hK => ?_) AllReadyH.nil
  go_simp
  (with_reducible refine (Cd.out _).mono ?_)
  rintro e w7 ⟨rfl, hb7⟩
  refine hK.out _ _ ?_ (fun hHeld => ?_)
  · exact keepB5 hb7 hHeld
  clear hK K
  try simp only [Act.put, List.setIfInBounds_toArray, List.set_cons_zero, List.set_cons_succ]
  refine wpAnyH_take (i := 18) (oi := ({ dst := some 53, op := Op.binOp BinOp.gtr 48 (Operand.tmp 49) (Operand.tmp 52) 48, type := 4, pos := "law.go:86", after := #[{ on := 14, ground := Ground.data }, { on := 17, ground := Ground.data }, { on := 12, ground := Ground.guard }], guard := some (12, false) } : Oper)) (v := ?_) rfl (by kernel_rfl) (by kernel_rfl) (by kernel_rfl) (fun _ _ _ h => h) (Or.inl ⟨by rfl, ?_⟩) (by assumption) ?_
  rotate_left
  · ((intro w hSw; (try dsimp only at hSw); go_simp); (try with_reducible rfl))
  try simp only [Act.put, List.setIfInBounds_toArray, List.set_cons_zero, List.set_cons_succ]
  refine wpAnyH_take (i := 19) (oi := ({ dst := some 54, op := Op.pick (Operand.tmp 47) (Operand.const (Value.bool true)) (Operand.tmp 53), type := 4, pos := "law.go:86", after := #[{ on := 12, ground := Ground.data }, { on := 18, ground := Ground.data }], guard := none } : Oper)) (v := ?_) rfl (by kernel_rfl) (by kernel_rfl) (by kernel_rfl) (fun _ _ _ h => h) (Or.inl ⟨by rfl, ?_⟩) (by assumption) ?_
  rotate_left
  · ((intro w hSw; (try dsimp only at hSw); go_simp); (try with_reducible rfl))
  try simp only [Act.put, List.setIfInBounds_toArray, List.set_cons_zero, List.set_cons_succ]
  refine wpAnyH_take (i := 20) (oi := ({ dst := some 55, op := Op.move (Operand.tmp 54), type := 4, pos := "law.go:86", after := #[{ on := 19, ground := Ground.data }, { on := 14, ground := Ground.chain }], guard := none } : Oper)) (v := ?_) rfl (by kernel_rfl) (by kernel_rfl) (by kernel_rfl) (fun _ _ _ h => h) (Or.inl ⟨by rfl, ?_⟩) (by assumption) ?_
  rotate_left
  · ((intro w hSw; (try dsimp only at hSw); go_simp); (try with_reducible rfl))
  try simp only [Act.put, List.setIfInBounds_toArray, List.set_cons_zero, List.set_cons_succ]
  refine wpAnyH_take (i := 21) (oi := ({ dst := some 56, op := Op.fieldAddr 23 (Operand.tmp 3) 1, type := 0, pos := "law.go:86", after := #[{ on := 20, ground := Ground.guard }], guard := some (20, false) } : Oper)) (v := ?_) rfl (by kernel_rfl) (by kernel_rfl) (by kernel_rfl) (fun _ _ _ h => h) (Or.inl ⟨by rfl, ?_⟩) (by assumption) ?_
  rotate_left
  · ((intro w hSw; (try dsimp only at hSw); go_simp); (try with_reducible rfl))
  try simp only [Act.put, List.setIfInBounds_toArray, List.set_cons_zero, List.set_cons_succ]
  refine wpAnyH_take (i := 22) (oi := ({ dst := some 57, op := Op.load 3 (Operand.tmp 56), type := 3, pos := "law.go:86", after := #[{ on := 21, ground := Ground.data }, { on := 20, ground := Ground.guard }], guard := some (20, false) } : Oper)) (v := ?_) rfl (by kernel_rfl) (by kernel_rfl) (by kernel_rfl) (fun _ _ _ h => h) (Or.inl ⟨by rfl, ?_⟩) (by assumption) ?_
  rotate_left
  · ((intro w hSw; (try dsimp only at hSw); go_simp); (try with_reducible rfl))
  try simp only [Act.put, List.setIfInBounds_toArray, List.set_cons_zero, List.set_cons_succ]
  refine wpAnyH_take (i := 23) (oi := ({ dst := some 58, op := Op.binOp BinOp.eql 3 (Operand.tmp 57) (Operand.const (Value.int IntKind.i64 3)) 3, type := 4, pos := "law.go:86", after := #[{ on := 22, ground := Ground.data }, { on := 20, ground := Ground.guard }], guard := some (20, false) } : Oper)) (v := ?_) rfl (by kernel_rfl) (by kernel_rfl) (by kernel_rfl) (fun _ _ _ h => h) (Or.inl ⟨by rfl, ?_⟩) (by assumption) ?_
  rotate_left
  · ((intro w hSw; (try dsimp only at hSw); go_simp); (try with_reducible rfl))
  try simp only [Act.put, List.setIfInBounds_toArray, List.set_cons_zero, List.set_cons_succ]
  refine wpAnyH_take (i := 24) (oi := ({ dst := some 59, op := Op.move (Operand.tmp 58), type := 4, pos := "law.go:86", after := #[{ on := 23, ground := Ground.data }, { on := 20, ground := Ground.chain }, { on := 20, ground := Ground.guard }], guard := some (20, false) } : Oper)) (v := ?_) rfl (by kernel_rfl) (by kernel_rfl) (by kernel_rfl) (fun _ _ _ h => h) (Or.inl ⟨by rfl, ?_⟩) (by assumption) ?_
  rotate_left
  · ((intro w hSw; (try dsimp only at hSw); go_simp); (try with_reducible rfl))
  try simp only [Act.put, List.setIfInBounds_toArray, List.set_cons_zero, List.set_cons_succ]
  refine wpAnyH_take (i := 25) (oi := ({ dst := some 60, op := Op.move (Operand.tmp 9), type := 2, pos := "law.go:86", after := #[{ on := 24, ground := Ground.guard }], guard := some (24, true) } : Oper)) (v := undef) rfl (by kernel_rfl) (by kernel_rfl) (by kernel_rfl) (fun _ _ _ h => h) (Or.inr ⟨by rfl, rfl⟩) (by assumption) ?_
  try simp only [Act.put, List.setIfInBounds_toArray, List.set_cons_zero, List.set_cons_succ]
  refine wpAnyH_take (i := 26) (oi := ({ dst := some 61, op := Op.move (Operand.tmp 10), type := 2, pos := "law.go:86", after := #[{ on := 24, ground := Ground.guard }], guard := some (24, true) } : Oper)) (v := undef) rfl (by kernel_rfl) (by kernel_rfl) (by kernel_rfl) (fun _ _ _ h => h) (Or.inr ⟨by rfl, rfl⟩) (by assumption) ?_
  try simp only [Act.put, List.setIfInBounds_toArray, List.set_cons_zero, List.set_cons_succ]
  refine wpAnyH_take (i := 27) (oi := ({ dst := some 62, op := Op.binOp BinOp.neq 2 (Operand.tmp 60) (Operand.tmp 61) 2, type := 4, pos := "law.go:86", after := #[{ on := 25, ground := Ground.data }, { on := 26, ground := Ground.data }, { on := 24, ground := Ground.guard }], guard := some (24, true) } : Oper)) (v := undef) rfl (by kernel_rfl) (by kernel_rfl) (by kernel_rfl) (fun _ _ _ h => h) (Or.inr ⟨by rfl, rfl⟩) (by assumption) ?_
  try simp only [Act.put, List.setIfInBounds_toArray, List.set_cons_zero, List.set_cons_succ]
  refine wpAnyH_take (i := 28) (oi := ({ dst := some 63, op := Op.pick (Operand.tmp 59) (Operand.tmp 62) (Operand.const (Value.bool false)), type := 4, pos := "law.go:86", after := #[{ on := 24, ground := Ground.data }, { on := 27, ground := Ground.data }, { on := 20, ground := Ground.guard }], guard := some (20, false) } : Oper)) (v := ?_) rfl (by kernel_rfl) (by kernel_rfl) (by kernel_rfl) (fun _ _ _ h => h) (Or.inl ⟨by rfl, ?_⟩) (by assumption) ?_
  rotate_left
  · ((intro w hSw; (try dsimp only at hSw); go_simp); (try with_reducible rfl))
  try simp only [Act.put, List.setIfInBounds_toArray, List.set_cons_zero, List.set_cons_succ]
  refine wpAnyH_take (i := 29) (oi := ({ dst := some 64, op := Op.pick (Operand.tmp 55) (Operand.const (Value.bool true)) (Operand.tmp 63), type := 4, pos := "law.go:86", after := #[{ on := 20, ground := Ground.data }, { on := 28, ground := Ground.data }], guard := none } : Oper)) (v := ?_) rfl (by kernel_rfl) (by kernel_rfl) (by kernel_rfl) (fun _ _ _ h => h) (Or.inl ⟨by rfl, ?_⟩) (by assumption) ?_
  rotate_left
  · ((intro w hSw; (try dsimp only at hSw); go_simp); (try with_reducible rfl))
  try simp only [Act.put, List.setIfInBounds_toArray, List.set_cons_zero, List.set_cons_succ]
  refine wpAnyH_done (by kernel_rfl) ?_ _
  have HH := hHeld
  clear g1 g2 g3 x1 x2 gl xl
  obtain ⟨B6, g1, g2, g3, x1, x2⟩ := HH
  go_wp2_with fail
  refine (Cn.out _).mono ?_
  rintro e8 w8 ⟨rfl, hb8⟩
  have B8 : Hid (Below W0.heap.size W0 w8) := Lib.hid (bstep B6.out hb8)
  obtain ⟨u1, u2, u3, u4, u5⟩ := keep5 hb8 ⟨g1, g2, g3, x1, x2⟩
  have ul1 := World.block_lt_of_cell? w8 _ u1
  have ul2 := World.block_lt_of_cell? w8 _ u4
  clear g1 g2 g3 x1 x2 hb8 hb7
  go_wp2_with fail
  refine (Cc.out _).mono ?_
  rintro e9 w9 ⟨rfl, hb9⟩
  have B9 : Hid (Below W0.heap.size W0 w9) := Lib.hid (bstep (B8.out.alloc B8.out.size _) hb9)
  clear u1 u2 u3 u4 u5 hb9
  go_wp2
  go_ret
  exact ⟨rfl, B9.out⟩
set_option maxHeartbeats 4000000 in
theorem picks_any_sure (w p m a b o x y v z : Int) (W0 : World)
    (Cp : Hid (∀ W, Calls Try.prog 13 #[.agg #[.int .i64 w, .int .i64 p, .int .i64 m], .agg #[.int .i64 a, .int .i64 b]] W (Gives (.tuple #[.int .i64 v, .int .i64 0]) W))) (Cm : Hid (∀ W, Calls Try.prog 15 #[.agg #[.int .i64 w, .int .i64 p, .int .i64 m], .agg #[.int .i64 a, .int .i64 b]] W (MeetRes x y 0 W))) (Cd : Hid (∀ W, Calls Try.prog 21 #[.agg #[.int .i64 a, .int .i64 b]] W (Gives (.int .u64 z) W))) (h1 : decide (v < x) = false) (h2 : decide (y < v) = false) (h3 : 0 ≤ m) (h4 : m ≤ 4611686018427387903) (h5 : decide (m < z) = false) (hp : (p == 3) = false) (Cn : Hid (∀ W, Calls Try.prog 8 #[.int .i64 w, .int .i64 o, .int .i64 m] W (GridRes w o m 0 W))) (Cc : Hid (∀ W, Calls Try.prog 18 #[.agg #[.int .i64 w, .int .i64 p, .int .i64 m], .agg #[.int .i64 a, .int .i64 b]] W (Gives (.bool true) W))) (Cq : Hid (∀ W, Calls Try.prog 13 #[.agg #[.int .i64 w, .int .i64 o, .int .i64 m], .agg #[.int .i64 a, .int .i64 b]] W (Gives (.tuple #[.int .i64 v, .int .i64 0]) W))) :
    Calls Try.prog 5 #[.agg #[.int .i64 w, .int .i64 p, .int .i64 m], .agg #[.int .i64 a, .int .i64 b], .int .i64 o] W0 fun e w' => e = .returned (.bool true) ∧ Below W0.heap.size W0 w' := by
  go_enter Try.func5, Try.ntmps5
  have B0 : Hid (Below W0.heap.size W0 W0) := Lib.hid (Below.refl W0.heap.size W0)
  go_wp2_with fail
  refine (alive_any _).mono ?_
  rintro e1 w1 ⟨rfl, hb1⟩
  have Kg : Hid (Kept w1 _ #[.int .i64 w, .int .i64 p, .int .i64 m] 23) := Lib.hid (((Kept.new (w := W0) (cs := #[.int .i64 w, .int .i64 p, .int .i64 m]) (t := 23) rfl).alloc (.cells #[.int .i64 a, .int .i64 b] 25)).next hb1)
  have Kx : Hid (Kept w1 _ #[.int .i64 a, .int .i64 b] 25) := Lib.hid ((Kept.new (w := (W0.alloc (.cells #[.int .i64 w, .int .i64 p, .int .i64 m] 23))) (g := W0.heap.size + 1) (cs := #[.int .i64 a, .int .i64 b]) (t := 25) (by simp)).next hb1)
  have B1 : Hid (Below W0.heap.size W0 w1) := Lib.hid (bnext (((((B0.out).alloc (by have := B0.out.size; first | omega | (simp <;> omega)) _)).alloc (by have := B0.out.size; first | omega | (simp <;> omega)) _)) (by have := B0.out.size; first | omega | (simp <;> omega)) hb1)
  clear hb1
  obtain ⟨g1, g2, g3, -, -, -, gl⟩ := Kg.out.three
  obtain ⟨x1, x2, -, -, xl⟩ := Kx.out.two
  go_wp2_with fail
  refine (Cp.out _).mono ?_
  rintro e2 w2 ⟨rfl, hb2⟩
  clear g1 g2 g3 gl
  clear x1 x2 xl
  have Kg : Hid (Kept w2 _ _ _) := Lib.hid (Kg.out.next hb2)
  have Kx : Hid (Kept w2 _ _ _) := Lib.hid (Kx.out.next hb2)
  have B2 : Hid (Below W0.heap.size W0 w2) := Lib.hid (bnext (B1.out) (by have := B1.out.size; first | omega | (simp <;> omega)) hb2)
  clear hb2
  obtain ⟨g1, g2, g3, -, -, -, gl⟩ := Kg.out.three
  obtain ⟨x1, x2, -, -, xl⟩ := Kx.out.two
  go_wp2_with fail
  refine (Cm.out _).mono ?_
  rintro e3 w3 ⟨rfl, hb3⟩
  clear g1 g2 g3 gl
  clear x1 x2 xl
  have Kg : Hid (Kept w3 _ _ _) := Lib.hid (Kg.out.next hb3)
  have Kx : Hid (Kept w3 _ _ _) := Lib.hid (Kx.out.next hb3)
  have B3 : Hid (Below W0.heap.size W0 w3) := Lib.hid (bnext (B2.out) (by have := B2.out.size; first | omega | (simp <;> omega)) hb3)
  clear hb3
  obtain ⟨g1, g2, g3, -, -, -, gl⟩ := Kg.out.three
  obtain ⟨x1, x2, -, -, xl⟩ := Kx.out.two
  have wm : IntKind.u64.wrap m = m := by simp only [IntKind.wrap_u64]; omega
  go_wp2
  refine wp_region_held_drew (S := (fun w' => Hid (Below W0.heap.size W0 w') ∧ w'.cell? ⟨W0.heap.size, 0, none⟩ = some (.int .i64 w) ∧ w'.cell? ⟨W0.heap.size, 1, none⟩ = some (.int .i64 p) ∧ w'.cell? ⟨W0.heap.size, 2, none⟩ = some (.int .i64 m) ∧ w'.cell? ⟨W0.heap.size + 1, 0, none⟩ = some (.int .i64 a) ∧ w'.cell? ⟨W0.heap.size + 1, 1, none⟩ = some (.int .i64 b))) (by kernel_rfl) ⟨Lib.hid ⟨B3.out.os, B3.out.tape, B3.out.output, B3.out.size, B3.out.block⟩, g1, g2, g3, x1, x2⟩ (fun hHeld => ?_)
  refine wpAnyH_take (i := 0) (oi := ({ dst := some 35, op := Op.move (Operand.tmp 11), type := 27, pos := "law.go:86", after := #[], guard := none } : Oper)) (v := ?_) rfl (by kernel_rfl) (by kernel_rfl) (by kernel_rfl) (fun _ _ _ h => h) (Or.inl ⟨by rfl, ?_⟩) (by assumption) ?_
  rotate_left
  · ((intro w hSw; (try dsimp only at hSw); go_simp); (try with_reducible rfl))
  try simp only [Act.put, List.setIfInBounds_toArray, List.set_cons_zero, List.set_cons_succ]
  refine wpAnyH_take (i := 1) (oi := ({ dst := some 36, op := Op.binOp BinOp.neq 27 (Operand.tmp 35) (Operand.const (Value.int IntKind.i64 0)) 27, type := 4, pos := "law.go:86", after := #[{ on := 0, ground := Ground.data }], guard := none } : Oper)) (v := ?_) rfl (by kernel_rfl) (by kernel_rfl) (by kernel_rfl) (fun _ _ _ h => h) (Or.inl ⟨by rfl, ?_⟩) (by assumption) ?_
  rotate_left
  · ((intro w hSw; (try dsimp only at hSw); go_simp); (try with_reducible rfl))
  try simp only [Act.put, List.setIfInBounds_toArray, List.set_cons_zero, List.set_cons_succ]
  refine wpAnyH_take (i := 2) (oi := ({ dst := some 37, op := Op.move (Operand.tmp 36), type := 4, pos := "law.go:86", after := #[{ on := 1, ground := Ground.data }], guard := none } : Oper)) (v := ?_) rfl (by kernel_rfl) (by kernel_rfl) (by kernel_rfl) (fun _ _ _ h => h) (Or.inl ⟨by rfl, ?_⟩) (by assumption) ?_
  rotate_left
  · ((intro w hSw; (try dsimp only at hSw); go_simp); (try with_reducible rfl))
  try simp only [Act.put, List.setIfInBounds_toArray, List.set_cons_zero, List.set_cons_succ]
  refine wpAnyH_take (i := 3) (oi := ({ dst := some 38, op := Op.move (Operand.tmp 7), type := 2, pos := "law.go:86", after := #[{ on := 2, ground := Ground.guard }], guard := some (2, false) } : Oper)) (v := ?_) rfl (by kernel_rfl) (by kernel_rfl) (by kernel_rfl) (fun _ _ _ h => h) (Or.inl ⟨by rfl, ?_⟩) (by assumption) ?_
  rotate_left
  · ((intro w hSw; (try dsimp only at hSw); go_simp); (try with_reducible rfl))
  try simp only [Act.put, List.setIfInBounds_toArray, List.set_cons_zero, List.set_cons_succ]
  refine wpAnyH_take (i := 4) (oi := ({ dst := some 39, op := Op.move (Operand.tmp 9), type := 2, pos := "law.go:86", after := #[{ on := 2, ground := Ground.guard }], guard := some (2, false) } : Oper)) (v := ?_) rfl (by kernel_rfl) (by kernel_rfl) (by kernel_rfl) (fun _ _ _ h => h) (Or.inl ⟨by rfl, ?_⟩) (by assumption) ?_
  rotate_left
  · ((intro w hSw; (try dsimp only at hSw); go_simp); (try with_reducible rfl))
  try simp only [Act.put, List.setIfInBounds_toArray, List.set_cons_zero, List.set_cons_succ]
  refine wpAnyH_take (i := 5) (oi := ({ dst := some 40, op := Op.binOp BinOp.lss 2 (Operand.tmp 38) (Operand.tmp 39) 2, type := 4, pos := "law.go:86", after := #[{ on := 3, ground := Ground.data }, { on := 4, ground := Ground.data }, { on := 2, ground := Ground.guard }], guard := some (2, false) } : Oper)) (v := ?_) rfl (by kernel_rfl) (by kernel_rfl) (by kernel_rfl) (fun _ _ _ h => h) (Or.inl ⟨by rfl, ?_⟩) (by assumption) ?_
  rotate_left
  · ((intro w hSw; (try dsimp only at hSw); go_simp); (try with_reducible rfl))
  try simp only [Act.put, List.setIfInBounds_toArray, List.set_cons_zero, List.set_cons_succ]
  refine wpAnyH_take (i := 6) (oi := ({ dst := some 41, op := Op.pick (Operand.tmp 37) (Operand.const (Value.bool true)) (Operand.tmp 40), type := 4, pos := "law.go:86", after := #[{ on := 2, ground := Ground.data }, { on := 5, ground := Ground.data }], guard := none } : Oper)) (v := ?_) rfl (by kernel_rfl) (by kernel_rfl) (by kernel_rfl) (fun _ _ _ h => h) (Or.inl ⟨by rfl, ?_⟩) (by assumption) ?_
  rotate_left
  · ((intro w hSw; (try dsimp only at hSw); go_simp); (try with_reducible rfl))
  try simp only [Act.put, List.setIfInBounds_toArray, List.set_cons_zero, List.set_cons_succ]
  refine wpAnyH_take (i := 7) (oi := ({ dst := some 42, op := Op.move (Operand.tmp 41), type := 4, pos := "law.go:86", after := #[{ on := 6, ground := Ground.data }, { on := 2, ground := Ground.chain }], guard := none } : Oper)) (v := ?_) rfl (by kernel_rfl) (by kernel_rfl) (by kernel_rfl) (fun _ _ _ h => h) (Or.inl ⟨by rfl, ?_⟩) (by assumption) ?_
  rotate_left
  · ((intro w hSw; (try dsimp only at hSw); go_simp); (try with_reducible rfl))
  try simp only [Act.put, List.setIfInBounds_toArray, List.set_cons_zero, List.set_cons_succ]
  refine wpAnyH_take (i := 8) (oi := ({ dst := some 43, op := Op.move (Operand.tmp 7), type := 2, pos := "law.go:86", after := #[{ on := 7, ground := Ground.guard }], guard := some (7, false) } : Oper)) (v := ?_) rfl (by kernel_rfl) (by kernel_rfl) (by kernel_rfl) (fun _ _ _ h => h) (Or.inl ⟨by rfl, ?_⟩) (by assumption) ?_
  rotate_left
  · ((intro w hSw; (try dsimp only at hSw); go_simp); (try with_reducible rfl))
  try simp only [Act.put, List.setIfInBounds_toArray, List.set_cons_zero, List.set_cons_succ]
  refine wpAnyH_take (i := 9) (oi := ({ dst := some 44, op := Op.move (Operand.tmp 10), type := 2, pos := "law.go:86", after := #[{ on := 7, ground := Ground.guard }], guard := some (7, false) } : Oper)) (v := ?_) rfl (by kernel_rfl) (by kernel_rfl) (by kernel_rfl) (fun _ _ _ h => h) (Or.inl ⟨by rfl, ?_⟩) (by assumption) ?_
  rotate_left
  · ((intro w hSw; (try dsimp only at hSw); go_simp); (try with_reducible rfl))
  try simp only [Act.put, List.setIfInBounds_toArray, List.set_cons_zero, List.set_cons_succ]
  refine wpAnyH_take (i := 10) (oi := ({ dst := some 45, op := Op.binOp BinOp.gtr 2 (Operand.tmp 43) (Operand.tmp 44) 2, type := 4, pos := "law.go:86", after := #[{ on := 8, ground := Ground.data }, { on := 9, ground := Ground.data }, { on := 7, ground := Ground.guard }], guard := some (7, false) } : Oper)) (v := ?_) rfl (by kernel_rfl) (by kernel_rfl) (by kernel_rfl) (fun _ _ _ h => h) (Or.inl ⟨by rfl, ?_⟩) (by assumption) ?_
  rotate_left
  · ((intro w hSw; (try dsimp only at hSw); go_simp); (try with_reducible rfl))
  try simp only [Act.put, List.setIfInBounds_toArray, List.set_cons_zero, List.set_cons_succ]
  refine wpAnyH_take (i := 11) (oi := ({ dst := some 46, op := Op.pick (Operand.tmp 42) (Operand.const (Value.bool true)) (Operand.tmp 45), type := 4, pos := "law.go:86", after := #[{ on := 7, ground := Ground.data }, { on := 10, ground := Ground.data }], guard := none } : Oper)) (v := ?_) rfl (by kernel_rfl) (by kernel_rfl) (by kernel_rfl) (fun _ _ _ h => h) (Or.inl ⟨by rfl, ?_⟩) (by assumption) ?_
  rotate_left
  · ((intro w hSw; (try dsimp only at hSw); go_simp); (try with_reducible rfl))
  try simp only [Act.put, List.setIfInBounds_toArray, List.set_cons_zero, List.set_cons_succ]
  refine wpAnyH_take (i := 12) (oi := ({ dst := some 47, op := Op.move (Operand.tmp 46), type := 4, pos := "law.go:86", after := #[{ on := 11, ground := Ground.data }, { on := 7, ground := Ground.chain }], guard := none } : Oper)) (v := ?_) rfl (by kernel_rfl) (by kernel_rfl) (by kernel_rfl) (fun _ _ _ h => h) (Or.inl ⟨by rfl, ?_⟩) (by assumption) ?_
  rotate_left
  · ((intro w hSw; (try dsimp only at hSw); go_simp); (try with_reducible rfl))
  try simp only [Act.put, List.setIfInBounds_toArray, List.set_cons_zero, List.set_cons_succ]
  refine wpAnyH_take (i := 13) (oi := ({ dst := some 48, op := Op.load 25 (Operand.tmp 4), type := 25, pos := "law.go:86", after := #[{ on := 12, ground := Ground.guard }], guard := some (12, false) } : Oper)) (v := ?_) rfl (by kernel_rfl) (by kernel_rfl) (by kernel_rfl) (fun _ _ _ h => h) (Or.inl ⟨by rfl, ?_⟩) (by assumption) ?_
  rotate_left
  · ((intro w hSw; (try dsimp only at hSw); go_simp); (try with_reducible rfl))
  try simp only [Act.put, List.setIfInBounds_toArray, List.set_cons_zero, List.set_cons_succ]
  refine wpAnyH_take (i := 15) (oi := ({ dst := some 50, op := Op.fieldAddr 23 (Operand.tmp 3) 2, type := 0, pos := "law.go:86", after := #[{ on := 12, ground := Ground.guard }], guard := some (12, false) } : Oper)) (v := ?_) rfl (by kernel_rfl) (by kernel_rfl) (by kernel_rfl) (fun _ _ _ h => h) (Or.inl ⟨by rfl, ?_⟩) (by assumption) ?_
  rotate_left
  · ((intro w hSw; (try dsimp only at hSw); go_simp); (try with_reducible rfl))
  try simp only [Act.put, List.setIfInBounds_toArray, List.set_cons_zero, List.set_cons_succ]
  refine wpAnyH_take (i := 16) (oi := ({ dst := some 51, op := Op.load 2 (Operand.tmp 50), type := 2, pos := "law.go:86", after := #[{ on := 15, ground := Ground.data }, { on := 12, ground := Ground.guard }], guard := some (12, false) } : Oper)) (v := ?_) rfl (by kernel_rfl) (by kernel_rfl) (by kernel_rfl) (fun _ _ _ h => h) (Or.inl ⟨by rfl, ?_⟩) (by assumption) ?_
  rotate_left
  · ((intro w hSw; (try dsimp only at hSw); go_simp); (try with_reducible rfl))
  try simp only [Act.put, List.setIfInBounds_toArray, List.set_cons_zero, List.set_cons_succ]
  refine wpAnyH_take (i := 17) (oi := ({ dst := some 52, op := Op.convert 2 48 (Operand.tmp 51), type := 48, pos := "law.go:86", after := #[{ on := 16, ground := Ground.data }, { on := 12, ground := Ground.guard }], guard := some (12, false) } : Oper)) (v := ?_) rfl (by kernel_rfl) (by kernel_rfl) (by kernel_rfl) (fun _ _ _ h => h) (Or.inl ⟨by rfl, ?_⟩) (by assumption) ?_
  rotate_left
  · ((intro w hSw; (try dsimp only at hSw); go_simp); (try with_reducible rfl))
  try simp only [Act.put, List.setIfInBounds_toArray, List.set_cons_zero, List.set_cons_succ]
  refine wpAnyH_ready (rs := [14]) (by kernel_rfl) (by simp) ?_
  refine AllReadyH.cons (o := ({ dst := some 49, op := Op.call { callee := Callee.value (Operand.func 21), args := #[Operand.tmp 48], argTypes := #[25] }, type := 48, pos := "law.go:86", after := #[{ on := 13, ground := Ground.data }, { on := 12, ground := Ground.chain }, { on := 12, ground := Ground.guard }], guard := some (12, false) } : Oper)) rfl (fun K hK => ?_) AllReadyH.nil
  go_simp
  (with_reducible refine (Cd.out _).mono ?_)
  rintro e w7 ⟨rfl, hb7⟩
  refine hK.out _ _ ?_ (fun hHeld => ?_)
  · exact keepB5 hb7 hHeld
  clear hK K
  try simp only [Act.put, List.setIfInBounds_toArray, List.set_cons_zero, List.set_cons_succ]
  refine wpAnyH_take (i := 18) (oi := ({ dst := some 53, op := Op.binOp BinOp.gtr 48 (Operand.tmp 49) (Operand.tmp 52) 48, type := 4, pos := "law.go:86", after := #[{ on := 14, ground := Ground.data }, { on := 17, ground := Ground.data }, { on := 12, ground := Ground.guard }], guard := some (12, false) } : Oper)) (v := ?_) rfl (by kernel_rfl) (by kernel_rfl) (by kernel_rfl) (fun _ _ _ h => h) (Or.inl ⟨by rfl, ?_⟩) (by assumption) ?_
  rotate_left
  · ((intro w hSw; (try dsimp only at hSw); go_simp); (try with_reducible rfl))
  try simp only [Act.put, List.setIfInBounds_toArray, List.set_cons_zero, List.set_cons_succ]
  refine wpAnyH_take (i := 19) (oi := ({ dst := some 54, op := Op.pick (Operand.tmp 47) (Operand.const (Value.bool true)) (Operand.tmp 53), type := 4, pos := "law.go:86", after := #[{ on := 12, ground := Ground.data }, { on := 18, ground := Ground.data }], guard := none } : Oper)) (v := ?_) rfl (by kernel_rfl) (by kernel_rfl) (by kernel_rfl) (fun _ _ _ h => h) (Or.inl ⟨by rfl, ?_⟩) (by assumption) ?_
  rotate_left
  · ((intro w hSw; (try dsimp only at hSw); go_simp); (try with_reducible rfl))
  try simp only [Act.put, List.setIfInBounds_toArray, List.set_cons_zero, List.set_cons_succ]
  refine wpAnyH_take (i := 20) (oi := ({ dst := some 55, op := Op.move (Operand.tmp 54), type := 4, pos := "law.go:86", after := #[{ on := 19, ground := Ground.data }, { on := 14, ground := Ground.chain }], guard := none } : Oper)) (v := ?_) rfl (by kernel_rfl) (by kernel_rfl) (by kernel_rfl) (fun _ _ _ h => h) (Or.inl ⟨by rfl, ?_⟩) (by assumption) ?_
  rotate_left
  · ((intro w hSw; (try dsimp only at hSw); go_simp); (try with_reducible rfl))
  try simp only [Act.put, List.setIfInBounds_toArray, List.set_cons_zero, List.set_cons_succ]
  refine wpAnyH_take (i := 21) (oi := ({ dst := some 56, op := Op.fieldAddr 23 (Operand.tmp 3) 1, type := 0, pos := "law.go:86", after := #[{ on := 20, ground := Ground.guard }], guard := some (20, false) } : Oper)) (v := ?_) rfl (by kernel_rfl) (by kernel_rfl) (by kernel_rfl) (fun _ _ _ h => h) (Or.inl ⟨by rfl, ?_⟩) (by assumption) ?_
  rotate_left
  · ((intro w hSw; (try dsimp only at hSw); go_simp); (try with_reducible rfl))
  try simp only [Act.put, List.setIfInBounds_toArray, List.set_cons_zero, List.set_cons_succ]
  refine wpAnyH_take (i := 22) (oi := ({ dst := some 57, op := Op.load 3 (Operand.tmp 56), type := 3, pos := "law.go:86", after := #[{ on := 21, ground := Ground.data }, { on := 20, ground := Ground.guard }], guard := some (20, false) } : Oper)) (v := ?_) rfl (by kernel_rfl) (by kernel_rfl) (by kernel_rfl) (fun _ _ _ h => h) (Or.inl ⟨by rfl, ?_⟩) (by assumption) ?_
  rotate_left
  · ((intro w hSw; (try dsimp only at hSw); go_simp); (try with_reducible rfl))
  try simp only [Act.put, List.setIfInBounds_toArray, List.set_cons_zero, List.set_cons_succ]
  refine wpAnyH_take (i := 23) (oi := ({ dst := some 58, op := Op.binOp BinOp.eql 3 (Operand.tmp 57) (Operand.const (Value.int IntKind.i64 3)) 3, type := 4, pos := "law.go:86", after := #[{ on := 22, ground := Ground.data }, { on := 20, ground := Ground.guard }], guard := some (20, false) } : Oper)) (v := ?_) rfl (by kernel_rfl) (by kernel_rfl) (by kernel_rfl) (fun _ _ _ h => h) (Or.inl ⟨by rfl, ?_⟩) (by assumption) ?_
  rotate_left
  · ((intro w hSw; (try dsimp only at hSw); go_simp); (try with_reducible rfl))
  try simp only [Act.put, List.setIfInBounds_toArray, List.set_cons_zero, List.set_cons_succ]
  refine wpAnyH_take (i := 24) (oi := ({ dst := some 59, op := Op.move (Operand.tmp 58), type := 4, pos := "law.go:86", after := #[{ on := 23, ground := Ground.data }, { on := 20, ground := Ground.chain }, { on := 20, ground := Ground.guard }], guard := some (20, false) } : Oper)) (v := ?_) rfl (by kernel_rfl) (by kernel_rfl) (by kernel_rfl) (fun _ _ _ h => h) (Or.inl ⟨by rfl, ?_⟩) (by assumption) ?_
  rotate_left
  · ((intro w hSw; (try dsimp only at hSw); go_simp); (try with_reducible rfl))
  try simp only [Act.put, List.setIfInBounds_toArray, List.set_cons_zero, List.set_cons_succ]
  refine wpAnyH_take (i := 25) (oi := ({ dst := some 60, op := Op.move (Operand.tmp 9), type := 2, pos := "law.go:86", after := #[{ on := 24, ground := Ground.guard }], guard := some (24, true) } : Oper)) (v := undef) rfl (by kernel_rfl) (by kernel_rfl) (by kernel_rfl) (fun _ _ _ h => h) (Or.inr ⟨by rfl, rfl⟩) (by assumption) ?_
  try simp only [Act.put, List.setIfInBounds_toArray, List.set_cons_zero, List.set_cons_succ]
  refine wpAnyH_take (i := 26) (oi := ({ dst := some 61, op := Op.move (Operand.tmp 10), type := 2, pos := "law.go:86", after := #[{ on := 24, ground := Ground.guard }], guard := some (24, true) } : Oper)) (v := undef) rfl (by kernel_rfl) (by kernel_rfl) (by kernel_rfl) (fun _ _ _ h => h) (Or.inr ⟨by rfl, rfl⟩) (by assumption) ?_
  try simp only [Act.put, List.setIfInBounds_toArray, List.set_cons_zero, List.set_cons_succ]
  refine wpAnyH_take (i := 27) (oi := ({ dst := some 62, op := Op.binOp BinOp.neq 2 (Operand.tmp 60) (Operand.tmp 61) 2, type := 4, pos := "law.go:86", after := #[{ on := 25, ground := Ground.data }, { on := 26, ground := Ground.data }, { on := 24, ground := Ground.guard }], guard := some (24, true) } : Oper)) (v := undef) rfl (by kernel_rfl) (by kernel_rfl) (by kernel_rfl) (fun _ _ _ h => h) (Or.inr ⟨by rfl, rfl⟩) (by assumption) ?_
  try simp only [Act.put, List.setIfInBounds_toArray, List.set_cons_zero, List.set_cons_succ]
  refine wpAnyH_take (i := 28) (oi := ({ dst := some 63, op := Op.pick (Operand.tmp 59) (Operand.tmp 62) (Operand.const (Value.bool false)), type := 4, pos := "law.go:86", after := #[{ on := 24, ground := Ground.data }, { on := 27, ground := Ground.data }, { on := 20, ground := Ground.guard }], guard := some (20, false) } : Oper)) (v := ?_) rfl (by kernel_rfl) (by kernel_rfl) (by kernel_rfl) (fun _ _ _ h => h) (Or.inl ⟨by rfl, ?_⟩) (by assumption) ?_
  rotate_left
  · ((intro w hSw; (try dsimp only at hSw); go_simp); (try with_reducible rfl))
  try simp only [Act.put, List.setIfInBounds_toArray, List.set_cons_zero, List.set_cons_succ]
  refine wpAnyH_take (i := 29) (oi := ({ dst := some 64, op := Op.pick (Operand.tmp 55) (Operand.const (Value.bool true)) (Operand.tmp 63), type := 4, pos := "law.go:86", after := #[{ on := 20, ground := Ground.data }, { on := 28, ground := Ground.data }], guard := none } : Oper)) (v := ?_) rfl (by kernel_rfl) (by kernel_rfl) (by kernel_rfl) (fun _ _ _ h => h) (Or.inl ⟨by rfl, ?_⟩) (by assumption) ?_
  rotate_left
  · ((intro w hSw; (try dsimp only at hSw); go_simp); (try with_reducible rfl))
  try simp only [Act.put, List.setIfInBounds_toArray, List.set_cons_zero, List.set_cons_succ]
  refine wpAnyH_done (by kernel_rfl) ?_ _
  have HH := hHeld
  clear g1 g2 g3 x1 x2 gl xl
  obtain ⟨B6, g1, g2, g3, x1, x2⟩ := HH
  go_wp2_with fail
  refine (Cn.out _).mono ?_
  rintro e8 w8 ⟨rfl, hb8⟩
  have B8 : Hid (Below W0.heap.size W0 w8) := Lib.hid (bstep B6.out hb8)
  obtain ⟨u1, u2, u3, u4, u5⟩ := keep5 hb8 ⟨g1, g2, g3, x1, x2⟩
  have ul1 := World.block_lt_of_cell? w8 _ u1
  have ul2 := World.block_lt_of_cell? w8 _ u4
  clear g1 g2 g3 x1 x2 hb8 hb7
  go_wp2_with fail
  refine (Cc.out _).mono ?_
  rintro e9 w9 ⟨rfl, hb9⟩
  have B9 : Hid (Below W0.heap.size W0 w9) := Lib.hid (bstep (B8.out.alloc B8.out.size _) hb9)
  have KN := (Kept.new (w := w8) (cs := #[.int .i64 w, .int .i64 o, .int .i64 m]) (t := 23) rfl).next hb9
  obtain ⟨n1, n2, n3, -, -, -, nl⟩ := KN.three
  have y4 := keep1 hb9 ((keep1 (one_alloc w8 _) u4))
  have y5 := keep1 hb9 ((keep1 (one_alloc w8 _) u5))
  clear u1 u2 u3 u4 u5 hb9 KN
  go_wp2_with fail
  refine (Cq.out _).mono ?_
  rintro e10 w10 ⟨rfl, hb10⟩
  have B10 : Hid (Below W0.heap.size W0 w10) := Lib.hid (bstep B9.out hb10)
  clear hb10 n1 n2 n3 y4 y5
  go_wp2
  go_ret
  exact ⟨rfl, B10.out⟩
set_option maxHeartbeats 4000000 in
theorem picks_three_none (w m a b o x y v z : Int) (W0 : World)
    (Cp : Hid (∀ W, Calls Try.prog 13 #[.agg #[.int .i64 w, .int .i64 3, .int .i64 m], .agg #[.int .i64 a, .int .i64 b]] W (Gives (.tuple #[.int .i64 v, .int .i64 0]) W))) (Cm : Hid (∀ W, Calls Try.prog 15 #[.agg #[.int .i64 w, .int .i64 3, .int .i64 m], .agg #[.int .i64 a, .int .i64 b]] W (MeetRes x y 0 W))) (Cd : Hid (∀ W, Calls Try.prog 21 #[.agg #[.int .i64 a, .int .i64 b]] W (Gives (.int .u64 z) W))) (h1 : decide (v < x) = false) (h2 : decide (y < v) = false) (h3 : 0 ≤ m) (h4 : m ≤ 4611686018427387903) (h5 : decide (m < z) = false) (hxy : (x != y) = false) (Cn : Hid (∀ W, Calls Try.prog 8 #[.int .i64 w, .int .i64 o, .int .i64 m] W (GridRes 0 0 0 11 W))) :
    Calls Try.prog 5 #[.agg #[.int .i64 w, .int .i64 3, .int .i64 m], .agg #[.int .i64 a, .int .i64 b], .int .i64 o] W0 fun e w' => e = .returned (.bool true) ∧ Below W0.heap.size W0 w' := by
  go_enter Try.func5, Try.ntmps5
  have B0 : Hid (Below W0.heap.size W0 W0) := Lib.hid (Below.refl W0.heap.size W0)
  go_wp2_with fail
  refine (alive_any _).mono ?_
  rintro e1 w1 ⟨rfl, hb1⟩
  have Kg : Hid (Kept w1 _ #[.int .i64 w, .int .i64 3, .int .i64 m] 23) := Lib.hid (((Kept.new (w := W0) (cs := #[.int .i64 w, .int .i64 3, .int .i64 m]) (t := 23) rfl).alloc (.cells #[.int .i64 a, .int .i64 b] 25)).next hb1)
  have Kx : Hid (Kept w1 _ #[.int .i64 a, .int .i64 b] 25) := Lib.hid ((Kept.new (w := (W0.alloc (.cells #[.int .i64 w, .int .i64 3, .int .i64 m] 23))) (g := W0.heap.size + 1) (cs := #[.int .i64 a, .int .i64 b]) (t := 25) (by simp)).next hb1)
  have B1 : Hid (Below W0.heap.size W0 w1) := Lib.hid (bnext (((((B0.out).alloc (by have := B0.out.size; first | omega | (simp <;> omega)) _)).alloc (by have := B0.out.size; first | omega | (simp <;> omega)) _)) (by have := B0.out.size; first | omega | (simp <;> omega)) hb1)
  clear hb1
  obtain ⟨g1, g2, g3, -, -, -, gl⟩ := Kg.out.three
  obtain ⟨x1, x2, -, -, xl⟩ := Kx.out.two
  go_wp2_with fail
  refine (Cp.out _).mono ?_
  rintro e2 w2 ⟨rfl, hb2⟩
  clear g1 g2 g3 gl
  clear x1 x2 xl
  have Kg : Hid (Kept w2 _ _ _) := Lib.hid (Kg.out.next hb2)
  have Kx : Hid (Kept w2 _ _ _) := Lib.hid (Kx.out.next hb2)
  have B2 : Hid (Below W0.heap.size W0 w2) := Lib.hid (bnext (B1.out) (by have := B1.out.size; first | omega | (simp <;> omega)) hb2)
  clear hb2
  obtain ⟨g1, g2, g3, -, -, -, gl⟩ := Kg.out.three
  obtain ⟨x1, x2, -, -, xl⟩ := Kx.out.two
  go_wp2_with fail
  refine (Cm.out _).mono ?_
  rintro e3 w3 ⟨rfl, hb3⟩
  clear g1 g2 g3 gl
  clear x1 x2 xl
  have Kg : Hid (Kept w3 _ _ _) := Lib.hid (Kg.out.next hb3)
  have Kx : Hid (Kept w3 _ _ _) := Lib.hid (Kx.out.next hb3)
  have B3 : Hid (Below W0.heap.size W0 w3) := Lib.hid (bnext (B2.out) (by have := B2.out.size; first | omega | (simp <;> omega)) hb3)
  clear hb3
  obtain ⟨g1, g2, g3, -, -, -, gl⟩ := Kg.out.three
  obtain ⟨x1, x2, -, -, xl⟩ := Kx.out.two
  have wm : IntKind.u64.wrap m = m := by simp only [IntKind.wrap_u64]; omega
  go_wp2
  go_region_held3 (fun w' => Hid (Below W0.heap.size W0 w') ∧ w'.cell? ⟨W0.heap.size, 0, none⟩ = some (.int .i64 w) ∧ w'.cell? ⟨W0.heap.size, 1, none⟩ = some (.int .i64 3) ∧ w'.cell? ⟨W0.heap.size, 2, none⟩ = some (.int .i64 m) ∧ w'.cell? ⟨W0.heap.size + 1, 0, none⟩ = some (.int .i64 a) ∧ w'.cell? ⟨W0.heap.size + 1, 1, none⟩ = some (.int .i64 b))
    (first | exact keepB5 hb7 (by assumption) | exact ⟨Lib.hid ⟨B3.out.os, B3.out.tape, B3.out.output, B3.out.size, B3.out.block⟩, g1, g2, g3, x1, x2⟩)
    (first | (go_at_call 21; (with_reducible refine (Cd.out _).mono ?_); rintro e w7 ⟨rfl, hb7⟩))
  rename_i HH
  clear g1 g2 g3 x1 x2 gl xl
  obtain ⟨B6, g1, g2, g3, x1, x2⟩ := HH
  go_wp2_with fail
  refine (Cn.out _).mono ?_
  rintro e8 w8 ⟨rfl, hb8⟩
  have B8 : Hid (Below W0.heap.size W0 w8) := Lib.hid (bstep B6.out hb8)
  clear g1 g2 g3 x1 x2 hb8
  go_wp2
  go_ret
  exact ⟨rfl, B8.out.alloc B8.out.size _⟩
set_option maxHeartbeats 4000000 in
theorem picks_three_unsure (w m a b o x y v z : Int) (W0 : World)
    (Cp : Hid (∀ W, Calls Try.prog 13 #[.agg #[.int .i64 w, .int .i64 3, .int .i64 m], .agg #[.int .i64 a, .int .i64 b]] W (Gives (.tuple #[.int .i64 v, .int .i64 0]) W))) (Cm : Hid (∀ W, Calls Try.prog 15 #[.agg #[.int .i64 w, .int .i64 3, .int .i64 m], .agg #[.int .i64 a, .int .i64 b]] W (MeetRes x y 0 W))) (Cd : Hid (∀ W, Calls Try.prog 21 #[.agg #[.int .i64 a, .int .i64 b]] W (Gives (.int .u64 z) W))) (h1 : decide (v < x) = false) (h2 : decide (y < v) = false) (h3 : 0 ≤ m) (h4 : m ≤ 4611686018427387903) (h5 : decide (m < z) = false) (hxy : (x != y) = false) (Cn : Hid (∀ W, Calls Try.prog 8 #[.int .i64 w, .int .i64 o, .int .i64 m] W (GridRes w o m 0 W))) (Cc : Hid (∀ W, Calls Try.prog 18 #[.agg #[.int .i64 w, .int .i64 3, .int .i64 m], .agg #[.int .i64 a, .int .i64 b]] W (Gives (.bool false) W))) :
    Calls Try.prog 5 #[.agg #[.int .i64 w, .int .i64 3, .int .i64 m], .agg #[.int .i64 a, .int .i64 b], .int .i64 o] W0 fun e w' => e = .returned (.bool true) ∧ Below W0.heap.size W0 w' := by
  go_enter Try.func5, Try.ntmps5
  have B0 : Hid (Below W0.heap.size W0 W0) := Lib.hid (Below.refl W0.heap.size W0)
  go_wp2_with fail
  refine (alive_any _).mono ?_
  rintro e1 w1 ⟨rfl, hb1⟩
  have Kg : Hid (Kept w1 _ #[.int .i64 w, .int .i64 3, .int .i64 m] 23) := Lib.hid (((Kept.new (w := W0) (cs := #[.int .i64 w, .int .i64 3, .int .i64 m]) (t := 23) rfl).alloc (.cells #[.int .i64 a, .int .i64 b] 25)).next hb1)
  have Kx : Hid (Kept w1 _ #[.int .i64 a, .int .i64 b] 25) := Lib.hid ((Kept.new (w := (W0.alloc (.cells #[.int .i64 w, .int .i64 3, .int .i64 m] 23))) (g := W0.heap.size + 1) (cs := #[.int .i64 a, .int .i64 b]) (t := 25) (by simp)).next hb1)
  have B1 : Hid (Below W0.heap.size W0 w1) := Lib.hid (bnext (((((B0.out).alloc (by have := B0.out.size; first | omega | (simp <;> omega)) _)).alloc (by have := B0.out.size; first | omega | (simp <;> omega)) _)) (by have := B0.out.size; first | omega | (simp <;> omega)) hb1)
  clear hb1
  obtain ⟨g1, g2, g3, -, -, -, gl⟩ := Kg.out.three
  obtain ⟨x1, x2, -, -, xl⟩ := Kx.out.two
  go_wp2_with fail
  refine (Cp.out _).mono ?_
  rintro e2 w2 ⟨rfl, hb2⟩
  clear g1 g2 g3 gl
  clear x1 x2 xl
  have Kg : Hid (Kept w2 _ _ _) := Lib.hid (Kg.out.next hb2)
  have Kx : Hid (Kept w2 _ _ _) := Lib.hid (Kx.out.next hb2)
  have B2 : Hid (Below W0.heap.size W0 w2) := Lib.hid (bnext (B1.out) (by have := B1.out.size; first | omega | (simp <;> omega)) hb2)
  clear hb2
  obtain ⟨g1, g2, g3, -, -, -, gl⟩ := Kg.out.three
  obtain ⟨x1, x2, -, -, xl⟩ := Kx.out.two
  go_wp2_with fail
  refine (Cm.out _).mono ?_
  rintro e3 w3 ⟨rfl, hb3⟩
  clear g1 g2 g3 gl
  clear x1 x2 xl
  have Kg : Hid (Kept w3 _ _ _) := Lib.hid (Kg.out.next hb3)
  have Kx : Hid (Kept w3 _ _ _) := Lib.hid (Kx.out.next hb3)
  have B3 : Hid (Below W0.heap.size W0 w3) := Lib.hid (bnext (B2.out) (by have := B2.out.size; first | omega | (simp <;> omega)) hb3)
  clear hb3
  obtain ⟨g1, g2, g3, -, -, -, gl⟩ := Kg.out.three
  obtain ⟨x1, x2, -, -, xl⟩ := Kx.out.two
  have wm : IntKind.u64.wrap m = m := by simp only [IntKind.wrap_u64]; omega
  go_wp2
  go_region_held3 (fun w' => Hid (Below W0.heap.size W0 w') ∧ w'.cell? ⟨W0.heap.size, 0, none⟩ = some (.int .i64 w) ∧ w'.cell? ⟨W0.heap.size, 1, none⟩ = some (.int .i64 3) ∧ w'.cell? ⟨W0.heap.size, 2, none⟩ = some (.int .i64 m) ∧ w'.cell? ⟨W0.heap.size + 1, 0, none⟩ = some (.int .i64 a) ∧ w'.cell? ⟨W0.heap.size + 1, 1, none⟩ = some (.int .i64 b))
    (first | exact keepB5 hb7 (by assumption) | exact ⟨Lib.hid ⟨B3.out.os, B3.out.tape, B3.out.output, B3.out.size, B3.out.block⟩, g1, g2, g3, x1, x2⟩)
    (first | (go_at_call 21; (with_reducible refine (Cd.out _).mono ?_); rintro e w7 ⟨rfl, hb7⟩))
  rename_i HH
  clear g1 g2 g3 x1 x2 gl xl
  obtain ⟨B6, g1, g2, g3, x1, x2⟩ := HH
  go_wp2_with fail
  refine (Cn.out _).mono ?_
  rintro e8 w8 ⟨rfl, hb8⟩
  have B8 : Hid (Below W0.heap.size W0 w8) := Lib.hid (bstep B6.out hb8)
  obtain ⟨u1, u2, u3, u4, u5⟩ := keep5 hb8 ⟨g1, g2, g3, x1, x2⟩
  have ul1 := World.block_lt_of_cell? w8 _ u1
  have ul2 := World.block_lt_of_cell? w8 _ u4
  clear g1 g2 g3 x1 x2 hb8 hb7
  go_wp2_with fail
  refine (Cc.out _).mono ?_
  rintro e9 w9 ⟨rfl, hb9⟩
  have B9 : Hid (Below W0.heap.size W0 w9) := Lib.hid (bstep (B8.out.alloc B8.out.size _) hb9)
  clear u1 u2 u3 u4 u5 hb9
  go_wp2
  go_ret
  exact ⟨rfl, B9.out⟩
set_option maxHeartbeats 4000000 in
theorem picks_three_sure (w m a b o x y v z : Int) (W0 : World)
    (Cp : Hid (∀ W, Calls Try.prog 13 #[.agg #[.int .i64 w, .int .i64 3, .int .i64 m], .agg #[.int .i64 a, .int .i64 b]] W (Gives (.tuple #[.int .i64 v, .int .i64 0]) W))) (Cm : Hid (∀ W, Calls Try.prog 15 #[.agg #[.int .i64 w, .int .i64 3, .int .i64 m], .agg #[.int .i64 a, .int .i64 b]] W (MeetRes x y 0 W))) (Cd : Hid (∀ W, Calls Try.prog 21 #[.agg #[.int .i64 a, .int .i64 b]] W (Gives (.int .u64 z) W))) (h1 : decide (v < x) = false) (h2 : decide (y < v) = false) (h3 : 0 ≤ m) (h4 : m ≤ 4611686018427387903) (h5 : decide (m < z) = false) (hxy : (x != y) = false) (Cn : Hid (∀ W, Calls Try.prog 8 #[.int .i64 w, .int .i64 o, .int .i64 m] W (GridRes w o m 0 W))) (Cc : Hid (∀ W, Calls Try.prog 18 #[.agg #[.int .i64 w, .int .i64 3, .int .i64 m], .agg #[.int .i64 a, .int .i64 b]] W (Gives (.bool true) W))) (Cq : Hid (∀ W, Calls Try.prog 13 #[.agg #[.int .i64 w, .int .i64 o, .int .i64 m], .agg #[.int .i64 a, .int .i64 b]] W (Gives (.tuple #[.int .i64 v, .int .i64 0]) W))) :
    Calls Try.prog 5 #[.agg #[.int .i64 w, .int .i64 3, .int .i64 m], .agg #[.int .i64 a, .int .i64 b], .int .i64 o] W0 fun e w' => e = .returned (.bool true) ∧ Below W0.heap.size W0 w' := by
  go_enter Try.func5, Try.ntmps5
  have B0 : Hid (Below W0.heap.size W0 W0) := Lib.hid (Below.refl W0.heap.size W0)
  go_wp2_with fail
  refine (alive_any _).mono ?_
  rintro e1 w1 ⟨rfl, hb1⟩
  have Kg : Hid (Kept w1 _ #[.int .i64 w, .int .i64 3, .int .i64 m] 23) := Lib.hid (((Kept.new (w := W0) (cs := #[.int .i64 w, .int .i64 3, .int .i64 m]) (t := 23) rfl).alloc (.cells #[.int .i64 a, .int .i64 b] 25)).next hb1)
  have Kx : Hid (Kept w1 _ #[.int .i64 a, .int .i64 b] 25) := Lib.hid ((Kept.new (w := (W0.alloc (.cells #[.int .i64 w, .int .i64 3, .int .i64 m] 23))) (g := W0.heap.size + 1) (cs := #[.int .i64 a, .int .i64 b]) (t := 25) (by simp)).next hb1)
  have B1 : Hid (Below W0.heap.size W0 w1) := Lib.hid (bnext (((((B0.out).alloc (by have := B0.out.size; first | omega | (simp <;> omega)) _)).alloc (by have := B0.out.size; first | omega | (simp <;> omega)) _)) (by have := B0.out.size; first | omega | (simp <;> omega)) hb1)
  clear hb1
  obtain ⟨g1, g2, g3, -, -, -, gl⟩ := Kg.out.three
  obtain ⟨x1, x2, -, -, xl⟩ := Kx.out.two
  go_wp2_with fail
  refine (Cp.out _).mono ?_
  rintro e2 w2 ⟨rfl, hb2⟩
  clear g1 g2 g3 gl
  clear x1 x2 xl
  have Kg : Hid (Kept w2 _ _ _) := Lib.hid (Kg.out.next hb2)
  have Kx : Hid (Kept w2 _ _ _) := Lib.hid (Kx.out.next hb2)
  have B2 : Hid (Below W0.heap.size W0 w2) := Lib.hid (bnext (B1.out) (by have := B1.out.size; first | omega | (simp <;> omega)) hb2)
  clear hb2
  obtain ⟨g1, g2, g3, -, -, -, gl⟩ := Kg.out.three
  obtain ⟨x1, x2, -, -, xl⟩ := Kx.out.two
  go_wp2_with fail
  refine (Cm.out _).mono ?_
  rintro e3 w3 ⟨rfl, hb3⟩
  clear g1 g2 g3 gl
  clear x1 x2 xl
  have Kg : Hid (Kept w3 _ _ _) := Lib.hid (Kg.out.next hb3)
  have Kx : Hid (Kept w3 _ _ _) := Lib.hid (Kx.out.next hb3)
  have B3 : Hid (Below W0.heap.size W0 w3) := Lib.hid (bnext (B2.out) (by have := B2.out.size; first | omega | (simp <;> omega)) hb3)
  clear hb3
  obtain ⟨g1, g2, g3, -, -, -, gl⟩ := Kg.out.three
  obtain ⟨x1, x2, -, -, xl⟩ := Kx.out.two
  have wm : IntKind.u64.wrap m = m := by simp only [IntKind.wrap_u64]; omega
  go_wp2
  go_region_held3 (fun w' => Hid (Below W0.heap.size W0 w') ∧ w'.cell? ⟨W0.heap.size, 0, none⟩ = some (.int .i64 w) ∧ w'.cell? ⟨W0.heap.size, 1, none⟩ = some (.int .i64 3) ∧ w'.cell? ⟨W0.heap.size, 2, none⟩ = some (.int .i64 m) ∧ w'.cell? ⟨W0.heap.size + 1, 0, none⟩ = some (.int .i64 a) ∧ w'.cell? ⟨W0.heap.size + 1, 1, none⟩ = some (.int .i64 b))
    (first | exact keepB5 hb7 (by assumption) | exact ⟨Lib.hid ⟨B3.out.os, B3.out.tape, B3.out.output, B3.out.size, B3.out.block⟩, g1, g2, g3, x1, x2⟩)
    (first | (go_at_call 21; (with_reducible refine (Cd.out _).mono ?_); rintro e w7 ⟨rfl, hb7⟩))
  rename_i HH
  clear g1 g2 g3 x1 x2 gl xl
  obtain ⟨B6, g1, g2, g3, x1, x2⟩ := HH
  go_wp2_with fail
  refine (Cn.out _).mono ?_
  rintro e8 w8 ⟨rfl, hb8⟩
  have B8 : Hid (Below W0.heap.size W0 w8) := Lib.hid (bstep B6.out hb8)
  obtain ⟨u1, u2, u3, u4, u5⟩ := keep5 hb8 ⟨g1, g2, g3, x1, x2⟩
  have ul1 := World.block_lt_of_cell? w8 _ u1
  have ul2 := World.block_lt_of_cell? w8 _ u4
  clear g1 g2 g3 x1 x2 hb8 hb7
  go_wp2_with fail
  refine (Cc.out _).mono ?_
  rintro e9 w9 ⟨rfl, hb9⟩
  have B9 : Hid (Below W0.heap.size W0 w9) := Lib.hid (bstep (B8.out.alloc B8.out.size _) hb9)
  have KN := (Kept.new (w := w8) (cs := #[.int .i64 w, .int .i64 o, .int .i64 m]) (t := 23) rfl).next hb9
  obtain ⟨n1, n2, n3, -, -, -, nl⟩ := KN.three
  have y4 := keep1 hb9 ((keep1 (one_alloc w8 _) u4))
  have y5 := keep1 hb9 ((keep1 (one_alloc w8 _) u5))
  clear u1 u2 u3 u4 u5 hb9 KN
  go_wp2_with fail
  refine (Cq.out _).mono ?_
  rintro e10 w10 ⟨rfl, hb10⟩
  have B10 : Hid (Below W0.heap.size W0 w10) := Lib.hid (bstep B9.out hb10)
  clear hb10 n1 n2 n3 y4 y5
  go_wp2
  go_ret
  exact ⟨rfl, B10.out⟩
end Go.Proofs.Ythipeefhkaanbaa
