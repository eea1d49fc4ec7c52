import Derived.Test.YtflplliiamodhaaZRfB
import Derived.Test.YtflplliiamodhaaZClkE
/- noonmarkref18.Clock.gaps: for every clock. Of gen_rfc.py. -/
namespace Go.Proofs.Ytflplliiamodhaa
open Go.RowKit
set_option linter.unusedVariables false
set_option linter.unusedSimpArgs false

theorem info_gap3 : (Try.prog.info? 42).map (fun i => (i.zero, i.size, i.bytes)) = some (some (.agg #[.int .i64 0, .int .i64 0]), 2, 16) := by kernel_rfl
/-- the reference's clock: its block is g, its samples stand behind a -/
def RkO (W : World) (g : Nat) (a : Option Addr) (cap : Nat) (c : Ck) : Prop :=
  Kept W g #[.int .i64 c.rho, .int .i64 c.need, .bool c.held, .int .i64 c.streak, .slice a c.L.length cap] 81 ∧ QuadRow W a c.L ∧ (a = none → cap = 0)
theorem RkO.below {W W' : World} {g cap : Nat} {a : Option Addr} {c : Ck} (h : RkO W g a cap c) (hb : Below W.heap.size W W') : RkO W' g a cap c := ⟨h.1.next hb, h.2.1.below hb, h.2.2⟩
def GvRel (L : List Sm) (t r : Int) (w : World) (m i : Value) (wr : World) : Prop := ∃ k : Nat, k ≤ L.length ∧ i = .int .i64 k ∧ Hid (wr.ownsRow w.heap.size 42 2 m k (cells2 (gapsS (L.take k) t r))) ∧ Hid (Below w.heap.size w wr)
def GvCut (v0 : World) (s : Sm) (t r : Int) (p e : Value) (wx : World) : Prop := ∃ g, p = .pointer (some ⟨g, 0, none⟩) ∧ e = .int .i64 (atE s t r) ∧ Hid (Kept wx g #[.int .i64 (atG s t r).1, .int .i64 (atG s t r).2] 42 ∧ Below v0.heap.size v0 wx ∧ v0.heap.size ≤ g)
def GvOut (L : List Sm) (t r : Int) (w : World) (e : Ending) (w' : World) : Prop := ∃ a cap, e = .returned (.slice a L.length cap) ∧ w'.ownsRow w.heap.size 42 2 (.slice a L.length cap) L.length (cells2 (gapsS L t r)) ∧ Below w.heap.size w w'
set_option maxHeartbeats 4000000 in
set_option maxRecDepth 100000 in
theorem gv_any (g : Nat) (a : Option Addr) (cap : Nat) (c : Ck) (t : Int) (w : World) (h : RkO w g a cap c) (hl : c.L.length ≤ 1000) : Calls Try.prog 44 #[.pointer (some ⟨g, 0, none⟩), .int .i64 t] w (GvOut c.L t c.rho w) := by
  obtain ⟨i0, hi, hz0, hz1, hz2⟩ := info_parts2 info_gap3
  have HL := Lib.hid hl
  have HH := Lib.hid h
  obtain ⟨rho, need, streak, held, L⟩ := c
  dsimp only at *
  obtain ⟨x1, -, -, -, x5, -⟩ := h.1.five
  have START : Hid (GvRel L t rho w (.slice (some ⟨w.heap.size, 0, none⟩) 0 0) (.int .i64 0) (w.alloc (.cells #[] 42))) := Lib.hid ⟨0, Nat.zero_le _, rfl, Lib.hid (World.ownsRow_made _ #[] 0 (Nat.le_refl _) (by unfold maxLen; omega) rfl), Lib.hid (one_alloc _ _)⟩
  clear h hl
  go_enter Try.func44, Try.ntmps44
  go_wp2
  go_loopw [5, 6] (fun m i wr => GvRel L t rho w m i wr) (fun _ i _ => L.length - (intOf i).toNat)
  case atStart => exact START.out
  case round =>
    obtain ⟨k, hk, rfl, OW, BB⟩ := hrel
    clear START
    have cr := keep1 BB.out x1
    have cl := keep1 BB.out x5
    by_cases hlt : k < L.length
    · have HLT := Lib.hid hlt
      obtain ⟨b, off, rfl, q1, q2, q3, q4⟩ := HH.out.2.1 k hlt
      have c1 := keep1 BB.out q1
      have c2 := keep1 BB.out q2
      have c3 := keep1 BB.out q3
      have c4 := keep1 BB.out q4
      have hkk : (k : Int) < (L.length : Int) := by omega
      have hk0 : (0 : Int) ≤ (k : Int) := by omega
      have e2 : wrap64 ((k : Int) + 1) = (k : Int) + 1 := IntWalk.wrap64_in _ (by have := HL.out; omega)
      have F : Hid (∀ m W, W.ownsRow w.heap.size 42 2 m (k + 1) (cells2 (gapsS (L.take k) t rho) ++ [.int .i64 (gapS (L.getD k smZ) t rho).1, .int .i64 (gapS (L.getD k smZ) t rho).2]) → Below w.heap.size w W → GvRel L t rho w m (.int .i64 ((k : Int) + 1)) W) := Lib.hid fun m W h1 h2 => ⟨k + 1, hlt, rfl, Lib.hid (by rw [← gapsS_take L t rho k hlt]; exact h1), Lib.hid h2⟩
      have H63 : Hid (k + 1 ≤ maxLen ∧ (k + 1) * 16 ≤ 140737488355328) := Lib.hid (by have := HL.out; unfold maxLen; omega)
      generalize cells2 (gapsS (L.take k) t rho) = xs at *
      obtain ⟨⟨sa, sg, ss, sc⟩, hs⟩ : ∃ s, L.getD k smZ = s := ⟨_, rfl⟩
      rw [hs] at c1 c2 c3 c4 F
      dsimp only at c1 c2 c3 c4
      clear hlt hk hs q1 q2 q3 q4
      obtain ⟨v0, hv0⟩ : ∃ x, x = wr := ⟨_, rfl⟩
      subst hv0
      go_upto_region 5 with fail
      go_cut [7, 8] from 10 to 41 (fun p e wx => GvCut v0 (sa, sg, ss, sc) t rho p e wx)
      case first =>
        have BA : Hid (Below v0.heap.size v0 v0.drew) := Lib.hid (Below.refl _ _).drew
        have FIN : Hid (∀ p W, Kept W p #[.int .i64 (atG (sa, sg, ss, sc) t rho).1, .int .i64 (atG (sa, sg, ss, sc) t rho).2] 42 → Below v0.heap.size v0 W → v0.heap.size ≤ p → GvCut v0 (sa, sg, ss, sc) t rho (.pointer (some ⟨p, 0, none⟩)) (.int .i64 (atE (sa, sg, ss, sc) t rho)) W) := Lib.hid fun p W h1 h2 h3 => ⟨p, rfl, rfl, Lib.hid ⟨h1, h2, h3⟩⟩
        obtain ⟨lo, hi', hgg⟩ : ∃ lo hi', atG (sa, sg, ss, sc) t rho = (lo, hi') := ⟨_, _, rfl⟩
        have CA' : Hid (∀ W, Calls Try.prog 45 #[.agg #[.int .i64 sa, .int .i64 sg, .int .i64 ss, .int .i64 sc], .int .i64 t, .int .i64 rho] W (Gives (.tuple #[.agg #[.int .i64 lo, .int .i64 hi'], .int .i64 (atE (sa, sg, ss, sc) t rho)]) W)) := Lib.hid fun W => by
          have hh := rat_any sa sg ss sc t rho W
          rw [hgg] at hh
          exact hh
        rw [hgg] at FIN
        dsimp only at FIN
        generalize atE (sa, sg, ss, sc) t rho = er at *
        have S0 : v0.drew.cell? ⟨b, off + k * 4, none⟩ = some (.int .i64 sa) ∧ v0.drew.cell? ⟨b, off + k * 4 + 1, none⟩ = some (.int .i64 sg) ∧ v0.drew.cell? ⟨b, off + k * 4 + 2, none⟩ = some (.int .i64 ss) ∧ v0.drew.cell? ⟨b, off + k * 4 + 3, none⟩ = some (.int .i64 sc) ∧ v0.drew.cell? ⟨g, 0, none⟩ = some (.int .i64 rho) ∧ v0.drew.cell? ⟨g, 4, none⟩ = some (.slice (some ⟨b, off, none⟩) L.length cap) := ⟨c1, c2, c3, c4, cr, cl⟩
        have KS : Hid (∀ W, Below v0.drew.heap.size v0.drew W → W.cell? ⟨b, off + k * 4, none⟩ = some (.int .i64 sa) ∧ W.cell? ⟨b, off + k * 4 + 1, none⟩ = some (.int .i64 sg) ∧ W.cell? ⟨b, off + k * 4 + 2, none⟩ = some (.int .i64 ss) ∧ W.cell? ⟨b, off + k * 4 + 3, none⟩ = some (.int .i64 sc) ∧ W.cell? ⟨g, 0, none⟩ = some (.int .i64 rho) ∧ W.cell? ⟨g, 4, none⟩ = some (.slice (some ⟨b, off, none⟩) L.length cap)) := Lib.hid fun W hb => keep6 hb S0
        refine wp_region_held_drew (S := fun w' => w'.cell? ⟨b, off + k * 4, none⟩ = some (.int .i64 sa) ∧ w'.cell? ⟨b, off + k * 4 + 1, none⟩ = some (.int .i64 sg) ∧ w'.cell? ⟨b, off + k * 4 + 2, none⟩ = some (.int .i64 ss) ∧ w'.cell? ⟨b, off + k * 4 + 3, none⟩ = some (.int .i64 sc) ∧ w'.cell? ⟨g, 0, none⟩ = some (.int .i64 rho) ∧ w'.cell? ⟨g, 4, none⟩ = some (.slice (some ⟨b, off, none⟩) L.length cap)) (by kernel_rfl) S0 (fun hHeld => ?_)
        clear c1 c2 c3 c4 cr cl S0
        generalize v0.drew = v2 at *
        have R0 : Hid (Below v2.heap.size v2 v2) := Lib.hid (Below.refl _ _)
        refine wpAnyH_take (i := 0) (oi := ({ dst := some 20, op := Op.move (Operand.tmp 0), type := 28, pos := "ref.go:83", after := #[], guard := none } : Oper)) (v := ?_) rfl (by kernel_rfl) (by kernel_rfl) (by kernel_rfl) (fun _ _ _ h => h) (Or.inl ⟨by rfl, ?_⟩) hHeld ?_
        rotate_left
        · ((intro w hSw; obtain ⟨s1, s2, s3, s4, s5, s6⟩ := hSw; go_simp); (try with_reducible rfl))
        (try simp only [Act.put, List.setIfInBounds_toArray, List.set_cons_zero, List.set_cons_succ])
        refine wpAnyH_take (i := 1) (oi := ({ dst := some 21, op := Op.nilCheck (Operand.tmp 20), type := 0, pos := "ref.go:83", after := #[{ on := 0, ground := Ground.data }], guard := none } : Oper)) (v := ?_) rfl (by kernel_rfl) (by kernel_rfl) (by kernel_rfl) (fun _ _ _ h => h) (Or.inl ⟨by rfl, ?_⟩) hHeld ?_
        rotate_left
        · ((intro w hSw; obtain ⟨s1, s2, s3, s4, s5, s6⟩ := hSw; go_simp); (try with_reducible rfl))
        (try simp only [Act.put, List.setIfInBounds_toArray, List.set_cons_zero, List.set_cons_succ])
        refine wpAnyH_take (i := 2) (oi := ({ dst := some 22, op := Op.fieldAddr 81 (Operand.tmp 21) 4, type := 0, pos := "ref.go:83", after := #[{ on := 1, ground := Ground.data }], guard := none } : Oper)) (v := ?_) rfl (by kernel_rfl) (by kernel_rfl) (by kernel_rfl) (fun _ _ _ h => h) (Or.inl ⟨by rfl, ?_⟩) hHeld ?_
        rotate_left
        · ((intro w hSw; obtain ⟨s1, s2, s3, s4, s5, s6⟩ := hSw; go_simp); (try with_reducible rfl))
        (try simp only [Act.put, List.setIfInBounds_toArray, List.set_cons_zero, List.set_cons_succ])
        refine wpAnyH_take (i := 3) (oi := ({ dst := some 23, op := Op.load 79 (Operand.tmp 22), type := 79, pos := "ref.go:83", after := #[{ on := 2, ground := Ground.data }], guard := none } : Oper)) (v := ?_) rfl (by kernel_rfl) (by kernel_rfl) (by kernel_rfl) (fun _ _ _ h => h) (Or.inl ⟨by rfl, ?_⟩) hHeld ?_
        rotate_left
        · ((intro w hSw; obtain ⟨s1, s2, s3, s4, s5, s6⟩ := hSw; go_simp); (try with_reducible rfl))
        (try simp only [Act.put, List.setIfInBounds_toArray, List.set_cons_zero, List.set_cons_succ])
        refine wpAnyH_take (i := 4) (oi := ({ dst := some 24, op := Op.move (Operand.tmp 6), type := 3, pos := "ref.go:83", after := #[], guard := none } : Oper)) (v := ?_) rfl (by kernel_rfl) (by kernel_rfl) (by kernel_rfl) (fun _ _ _ h => h) (Or.inl ⟨by rfl, ?_⟩) hHeld ?_
        rotate_left
        · ((intro w hSw; obtain ⟨s1, s2, s3, s4, s5, s6⟩ := hSw; go_simp); (try with_reducible rfl))
        (try simp only [Act.put, List.setIfInBounds_toArray, List.set_cons_zero, List.set_cons_succ])
        refine wpAnyH_take (i := 5) (oi := ({ dst := some 25, op := Op.indexAddr 79 (Operand.tmp 23) (Operand.tmp 24), type := 0, pos := "ref.go:83", after := #[{ on := 3, ground := Ground.data }, { on := 4, ground := Ground.data }], guard := none } : Oper)) (v := ?_) rfl (by kernel_rfl) (by kernel_rfl) (by kernel_rfl) (fun _ _ _ h => h) (Or.inl ⟨by rfl, ?_⟩) hHeld ?_
        rotate_left
        · ((intro w hSw; obtain ⟨s1, s2, s3, s4, s5, s6⟩ := hSw; go_simp); (try with_reducible rfl))
        (try simp only [Act.put, List.setIfInBounds_toArray, List.set_cons_zero, List.set_cons_succ])
        refine wpAnyH_take (i := 6) (oi := ({ dst := some 26, op := Op.load 35 (Operand.tmp 25), type := 35, pos := "ref.go:83", after := #[{ on := 5, ground := Ground.data }], guard := none } : Oper)) (v := ?_) rfl (by kernel_rfl) (by kernel_rfl) (by kernel_rfl) (fun _ _ _ h => h) (Or.inl ⟨by rfl, ?_⟩) hHeld ?_
        rotate_left
        · ((intro w hSw; obtain ⟨s1, s2, s3, s4, s5, s6⟩ := hSw; go_simp); (try with_reducible rfl))
        (try simp only [Act.put, List.setIfInBounds_toArray, List.set_cons_zero, List.set_cons_succ])
        refine wpAnyH_take (i := 7) (oi := ({ dst := some 27, op := Op.move (Operand.tmp 1), type := 2, pos := "ref.go:83", after := #[], guard := none } : Oper)) (v := ?_) rfl (by kernel_rfl) (by kernel_rfl) (by kernel_rfl) (fun _ _ _ h => h) (Or.inl ⟨by rfl, ?_⟩) hHeld ?_
        rotate_left
        · ((intro w hSw; obtain ⟨s1, s2, s3, s4, s5, s6⟩ := hSw; go_simp); (try with_reducible rfl))
        (try simp only [Act.put, List.setIfInBounds_toArray, List.set_cons_zero, List.set_cons_succ])
        refine wpAnyH_take (i := 8) (oi := ({ dst := some 28, op := Op.move (Operand.tmp 0), type := 28, pos := "ref.go:83", after := #[], guard := none } : Oper)) (v := ?_) rfl (by kernel_rfl) (by kernel_rfl) (by kernel_rfl) (fun _ _ _ h => h) (Or.inl ⟨by rfl, ?_⟩) hHeld ?_
        rotate_left
        · ((intro w hSw; obtain ⟨s1, s2, s3, s4, s5, s6⟩ := hSw; go_simp); (try with_reducible rfl))
        (try simp only [Act.put, List.setIfInBounds_toArray, List.set_cons_zero, List.set_cons_succ])
        refine wpAnyH_take (i := 9) (oi := ({ dst := some 29, op := Op.nilCheck (Operand.tmp 28), type := 0, pos := "ref.go:83", after := #[{ on := 8, ground := Ground.data }], guard := none } : Oper)) (v := ?_) rfl (by kernel_rfl) (by kernel_rfl) (by kernel_rfl) (fun _ _ _ h => h) (Or.inl ⟨by rfl, ?_⟩) hHeld ?_
        rotate_left
        · ((intro w hSw; obtain ⟨s1, s2, s3, s4, s5, s6⟩ := hSw; go_simp); (try with_reducible rfl))
        (try simp only [Act.put, List.setIfInBounds_toArray, List.set_cons_zero, List.set_cons_succ])
        refine wpAnyH_take (i := 10) (oi := ({ dst := some 30, op := Op.fieldAddr 81 (Operand.tmp 29) 0, type := 0, pos := "ref.go:83", after := #[{ on := 9, ground := Ground.data }], guard := none } : Oper)) (v := ?_) rfl (by kernel_rfl) (by kernel_rfl) (by kernel_rfl) (fun _ _ _ h => h) (Or.inl ⟨by rfl, ?_⟩) hHeld ?_
        rotate_left
        · ((intro w hSw; obtain ⟨s1, s2, s3, s4, s5, s6⟩ := hSw; go_simp); (try with_reducible rfl))
        (try simp only [Act.put, List.setIfInBounds_toArray, List.set_cons_zero, List.set_cons_succ])
        refine wpAnyH_take (i := 11) (oi := ({ dst := some 31, op := Op.load 2 (Operand.tmp 30), type := 2, pos := "ref.go:83", after := #[{ on := 10, ground := Ground.data }], guard := none } : Oper)) (v := ?_) rfl (by kernel_rfl) (by kernel_rfl) (by kernel_rfl) (fun _ _ _ h => h) (Or.inl ⟨by rfl, ?_⟩) hHeld ?_
        rotate_left
        · ((intro w hSw; obtain ⟨s1, s2, s3, s4, s5, s6⟩ := hSw; go_simp); (try with_reducible rfl))
        (try simp only [Act.put, List.setIfInBounds_toArray, List.set_cons_zero, List.set_cons_succ])
        refine wpAnyH_ready (rs := [12, 16]) (by kernel_rfl) (by simp) ?_
        refine AllReadyH.cons (o := ({ dst := some 32, op := Op.call { callee := Callee.value (Operand.func 45), args := #[Operand.tmp 26, Operand.tmp 27, Operand.tmp 31], argTypes := #[35, 2, 2] }, type := 43, pos := "ref.go:83", after := #[{ on := 6, ground := Ground.data }, { on := 7, ground := Ground.data }, { on := 11, ground := Ground.data }], guard := none } : Oper)) rfl (fun K hK => ?_) (AllReadyH.cons (o := ({ dst := some 7, op := Op.alloc 42, type := 0, pos := "ref.go:83", after := #[], guard := none } : Oper)) rfl (fun K hK => ?_) (AllReadyH.nil))
        · go_simp
          (with_reducible refine (CA'.out _).mono ?_)
          rintro _ w1 ⟨rfl, b1⟩
          have R1 := Lib.hid (R0.out.trans (b1.mono R0.out.size))
          clear b1
          refine hK.out _ _ ?_ (fun hHeld => ?_)
          · exact KS.out _ R1.out
          clear hK K
          (try simp only [Act.put, List.setIfInBounds_toArray, List.set_cons_zero, List.set_cons_succ])
          refine wpAnyH_take (i := 13) (oi := ({ dst := some 19, op := Op.move (Operand.tmp 32), type := 43, pos := "ref.go:83", after := #[{ on := 12, ground := Ground.data }], guard := none } : Oper)) (v := ?_) rfl (by kernel_rfl) (by kernel_rfl) (by kernel_rfl) (fun _ _ _ h => h) (Or.inl ⟨by rfl, ?_⟩) hHeld ?_
          rotate_left
          · ((intro w hSw; obtain ⟨s1, s2, s3, s4, s5, s6⟩ := hSw; go_simp); (try with_reducible rfl))
          (try simp only [Act.put, List.setIfInBounds_toArray, List.set_cons_zero, List.set_cons_succ])
          refine wpAnyH_take (i := 14) (oi := ({ dst := some 33, op := Op.extract (Operand.tmp 19) 0, type := 42, pos := "ref.go:83", after := #[{ on := 13, ground := Ground.data }], guard := none } : Oper)) (v := ?_) rfl (by kernel_rfl) (by kernel_rfl) (by kernel_rfl) (fun _ _ _ h => h) (Or.inl ⟨by rfl, ?_⟩) hHeld ?_
          rotate_left
          · ((intro w hSw; obtain ⟨s1, s2, s3, s4, s5, s6⟩ := hSw; go_simp); (try with_reducible rfl))
          (try simp only [Act.put, List.setIfInBounds_toArray, List.set_cons_zero, List.set_cons_succ])
          refine wpAnyH_take (i := 15) (oi := ({ dst := some 34, op := Op.extract (Operand.tmp 19) 1, type := 25, pos := "ref.go:83", after := #[{ on := 13, ground := Ground.data }, { on := 17, ground := Ground.gcOnly Departure.lateStores }], guard := none } : Oper)) (v := ?_) rfl (by kernel_rfl) (by kernel_rfl) (by kernel_rfl) (fun _ _ _ h => h) (Or.inl ⟨by rfl, ?_⟩) hHeld ?_
          rotate_left
          · ((intro w hSw; obtain ⟨s1, s2, s3, s4, s5, s6⟩ := hSw; go_simp); (try with_reducible rfl))
          (try simp only [Act.put, List.setIfInBounds_toArray, List.set_cons_zero, List.set_cons_succ])
          refine wpAnyH_ready (rs := [16]) (by kernel_rfl) (by simp) ?_
          refine AllReadyH.cons (o := ({ dst := some 7, op := Op.alloc 42, type := 0, pos := "ref.go:83", after := #[], guard := none } : Oper)) rfl (fun K hK => ?_) (AllReadyH.nil)
          go_simp
          have K2 : Hid (Kept (w1.alloc (.cells #[.int .i64 0, .int .i64 0] 42)) w1.heap.size #[.int .i64 0, .int .i64 0] 42) := Lib.hid (Kept.new rfl)
          have G2 : Hid (v2.heap.size ≤ w1.heap.size) := Lib.hid R1.out.size
          have R2 := Lib.hid (R1.out.alloc R1.out.size (.cells #[.int .i64 0, .int .i64 0] 42))
          refine hK.out _ _ ?_ (fun hHeld => ?_)
          · exact KS.out _ R2.out
          clear hK K
          (try simp only [Act.put, List.setIfInBounds_toArray, List.set_cons_zero, List.set_cons_succ])
          refine wpAnyH_ready (rs := [17]) (by kernel_rfl) (by simp) ?_
          refine AllReadyH.cons (o := ({ dst := none, op := Op.store 42 (Operand.tmp 7) (Operand.tmp 33), type := 0, pos := "ref.go:83", after := #[{ on := 16, ground := Ground.data }, { on := 14, ground := Ground.data }, { on := 12, ground := Ground.chain }, { on := 0, ground := Ground.phase }, { on := 1, ground := Ground.phase }, { on := 2, ground := Ground.phase }, { on := 3, ground := Ground.phase }, { on := 4, ground := Ground.phase }, { on := 5, ground := Ground.phase }, { on := 6, ground := Ground.phase }, { on := 7, ground := Ground.phase }, { on := 8, ground := Ground.phase }, { on := 9, ground := Ground.phase }, { on := 10, ground := Ground.phase }, { on := 11, ground := Ground.phase }, { on := 12, ground := Ground.phase }, { on := 13, ground := Ground.phase }, { on := 14, ground := Ground.phase }, { on := 15, ground := Ground.textOnly Departure.lateStores }, { on := 16, ground := Ground.phase }], guard := none } : Oper)) rfl (fun K hK => ?_) (AllReadyH.nil)
          obtain ⟨x1, x2, x3, x4, x5⟩ := K2.out.two
          go_simp
          have K3 : Hid (Kept (w1.alloc (.cells #[.int .i64 lo, .int .i64 hi'] 42)) w1.heap.size #[.int .i64 lo, .int .i64 hi'] 42) := Lib.hid (Kept.new rfl)
          have R3 := Lib.hid (R1.out.alloc R1.out.size (.cells #[.int .i64 lo, .int .i64 hi'] 42))
          have G3 := G2
          refine hK.out _ _ ?_ (fun hHeld => ?_)
          · exact KS.out _ R3.out
          clear hK K
          (try simp only [Act.put, List.setIfInBounds_toArray, List.set_cons_zero, List.set_cons_succ])
          refine wpAnyH_take (i := 18) (oi := ({ dst := some 8, op := Op.assign (Operand.tmp 34), type := 25, pos := "ref.go:83", after := #[{ on := 15, ground := Ground.data }, { on := 17, ground := Ground.chain }, { on := 0, ground := Ground.phase }, { on := 1, ground := Ground.phase }, { on := 2, ground := Ground.phase }, { on := 3, ground := Ground.phase }, { on := 4, ground := Ground.phase }, { on := 5, ground := Ground.phase }, { on := 6, ground := Ground.phase }, { on := 7, ground := Ground.phase }, { on := 8, ground := Ground.phase }, { on := 9, ground := Ground.phase }, { on := 10, ground := Ground.phase }, { on := 11, ground := Ground.phase }, { on := 12, ground := Ground.phase }, { on := 13, ground := Ground.phase }, { on := 14, ground := Ground.phase }, { on := 15, ground := Ground.phase }, { on := 16, ground := Ground.phase }, { on := 17, ground := Ground.phase }], guard := none } : Oper)) (v := ?_) rfl (by kernel_rfl) (by kernel_rfl) (by kernel_rfl) (fun _ _ _ h => h) (Or.inl ⟨by rfl, ?_⟩) hHeld ?_
          rotate_left
          · ((intro w hSw; obtain ⟨s1, s2, s3, s4, s5, s6⟩ := hSw; go_simp); (try with_reducible rfl))
          (try simp only [Act.put, List.setIfInBounds_toArray, List.set_cons_zero, List.set_cons_succ])
          refine wpAnyH_done (by kernel_rfl) ?_ _
          have FF := Lib.hid (FIN.out _ _ K3.out (BA.out.trans (R3.out.mono BA.out.size)) (Nat.le_trans BA.out.size G3.out))
          clear hHeld KS
          go_wp2_with fail
          go_meet
          case rel => exact FF.out
        · go_simp
          have K1 : Hid (Kept (v2.alloc (.cells #[.int .i64 0, .int .i64 0] 42)) v2.heap.size #[.int .i64 0, .int .i64 0] 42) := Lib.hid (Kept.new rfl)
          have G1 : Hid (v2.heap.size ≤ v2.heap.size) := Lib.hid R0.out.size
          have R1 := Lib.hid (R0.out.alloc R0.out.size (.cells #[.int .i64 0, .int .i64 0] 42))
          refine hK.out _ _ ?_ (fun hHeld => ?_)
          · exact KS.out _ R1.out
          clear hK K
          (try simp only [Act.put, List.setIfInBounds_toArray, List.set_cons_zero, List.set_cons_succ])
          refine wpAnyH_ready (rs := [12]) (by kernel_rfl) (by simp) ?_
          refine AllReadyH.cons (o := ({ dst := some 32, op := Op.call { callee := Callee.value (Operand.func 45), args := #[Operand.tmp 26, Operand.tmp 27, Operand.tmp 31], argTypes := #[35, 2, 2] }, type := 43, pos := "ref.go:83", after := #[{ on := 6, ground := Ground.data }, { on := 7, ground := Ground.data }, { on := 11, ground := Ground.data }], guard := none } : Oper)) rfl (fun K hK => ?_) (AllReadyH.nil)
          go_simp
          (with_reducible refine (CA'.out _).mono ?_)
          rintro _ w2 ⟨rfl, b2⟩
          have R2 := Lib.hid (R1.out.trans (b2.mono R1.out.size))
          have K2 := Lib.hid (K1.out.next b2)
          have G2 := G1
          clear b2
          refine hK.out _ _ ?_ (fun hHeld => ?_)
          · exact KS.out _ R2.out
          clear hK K
          (try simp only [Act.put, List.setIfInBounds_toArray, List.set_cons_zero, List.set_cons_succ])
          refine wpAnyH_take (i := 13) (oi := ({ dst := some 19, op := Op.move (Operand.tmp 32), type := 43, pos := "ref.go:83", after := #[{ on := 12, ground := Ground.data }], guard := none } : Oper)) (v := ?_) rfl (by kernel_rfl) (by kernel_rfl) (by kernel_rfl) (fun _ _ _ h => h) (Or.inl ⟨by rfl, ?_⟩) hHeld ?_
          rotate_left
          · ((intro w hSw; obtain ⟨s1, s2, s3, s4, s5, s6⟩ := hSw; go_simp); (try with_reducible rfl))
          (try simp only [Act.put, List.setIfInBounds_toArray, List.set_cons_zero, List.set_cons_succ])
          refine wpAnyH_take (i := 14) (oi := ({ dst := some 33, op := Op.extract (Operand.tmp 19) 0, type := 42, pos := "ref.go:83", after := #[{ on := 13, ground := Ground.data }], guard := none } : Oper)) (v := ?_) rfl (by kernel_rfl) (by kernel_rfl) (by kernel_rfl) (fun _ _ _ h => h) (Or.inl ⟨by rfl, ?_⟩) hHeld ?_
          rotate_left
          · ((intro w hSw; obtain ⟨s1, s2, s3, s4, s5, s6⟩ := hSw; go_simp); (try with_reducible rfl))
          (try simp only [Act.put, List.setIfInBounds_toArray, List.set_cons_zero, List.set_cons_succ])
          refine wpAnyH_take (i := 15) (oi := ({ dst := some 34, op := Op.extract (Operand.tmp 19) 1, type := 25, pos := "ref.go:83", after := #[{ on := 13, ground := Ground.data }, { on := 17, ground := Ground.gcOnly Departure.lateStores }], guard := none } : Oper)) (v := ?_) rfl (by kernel_rfl) (by kernel_rfl) (by kernel_rfl) (fun _ _ _ h => h) (Or.inl ⟨by rfl, ?_⟩) hHeld ?_
          rotate_left
          · ((intro w hSw; obtain ⟨s1, s2, s3, s4, s5, s6⟩ := hSw; go_simp); (try with_reducible rfl))
          (try simp only [Act.put, List.setIfInBounds_toArray, List.set_cons_zero, List.set_cons_succ])
          refine wpAnyH_ready (rs := [17]) (by kernel_rfl) (by simp) ?_
          refine AllReadyH.cons (o := ({ dst := none, op := Op.store 42 (Operand.tmp 7) (Operand.tmp 33), type := 0, pos := "ref.go:83", after := #[{ on := 16, ground := Ground.data }, { on := 14, ground := Ground.data }, { on := 12, ground := Ground.chain }, { on := 0, ground := Ground.phase }, { on := 1, ground := Ground.phase }, { on := 2, ground := Ground.phase }, { on := 3, ground := Ground.phase }, { on := 4, ground := Ground.phase }, { on := 5, ground := Ground.phase }, { on := 6, ground := Ground.phase }, { on := 7, ground := Ground.phase }, { on := 8, ground := Ground.phase }, { on := 9, ground := Ground.phase }, { on := 10, ground := Ground.phase }, { on := 11, ground := Ground.phase }, { on := 12, ground := Ground.phase }, { on := 13, ground := Ground.phase }, { on := 14, ground := Ground.phase }, { on := 15, ground := Ground.textOnly Departure.lateStores }, { on := 16, ground := Ground.phase }], guard := none } : Oper)) rfl (fun K hK => ?_) (AllReadyH.nil)
          obtain ⟨x1, x2, x3, x4, x5⟩ := K2.out.two
          go_simp
          have K3 := Lib.hid (K2.out.set2 (.int .i64 lo) (.int .i64 hi'))
          have R3 := Lib.hid (bset2 R2.out G2.out (.int .i64 lo) (.int .i64 hi'))
          have G3 := G2
          refine hK.out _ _ ?_ (fun hHeld => ?_)
          · exact KS.out _ R3.out
          clear hK K
          (try simp only [Act.put, List.setIfInBounds_toArray, List.set_cons_zero, List.set_cons_succ])
          refine wpAnyH_take (i := 18) (oi := ({ dst := some 8, op := Op.assign (Operand.tmp 34), type := 25, pos := "ref.go:83", after := #[{ on := 15, ground := Ground.data }, { on := 17, ground := Ground.chain }, { on := 0, ground := Ground.phase }, { on := 1, ground := Ground.phase }, { on := 2, ground := Ground.phase }, { on := 3, ground := Ground.phase }, { on := 4, ground := Ground.phase }, { on := 5, ground := Ground.phase }, { on := 6, ground := Ground.phase }, { on := 7, ground := Ground.phase }, { on := 8, ground := Ground.phase }, { on := 9, ground := Ground.phase }, { on := 10, ground := Ground.phase }, { on := 11, ground := Ground.phase }, { on := 12, ground := Ground.phase }, { on := 13, ground := Ground.phase }, { on := 14, ground := Ground.phase }, { on := 15, ground := Ground.phase }, { on := 16, ground := Ground.phase }, { on := 17, ground := Ground.phase }], guard := none } : Oper)) (v := ?_) rfl (by kernel_rfl) (by kernel_rfl) (by kernel_rfl) (fun _ _ _ h => h) (Or.inl ⟨by rfl, ?_⟩) hHeld ?_
          rotate_left
          · ((intro w hSw; obtain ⟨s1, s2, s3, s4, s5, s6⟩ := hSw; go_simp); (try with_reducible rfl))
          (try simp only [Act.put, List.setIfInBounds_toArray, List.set_cons_zero, List.set_cons_succ])
          refine wpAnyH_done (by kernel_rfl) ?_ _
          have FF := Lib.hid (FIN.out _ _ K3.out (BA.out.trans (R3.out.mono BA.out.size)) (Nat.le_trans BA.out.size G3.out))
          clear hHeld KS
          go_wp2_with fail
          go_meet
          case rel => exact FF.out
      case rest =>
        obtain ⟨gp, rfl, rfl, hh⟩ := hcut
        obtain ⟨v3, hv3⟩ : ∃ x, x = wc := ⟨_, rfl⟩
        subst hv3
        have KG := Lib.hid hh.out.1
        have B3 := Lib.hid (BB.out.trans (hh.out.2.1.mono BB.out.size))
        have O3 := Lib.hid (owns_below OW.out hh.out.2.1)
        have GE := Lib.hid (Nat.le_trans BB.out.size hh.out.2.2)
        obtain ⟨y1, y2, y3, y4, y5⟩ := KG.out.two
        have NRG : Hid (∀ k, u5.ownBlock = some k → k ≠ gp) := Lib.hid fun k hk e => by
          have h1 := (OW.out.lt k hk).2
          have h2 := hh.out.2.2
          omega
        by_cases h0 : atE (sa, sg, ss, sc) t rho = 0
        · have hG : gapS (sa, sg, ss, sc) t rho = atG (sa, sg, ss, sc) t rho := by unfold gapS atG; rw [if_pos h0, if_pos h0]
          rw [hG] at F
          rw [h0]
          generalize atG (sa, sg, ss, sc) t rho = ag at *
          obtain ⟨lo, hi'⟩ := ag
          dsimp only at *
          have KX : Hid (Kept (v3.alloc (.cells #[.int .i64 lo, .int .i64 hi'] 42)) v3.heap.size #[.int .i64 lo, .int .i64 hi'] 42) := Lib.hid (Kept.new rfl)
          have O4 := Lib.hid (O3.out.alloc (.cells #[.int .i64 lo, .int .i64 hi'] 42))
          have B4 := Lib.hid (B3.out.alloc B3.out.size (.cells #[.int .i64 lo, .int .i64 hi'] 42))
          have hb1 := H63.out.1
          have hb2 := H63.out.2
          clear hh h0 hG BB OW c1 c2 c3 c4 cr cl O3 B3
          go_wp2_with (at_builtin; refine wpList_appendBlk rfl _ _ 87 rfl w.heap.size 42 i0 (.agg #[.int .i64 0, .int .i64 0]) 2 16 Try.underlying87 hi hz0 hz1 hz2 rfl (by decide) u5 k xs rfl O4.out v3.heap.size 1 #[.int .i64 lo, .int .i64 hi'] 42 rfl KX.out rfl two_cells hb1 hb2 B4.out.size ?_)
          intro v5 w5 o5 g5
          have FF := Lib.hid (F.out v5 w5 o5 (B4.out.grown g5 B4.out.size (fun k hk => (O4.out.lt k hk).1)))
          clear o5 g5 F KX O4 B4 hb1 hb2 y1 y2 y3 y4 y5
          go_wp2
          go_roundw
          case rel => (try rw [e2]); exact FF.out
          case measure => have := HLT.out; (try rw [e2]); simp [intOf]; omega
        · have hG : gapS (sa, sg, ss, sc) t rho = (1, 0) := by unfold gapS; rw [if_neg h0]
          rw [hG] at F
          generalize atG (sa, sg, ss, sc) t rho = ag at *
          obtain ⟨lo, hi'⟩ := ag
          dsimp only at *
          obtain ⟨er, her⟩ : ∃ er, atE (sa, sg, ss, sc) t rho = er := ⟨_, rfl⟩
          rw [her] at h0
          rw [her]
          have hd : (er == 0) = false := beq_eq_false_iff_ne.mpr h0
          obtain ⟨V, hV⟩ : ∃ V, (v3.setCell ⟨gp, 0, none⟩ (.int .i64 1)).setCell ⟨gp, 1, none⟩ (.int .i64 0) = V := ⟨_, rfl⟩
          have KV : Hid (Kept V gp #[.int .i64 1, .int .i64 0] 42) := Lib.hid (by rw [← hV]; exact KG.out.set2 _ _)
          have OV : Hid (V.ownsRow w.heap.size 42 2 u5 k xs) := Lib.hid (by
            rw [← hV]
            have hn : u5.ownBlock ≠ some gp := fun e => NRG.out gp e rfl
            exact owns_set (owns_set O3.out hn) hn)
          have BV : Hid (Below w.heap.size w V) := Lib.hid (by rw [← hV]; exact bset2 B3.out GE.out _ _)
          have HV := Lib.hid hV
          have KX : Hid (Kept (V.alloc (.cells #[.int .i64 1, .int .i64 0] 42)) V.heap.size #[.int .i64 1, .int .i64 0] 42) := Lib.hid (Kept.new rfl)
          have O4 := Lib.hid (OV.out.alloc (.cells #[.int .i64 1, .int .i64 0] 42))
          have B4 := Lib.hid (BV.out.alloc BV.out.size (.cells #[.int .i64 1, .int .i64 0] 42))
          have hb1 := H63.out.1
          have hb2 := H63.out.2
          obtain ⟨z1, z2, z3, z4, z5⟩ := KV.out.two
          clear hh h0 hG BB OW c1 c2 c3 c4 cr cl O3 B3 hV her
          go_upto_region 8 with fail
          rw [HV.out]
          clear y1 y2 y3 y4 y5 HV
          go_wp2_with (at_builtin; refine wpList_appendBlk rfl _ _ 87 rfl w.heap.size 42 i0 (.agg #[.int .i64 0, .int .i64 0]) 2 16 Try.underlying87 hi hz0 hz1 hz2 rfl (by decide) u5 k xs rfl O4.out V.heap.size 1 #[.int .i64 1, .int .i64 0] 42 rfl KX.out rfl two_cells hb1 hb2 B4.out.size ?_)
          intro v5 w5 o5 g5
          have FF := Lib.hid (F.out v5 w5 o5 (B4.out.grown g5 B4.out.size (fun k hk => (O4.out.lt k hk).1)))
          clear o5 g5 F KX O4 B4 hb1 hb2 z1 z2 z3 z4 z5
          go_wp2
          go_roundw
          case rel => (try rw [e2]); exact FF.out
          case measure => have := HLT.out; (try rw [e2]); simp [intOf]; omega
    · -- @e
      obtain rfl : k = L.length := by omega
      have o := OW.out
      rw [List.take_length] at o
      obtain ⟨a2, cap2, rfl, -⟩ := PairRow.own o
      have O := Lib.hid o
      clear o OW hk hlt
      go_wp2
      go_ret
      exact ⟨a2, cap2, rfl, O.out, BB.out⟩
end Go.Proofs.Ytflplliiamodhaa
