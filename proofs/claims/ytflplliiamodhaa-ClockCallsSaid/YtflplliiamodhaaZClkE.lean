import Derived.Test.YtflplliiamodhaaZClkD
import Derived.Deep.DeepCutAuto
/- Clock.intervals: for every clock. -/
namespace Go.Proofs.Ytflplliiamodhaa
open Go.RowKit
set_option linter.unusedVariables false
set_option linter.unusedSimpArgs false

theorem two_cells {a b : Int} : ∀ u ∈ (#[Value.int .i64 a, Value.int .i64 b] : Array Value).toList, u.oneCell' = true := by
  intro u hu
  simp at hu
  rcases hu with rfl | rfl <;> rfl
theorem gapsS_len (L : List Sm) (t r : Int) : (gapsS L t r).length = L.length := List.length_map _
theorem gapsS_take (L : List Sm) (t r : Int) (k : Nat) (hk : k < L.length) : cells2 (gapsS (L.take k) t r) ++ [.int .i64 (gapS (L.getD k smZ) t r).1, .int .i64 (gapS (L.getD k smZ) t r).2] = cells2 (gapsS (L.take (k + 1)) t r) := by
  have : L.take (k + 1) = L.take k ++ [L.getD k smZ] := by
    rw [List.take_add_one]
    simp [List.getD, List.getElem?_eq_getElem hk]
  unfold gapsS
  rw [this, List.map_append, cells2_append]
  rfl
def IvRel (L : List Sm) (t r : Int) (w : World) (m i : Value) (wr : World) : Prop := ∃ k : Nat, k ≤ L.length ∧ i = .int .i64 k ∧ Hid (wr.ownsRow w.heap.size 39 2 m k (cells2 (gapsS (L.take k) t r))) ∧ Hid (Below w.heap.size w wr)
def IvCut (v0 : World) (s : Sm) (t r : Int) (p e : Value) (wx : World) : Prop := ∃ g, p = .pointer (some ⟨g, 0, none⟩) ∧ e = .int .i64 (atE s t r) ∧ Hid (Kept wx g #[.int .i64 (atG s t r).1, .int .i64 (atG s t r).2] 39 ∧ Below v0.heap.size v0 wx ∧ v0.heap.size ≤ g)
def IvOut (L : List Sm) (t r : Int) (w : World) (e : Ending) (w' : World) : Prop := ∃ a cap, e = .returned (.slice a L.length cap) ∧ w'.ownsRow w.heap.size 39 2 (.slice a L.length cap) L.length (cells2 (gapsS L t r)) ∧ Below w.heap.size w w'
set_option maxHeartbeats 4000000 in
set_option maxRecDepth 100000 in
theorem iv_any (g : Nat) (v : Value) (c : Ck) (t : Int) (w : World) (h : CkO w g v c) (hl : c.L.length ≤ 1000) : Calls Try.prog 37 #[.pointer (some ⟨g, 0, none⟩), .int .i64 t] w (IvOut c.L t c.rho w) := by
  obtain ⟨i0, hi, hz0, hz1, hz2⟩ := info_parts2 info_gap
  obtain ⟨a, cap, rfl, -, -, -, -, hq⟩ := QuadRow.own h.2.1
  have HQ := Lib.hid hq
  have HL := Lib.hid hl
  have HH := Lib.hid h
  obtain ⟨rho, need, streak, held, L⟩ := c
  dsimp only at *
  obtain ⟨x1, x2, -⟩ := h.1.five
  have START : Hid (IvRel L t rho w (.slice none 0 0) (.int .i64 0) w) := Lib.hid ⟨0, Nat.zero_le _, rfl, Lib.hid (World.ownsRow_nil _ _ _ _), Lib.hid (Below.refl _ _)⟩
  clear h hq hl
  go_enter Try.func37, Try.ntmps37
  go_wp2
  go_loopw [5, 15] (fun m i wr => IvRel L t rho w m i wr) (fun _ i _ => L.length - (intOf i).toNat)
  case atStart => exact START.out
  case round =>
    obtain ⟨k, hk, rfl, OW, BB⟩ := hrel
    clear START
    by_cases hlt : k < L.length
    · have HLT := Lib.hid hlt
      obtain ⟨b, off, rfl, q1, q2, q3, q4⟩ := HQ.out k hlt
      have c1 := keep1 (BB.out.mono (Nat.le_refl _)) q1
      have c2 := keep1 (BB.out.mono (Nat.le_refl _)) q2
      have c3 := keep1 (BB.out.mono (Nat.le_refl _)) q3
      have c4 := keep1 (BB.out.mono (Nat.le_refl _)) q4
      have cr := keep1 (BB.out.mono (Nat.le_refl _)) x1
      have hkk : (k : Int) < (L.length : Int) := by omega
      have hk0 : (0 : Int) ≤ (k : Int) := by omega
      have e2 : wrap64 ((k : Int) + 1) = (k : Int) + 1 := IntWalk.wrap64_in _ (by have := HL.out; omega)
      have F : Hid (∀ m W, W.ownsRow w.heap.size 39 2 m (k + 1) (cells2 (gapsS (L.take k) t rho) ++ [.int .i64 (gapS (L.getD k smZ) t rho).1, .int .i64 (gapS (L.getD k smZ) t rho).2]) → Below w.heap.size w W → IvRel L t rho w m (.int .i64 ((k : Int) + 1)) W) := Lib.hid fun m W h1 h2 => ⟨k + 1, hlt, rfl, Lib.hid (by rw [← gapsS_take L t rho k hlt]; exact h1), Lib.hid h2⟩
      have H63 : Hid (k + 1 ≤ maxLen ∧ (k + 1) * 16 ≤ 140737488355328) := Lib.hid (by have := HL.out; unfold maxLen; omega)
      have HKL : Hid (k ≤ 1000) := Lib.hid (by have := HL.out; omega)
      generalize cells2 (gapsS (L.take k) t rho) = xs at *
      obtain ⟨⟨sa, sg, ss, sc⟩, hs⟩ : ∃ s, L.getD k smZ = s := ⟨_, rfl⟩
      rw [hs] at c1 c2 c3 c4 F
      dsimp only at c1 c2 c3 c4
      clear hlt hk hs q1 q2 q3 q4
      obtain ⟨v0, hv0⟩ : ∃ x, x = wr := ⟨_, rfl⟩
      subst hv0
      go_upto_region 5 with fail
      go_cut [8, 9] from 16 to 36 (fun p e wx => IvCut v0 (sa, sg, ss, sc) t rho p e wx)
      case first =>
        have CA : Hid (∀ W, Calls Try.prog 29 #[.agg #[.int .i64 sa, .int .i64 sg, .int .i64 ss, .int .i64 sc], .int .i64 t, .int .i64 rho] W (AtOut (sa, sg, ss, sc) t rho W)) := Lib.hid fun W => at_any sa sg ss sc t rho W
        obtain ⟨VA, hVA⟩ : ∃ VA, v0.alloc (.cells #[.int .i64 sa, .int .i64 sg, .int .i64 ss, .int .i64 sc] 33) = VA := ⟨_, rfl⟩
        have BA : Hid (Below v0.heap.size v0 VA.drew) := Lib.hid (by rw [← hVA]; exact (one_alloc _ _).drew)
        have KA : Hid (Kept VA.drew v0.heap.size #[.int .i64 sa, .int .i64 sg, .int .i64 ss, .int .i64 sc] 33) := Lib.hid (by rw [← hVA]; exact (Kept.new rfl).drewN 1)
        have cr2 : VA.drew.cell? ⟨g, 0, none⟩ = some (.int .i64 rho) := keep1 BA.out cr
        rw [hVA]
        clear hVA
        obtain ⟨k1, k2, k3, k4, -⟩ := KA.out.four
        obtain ⟨ga, hga⟩ : ∃ ga, v0.heap.size = ga := ⟨_, rfl⟩
        have FIN : Hid (∀ p W, Kept W p #[.int .i64 (atG (sa, sg, ss, sc) t rho).1, .int .i64 (atG (sa, sg, ss, sc) t rho).2] 39 → Below v0.heap.size v0 W → v0.heap.size ≤ p → IvCut v0 (sa, sg, ss, sc) t rho (.pointer (some ⟨p, 0, none⟩)) (.int .i64 (atE (sa, sg, ss, sc) t rho)) W) := Lib.hid fun p W h1 h2 h3 => ⟨p, rfl, rfl, Lib.hid ⟨h1, h2, h3⟩⟩
        obtain ⟨lo, hi', hgg⟩ : ∃ lo hi', atG (sa, sg, ss, sc) t rho = (lo, hi') := ⟨_, _, rfl⟩
        have CA' : Hid (∀ W, Calls Try.prog 29 #[.agg #[.int .i64 sa, .int .i64 sg, .int .i64 ss, .int .i64 sc], .int .i64 t, .int .i64 rho] W (Gives (.tuple #[.agg #[.int .i64 lo, .int .i64 hi'], .int .i64 (atE (sa, sg, ss, sc) t rho)]) W)) := Lib.hid fun W => (CA.out W).mono fun e w' hh => by
          unfold AtOut at hh
          rw [hgg] at hh
          exact hh
        rw [hgg] at FIN
        dsimp only at FIN
        generalize atE (sa, sg, ss, sc) t rho = er at *
        rw [hga] at k1 k2 k3 k4
        have S0 : VA.drew.cell? ⟨ga, 0, none⟩ = some (.int .i64 sa) ∧ VA.drew.cell? ⟨ga, 1, none⟩ = some (.int .i64 sg) ∧ VA.drew.cell? ⟨ga, 2, none⟩ = some (.int .i64 ss) ∧ VA.drew.cell? ⟨ga, 3, none⟩ = some (.int .i64 sc) ∧ VA.drew.cell? ⟨g, 0, none⟩ = some (.int .i64 rho) := ⟨k1, k2, k3, k4, cr2⟩
        (try rw [hga])
        have KS : Hid (∀ W, Below VA.drew.heap.size VA.drew W → W.cell? ⟨ga, 0, none⟩ = some (.int .i64 sa) ∧ W.cell? ⟨ga, 1, none⟩ = some (.int .i64 sg) ∧ W.cell? ⟨ga, 2, none⟩ = some (.int .i64 ss) ∧ W.cell? ⟨ga, 3, none⟩ = some (.int .i64 sc) ∧ W.cell? ⟨g, 0, none⟩ = some (.int .i64 rho)) := Lib.hid fun W hb => keep5 hb S0
        refine wp_region_held_drew (S := fun w' => w'.cell? ⟨ga, 0, none⟩ = some (.int .i64 sa) ∧ w'.cell? ⟨ga, 1, none⟩ = some (.int .i64 sg) ∧ w'.cell? ⟨ga, 2, none⟩ = some (.int .i64 ss) ∧ w'.cell? ⟨ga, 3, none⟩ = some (.int .i64 sc) ∧ w'.cell? ⟨g, 0, none⟩ = some (.int .i64 rho)) (by kernel_rfl) S0 (fun hHeld => ?_)
        generalize VA.drew = v2 at *
        have R0 : Hid (Below v2.heap.size v2 v2) := Lib.hid (Below.refl _ _)
        refine wpAnyH_take (i := 0) (oi := ({ dst := some 20, op := Op.load 33 (Operand.tmp 7), type := 33, pos := "clock.go:158", after := #[], guard := none } : Oper)) (v := ?_) rfl (by kernel_rfl) (by kernel_rfl) (by kernel_rfl) (fun _ _ _ h => h) (Or.inl ⟨by rfl, ?_⟩) hHeld ?_
        rotate_left
        · ((intro w hSw; obtain ⟨s1, s2, s3, s4, s5⟩ := hSw; go_simp); (try with_reducible rfl))
        (try simp only [Act.put, List.setIfInBounds_toArray, List.set_cons_zero, List.set_cons_succ])
        refine wpAnyH_take (i := 1) (oi := ({ dst := some 21, op := Op.move (Operand.tmp 1), type := 2, pos := "clock.go:158", after := #[], guard := none } : Oper)) (v := ?_) rfl (by kernel_rfl) (by kernel_rfl) (by kernel_rfl) (fun _ _ _ h => h) (Or.inl ⟨by rfl, ?_⟩) hHeld ?_
        rotate_left
        · ((intro w hSw; obtain ⟨s1, s2, s3, s4, s5⟩ := hSw; go_simp); (try with_reducible rfl))
        (try simp only [Act.put, List.setIfInBounds_toArray, List.set_cons_zero, List.set_cons_succ])
        refine wpAnyH_take (i := 2) (oi := ({ dst := some 22, op := Op.move (Operand.tmp 0), type := 24, pos := "clock.go:158", after := #[], guard := none } : Oper)) (v := ?_) rfl (by kernel_rfl) (by kernel_rfl) (by kernel_rfl) (fun _ _ _ h => h) (Or.inl ⟨by rfl, ?_⟩) hHeld ?_
        rotate_left
        · ((intro w hSw; obtain ⟨s1, s2, s3, s4, s5⟩ := hSw; go_simp); (try with_reducible rfl))
        (try simp only [Act.put, List.setIfInBounds_toArray, List.set_cons_zero, List.set_cons_succ])
        refine wpAnyH_take (i := 3) (oi := ({ dst := some 23, op := Op.nilCheck (Operand.tmp 22), type := 0, pos := "clock.go:158", after := #[{ on := 2, ground := Ground.data }], guard := none } : Oper)) (v := ?_) rfl (by kernel_rfl) (by kernel_rfl) (by kernel_rfl) (fun _ _ _ h => h) (Or.inl ⟨by rfl, ?_⟩) hHeld ?_
        rotate_left
        · ((intro w hSw; obtain ⟨s1, s2, s3, s4, s5⟩ := hSw; go_simp); (try with_reducible rfl))
        (try simp only [Act.put, List.setIfInBounds_toArray, List.set_cons_zero, List.set_cons_succ])
        refine wpAnyH_take (i := 4) (oi := ({ dst := some 24, op := Op.fieldAddr 78 (Operand.tmp 23) 0, type := 0, pos := "clock.go:158", after := #[{ on := 3, ground := Ground.data }], guard := none } : Oper)) (v := ?_) rfl (by kernel_rfl) (by kernel_rfl) (by kernel_rfl) (fun _ _ _ h => h) (Or.inl ⟨by rfl, ?_⟩) hHeld ?_
        rotate_left
        · ((intro w hSw; obtain ⟨s1, s2, s3, s4, s5⟩ := hSw; go_simp); (try with_reducible rfl))
        (try simp only [Act.put, List.setIfInBounds_toArray, List.set_cons_zero, List.set_cons_succ])
        refine wpAnyH_take (i := 5) (oi := ({ dst := some 25, op := Op.load 2 (Operand.tmp 24), type := 2, pos := "clock.go:158", after := #[{ on := 4, ground := Ground.data }], guard := none } : Oper)) (v := ?_) rfl (by kernel_rfl) (by kernel_rfl) (by kernel_rfl) (fun _ _ _ h => h) (Or.inl ⟨by rfl, ?_⟩) hHeld ?_
        rotate_left
        · ((intro w hSw; obtain ⟨s1, s2, s3, s4, s5⟩ := hSw; go_simp); (try with_reducible rfl))
        (try simp only [Act.put, List.setIfInBounds_toArray, List.set_cons_zero, List.set_cons_succ])
        refine wpAnyH_ready (rs := [6, 10]) (by kernel_rfl) (by simp) ?_
        refine AllReadyH.cons (o := ({ dst := some 26, op := Op.call { callee := Callee.value (Operand.func 29), args := #[Operand.tmp 20, Operand.tmp 21, Operand.tmp 25], argTypes := #[33, 2, 2] }, type := 40, pos := "clock.go:158", after := #[{ on := 0, ground := Ground.data }, { on := 1, ground := Ground.data }, { on := 5, ground := Ground.data }], guard := none } : Oper)) rfl (fun K hK => ?_) (AllReadyH.cons (o := ({ dst := some 8, op := Op.alloc 39, type := 0, pos := "clock.go:158", after := #[], guard := none } : Oper)) rfl (fun K hK => ?_) (AllReadyH.nil))
        · go_simp
          (with_reducible refine (CA'.out _).mono ?_)
          rintro _ w1 ⟨rfl, b1⟩
          have R1 := Lib.hid (R0.out.trans (b1.mono R0.out.size))
          clear b1
          refine hK.out _ _ ?_ (fun hHeld => ?_)
          · exact KS.out _ R1.out
          clear hK K
          (try simp only [Act.put, List.setIfInBounds_toArray, List.set_cons_zero, List.set_cons_succ])
          refine wpAnyH_take (i := 7) (oi := ({ dst := some 19, op := Op.move (Operand.tmp 26), type := 40, pos := "clock.go:158", after := #[{ on := 6, ground := Ground.data }], guard := none } : Oper)) (v := ?_) rfl (by kernel_rfl) (by kernel_rfl) (by kernel_rfl) (fun _ _ _ h => h) (Or.inl ⟨by rfl, ?_⟩) hHeld ?_
          rotate_left
          · ((intro w hSw; obtain ⟨s1, s2, s3, s4, s5⟩ := hSw; go_simp); (try with_reducible rfl))
          (try simp only [Act.put, List.setIfInBounds_toArray, List.set_cons_zero, List.set_cons_succ])
          refine wpAnyH_take (i := 8) (oi := ({ dst := some 27, op := Op.extract (Operand.tmp 19) 0, type := 39, pos := "clock.go:158", after := #[{ on := 7, ground := Ground.data }], guard := none } : Oper)) (v := ?_) rfl (by kernel_rfl) (by kernel_rfl) (by kernel_rfl) (fun _ _ _ h => h) (Or.inl ⟨by rfl, ?_⟩) hHeld ?_
          rotate_left
          · ((intro w hSw; obtain ⟨s1, s2, s3, s4, s5⟩ := hSw; go_simp); (try with_reducible rfl))
          (try simp only [Act.put, List.setIfInBounds_toArray, List.set_cons_zero, List.set_cons_succ])
          refine wpAnyH_take (i := 9) (oi := ({ dst := some 28, op := Op.extract (Operand.tmp 19) 1, type := 25, pos := "clock.go:158", after := #[{ on := 7, ground := Ground.data }, { on := 11, ground := Ground.gcOnly Departure.lateStores }], guard := none } : Oper)) (v := ?_) rfl (by kernel_rfl) (by kernel_rfl) (by kernel_rfl) (fun _ _ _ h => h) (Or.inl ⟨by rfl, ?_⟩) hHeld ?_
          rotate_left
          · ((intro w hSw; obtain ⟨s1, s2, s3, s4, s5⟩ := hSw; go_simp); (try with_reducible rfl))
          (try simp only [Act.put, List.setIfInBounds_toArray, List.set_cons_zero, List.set_cons_succ])
          refine wpAnyH_ready (rs := [10]) (by kernel_rfl) (by simp) ?_
          refine AllReadyH.cons (o := ({ dst := some 8, op := Op.alloc 39, type := 0, pos := "clock.go:158", after := #[], guard := none } : Oper)) rfl (fun K hK => ?_) (AllReadyH.nil)
          go_simp
          have K2 : Hid (Kept (w1.alloc (.cells #[.int .i64 0, .int .i64 0] 39)) w1.heap.size #[.int .i64 0, .int .i64 0] 39) := Lib.hid (Kept.new rfl)
          have G2 : Hid (v2.heap.size ≤ w1.heap.size) := Lib.hid R1.out.size
          have R2 := Lib.hid (R1.out.alloc R1.out.size (.cells #[.int .i64 0, .int .i64 0] 39))
          refine hK.out _ _ ?_ (fun hHeld => ?_)
          · exact KS.out _ R2.out
          clear hK K
          (try simp only [Act.put, List.setIfInBounds_toArray, List.set_cons_zero, List.set_cons_succ])
          refine wpAnyH_ready (rs := [11]) (by kernel_rfl) (by simp) ?_
          refine AllReadyH.cons (o := ({ dst := none, op := Op.store 39 (Operand.tmp 8) (Operand.tmp 27), type := 0, pos := "clock.go:158", after := #[{ on := 10, ground := Ground.data }, { on := 8, ground := Ground.data }, { on := 6, ground := Ground.chain }, { on := 0, ground := Ground.phase }, { on := 1, ground := Ground.phase }, { on := 2, ground := Ground.phase }, { on := 3, ground := Ground.phase }, { on := 4, ground := Ground.phase }, { on := 5, ground := Ground.phase }, { on := 6, ground := Ground.phase }, { on := 7, ground := Ground.phase }, { on := 8, ground := Ground.phase }, { on := 9, ground := Ground.textOnly Departure.lateStores }, { on := 10, ground := Ground.phase }], guard := none } : Oper)) rfl (fun K hK => ?_) (AllReadyH.nil)
          obtain ⟨x1, x2, x3, x4, x5⟩ := K2.out.two
          go_simp
          have K3 : Hid (Kept (w1.alloc (.cells #[.int .i64 lo, .int .i64 hi'] 39)) w1.heap.size #[.int .i64 lo, .int .i64 hi'] 39) := Lib.hid (Kept.new rfl)
          have R3 := Lib.hid (R1.out.alloc R1.out.size (.cells #[.int .i64 lo, .int .i64 hi'] 39))
          have G3 := G2
          refine hK.out _ _ ?_ (fun hHeld => ?_)
          · exact KS.out _ R3.out
          clear hK K
          (try simp only [Act.put, List.setIfInBounds_toArray, List.set_cons_zero, List.set_cons_succ])
          refine wpAnyH_take (i := 12) (oi := ({ dst := some 9, op := Op.assign (Operand.tmp 28), type := 25, pos := "clock.go:158", after := #[{ on := 9, ground := Ground.data }, { on := 11, ground := Ground.chain }, { on := 0, ground := Ground.phase }, { on := 1, ground := Ground.phase }, { on := 2, ground := Ground.phase }, { on := 3, ground := Ground.phase }, { on := 4, ground := Ground.phase }, { on := 5, ground := Ground.phase }, { on := 6, ground := Ground.phase }, { on := 7, ground := Ground.phase }, { on := 8, ground := Ground.phase }, { on := 9, ground := Ground.phase }, { on := 10, ground := Ground.phase }, { on := 11, ground := Ground.phase }], guard := none } : Oper)) (v := ?_) rfl (by kernel_rfl) (by kernel_rfl) (by kernel_rfl) (fun _ _ _ h => h) (Or.inl ⟨by rfl, ?_⟩) hHeld ?_
          rotate_left
          · ((intro w hSw; obtain ⟨s1, s2, s3, s4, s5⟩ := hSw; go_simp); (try with_reducible rfl))
          (try simp only [Act.put, List.setIfInBounds_toArray, List.set_cons_zero, List.set_cons_succ])
          refine wpAnyH_done (by kernel_rfl) ?_ _
          have FF := Lib.hid (FIN.out _ _ K3.out (BA.out.trans (R3.out.mono BA.out.size)) (Nat.le_trans BA.out.size G3.out))
          clear hHeld KS
          go_wp2_with fail
          subst hga
          go_meet
          case rel => exact FF.out
        · go_simp
          have K1 : Hid (Kept (v2.alloc (.cells #[.int .i64 0, .int .i64 0] 39)) v2.heap.size #[.int .i64 0, .int .i64 0] 39) := Lib.hid (Kept.new rfl)
          have G1 : Hid (v2.heap.size ≤ v2.heap.size) := Lib.hid R0.out.size
          have R1 := Lib.hid (R0.out.alloc R0.out.size (.cells #[.int .i64 0, .int .i64 0] 39))
          refine hK.out _ _ ?_ (fun hHeld => ?_)
          · exact KS.out _ R1.out
          clear hK K
          (try simp only [Act.put, List.setIfInBounds_toArray, List.set_cons_zero, List.set_cons_succ])
          refine wpAnyH_ready (rs := [6]) (by kernel_rfl) (by simp) ?_
          refine AllReadyH.cons (o := ({ dst := some 26, op := Op.call { callee := Callee.value (Operand.func 29), args := #[Operand.tmp 20, Operand.tmp 21, Operand.tmp 25], argTypes := #[33, 2, 2] }, type := 40, pos := "clock.go:158", after := #[{ on := 0, ground := Ground.data }, { on := 1, ground := Ground.data }, { on := 5, ground := Ground.data }], guard := none } : Oper)) rfl (fun K hK => ?_) (AllReadyH.nil)
          go_simp
          (with_reducible refine (CA'.out _).mono ?_)
          rintro _ w2 ⟨rfl, b2⟩
          have R2 := Lib.hid (R1.out.trans (b2.mono R1.out.size))
          have K2 := Lib.hid (K1.out.next b2)
          have G2 := G1
          clear b2
          refine hK.out _ _ ?_ (fun hHeld => ?_)
          · exact KS.out _ R2.out
          clear hK K
          (try simp only [Act.put, List.setIfInBounds_toArray, List.set_cons_zero, List.set_cons_succ])
          refine wpAnyH_take (i := 7) (oi := ({ dst := some 19, op := Op.move (Operand.tmp 26), type := 40, pos := "clock.go:158", after := #[{ on := 6, ground := Ground.data }], guard := none } : Oper)) (v := ?_) rfl (by kernel_rfl) (by kernel_rfl) (by kernel_rfl) (fun _ _ _ h => h) (Or.inl ⟨by rfl, ?_⟩) hHeld ?_
          rotate_left
          · ((intro w hSw; obtain ⟨s1, s2, s3, s4, s5⟩ := hSw; go_simp); (try with_reducible rfl))
          (try simp only [Act.put, List.setIfInBounds_toArray, List.set_cons_zero, List.set_cons_succ])
          refine wpAnyH_take (i := 8) (oi := ({ dst := some 27, op := Op.extract (Operand.tmp 19) 0, type := 39, pos := "clock.go:158", after := #[{ on := 7, ground := Ground.data }], guard := none } : Oper)) (v := ?_) rfl (by kernel_rfl) (by kernel_rfl) (by kernel_rfl) (fun _ _ _ h => h) (Or.inl ⟨by rfl, ?_⟩) hHeld ?_
          rotate_left
          · ((intro w hSw; obtain ⟨s1, s2, s3, s4, s5⟩ := hSw; go_simp); (try with_reducible rfl))
          (try simp only [Act.put, List.setIfInBounds_toArray, List.set_cons_zero, List.set_cons_succ])
          refine wpAnyH_take (i := 9) (oi := ({ dst := some 28, op := Op.extract (Operand.tmp 19) 1, type := 25, pos := "clock.go:158", after := #[{ on := 7, ground := Ground.data }, { on := 11, ground := Ground.gcOnly Departure.lateStores }], guard := none } : Oper)) (v := ?_) rfl (by kernel_rfl) (by kernel_rfl) (by kernel_rfl) (fun _ _ _ h => h) (Or.inl ⟨by rfl, ?_⟩) hHeld ?_
          rotate_left
          · ((intro w hSw; obtain ⟨s1, s2, s3, s4, s5⟩ := hSw; go_simp); (try with_reducible rfl))
          (try simp only [Act.put, List.setIfInBounds_toArray, List.set_cons_zero, List.set_cons_succ])
          refine wpAnyH_ready (rs := [11]) (by kernel_rfl) (by simp) ?_
          refine AllReadyH.cons (o := ({ dst := none, op := Op.store 39 (Operand.tmp 8) (Operand.tmp 27), type := 0, pos := "clock.go:158", after := #[{ on := 10, ground := Ground.data }, { on := 8, ground := Ground.data }, { on := 6, ground := Ground.chain }, { on := 0, ground := Ground.phase }, { on := 1, ground := Ground.phase }, { on := 2, ground := Ground.phase }, { on := 3, ground := Ground.phase }, { on := 4, ground := Ground.phase }, { on := 5, ground := Ground.phase }, { on := 6, ground := Ground.phase }, { on := 7, ground := Ground.phase }, { on := 8, ground := Ground.phase }, { on := 9, ground := Ground.textOnly Departure.lateStores }, { on := 10, ground := Ground.phase }], guard := none } : Oper)) rfl (fun K hK => ?_) (AllReadyH.nil)
          obtain ⟨x1, x2, x3, x4, x5⟩ := K2.out.two
          go_simp
          have K3 := Lib.hid (K2.out.set2 (.int .i64 lo) (.int .i64 hi'))
          have R3 := Lib.hid (bset2 R2.out G2.out (.int .i64 lo) (.int .i64 hi'))
          have G3 := G2
          refine hK.out _ _ ?_ (fun hHeld => ?_)
          · exact KS.out _ R3.out
          clear hK K
          (try simp only [Act.put, List.setIfInBounds_toArray, List.set_cons_zero, List.set_cons_succ])
          refine wpAnyH_take (i := 12) (oi := ({ dst := some 9, op := Op.assign (Operand.tmp 28), type := 25, pos := "clock.go:158", after := #[{ on := 9, ground := Ground.data }, { on := 11, ground := Ground.chain }, { on := 0, ground := Ground.phase }, { on := 1, ground := Ground.phase }, { on := 2, ground := Ground.phase }, { on := 3, ground := Ground.phase }, { on := 4, ground := Ground.phase }, { on := 5, ground := Ground.phase }, { on := 6, ground := Ground.phase }, { on := 7, ground := Ground.phase }, { on := 8, ground := Ground.phase }, { on := 9, ground := Ground.phase }, { on := 10, ground := Ground.phase }, { on := 11, ground := Ground.phase }], guard := none } : Oper)) (v := ?_) rfl (by kernel_rfl) (by kernel_rfl) (by kernel_rfl) (fun _ _ _ h => h) (Or.inl ⟨by rfl, ?_⟩) hHeld ?_
          rotate_left
          · ((intro w hSw; obtain ⟨s1, s2, s3, s4, s5⟩ := hSw; go_simp); (try with_reducible rfl))
          (try simp only [Act.put, List.setIfInBounds_toArray, List.set_cons_zero, List.set_cons_succ])
          refine wpAnyH_done (by kernel_rfl) ?_ _
          have FF := Lib.hid (FIN.out _ _ K3.out (BA.out.trans (R3.out.mono BA.out.size)) (Nat.le_trans BA.out.size G3.out))
          clear hHeld KS
          go_wp2_with fail
          subst hga
          go_meet
          case rel => exact FF.out
      case rest =>
        obtain ⟨gp, rfl, rfl, hh⟩ := hcut
        obtain ⟨v3, hv3⟩ : ∃ x, x = wc := ⟨_, rfl⟩
        subst hv3
        have KG := Lib.hid hh.out.1
        have B3 := Lib.hid (BB.out.trans (hh.out.2.1.mono BB.out.size))
        have O3 := Lib.hid (owns_below OW.out hh.out.2.1)
        have GE := Lib.hid (Nat.le_trans BB.out.size hh.out.2.2)
        obtain ⟨y1, y2, y3, y4, y5⟩ := KG.out.two
        have NRG : Hid (∀ k, u5.ownBlock = some k → k ≠ gp) := Lib.hid fun k hk e => by
          have h1 := (OW.out.lt k hk).2
          have h2 := hh.out.2.2
          omega
        by_cases h0 : atE (sa, sg, ss, sc) t rho = 0
        · have hG : gapS (sa, sg, ss, sc) t rho = atG (sa, sg, ss, sc) t rho := by unfold gapS atG; rw [if_pos h0, if_pos h0]
          rw [hG] at F
          rw [h0]
          generalize atG (sa, sg, ss, sc) t rho = ag at *
          obtain ⟨lo, hi'⟩ := ag
          dsimp only at *
          have KX : Hid (Kept (v3.alloc (.cells #[.int .i64 lo, .int .i64 hi'] 39)) v3.heap.size #[.int .i64 lo, .int .i64 hi'] 39) := Lib.hid (Kept.new rfl)
          have O4 := Lib.hid (O3.out.alloc (.cells #[.int .i64 lo, .int .i64 hi'] 39))
          have B4 := Lib.hid (B3.out.alloc B3.out.size (.cells #[.int .i64 lo, .int .i64 hi'] 39))
          have hb1 := H63.out.1
          have hb2 := H63.out.2
          clear hh h0 hG BB OW c1 c2 c3 c4 cr O3 B3
          go_wp2_with (at_builtin; refine wpList_appendBlk rfl _ _ 69 rfl w.heap.size 39 i0 (.agg #[.int .i64 0, .int .i64 0]) 2 16 Try.underlying69 hi hz0 hz1 hz2 rfl (by decide) u5 k xs rfl O4.out v3.heap.size 1 #[.int .i64 lo, .int .i64 hi'] 39 rfl KX.out rfl two_cells hb1 hb2 B4.out.size ?_)
          intro v5 w5 o5 g5
          have FF := Lib.hid (F.out v5 w5 o5 (B4.out.grown g5 B4.out.size (fun k hk => (O4.out.lt k hk).1)))
          have HLT2 := Lib.hid HLT.out
          clear o5 g5 F KX O4 B4 hb1 hb2 y1 y2 y3 y4 y5
          go_wp2
          go_roundw
          case rel => (try rw [e2]); exact FF.out
          case measure => have := HLT.out; (try rw [e2]); simp [intOf]; omega
        · have hG : gapS (sa, sg, ss, sc) t rho = (1, 0) := by unfold gapS; rw [if_neg h0]
          rw [hG] at F
          generalize atG (sa, sg, ss, sc) t rho = ag at *
          obtain ⟨lo, hi'⟩ := ag
          dsimp only at *
          obtain ⟨er, her⟩ : ∃ er, atE (sa, sg, ss, sc) t rho = er := ⟨_, rfl⟩
          rw [her] at h0
          rw [her]
          have hd : (er == 0) = false := beq_eq_false_iff_ne.mpr h0
          obtain ⟨V, hV⟩ : ∃ V, (v3.setCell ⟨gp, 0, none⟩ (.int .i64 1)).setCell ⟨gp, 1, none⟩ (.int .i64 0) = V := ⟨_, rfl⟩
          have KV : Hid (Kept V gp #[.int .i64 1, .int .i64 0] 39) := Lib.hid (by rw [← hV]; exact KG.out.set2 _ _)
          have OV : Hid (V.ownsRow w.heap.size 39 2 u5 k xs) := Lib.hid (by
            rw [← hV]
            have hn : u5.ownBlock ≠ some gp := fun e => NRG.out gp e rfl
            exact owns_set (owns_set O3.out hn) hn)
          have BV : Hid (Below w.heap.size w V) := Lib.hid (by rw [← hV]; exact bset2 B3.out GE.out _ _)
          have HV := Lib.hid hV
          have KX : Hid (Kept (V.alloc (.cells #[.int .i64 1, .int .i64 0] 39)) V.heap.size #[.int .i64 1, .int .i64 0] 39) := Lib.hid (Kept.new rfl)
          have O4 := Lib.hid (OV.out.alloc (.cells #[.int .i64 1, .int .i64 0] 39))
          have B4 := Lib.hid (BV.out.alloc BV.out.size (.cells #[.int .i64 1, .int .i64 0] 39))
          have hb1 := H63.out.1
          have hb2 := H63.out.2
          obtain ⟨z1, z2, z3, z4, z5⟩ := KV.out.two
          clear hh h0 hG BB OW c1 c2 c3 c4 cr O3 B3 hV her
          go_upto_region 8 with fail
          rw [HV.out]
          clear y1 y2 y3 y4 y5 HV
          go_wp2_with (at_builtin; refine wpList_appendBlk rfl _ _ 69 rfl w.heap.size 39 i0 (.agg #[.int .i64 0, .int .i64 0]) 2 16 Try.underlying69 hi hz0 hz1 hz2 rfl (by decide) u5 k xs rfl O4.out V.heap.size 1 #[.int .i64 1, .int .i64 0] 39 rfl KX.out rfl two_cells hb1 hb2 B4.out.size ?_)
          intro v5 w5 o5 g5
          have FF := Lib.hid (F.out v5 w5 o5 (B4.out.grown g5 B4.out.size (fun k hk => (O4.out.lt k hk).1)))
          clear o5 g5 F KX O4 B4 hb1 hb2 z1 z2 z3 z4 z5
          go_wp2
          go_roundw
          case rel => (try rw [e2]); exact FF.out
          case measure => have := HLT.out; (try rw [e2]); simp [intOf]; omega
    · -- @e
      obtain rfl : k = L.length := by omega
      have o := OW.out
      rw [List.take_length] at o
      obtain ⟨a2, cap2, rfl, -⟩ := PairRow.own o
      have O := Lib.hid o
      clear o OW hk hlt
      go_wp2
      go_ret
      exact ⟨a2, cap2, rfl, O.out, BB.out⟩
end Go.Proofs.Ytflplliiamodhaa
