/- noonmarklaw17.of: for every input. Of gen_of17.py. -/
import Derived.Test.YtllkdohomkofhaaRefV
namespace Go.Proofs.Ytllkdohomkofhaa
open Go.RowKit
set_option linter.unusedVariables false
set_option linter.unusedSimpArgs false

theorem info_rgap : (Try.prog.info? 28).map (fun i => (i.zero, i.size, i.bytes)) = some (some (.agg #[.int .i64 0, .int .i64 0]), 2, 16) := by kernel_rfl
def OfOut (L : List (Int × Int)) (w : World) (e : Ending) (w' : World) : Prop := ∃ a c, e = .returned (.slice a L.length c) ∧ Hid (PairRow w' a L) ∧ Below w.heap.size w w'
def OfRel (l : List (Int × Int)) (w : World) (v i : Value) (wr : World) : Prop := ∃ k : Nat, k ≤ l.length ∧ i = .int .i64 k ∧ Hid (wr.ownsRow w.heap.size 28 2 v k (cells2 (l.take k))) ∧ Hid (Below w.heap.size w wr)
set_option maxHeartbeats 1000000 in
theorem of_any (xa : Option Addr) (xc : Nat) (l : List (Int × Int)) (w : World) (hx : PairRow w xa l) (hl : l.length ≤ 100000) :
    Calls Try.prog 10 #[.slice xa l.length xc] w (OfOut l w) := by
  obtain ⟨i0, hi, hz0, hz1, hz2⟩ := info_parts2 info_rgap
  have HX := Lib.hid hx
  have HL := Lib.hid hl
  clear hx hl
  go_enter Try.func10, Try.ntmps10
  have O0 : Hid ((w.alloc (.cells #[] 28)).ownsRow w.heap.size 28 2 (.slice (some ⟨w.heap.size, 0, none⟩) 0 0) 0 []) := Lib.hid (World.ownsRow_made _ #[] 0 (Nat.le_refl _) (by unfold maxLen; omega) rfl)
  go_wp2
  go_loopw [3, 4] (fun v i wr => OfRel l w v i wr) (fun _ i _ => l.length - (intOf i).toNat)
  case atStart => exact ⟨0, Nat.zero_le _, rfl, O0, Lib.hid (one_alloc _ _)⟩
  case round =>
    obtain ⟨k, hk, rfl, HO, HB⟩ := hrel
    by_cases hlt : k < l.length
    · have HLT := Lib.hid hlt
      obtain ⟨b, off, rfl, q1, q2⟩ := HX.out k hlt
      have c1 := (HB.out.cell (World.block_lt_of_cell? w _ q1)).trans q1
      have c2 := (HB.out.cell (World.block_lt_of_cell? w _ q2)).trans q2
      have S2 : Hid (∀ W, Below w.heap.size w W → W.cell? ⟨b, off + k * 2, none⟩ = some (.int .i64 (l.getD k (0, 0)).1) ∧ W.cell? ⟨b, off + k * 2 + 1, none⟩ = some (.int .i64 (l.getD k (0, 0)).2)) := Lib.hid fun W h => ⟨(h.cell (World.block_lt_of_cell? w _ q1)).trans q1, (h.cell (World.block_lt_of_cell? w _ q2)).trans q2⟩
      have hkk : (k : Int) < (l.length : Int) := by omega
      have hll := HL.out
      have ht := take_pair l k hlt
      obtain ⟨⟨p, q⟩, hpq⟩ : ∃ pq, l.getD k (0, 0) = pq := ⟨_, rfl⟩
      rw [hpq] at c1 c2 ht S2
      dsimp only at c1 c2 S2
      have F : Hid (∀ v W, W.ownsRow w.heap.size 28 2 v (k + 1) (cells2 (l.take k) ++ cells2 [(p, q)]) → Below w.heap.size w W → OfRel l w v (.int .i64 ((k : Int) + 1)) W) := Lib.hid fun v W h1 h2 => ⟨k + 1, hlt, rfl, Lib.hid (by rw [ht, cells2_append]; exact h1), Lib.hid h2⟩
      have e2 : wrap64 ((k : Int) + 1) = (k : Int) + 1 := IntWalk.wrap64_in _ (by omega)
      have hc1 : k + 1 ≤ maxLen := by unfold maxLen; omega
      have hc2 : (k + 1) * 16 ≤ 140737488355328 := by omega
      clear hpq ht hlt hk q1 q2 hll
      generalize cells2 (l.take k) = X at *
      go_upto_region 5 with fail
      have B2 : Hid (Below w.heap.size w wr.drew) := Lib.hid HB.out.drew
      have O2 : Hid (wr.drew.ownsRow w.heap.size 28 2 u3 k X) := Lib.hid HO.out
      refine wp_region_held_drew (S := fun W => W.cell? ⟨b, off + k * 2, none⟩ = some (.int .i64 p) ∧ W.cell? ⟨b, off + k * 2 + 1, none⟩ = some (.int .i64 q)) (by kernel_rfl) (S2.out _ B2.out) (fun hHeld => ?_)
      clear c1 c2 HB HO
      generalize wr.drew = v2 at *
      refine wpAnyH_take (i := 0) (oi := ({ dst := some 12, op := Op.move (Operand.tmp 3), type := 31, pos := "law.go:24", after := #[], guard := none } : Oper)) (v := ?_) rfl (by kernel_rfl) (by kernel_rfl) (by kernel_rfl) (fun _ _ _ h => h) (Or.inl ⟨by rfl, ?_⟩) hHeld ?_
      rotate_left
      · ((intro w hSw; obtain ⟨s1, s2⟩ := hSw; go_simp); (try with_reducible rfl))
      (try simp only [Act.put, List.setIfInBounds_toArray, List.set_cons_zero, List.set_cons_succ])
      refine wpAnyH_take (i := 1) (oi := ({ dst := some 13, op := Op.move (Operand.tmp 0), type := 22, pos := "law.go:24", after := #[], guard := none } : Oper)) (v := ?_) rfl (by kernel_rfl) (by kernel_rfl) (by kernel_rfl) (fun _ _ _ h => h) (Or.inl ⟨by rfl, ?_⟩) hHeld ?_
      rotate_left
      · ((intro w hSw; obtain ⟨s1, s2⟩ := hSw; go_simp); (try with_reducible rfl))
      (try simp only [Act.put, List.setIfInBounds_toArray, List.set_cons_zero, List.set_cons_succ])
      refine wpAnyH_take (i := 2) (oi := ({ dst := some 14, op := Op.move (Operand.tmp 4), type := 3, pos := "law.go:24", after := #[], guard := none } : Oper)) (v := ?_) rfl (by kernel_rfl) (by kernel_rfl) (by kernel_rfl) (fun _ _ _ h => h) (Or.inl ⟨by rfl, ?_⟩) hHeld ?_
      rotate_left
      · ((intro w hSw; obtain ⟨s1, s2⟩ := hSw; go_simp); (try with_reducible rfl))
      (try simp only [Act.put, List.setIfInBounds_toArray, List.set_cons_zero, List.set_cons_succ])
      refine wpAnyH_take (i := 3) (oi := ({ dst := some 15, op := Op.indexAddr 22 (Operand.tmp 13) (Operand.tmp 14), type := 0, pos := "law.go:24", after := #[{ on := 1, ground := Ground.data }, { on := 2, ground := Ground.data }], guard := none } : Oper)) (v := ?_) rfl (by kernel_rfl) (by kernel_rfl) (by kernel_rfl) (fun _ _ _ h => h) (Or.inl ⟨by rfl, ?_⟩) hHeld ?_
      rotate_left
      · ((intro w hSw; obtain ⟨s1, s2⟩ := hSw; go_simp); (try with_reducible rfl))
      (try simp only [Act.put, List.setIfInBounds_toArray, List.set_cons_zero, List.set_cons_succ])
      refine wpAnyH_take (i := 4) (oi := ({ dst := some 16, op := Op.fieldAddr 25 (Operand.tmp 15) 0, type := 0, pos := "law.go:24", after := #[{ on := 3, ground := Ground.data }], guard := none } : Oper)) (v := ?_) rfl (by kernel_rfl) (by kernel_rfl) (by kernel_rfl) (fun _ _ _ h => h) (Or.inl ⟨by rfl, ?_⟩) hHeld ?_
      rotate_left
      · ((intro w hSw; obtain ⟨s1, s2⟩ := hSw; go_simp); (try with_reducible rfl))
      (try simp only [Act.put, List.setIfInBounds_toArray, List.set_cons_zero, List.set_cons_succ])
      refine wpAnyH_take (i := 5) (oi := ({ dst := some 17, op := Op.load 2 (Operand.tmp 16), type := 2, pos := "law.go:24", after := #[{ on := 4, ground := Ground.data }], guard := none } : Oper)) (v := ?_) rfl (by kernel_rfl) (by kernel_rfl) (by kernel_rfl) (fun _ _ _ h => h) (Or.inl ⟨by rfl, ?_⟩) hHeld ?_
      rotate_left
      · ((intro w hSw; obtain ⟨s1, s2⟩ := hSw; go_simp); (try with_reducible rfl))
      (try simp only [Act.put, List.setIfInBounds_toArray, List.set_cons_zero, List.set_cons_succ])
      refine wpAnyH_take (i := 6) (oi := ({ dst := some 18, op := Op.move (Operand.tmp 0), type := 22, pos := "law.go:24", after := #[], guard := none } : Oper)) (v := ?_) rfl (by kernel_rfl) (by kernel_rfl) (by kernel_rfl) (fun _ _ _ h => h) (Or.inl ⟨by rfl, ?_⟩) hHeld ?_
      rotate_left
      · ((intro w hSw; obtain ⟨s1, s2⟩ := hSw; go_simp); (try with_reducible rfl))
      (try simp only [Act.put, List.setIfInBounds_toArray, List.set_cons_zero, List.set_cons_succ])
      refine wpAnyH_take (i := 7) (oi := ({ dst := some 19, op := Op.move (Operand.tmp 4), type := 3, pos := "law.go:24", after := #[], guard := none } : Oper)) (v := ?_) rfl (by kernel_rfl) (by kernel_rfl) (by kernel_rfl) (fun _ _ _ h => h) (Or.inl ⟨by rfl, ?_⟩) hHeld ?_
      rotate_left
      · ((intro w hSw; obtain ⟨s1, s2⟩ := hSw; go_simp); (try with_reducible rfl))
      (try simp only [Act.put, List.setIfInBounds_toArray, List.set_cons_zero, List.set_cons_succ])
      refine wpAnyH_take (i := 8) (oi := ({ dst := some 20, op := Op.indexAddr 22 (Operand.tmp 18) (Operand.tmp 19), type := 0, pos := "law.go:24", after := #[{ on := 6, ground := Ground.data }, { on := 7, ground := Ground.data }], guard := none } : Oper)) (v := ?_) rfl (by kernel_rfl) (by kernel_rfl) (by kernel_rfl) (fun _ _ _ h => h) (Or.inl ⟨by rfl, ?_⟩) hHeld ?_
      rotate_left
      · ((intro w hSw; obtain ⟨s1, s2⟩ := hSw; go_simp); (try with_reducible rfl))
      (try simp only [Act.put, List.setIfInBounds_toArray, List.set_cons_zero, List.set_cons_succ])
      refine wpAnyH_take (i := 9) (oi := ({ dst := some 21, op := Op.fieldAddr 25 (Operand.tmp 20) 1, type := 0, pos := "law.go:24", after := #[{ on := 8, ground := Ground.data }], guard := none } : Oper)) (v := ?_) rfl (by kernel_rfl) (by kernel_rfl) (by kernel_rfl) (fun _ _ _ h => h) (Or.inl ⟨by rfl, ?_⟩) hHeld ?_
      rotate_left
      · ((intro w hSw; obtain ⟨s1, s2⟩ := hSw; go_simp); (try with_reducible rfl))
      (try simp only [Act.put, List.setIfInBounds_toArray, List.set_cons_zero, List.set_cons_succ])
      refine wpAnyH_take (i := 10) (oi := ({ dst := some 22, op := Op.load 2 (Operand.tmp 21), type := 2, pos := "law.go:24", after := #[{ on := 9, ground := Ground.data }], guard := none } : Oper)) (v := ?_) rfl (by kernel_rfl) (by kernel_rfl) (by kernel_rfl) (fun _ _ _ h => h) (Or.inl ⟨by rfl, ?_⟩) hHeld ?_
      rotate_left
      · ((intro w hSw; obtain ⟨s1, s2⟩ := hSw; go_simp); (try with_reducible rfl))
      (try simp only [Act.put, List.setIfInBounds_toArray, List.set_cons_zero, List.set_cons_succ])
      refine wpAnyH_take (i := 11) (oi := ({ dst := some 23, op := Op.build 28 #[(0, Operand.tmp 17), (1, Operand.tmp 22)], type := 28, pos := "law.go:24", after := #[{ on := 5, ground := Ground.data }, { on := 10, ground := Ground.data }], guard := none } : Oper)) (v := ?_) rfl (by kernel_rfl) (by kernel_rfl) (by kernel_rfl) (fun _ _ _ h => h) (Or.inl ⟨by rfl, ?_⟩) hHeld ?_
      rotate_left
      · ((intro w hSw; obtain ⟨s1, s2⟩ := hSw; go_simp); (try with_reducible rfl))
      (try simp only [Act.put, List.setIfInBounds_toArray, List.set_cons_zero, List.set_cons_succ])
      refine wpAnyH_ready (rs := [12]) (by kernel_rfl) (by simp) ?_
      refine AllReadyH.cons (o := ({ dst := some 24, op := Op.buildSlice 31 1 #[(0, Operand.tmp 23)], type := 31, pos := "law.go:24", after := #[{ on := 11, ground := Ground.data }], guard := none } : Oper)) rfl (fun K hK => ?_) (AllReadyH.nil)
      go_simp
      have O4 := Lib.hid (owns_below O2.out (one_alloc v2 (.cells #[.int .i64 p, .int .i64 q] 28)))
      have B4 := Lib.hid (B2.out.alloc B2.out.size (.cells #[.int .i64 p, .int .i64 q] 28))
      have K4 : Hid (PairRow (v2.alloc (.cells #[.int .i64 p, .int .i64 q] 28)) (some ⟨v2.heap.size, 0, none⟩) [(p, q)]) := Lib.hid (pair_one (T := 28) (Kept.new rfl))
      clear O2 B2
      refine hK.out _ _ ?_ (fun hHeld => ?_)
      · exact S2.out _ B4.out
      clear hK K
      (try simp only [Act.put, List.setIfInBounds_toArray, List.set_cons_zero, List.set_cons_succ])
      refine wpAnyH_ready (rs := [13]) (by kernel_rfl) (by simp) ?_
      refine AllReadyH.cons (o := ({ dst := some 25, op := Op.call { callee := Callee.builtin Builtin.append, args := #[Operand.tmp 12, Operand.tmp 24], argTypes := #[31, 31] }, type := 31, pos := "law.go:24", after := #[{ on := 0, ground := Ground.data }, { on := 12, ground := Ground.data }], guard := none } : Oper)) rfl (fun K hK => ?_) (AllReadyH.nil)
      rw [if_pos (by rfl)]
      refine wp_appendPairs _ _ 31 rfl w 28 i0 (.agg #[.int .i64 0, .int .i64 0]) 16 Try.underlying31 hi hz0 hz1 hz2 rfl u3 k X rfl O4.out (some ⟨v2.heap.size, 0, none⟩) 1 [(p, q)] rfl (by simp) K4.out hc1 hc2 B4.out ?_
      intro v5 w5 o5 b5
      have O5 := Lib.hid o5
      have B5 := Lib.hid b5
      clear o5 b5 O4 K4
      refine hK.out _ _ ?_ (fun hHeld => ?_)
      · exact S2.out _ B5.out
      clear hK K
      (try simp only [Act.put, List.setIfInBounds_toArray, List.set_cons_zero, List.set_cons_succ])
      refine wpAnyH_take (i := 14) (oi := ({ dst := some 3, op := Op.assign (Operand.tmp 25), type := 31, pos := "law.go:24", after := #[{ on := 13, ground := Ground.data }, { on := 13, ground := Ground.chain }, { on := 0, ground := Ground.phase }, { on := 1, ground := Ground.phase }, { on := 2, ground := Ground.phase }, { on := 3, ground := Ground.phase }, { on := 4, ground := Ground.phase }, { on := 5, ground := Ground.phase }, { on := 6, ground := Ground.phase }, { on := 7, ground := Ground.phase }, { on := 8, ground := Ground.phase }, { on := 9, ground := Ground.phase }, { on := 10, ground := Ground.phase }, { on := 11, ground := Ground.phase }, { on := 12, ground := Ground.phase }, { on := 13, ground := Ground.phase }], guard := none } : Oper)) (v := ?_) rfl (by kernel_rfl) (by kernel_rfl) (by kernel_rfl) (fun _ _ _ h => h) (Or.inl ⟨by rfl, ?_⟩) hHeld ?_
      rotate_left
      · ((intro w hSw; obtain ⟨s1, s2⟩ := hSw; go_simp); (try with_reducible rfl))
      (try simp only [Act.put, List.setIfInBounds_toArray, List.set_cons_zero, List.set_cons_succ])
      refine wpAnyH_done (by kernel_rfl) ?_ _
      have FF := Lib.hid (F.out _ _ O5.out B5.out)
      clear O5 B5 F hHeld
      go_wp2
      go_roundw
      case rel => (try rw [e2]); exact FF.out
      case measure => have := HLT.out; (try rw [e2]); simp [intOf]; omega
    · obtain rfl : k = l.length := by omega
      have ho := HO.out
      rw [List.take_length] at ho
      obtain ⟨a, c, rfl, -, -, -, -, hp⟩ := PairRow.own ho
      have HP := Lib.hid hp
      clear hlt hk ho hp
      go_wp2
      go_ret
      exact ⟨a, c, rfl, HP, HB.out⟩
end Go.Proofs.Ytllkdohomkofhaa
