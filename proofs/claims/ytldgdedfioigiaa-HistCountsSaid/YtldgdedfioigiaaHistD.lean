/- hist.Add: of gen_add05.py. -/
import Derived.Test.YtldgdedfioigiaaHistC
import Derived.Great.BuildSlice
namespace Go.Proofs.Ytldgdedfioigiaa
open Go.RowKit
set_option linter.unusedVariables false
set_option linter.unusedSimpArgs false

theorem yieldsIf_row {P : Program} {ops : Array Oper} {S : World → Prop} {op : Oper} {a : Act} (hw : Region.wanted op (yielded ops a.tmps) = true) (ty : TypeId) (x : Operand) (ho : op.op = .load ty x)
    (g : Nat) (hx : a.eval x = .pointer (some ⟨g, 0, none⟩)) {t : TypeId} {fr : Nat × Nat} {d : TypeDesc} (cs : Array Value) (hS : ∀ w, S w → w.heap[g]? = some (.cells cs t fr))
    (hu : P.underlying ty = some d) (hd : (match d with | .struct _ | .array _ _ => true | _ => false) = true) (hi : (P.info? ty).map (·.size) = some cs.size) : YieldsIf P ops S op (.agg cs) a :=
  .inl ⟨hw, fun w hw' => by
    unfold execOp
    simp only [ho, hx, Instr.loadAt, Instr.sureAddr, Sem.run_bind, Sem.run_pure, Result.andThen_ok, run_loadVar_row w g t ty cs fr d (hS w hw') hu hd hi]⟩
theorem rows2 {w : World} {g : Nat} {t : TypeId} {fr : Nat × Nat} {l m : List Int} (h1 : l.length = 65) (h2 : m.length = 65) (hb : w.heap[g]? = some (.cells (hC l ++ hC m) t fr)) : RowsAt w (some ⟨g, 0, none⟩) [l, m] := fun j hj => ⟨g, 0, rfl, fun i v hv => by
  rw [cell_of_row w g _ _ t fr hb]
  have hl1 := hC_size l
  have hlen : j = 0 ∨ j = 1 := by simp at hj; omega
  rcases hlen with rfl | rfl
  · have e : ([l, m].getD 0 []) = l := rfl
    rw [e, Array.getElem?_toList] at hv
    have hi : i < (hC l).size := by
      rcases Nat.lt_or_ge i (hC l).size with h | h
      · exact h
      · rw [Array.getElem?_eq_none h] at hv; cases hv
    rw [Array.getElem?_append_left (by omega)]
    rw [← hv]; congr 1; omega
  · have e : ([l, m].getD 1 []) = m := rfl
    rw [e, Array.getElem?_toList] at hv
    rw [Array.getElem?_append_right (by omega), ← hv]
    congr 1; omega⟩
theorem all2 {l m : List Int} (h1 : l.length = 65) (h2 : m.length = 65) : All65 [l, m] := fun j hj => by
  have hlen : j = 0 ∨ j = 1 := by simp at hj; omega
  rcases hlen with rfl | rfl
  · exact h1
  · exact h2
theorem fill2 {C D cells : Array Value} (h1 : C.size = 65) (h2 : D.size = 65) (hc : cells.size = 130) : Instr.fill (fun i => some (i * 65, 65)) cells [(0, .agg C), (1, .agg D)] = some (C ++ D) := by
  have h := Great.fill_whole (s := 65) (by decide) [.agg C, .agg D] cells (fun v hv => by
    simp at hv
    rcases hv with rfl | rfl
    · exact h1
    · exact h2) (by rw [hc]; rfl)
  refine Eq.trans (Eq.trans (by rfl) h) ?_
  congr 1
  apply Array.ext'
  simp [Value.cells]
theorem in2 {l m : List Int} (h1 : ∀ b, b < 65 → InI (l.getD b 0)) (h2 : ∀ b, b < 65 → InI (m.getD b 0)) : ∀ j b, j < [l, m].length → b < 65 → InI (([l, m].getD j []).getD b 0) := fun j b hj hb => by
  have hlen : j = 0 ∨ j = 1 := by simp at hj; omega
  rcases hlen with rfl | rfl
  · exact h1 b hb
  · exact h2 b hb
theorem cntL_in (l : List Int) (h : l.length ≤ 4000000000) (b : Nat) (hb : b < 65) : InI ((cntL l).getD b 0) := by
  have := cntL_le l b hb
  unfold InI
  omega
theorem mgOut_len {L : List (List Int)} {l : List Int} {E : Int} (h : Hid ((negP L ∧ l = zeros65 ∧ E = 10) ∨ (¬ negP L ∧ overP L ∧ l = zeros65 ∧ E = 12) ∨ (¬ negP L ∧ ¬ overP L ∧ l = sumR L ∧ E = 0))) : l.length = 65 := by
  rcases h.out with ⟨_, rfl, _⟩ | ⟨_, _, rfl, _⟩ | ⟨_, _, rfl, _⟩
  · exact zeros65_len
  · exact zeros65_len
  · exact sumR_len _
set_option maxHeartbeats 8000000 in
set_option maxRecDepth 1000000 in
theorem add_any (h : List Int) (v : Int) (w : World) (h65 : h.length = 65) (hin : ∀ b, b < 65 → InI (h.getD b 0)) (hv : InI v) :
    Calls Try.prog 19 #[.agg (hC h), .int .i64 v] w (MgOut [h, cntL [v]] w) := by
  have hz := h_zero
  have cl := cntL_len [v]
  have cin := cntL_in [v] (by simp)
  have COf : Hid (∀ (W : World) (b : Nat), W.cell? ⟨b, 0, none⟩ = some (.int .i64 v) → Calls Try.prog 14 #[.slice (some ⟨b, 0, none⟩) 1 1] W (Gives (.agg (hC (cntL [v]))) W)) := Lib.hid fun W b hb => hof_any _ 1 [v] W (fun j hj => ⟨b, 0, rfl, by
    have : j = 0 := by simp at hj; omega
    subst this
    exact hb⟩) (fun x hx => by simp at hx; subst hx; exact hv) (by simp)
  have CM : Hid (∀ (W : World) (b : Nat), W.heap[b]? = some (.cells (hC h ++ hC (cntL [v])) 33 (0, 0)) → Calls Try.prog 16 #[.slice (some ⟨b, 0, none⟩) 2 2] W (MgOut [h, cntL [v]] W)) := Lib.hid fun W b hb => merge_any _ 2 [h, cntL [v]] W (rows2 h65 cl hb) (all2 h65 cl) (by simp) (in2 hin cin)
  have HLR : Hid (∀ (l : List Int) (E : Int), Hid ((negP [h, cntL [v]] ∧ l = zeros65 ∧ E = 10) ∨ (¬ negP [h, cntL [v]] ∧ overP [h, cntL [v]] ∧ l = zeros65 ∧ E = 12) ∨ (¬ negP [h, cntL [v]] ∧ ¬ overP [h, cntL [v]] ∧ l = sumR [h, cntL [v]] ∧ E = 0)) → l.length = 65) := Lib.hid fun l E H => mgOut_len H
  have FIN : Hid (∀ (l : List Int) (E : Int) (W : World), Hid ((negP [h, cntL [v]] ∧ l = zeros65 ∧ E = 10) ∨ (¬ negP [h, cntL [v]] ∧ overP [h, cntL [v]] ∧ l = zeros65 ∧ E = 12) ∨ (¬ negP [h, cntL [v]] ∧ ¬ overP [h, cntL [v]] ∧ l = sumR [h, cntL [v]] ∧ E = 0)) → Below w.heap.size w W → MgOut [h, cntL [v]] w (.returned (.tuple #[.agg (hC l), .int .i64 E])) W) := Lib.hid fun l E W H hb => ⟨⟨l, E, rfl, H⟩, hb⟩
  obtain ⟨ie, hie, hiz, his⟩ : ∃ ie, Try.prog.info? 33 = some ie ∧ ie.zero = some (.agg (hC zeros65)) ∧ ie.size = 65 := by
    have e := h_zero0
    cases hq : Try.prog.info? 33 with
    | none => simp [hq] at e
    | some i => simp [hq] at e; exact ⟨i, rfl, e.1, e.2⟩
  have zz : (hC zeros65).size = 65 := by rw [hC_size, zeros65_len]
  have zs : (Try.prog.info? 33).map (·.size) = some (hC zeros65).size := by rw [zz]; exact h_info
  have ci : (Try.prog.info? 33).map (·.size) = some (hC h).size := by rw [hC_size, h65]; exact h_info
  have hfill := fun cells hc => fill2 (C := hC h) (D := hC (cntL [v])) (cells := cells) (by rw [hC_size, h65]) (by rw [hC_size, cl]) hc
  generalize hC zeros65 = Z at *
  have HF := Lib.hid (hfill ((Array.range (2 * 65)).map ((Value.agg Z).cells[· % (Value.agg Z).cells.size]!)) (by simp))
  clear hfill
  generalize hC h = C at *
  generalize hC (cntL [v]) = D at *
  obtain ⟨CD, hCD⟩ : ∃ CD, C ++ D = CD := ⟨_, rfl⟩
  rw [hCD] at HF CM
  have hfill := HF.out
  clear HF
  have HFILL := Lib.hid hfill
  have HIZ := Lib.hid hiz
  have HIE := Lib.hid hie
  have K0 : Hid (Kept ((w.alloc (.cells C 33)).alloc (.cells Z 33)) w.heap.size C 33) := Lib.hid ((Kept.new rfl).alloc _)
  have K1 : Hid (Kept ((w.alloc (.cells C 33)).alloc (.cells Z 33)) (w.heap.size + 1) Z 33) := Lib.hid (Kept.new (by simp))
  have BW : Hid (Below w.heap.size w ((w.alloc (.cells C 33)).alloc (.cells Z 33))) := Lib.hid ((one_alloc _ _).alloc (by simp) _)
  have SW : Hid (((w.alloc (.cells C 33)).alloc (.cells Z 33)).heap.size = w.heap.size + 2) := Lib.hid (by simp)
  clear hin h65 hv cl cin hCD hfill hiz hie
  go_enter Try.func19, Try.ntmps19
  go_wp2
  clear hz
  generalize (w.alloc (.cells C 33)).alloc (.cells Z 33) = W at *
  have g0 : w.heap.size < W.heap.size := by have := SW.out; omega
  have g1 : w.heap.size + 1 < W.heap.size := by have := SW.out; omega
  have gw : w.heap.size ≤ W.heap.size := by omega
  have hfill := HFILL.out
  have hiz := HIZ.out
  have hie := HIE.out
  clear HFILL HIZ HIE
  refine wp_region_held_drew (S := fun w' => Hid (Kept w' w.heap.size C 33)) (by kernel_rfl) (Lib.hid (K0.out.drewN 1)) (fun hHeld => ?_)
  refine wpAnyH_take (i := 0) (oi := ({ dst := some 6, op := Op.load 33 (Operand.tmp 2), type := 33, pos := "hist.go:58", after := #[], guard := none } : Oper)) (v := .agg C) rfl (by kernel_rfl) (by kernel_rfl) (by kernel_rfl) (fun _ _ _ h => h) (yieldsIf_row (by rfl) _ _ rfl w.heap.size rfl C (fun w' hw' => hw'.out) h_under rfl ci) hHeld ?_
  (try simp only [Act.put, List.setIfInBounds_toArray, List.set_cons_zero, List.set_cons_succ])
  refine wpAnyH_take (i := 1) (oi := ({ dst := some 7, op := Op.move (Operand.tmp 1), type := 2, pos := "hist.go:58", after := #[], guard := none } : Oper)) (v := ?_) rfl (by kernel_rfl) (by kernel_rfl) (by kernel_rfl) (fun _ _ _ h => h) (Or.inl ⟨by rfl, ?_⟩) hHeld ?_
  rotate_left
  · ((intro w hSw; (try dsimp only at hSw); go_simp); (try with_reducible rfl))
  (try simp only [Act.put, List.setIfInBounds_toArray, List.set_cons_zero, List.set_cons_succ])
  refine wpAnyH_ready (rs := [2]) (by kernel_rfl) (by simp) ?_
  refine AllReadyH.cons (o := ({ dst := some 8, op := Op.buildSlice 30 1 #[(0, Operand.tmp 7)], type := 30, pos := "hist.go:58", after := #[{ on := 1, ground := Ground.data }], guard := none } : Oper)) rfl (fun K hK => ?_) AllReadyH.nil
  go_simp
  have B2 : Hid (Below W.heap.size W ((W.alloc (.cells #[.int .i64 v] 2)).drew)) := Lib.hid (((Below.refl _ _).alloc (Nat.le_refl _) _).drew)
  have C2 : ((W.alloc (.cells #[.int .i64 v] 2)).drew).cell? ⟨W.heap.size, 0, none⟩ = some (.int .i64 v) := by simp [World.cell?_alloc_at]
  refine hK.out _ _ ?_ (fun hHeld => ?_)
  · exact Lib.hid (K0.out.below B2.out g0)
  clear hK K
  (try simp only [Act.put, List.setIfInBounds_toArray, List.set_cons_zero, List.set_cons_succ])
  refine wpAnyH_ready (rs := [3]) (by kernel_rfl) (by simp) ?_
  refine AllReadyH.cons (o := ({ dst := some 9, op := Op.call { callee := Callee.value (Operand.func 14), args := #[Operand.tmp 8], argTypes := #[30] }, type := 33, pos := "hist.go:58", after := #[{ on := 2, ground := Ground.data }], guard := none } : Oper)) rfl (fun K hK => ?_) AllReadyH.nil
  go_simp
  (with_reducible refine (COf.out _ _ C2).mono ?_)
  rintro _ w3 ⟨rfl, b3⟩
  have B3 : Hid (Below W.heap.size W w3) := Lib.hid (B2.out.trans (b3.mono (by simp)))
  refine hK.out _ _ ?_ (fun hHeld => ?_)
  · exact Lib.hid (K0.out.below B3.out g0)
  clear hK K
  (try simp only [Act.put, List.setIfInBounds_toArray, List.set_cons_zero, List.set_cons_succ])
  refine wpAnyH_ready (rs := [4]) (by kernel_rfl) (by simp) ?_
  refine AllReadyH.cons (o := ({ dst := some 10, op := Op.buildSlice 36 2 #[(0, Operand.tmp 6), (1, Operand.tmp 9)], type := 36, pos := "hist.go:58", after := #[{ on := 0, ground := Ground.data }, { on := 3, ground := Ground.data }], guard := none } : Oper)) rfl (fun K hK => ?_) AllReadyH.nil
  rw [if_pos (by rfl)]
  refine wp_buildSlice _ _ 2 _ rfl CD ie (.agg Z) rfl hie hiz (by rw [his]; decide) (by rw [his]; decide) (by rw [his]; refine Eq.trans (congrArg (Instr.fill _ _) ?_) hfill; simp [Act.eval]) ?_
  have G4 : Hid ((w3.alloc (.cells CD 33)).heap[w3.heap.size]? = some (.cells CD 33 (0, 0))) := Lib.hid (heap_alloc_new w3 _)
  have B4 : Hid (Below W.heap.size W (w3.alloc (.cells CD 33))) := Lib.hid (B3.out.alloc B3.out.size _)
  refine hK.out _ _ ?_ (fun hHeld => ?_)
  · exact Lib.hid (K0.out.below B4.out g0)
  clear hK K
  (try simp only [Act.put, List.setIfInBounds_toArray, List.set_cons_zero, List.set_cons_succ])
  obtain ⟨w4, hw4⟩ : ∃ w4, w3.alloc (.cells CD 33) = w4 := ⟨_, rfl⟩
  rw [hw4] at G4 B4 hHeld
  rw [hw4]
  refine wpAnyH_ready (rs := [5]) (by kernel_rfl) (by simp) ?_
  refine AllReadyH.cons (o := ({ dst := some 11, op := Op.call { callee := Callee.value (Operand.func 16), args := #[Operand.tmp 10], argTypes := #[36] }, type := 38, pos := "hist.go:58", after := #[{ on := 4, ground := Ground.data }, { on := 3, ground := Ground.chain }], guard := none } : Oper)) rfl (fun K hK => ?_) AllReadyH.nil
  go_simp
  (with_reducible refine (CM.out _ _ G4.out).mono ?_)
  rintro _ w5 ⟨⟨lr, E, rfl, HE⟩, b5⟩
  have B5 : Hid (Below W.heap.size W w5) := Lib.hid (B4.out.trans (b5.mono B4.out.size))
  refine hK.out _ _ ?_ (fun hHeld => ?_)
  · exact Lib.hid (K0.out.below B5.out g0)
  clear hK K
  (try simp only [Act.put, List.setIfInBounds_toArray, List.set_cons_zero, List.set_cons_succ])
  have rl := HLR.out lr E HE
  have rs : (Try.prog.info? 33).map (·.size) = some (hC lr).size := by rw [hC_size, rl]; exact h_info
  have rz : Z.size = (hC lr).size := by rw [zz, hC_size, rl]
  have ra := hC_cells lr
  have K5 := Lib.hid (K1.out.below B5.out g1)
  have B8 : Hid (Below w.heap.size w (w5.setRow (w.heap.size + 1) (hC lr))) := Lib.hid (below_setRow (BW.out.trans (B5.out.mono gw)) (by omega) _)
  have FF := Lib.hid (FIN.out lr E _ HE B8.out)
  obtain ⟨R, hR⟩ : ∃ R, hC lr = R := ⟨_, rfl⟩
  rw [hR] at rs rz ra FF
  rw [hR]
  refine wpAnyH_take (i := 6) (oi := ({ dst := some 12, op := Op.extract (Operand.tmp 11) 0, type := 33, pos := "hist.go:58", after := #[{ on := 5, ground := Ground.data }], guard := none } : Oper)) (v := ?_) rfl (by kernel_rfl) (by kernel_rfl) (by kernel_rfl) (fun _ _ _ h => h) (Or.inl ⟨by rfl, ?_⟩) hHeld ?_
  rotate_left
  · ((intro w hSw; (try dsimp only at hSw); go_simp); (try with_reducible rfl))
  (try simp only [Act.put, List.setIfInBounds_toArray, List.set_cons_zero, List.set_cons_succ])
  refine wpAnyH_take (i := 7) (oi := ({ dst := some 13, op := Op.extract (Operand.tmp 11) 1, type := 37, pos := "hist.go:58", after := #[{ on := 5, ground := Ground.data }], guard := none } : Oper)) (v := ?_) rfl (by kernel_rfl) (by kernel_rfl) (by kernel_rfl) (fun _ _ _ h => h) (Or.inl ⟨by rfl, ?_⟩) hHeld ?_
  rotate_left
  · ((intro w hSw; (try dsimp only at hSw); go_simp); (try with_reducible rfl))
  (try simp only [Act.put, List.setIfInBounds_toArray, List.set_cons_zero, List.set_cons_succ])
  refine wpAnyH_ready (rs := [8]) (by kernel_rfl) (by simp) ?_
  refine AllReadyH.cons (o := ({ dst := none, op := Op.store 33 (Operand.tmp 4) (Operand.tmp 12), type := 0, pos := "hist.go:58", after := #[{ on := 6, ground := Ground.data }, { on := 5, ground := Ground.chain }, { on := 0, ground := Ground.phase }, { on := 1, ground := Ground.phase }, { on := 2, ground := Ground.phase }, { on := 3, ground := Ground.phase }, { on := 4, ground := Ground.phase }, { on := 5, ground := Ground.phase }, { on := 6, ground := Ground.phase }, { on := 7, ground := Ground.phase }], guard := none } : Oper)) rfl (fun K hK => ?_) AllReadyH.nil
  rw [if_pos (by rfl)]
  refine wp_store_row _ _ _ rfl (w.heap.size + 1) R rfl rfl _ Z K5.out rs rz ra ?_
  refine hK.out _ _ ?_ (fun hHeld => ?_)
  · exact Lib.hid ((K0.out.below B5.out g0).setRow_far (by omega) _)
  clear hK K
  (try simp only [Act.put, List.setIfInBounds_toArray, List.set_cons_zero, List.set_cons_succ])
  refine wpAnyH_take (i := 9) (oi := ({ dst := some 5, op := Op.assign (Operand.tmp 13), type := 37, pos := "hist.go:58", after := #[{ on := 7, ground := Ground.data }, { on := 8, ground := Ground.chain }, { on := 0, ground := Ground.phase }, { on := 1, ground := Ground.phase }, { on := 2, ground := Ground.phase }, { on := 3, ground := Ground.phase }, { on := 4, ground := Ground.phase }, { on := 5, ground := Ground.phase }, { on := 6, ground := Ground.phase }, { on := 7, ground := Ground.phase }, { on := 8, ground := Ground.phase }], guard := none } : Oper)) (v := ?_) rfl (by kernel_rfl) (by kernel_rfl) (by kernel_rfl) (fun _ _ _ h => h) (Or.inl ⟨by rfl, ?_⟩) hHeld ?_
  rotate_left
  · ((intro w hSw; (try dsimp only at hSw); go_simp); (try with_reducible rfl))
  (try simp only [Act.put, List.setIfInBounds_toArray, List.set_cons_zero, List.set_cons_succ])
  refine wpAnyH_done (by kernel_rfl) ?_ _
  have K8 := Lib.hid (K5.out.setRow R)
  clear HE B8 b5 b3
  generalize w5.setRow (w.heap.size + 1) R = W8 at *
  have hld := run_loadVar_row (P := Try.prog) W8 (w.heap.size + 1) 33 33 R (0, 0) _ K8.out h_under rfl rs
  go_wp2
  refine bodyPost_ret (v := .tuple #[.agg R, .int .i64 E]) (by simp [results, Try.results19, asAddr, Result.andThen, hld]) rfl ?_
  exact FF.out
end Go.Proofs.Ytldgdedfioigiaa
