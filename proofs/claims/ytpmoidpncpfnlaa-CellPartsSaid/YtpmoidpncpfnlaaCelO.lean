/- cell.Add: of gen_add21.py. -/
import Derived.Test.YtpmoidpncpfnlaaCelL
import Derived.Great.BuildSlice
namespace Go.Proofs.Ytpmoidpncpfnlaa
open Go.RowKit
set_option linter.unusedVariables false
set_option linter.unusedSimpArgs false

theorem cs2 {w : World} {g : Nat} {t : TypeId} {fr : Nat × Nat} {l m : Ce} (h1 : l.H.length = 65) (h2 : m.H.length = 65) (hb : w.heap[g]? = some (.cells (l.A ++ m.A) t fr)) : CsAt w (some ⟨g, 0, none⟩) [l, m] := fun j hj => ⟨g, 0, rfl, fun i v hv => by
  rw [cell_of_row w g _ _ t fr hb]
  have hl1 := ce_size l h1
  have hlen : j = 0 ∨ j = 1 := by simp at hj; omega
  rcases hlen with rfl | rfl
  · have e : ([l, m].getD 0 ceZ) = l := rfl
    rw [e, Array.getElem?_toList] at hv
    have hi : i < l.A.size := by
      rcases Nat.lt_or_ge i l.A.size with h | h
      · exact h
      · rw [Array.getElem?_eq_none h] at hv; cases hv
    rw [Array.getElem?_append_left (by omega)]
    rw [← hv]; congr 1; omega
  · have e : ([l, m].getD 1 ceZ) = m := rfl
    rw [e, Array.getElem?_toList] at hv
    rw [Array.getElem?_append_right (by omega), ← hv]
    congr 1; omega⟩
theorem cs1 {w : World} {g : Nat} {t : TypeId} {fr : Nat × Nat} {l : Ce} (hb : w.heap[g]? = some (.cells l.A t fr)) : CsAt w (some ⟨g, 0, none⟩) [l] := fun j hj => ⟨g, 0, rfl, fun i v hv => by
  obtain rfl : j = 0 := by simp at hj; omega
  rw [cell_of_row w g _ _ t fr hb]
  have e : ([l].getD 0 ceZ) = l := rfl
  rw [e, Array.getElem?_toList] at hv
  rw [← hv]; congr 1; omega⟩
theorem cin2 {l m : Ce} (h1 : CeIn l) (h2 : CeIn m) : CIn [l, m] := fun j hj => by
  have hlen : j = 0 ∨ j = 1 := by simp at hj; omega
  rcases hlen with rfl | rfl
  · exact h1
  · exact h2
theorem cin1 {l : Ce} (h1 : CeIn l) : CIn [l] := fun j hj => by
  obtain rfl : j = 0 := by simp at hj; omega
  exact h1
theorem fill72 {C D cells : Array Value} (h1 : C.size = 72) (h2 : D.size = 72) (hc : cells.size = 144) : Instr.fill (fun i => some (i * 72, 72)) cells [(0, .agg C), (1, .agg D)] = some (C ++ D) := by
  have h := Great.fill_whole (s := 72) (by decide) [.agg C, .agg D] cells (fun v hv => by
    simp at hv
    rcases hv with rfl | rfl
    · exact h1
    · exact h2) (by rw [hc]; rfl)
  refine Eq.trans (Eq.trans (by rfl) h) ?_
  congr 1
  apply Array.ext'
  simp [Value.cells]
theorem fill72o {C cells : Array Value} (h1 : C.size = 72) (hc : cells.size = 72) : Instr.fill (fun i => some (i * 72, 72)) cells [(0, .agg C)] = some C := by
  have h := Great.fill_whole (s := 72) (by decide) [.agg C] cells (fun v hv => by
    simp at hv
    rcases hv with rfl
    exact h1) (by rw [hc]; rfl)
  refine Eq.trans (Eq.trans (by rfl) h) ?_
  congr 1
  apply Array.ext'
  simp [Value.cells]
theorem allC_len (L : List Ce) : (allC L).H.length = 65 := sumR_len _
def MrW (L : List Ce) (q : Ce) (E : Int) : Prop := (wrongL L ∧ q = ceZ ∧ E = 10) ∨ (¬ wrongL L ∧ overL L ∧ q = ceZ ∧ E = 12) ∨ (¬ wrongL L ∧ ¬ overL L ∧ q = allC L ∧ E = 0)
theorem mrW_len {L : List Ce} {q : Ce} {E : Int} (h : MrW L q E) : q.H.length = 65 := by
  rcases h with ⟨_, rfl, _⟩ | ⟨_, _, rfl, _⟩ | ⟨_, _, rfl, _⟩
  · rfl
  · rfl
  · exact allC_len _
set_option maxHeartbeats 8000000 in
set_option maxRecDepth 1000000 in
theorem cadd_any (c : Ce) (v : Int) (w : World) (hc : CeIn c) (hv : InI v) :
    Calls Try.prog 14 #[.agg c.A, .int .i64 v] w (MrOut [c, foldC [v]] w) := by
  have hz := c_zero
  have hin1 : ∀ x ∈ [v], InI x := fun x hx => by simp at hx; subst hx; exact hv
  have cin := ceIn_fold [v] hin1 (by simp)
  have COf : Hid (∀ (W : World) (b : Nat), W.cell? ⟨b, 0, none⟩ = some (.int .i64 v) → Calls Try.prog 9 #[.slice (some ⟨b, 0, none⟩) 1 1] W (Gives (.agg (foldC [v]).A) W)) := Lib.hid fun W b hb => cfold_any _ 1 [v] W (fun j hj => ⟨b, 0, rfl, by
    have : j = 0 := by simp at hj; omega
    subst this
    exact hb⟩) hin1 (by simp)
  have CM : Hid (∀ (W : World) (b : Nat), W.heap[b]? = some (.cells (c.A ++ (foldC [v]).A) 29 (0, 0)) → Calls Try.prog 18 #[.slice (some ⟨b, 0, none⟩) 2 2] W (MrOut [c, foldC [v]] W)) := Lib.hid fun W b hb => cmerge_any _ 2 [c, foldC [v]] W (cs2 hc.len cin.len hb) (cin2 hc cin) (by simp)
  have HLR : Hid (∀ (q : Ce) (E : Int), Hid (MrW [c, foldC [v]] q E) → q.H.length = 65) := Lib.hid fun l E H => mrW_len H.out
  have FIN : Hid (∀ (q : Ce) (E : Int) (W : World), Hid (MrW [c, foldC [v]] q E) → Below w.heap.size w W → MrOut [c, foldC [v]] w (.returned (.tuple #[.agg q.A, .int .i64 E])) W) := Lib.hid fun l E W H hb => ⟨⟨l, E, rfl, H⟩, hb⟩
  obtain ⟨ie, hie, hiz, his⟩ : ∃ ie, Try.prog.info? 29 = some ie ∧ ie.zero = some (.agg ceZ.A) ∧ ie.size = 72 := by
    have e := c_zero0
    cases hq : Try.prog.info? 29 with
    | none => simp [hq] at e
    | some i => simp [hq] at e; exact ⟨i, rfl, e.1, e.2⟩
  have zz : ceZ.A.size = 72 := ce_size _ rfl
  have zs : (Try.prog.info? 29).map (·.size) = some ceZ.A.size := by rw [zz]; exact c_info
  have ci : (Try.prog.info? 29).map (·.size) = some c.A.size := by rw [ce_size _ hc.len]; exact c_info
  have hfill := fun cells hc' => fill72 (C := c.A) (D := (foldC [v]).A) (cells := cells) (ce_size _ hc.len) (ce_size _ cin.len) hc'
  generalize ceZ.A = Z at *
  have HF := Lib.hid (hfill ((Array.range (2 * 72)).map ((Value.agg Z).cells[· % (Value.agg Z).cells.size]!)) (by simp))
  clear hfill
  generalize hCe : c.A = C at *
  generalize hDe : (foldC [v]).A = D at *
  obtain ⟨CD, hCD⟩ : ∃ CD, C ++ D = CD := ⟨_, rfl⟩
  rw [hCD] at HF CM
  have hfill := HF.out
  clear HF
  have HFILL := Lib.hid hfill
  have HIZ := Lib.hid hiz
  have HIE := Lib.hid hie
  have K0 : Hid (Kept ((w.alloc (.cells C 29)).alloc (.cells Z 29)) w.heap.size C 29) := Lib.hid ((Kept.new rfl).alloc _)
  have K1 : Hid (Kept ((w.alloc (.cells C 29)).alloc (.cells Z 29)) (w.heap.size + 1) Z 29) := Lib.hid (Kept.new (by simp))
  have BW : Hid (Below w.heap.size w ((w.alloc (.cells C 29)).alloc (.cells Z 29))) := Lib.hid ((one_alloc _ _).alloc (by simp) _)
  have SW : Hid (((w.alloc (.cells C 29)).alloc (.cells Z 29)).heap.size = w.heap.size + 2) := Lib.hid (by simp)
  clear hc hv hin1 cin hCD hfill hiz hie hCe hDe
  go_enter Try.func14, Try.ntmps14
  go_wp2
  clear hz
  generalize (w.alloc (.cells C 29)).alloc (.cells Z 29) = W at *
  have g0 : w.heap.size < W.heap.size := by have := SW.out; omega
  have g1 : w.heap.size + 1 < W.heap.size := by have := SW.out; omega
  have gw : w.heap.size ≤ W.heap.size := by omega
  have hfill := HFILL.out
  have hiz := HIZ.out
  have hie := HIE.out
  clear HFILL HIZ HIE
  refine wp_region_held_drew (S := fun w' => Hid (Kept w' w.heap.size C 29)) (by kernel_rfl) (Lib.hid (K0.out.drewN 1)) (fun hHeld => ?_)
  refine wpAnyH_take (i := 0) (oi := ({ dst := some 6, op := Op.load 29 (Operand.tmp 2), type := 29, pos := "cell.go:59", after := #[], guard := none } : Oper)) (v := .agg C) rfl (by kernel_rfl) (by kernel_rfl) (by kernel_rfl) (fun _ _ _ h => h) (yieldsIf_row (by rfl) _ _ rfl w.heap.size rfl C (fun w' hw' => hw'.out) Try.underlying29 rfl ci) hHeld ?_
  (try simp only [Act.put, List.setIfInBounds_toArray, List.set_cons_zero, List.set_cons_succ])
  refine wpAnyH_take (i := 1) (oi := ({ dst := some 7, op := Op.move (Operand.tmp 1), type := 2, pos := "cell.go:59", after := #[], guard := none } : Oper)) (v := ?_) rfl (by kernel_rfl) (by kernel_rfl) (by kernel_rfl) (fun _ _ _ h => h) (Or.inl ⟨by rfl, ?_⟩) hHeld ?_
  rotate_left
  · ((intro w hSw; (try dsimp only at hSw); go_simp); (try with_reducible rfl))
  (try simp only [Act.put, List.setIfInBounds_toArray, List.set_cons_zero, List.set_cons_succ])
  refine wpAnyH_ready (rs := [2]) (by kernel_rfl) (by simp) ?_
  refine AllReadyH.cons (o := ({ dst := some 8, op := Op.buildSlice 22 1 #[(0, Operand.tmp 7)], type := 22, pos := "cell.go:59", after := #[{ on := 1, ground := Ground.data }], guard := none } : Oper)) rfl (fun K hK => ?_) AllReadyH.nil
  go_simp
  have B2 : Hid (Below W.heap.size W ((W.alloc (.cells #[.int .i64 v] 2)).drew)) := Lib.hid (((Below.refl _ _).alloc (Nat.le_refl _) _).drew)
  have C2 : ((W.alloc (.cells #[.int .i64 v] 2)).drew).cell? ⟨W.heap.size, 0, none⟩ = some (.int .i64 v) := by simp [World.cell?_alloc_at]
  refine hK.out _ _ ?_ (fun hHeld => ?_)
  · exact Lib.hid (K0.out.below B2.out g0)
  clear hK K
  (try simp only [Act.put, List.setIfInBounds_toArray, List.set_cons_zero, List.set_cons_succ])
  refine wpAnyH_ready (rs := [3]) (by kernel_rfl) (by simp) ?_
  refine AllReadyH.cons (o := ({ dst := some 9, op := Op.call { callee := Callee.value (Operand.func 9), args := #[Operand.tmp 8], argTypes := #[22] }, type := 29, pos := "cell.go:59", after := #[{ on := 2, ground := Ground.data }], guard := none } : Oper)) rfl (fun K hK => ?_) AllReadyH.nil
  go_simp
  (with_reducible refine (COf.out _ _ C2).mono ?_)
  rintro _ w3 ⟨rfl, b3⟩
  have B3 : Hid (Below W.heap.size W w3) := Lib.hid (B2.out.trans (b3.mono (by simp)))
  refine hK.out _ _ ?_ (fun hHeld => ?_)
  · exact Lib.hid (K0.out.below B3.out g0)
  clear hK K
  (try simp only [Act.put, List.setIfInBounds_toArray, List.set_cons_zero, List.set_cons_succ])
  refine wpAnyH_ready (rs := [4]) (by kernel_rfl) (by simp) ?_
  refine AllReadyH.cons (o := ({ dst := some 10, op := Op.buildSlice 47 2 #[(0, Operand.tmp 6), (1, Operand.tmp 9)], type := 47, pos := "cell.go:59", after := #[{ on := 0, ground := Ground.data }, { on := 3, ground := Ground.data }], guard := none } : Oper)) rfl (fun K hK => ?_) AllReadyH.nil
  rw [if_pos (by rfl)]
  refine wp_buildSlice _ _ 2 _ rfl CD ie (.agg Z) rfl hie hiz (by rw [his]; decide) (by rw [his]; decide) (by rw [his]; refine Eq.trans (congrArg (Instr.fill _ _) ?_) hfill; simp only [List.map_toArray, List.map_cons, List.map_nil]; rfl) ?_
  have G4 : Hid ((w3.alloc (.cells CD 29)).heap[w3.heap.size]? = some (.cells CD 29 (0, 0))) := Lib.hid (heap_alloc_new w3 _)
  have B4 : Hid (Below W.heap.size W (w3.alloc (.cells CD 29))) := Lib.hid (B3.out.alloc B3.out.size _)
  refine hK.out _ _ ?_ (fun hHeld => ?_)
  · exact Lib.hid (K0.out.below B4.out g0)
  clear hK K
  (try simp only [Act.put, List.setIfInBounds_toArray, List.set_cons_zero, List.set_cons_succ])
  obtain ⟨w4, hw4⟩ : ∃ w4, w3.alloc (.cells CD 29) = w4 := ⟨_, rfl⟩
  rw [hw4] at G4 B4 hHeld
  rw [hw4]
  refine wpAnyH_ready (rs := [5]) (by kernel_rfl) (by simp) ?_
  refine AllReadyH.cons (o := ({ dst := some 11, op := Op.call { callee := Callee.value (Operand.func 18), args := #[Operand.tmp 10], argTypes := #[47] }, type := 39, pos := "cell.go:59", after := #[{ on := 4, ground := Ground.data }, { on := 3, ground := Ground.chain }], guard := none } : Oper)) rfl (fun K hK => ?_) AllReadyH.nil
  go_simp
  (with_reducible refine (CM.out _ _ G4.out).mono ?_)
  rintro _ w5 ⟨⟨q, E, rfl, HE⟩, b5⟩
  have B5 : Hid (Below W.heap.size W w5) := Lib.hid (B4.out.trans (b5.mono B4.out.size))
  refine hK.out _ _ ?_ (fun hHeld => ?_)
  · exact Lib.hid (K0.out.below B5.out g0)
  clear hK K
  (try simp only [Act.put, List.setIfInBounds_toArray, List.set_cons_zero, List.set_cons_succ])
  have rl := HLR.out q E HE
  have rq : q.A.size = 72 := ce_size _ rl
  have rs : (Try.prog.info? 29).map (·.size) = some q.A.size := by rw [rq]; exact c_info
  have rz : Z.size = q.A.size := by rw [zz, rq]
  have ra := ce_cells q
  have K5 := Lib.hid (K1.out.below B5.out g1)
  have B8 : Hid (Below w.heap.size w (w5.setRow (w.heap.size + 1) q.A)) := Lib.hid (below_setRow (BW.out.trans (B5.out.mono gw)) (by omega) _)
  have FF := Lib.hid (FIN.out q E _ HE B8.out)
  obtain ⟨R, hR⟩ : ∃ R, q.A = R := ⟨_, rfl⟩
  rw [hR] at rs rz ra FF
  rw [hR]
  clear rq
  refine wpAnyH_take (i := 6) (oi := ({ dst := some 12, op := Op.extract (Operand.tmp 11) 0, type := 29, pos := "cell.go:59", after := #[{ on := 5, ground := Ground.data }], guard := none } : Oper)) (v := ?_) rfl (by kernel_rfl) (by kernel_rfl) (by kernel_rfl) (fun _ _ _ h => h) (Or.inl ⟨by rfl, ?_⟩) hHeld ?_
  rotate_left
  · ((intro w hSw; (try dsimp only at hSw); go_simp); (try with_reducible rfl))
  (try simp only [Act.put, List.setIfInBounds_toArray, List.set_cons_zero, List.set_cons_succ])
  refine wpAnyH_take (i := 7) (oi := ({ dst := some 13, op := Op.extract (Operand.tmp 11) 1, type := 38, pos := "cell.go:59", after := #[{ on := 5, ground := Ground.data }], guard := none } : Oper)) (v := ?_) rfl (by kernel_rfl) (by kernel_rfl) (by kernel_rfl) (fun _ _ _ h => h) (Or.inl ⟨by rfl, ?_⟩) hHeld ?_
  rotate_left
  · ((intro w hSw; (try dsimp only at hSw); go_simp); (try with_reducible rfl))
  (try simp only [Act.put, List.setIfInBounds_toArray, List.set_cons_zero, List.set_cons_succ])
  refine wpAnyH_ready (rs := [8]) (by kernel_rfl) (by simp) ?_
  refine AllReadyH.cons (o := ({ dst := none, op := Op.store 29 (Operand.tmp 4) (Operand.tmp 12), type := 0, pos := "cell.go:59", after := #[{ on := 6, ground := Ground.data }, { on := 5, ground := Ground.chain }, { on := 0, ground := Ground.phase }, { on := 1, ground := Ground.phase }, { on := 2, ground := Ground.phase }, { on := 3, ground := Ground.phase }, { on := 4, ground := Ground.phase }, { on := 5, ground := Ground.phase }, { on := 6, ground := Ground.phase }, { on := 7, ground := Ground.phase }], guard := none } : Oper)) rfl (fun K hK => ?_) AllReadyH.nil
  rw [if_pos (by rfl)]
  refine wp_store_row _ _ _ rfl (w.heap.size + 1) R rfl rfl _ Z K5.out rs rz ra ?_
  refine hK.out _ _ ?_ (fun hHeld => ?_)
  · exact Lib.hid ((K0.out.below B5.out g0).setRow_far (by omega) _)
  clear hK K
  (try simp only [Act.put, List.setIfInBounds_toArray, List.set_cons_zero, List.set_cons_succ])
  refine wpAnyH_take (i := 9) (oi := ({ dst := some 5, op := Op.assign (Operand.tmp 13), type := 38, pos := "cell.go:59", after := #[{ on := 7, ground := Ground.data }, { on := 8, ground := Ground.chain }, { on := 0, ground := Ground.phase }, { on := 1, ground := Ground.phase }, { on := 2, ground := Ground.phase }, { on := 3, ground := Ground.phase }, { on := 4, ground := Ground.phase }, { on := 5, ground := Ground.phase }, { on := 6, ground := Ground.phase }, { on := 7, ground := Ground.phase }, { on := 8, ground := Ground.phase }], guard := none } : Oper)) (v := ?_) rfl (by kernel_rfl) (by kernel_rfl) (by kernel_rfl) (fun _ _ _ h => h) (Or.inl ⟨by rfl, ?_⟩) hHeld ?_
  rotate_left
  · ((intro w hSw; (try dsimp only at hSw); go_simp); (try with_reducible rfl))
  (try simp only [Act.put, List.setIfInBounds_toArray, List.set_cons_zero, List.set_cons_succ])
  refine wpAnyH_done (by kernel_rfl) ?_ _
  have K8 := Lib.hid (K5.out.setRow R)
  clear HE B8 b5 b3
  generalize w5.setRow (w.heap.size + 1) R = W8 at *
  have hld := run_loadVar_row (P := Try.prog) W8 (w.heap.size + 1) 29 29 R (0, 0) _ K8.out Try.underlying29 rfl rs
  go_wp2
  refine bodyPost_ret (v := .tuple #[.agg R, .int .i64 E]) (by simp [results, Try.results14, asAddr, Result.andThen, hld]) rfl ?_
  exact FF.out
end Go.Proofs.Ytpmoidpncpfnlaa
