/- hist.Add: of gen_add05.py. -/
import Derived.Test.YtpmoidpncpfnlaaHistC
import Derived.Great.BuildSlice
namespace Go.Proofs.Ytpmoidpncpfnlaa
open Go.RowKit
set_option linter.unusedVariables false
set_option linter.unusedSimpArgs false

theorem yieldsIf_row {P : Program} {ops : Array Oper} {S : World → Prop} {op : Oper} {a : Act} (hw : Region.wanted op (yielded ops a.tmps) = true) (ty : TypeId) (x : Operand) (ho : op.op = .load ty x)
    (g : Nat) (hx : a.eval x = .pointer (some ⟨g, 0, none⟩)) {t : TypeId} {fr : Nat × Nat} {d : TypeDesc} (cs : Array Value) (hS : ∀ w, S w → w.heap[g]? = some (.cells cs t fr))
    (hu : P.underlying ty = some d) (hd : (match d with | .struct _ | .array _ _ => true | _ => false) = true) (hi : (P.info? ty).map (·.size) = some cs.size) : YieldsIf P ops S op (.agg cs) a :=
  .inl ⟨hw, fun w hw' => by
    unfold execOp
    simp only [ho, hx, Instr.loadAt, Instr.sureAddr, Sem.run_bind, Sem.run_pure, Result.andThen_ok, run_loadVar_row w g t ty cs fr d (hS w hw') hu hd hi]⟩
theorem rows2 {w : World} {g : Nat} {t : TypeId} {fr : Nat × Nat} {l m : List Int} (h1 : l.length = 65) (h2 : m.length = 65) (hb : w.heap[g]? = some (.cells (hC l ++ hC m) t fr)) : RowsAt w (some ⟨g, 0, none⟩) [l, m] := fun j hj => ⟨g, 0, rfl, fun i v hv => by
  rw [cell_of_row w g _ _ t fr hb]
  have hl1 := hC_size l
  have hlen : j = 0 ∨ j = 1 := by simp at hj; omega
  rcases hlen with rfl | rfl
  · have e : ([l, m].getD 0 []) = l := rfl
    rw [e, Array.getElem?_toList] at hv
    have hi : i < (hC l).size := by
      rcases Nat.lt_or_ge i (hC l).size with h | h
      · exact h
      · rw [Array.getElem?_eq_none h] at hv; cases hv
    rw [Array.getElem?_append_left (by omega)]
    rw [← hv]; congr 1; omega
  · have e : ([l, m].getD 1 []) = m := rfl
    rw [e, Array.getElem?_toList] at hv
    rw [Array.getElem?_append_right (by omega), ← hv]
    congr 1; omega⟩
theorem all2 {l m : List Int} (h1 : l.length = 65) (h2 : m.length = 65) : All65 [l, m] := fun j hj => by
  have hlen : j = 0 ∨ j = 1 := by simp at hj; omega
  rcases hlen with rfl | rfl
  · exact h1
  · exact h2
theorem fill2 {C D cells : Array Value} (h1 : C.size = 65) (h2 : D.size = 65) (hc : cells.size = 130) : Instr.fill (fun i => some (i * 65, 65)) cells [(0, .agg C), (1, .agg D)] = some (C ++ D) := by
  have h := Great.fill_whole (s := 65) (by decide) [.agg C, .agg D] cells (fun v hv => by
    simp at hv
    rcases hv with rfl | rfl
    · exact h1
    · exact h2) (by rw [hc]; rfl)
  refine Eq.trans (Eq.trans (by rfl) h) ?_
  congr 1
  apply Array.ext'
  simp [Value.cells]
theorem in2 {l m : List Int} (h1 : ∀ b, b < 65 → InI (l.getD b 0)) (h2 : ∀ b, b < 65 → InI (m.getD b 0)) : ∀ j b, j < [l, m].length → b < 65 → InI (([l, m].getD j []).getD b 0) := fun j b hj hb => by
  have hlen : j = 0 ∨ j = 1 := by simp at hj; omega
  rcases hlen with rfl | rfl
  · exact h1 b hb
  · exact h2 b hb
theorem cntL_in (l : List Int) (h : l.length ≤ 4000000000) (b : Nat) (hb : b < 65) : InI ((cntL l).getD b 0) := by
  have := cntL_le l b hb
  unfold InI
  omega
theorem mgOut_len {L : List (List Int)} {l : List Int} {E : Int} (h : Hid ((negP L ∧ l = zeros65 ∧ E = 10) ∨ (¬ negP L ∧ overP L ∧ l = zeros65 ∧ E = 12) ∨ (¬ negP L ∧ ¬ overP L ∧ l = sumR L ∧ E = 0))) : l.length = 65 := by
  rcases h.out with ⟨_, rfl, _⟩ | ⟨_, _, rfl, _⟩ | ⟨_, _, rfl, _⟩
  · exact zeros65_len
  · exact zeros65_len
  · exact sumR_len _
end Go.Proofs.Ytpmoidpncpfnlaa
