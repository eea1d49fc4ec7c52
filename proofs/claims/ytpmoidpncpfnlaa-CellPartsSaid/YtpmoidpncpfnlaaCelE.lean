/- cell.hists, for every row of cells. -/
import Derived.Test.YtpmoidpncpfnlaaCelD
import Derived.Great.BuildSlice
import Derived.Great.Walk
namespace Go.Proofs.Ytpmoidpncpfnlaa
open Go.RowKit
set_option linter.unusedVariables false
set_option linter.unusedSimpArgs false

def cellsL : List (List Int) → List Value
  | [] => []
  | l :: L => l.map (Value.int .i64) ++ cellsL L
theorem cellsL_append : ∀ L M, cellsL (L ++ M) = cellsL L ++ cellsL M
  | [], M => rfl
  | l :: L, M => by simp [cellsL, cellsL_append L M, List.append_assoc]
theorem cellsL_len : ∀ L : List (List Int), All65 L → (cellsL L).length = L.length * 65
  | [], _ => rfl
  | l :: L, h => by
    have h0 : l.length = 65 := h 0 (by simp)
    have h1 := cellsL_len L (fun j hj => h (j + 1) (by simpa using hj))
    simp [cellsL, h0, h1]; omega
theorem cellsL_at : ∀ (L : List (List Int)), All65 L → ∀ j i, j < L.length → i < 65 → (cellsL L)[j * 65 + i]? = some (.int .i64 ((L.getD j []).getD i 0))
  | [], _, j, i, hj, _ => by simp at hj
  | l :: L, h, 0, i, _, hi => by
    have h0 : l.length = 65 := h 0 (by simp)
    show (l.map (Value.int .i64) ++ cellsL L)[0 * 65 + i]? = some (.int .i64 (l.getD i 0))
    rw [List.getElem?_append_left (by simp; omega), Nat.zero_mul, Nat.zero_add, List.getElem?_map, List.getD_eq_getElem?_getD, List.getElem?_eq_getElem (by omega)]
    rfl
  | l :: L, h, j + 1, i, hj, hi => by
    have h0 : l.length = 65 := h 0 (by simp)
    have h1 := cellsL_at L (fun j hj => h (j + 1) (by simpa using hj)) j i (by simpa using hj) hi
    show (l.map (Value.int .i64) ++ cellsL L)[(j + 1) * 65 + i]? = some (.int .i64 ((L.getD j []).getD i 0))
    rw [List.getElem?_append_right (by simp; omega), ← h1]
    congr 1
    simp [h0]; omega
theorem hC_list (l : List Int) : (hC l).toList = l.map (Value.int .i64) := by simp [hC]
theorem RowsAt.own {w : World} {base e n : Nat} {v : Value} {L : List (List Int)} (h65 : All65 L) (h : w.ownsRow base e 65 v n (cellsL L)) : ∃ a cap, v = .slice a L.length cap ∧ n = L.length ∧ (a = none → cap = 0) ∧ RowsAt w a L := by
  have hl : L.length = n := by have := h.1; rw [cellsL_len L h65] at this; omega
  subst hl
  rcases h.2 with ⟨rfl, h0⟩ | ⟨g, cap, cur, rfl, hb, hh, h1, h2, h3, h4⟩
  · exact ⟨none, 0, by rw [h0], rfl, fun _ => rfl, fun j hj => by omega⟩
  · refine ⟨_, cap, rfl, rfl, fun e => by simp at e, fun j hj => ⟨g, 0, rfl, fun i v hv => ?_⟩⟩
    have hj65 := h65 j hj
    rw [hC_list] at hv
    have hi : i < 65 := by
      have := (List.getElem?_eq_some_iff.1 hv).1
      rw [List.length_map] at this
      omega
    rw [Nat.zero_add, h.cellAt (j * 65 + i) (by omega), cellsL_at L h65 j i hj hi, ← hv]
    rw [List.getElem?_map, List.getD_eq_getElem?_getD, List.getElem?_eq_getElem (by omega)]
    rfl
theorem info_hist : (Try.prog.info? 27).map (fun i => (i.zero, i.size, i.bytes)) = some (some (.agg (hC zeros65)), 65, 520) := by kernel_rfl
theorem info_parts65 {P : Program} {t : TypeId} {z : Value} {s b : Nat} (h : (P.info? t).map (fun i => (i.zero, i.size, i.bytes)) = some (some z, s, b)) : ∃ i, P.info? t = some i ∧ i.zero = some z ∧ i.size = s ∧ i.bytes = b := by
  obtain ⟨i, h1, h2⟩ := Option.map_eq_some_iff.1 h
  simp only [Prod.mk.injEq] at h2
  exact ⟨i, h1, h2.1, h2.2.1, h2.2.2⟩
theorem wpList_appendArr {P : Program} {ops : Array Oper} {rest : List Oper} {o : Oper} {a : Act} {w : World} {Q : Exit → Act → World → Prop} (hgd : o.guard = none) (s x : Operand) (t : TypeId)
    (ho : o.op = .call { callee := .builtin .append, args := #[s, x], argTypes := #[t, t] })
    (w0 : World) (e : TypeId) (i : TypeInfo) (z : Value) (bytes : Nat) (ht : P.underlying t = some (.slice e)) (hi : P.info? e = some i) (hz : i.zero = some z)
    (hsize : i.size = 65) (hby : i.bytes = bytes) (hzs : z.cells.size = 65)
    (v : Value) (n : Nat) (xs : List Value) (hs : a.eval s = v) (hown : w.ownsRow w0.heap.size e 65 v n xs)
    (g : Nat) (l : List Int) (T : TypeId) (hl : l.length = 65) (hx : a.eval x = .slice (some ⟨g, 0, none⟩) 1 1) (hk : Kept w g (hC l) T)
    (h63 : n + 1 ≤ maxLen) (hbytes : (n + 1) * bytes ≤ 140737488355328) (hb : Below w0.heap.size w0 w)
    (h : ∀ v' w', w'.ownsRow w0.heap.size e 65 v' (n + 1) (xs ++ l.map (Value.int .i64)) → Below w0.heap.size w0 w' → wpList P ops Q rest (a.put o.dst v') w') : wpList P ops Q (o :: rest) a w := by
  refine wpList_plain hgd fun K hK => ?_
  refine wp_append_own w s x t ho w0.heap.size e i z 65 bytes ht hi hz hsize hby hzs (by decide) v n xs hs hown ⟨g, 0, none⟩ 1 1 (l.map (Value.int .i64)) hx (by simp [hl]) ?_ ?_ h63 hbytes hb.size ?_
  · intro j u hj
    have e2 : (⟨g, 0, none⟩ : Addr).add j = ⟨g, j, none⟩ := by
      unfold Addr.add
      split
      · subst_vars; rfl
      · simp
    rw [e2]
    have := hk.at_ j
    rw [← hC_list, Array.getElem?_toList] at hj
    rw [hj] at this
    exact this.1
  · intro u hu
    obtain ⟨y, _, rfl⟩ := List.mem_map.1 hu
    rfl
  · intro v' w' hown' hgrow _
    exact hK _ _ (h v' w' hown' (hb.grown hgrow hb.size (fun j hj => (hown.lt j hj).1)))
theorem fill1 {C cells : Array Value} (h1 : C.size = 65) (hc : cells.size = 65) : Instr.fill (fun i => some (i * 65, 65)) cells [(0, .agg C)] = some C := by
  have h := Great.fill_whole (s := 65) (by decide) [.agg C] cells (fun v hv => by
    simp at hv
    rcases hv with rfl
    exact h1) (by rw [hc]; rfl)
  refine Eq.trans (Eq.trans (by rfl) h) ?_
  congr 1
  apply Array.ext'
  simp [Value.cells]
end Go.Proofs.Ytpmoidpncpfnlaa
