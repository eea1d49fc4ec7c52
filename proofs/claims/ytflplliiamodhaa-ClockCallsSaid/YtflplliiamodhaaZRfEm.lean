import Derived.Test.YtflplliiamodhaaZRfD
import Derived.Test.YtflplliiamodhaaZSRefG
import Derived.Test.YtflplliiamodhaaZClkH
/- What the reference.s Add stands on. -/
namespace Go.Proofs.Ytflplliiamodhaa
open Go.RowKit
set_option linter.unusedVariables false
set_option linter.unusedSimpArgs false

theorem info_sm3 : (Try.prog.info? 35).map (fun i => (i.zero, i.size, i.bytes)) = some (some (.agg #[.int .i64 0, .int .i64 0, .int .i64 0, .int .i64 0]), 4, 32) := by kernel_rfl
theorem wp_appendQuads {P : Program} {o : Oper} {a : Act} {w : World} {K : Act → World → Prop} {Q : Exit → Act → World → Prop} (s x : Operand) (t : TypeId)
    (ho : o.op = .call { callee := .builtin .append, args := #[s, x], argTypes := #[t, t] })
    (w0 : World) (e : TypeId) (i : TypeInfo) (z : Value) (bytes : Nat) (ht : P.underlying t = some (.slice e)) (hi : P.info? e = some i) (hz : i.zero = some z)
    (hsize : i.size = 4) (hby : i.bytes = bytes) (hzs : z.cells.size = 4)
    (v : Value) (n : Nat) (xs : List Value) (hs : a.eval s = v) (hown : w.ownsRow w0.heap.size e 4 v n xs)
    (A : Option Addr) (c : Nat) (l : List Sm) (hx : a.eval x = .slice A l.length c) (hA : A = none → c = 0) (hr : QuadRow w A l)
    (h63 : n + l.length ≤ maxLen) (hbytes : (n + l.length) * bytes ≤ 140737488355328) (hb : Below w0.heap.size w0 w)
    (h : ∀ v' w', w'.ownsRow w0.heap.size e 4 v' (n + l.length) (xs ++ cells4 l) → Below w0.heap.size w0 w' → w.heap.size ≤ w'.heap.size → w.grownBy w' v.ownBlock → K (a.put o.dst v') w') : o.wp P a w K Q := by
  rcases A with _ | ad
  · have hl : l = [] := by
      cases l with
      | nil => rfl
      | cons y ys => obtain ⟨_, _, e1, _⟩ := hr 0 (by simp); cases e1
    subst hl
    have hrun := run_append_owned_none (P := P) (w := w) w0.heap.size t o.type e i 4 ht hi v n xs hown
    have hx' : a.eval x = .slice none 0 0 := by rw [hx, hA rfl]; rfl
    have h1 := h v w (by simpa [cells4] using hown) hb (Nat.le_refl _) ⟨rfl, rfl, rfl, Nat.le_refl _, fun _ _ _ => rfl⟩
    unfold Oper.wp
    simp [execOp, ho, resolve, invoke, builtin, hs, hx', hrun, Result.andThen]
    exact h1
  · refine wp_append_own w s x t ho w0.heap.size e i z 4 bytes ht hi hz hsize hby hzs (by decide) v n xs hs hown ad l.length c (cells4 l) hx (cells4_len l) ?_ (fun u hu => cells4_one_cell hu) h63 hbytes hb.size ?_
    · intro j u hj
      have hjl : j < l.length * 4 := by
        have := (List.getElem?_eq_some_iff.1 hj).1
        rwa [cells4_len] at this
      obtain ⟨i, k, hk, rfl⟩ : ∃ i k, k < 4 ∧ j = i * 4 + k := ⟨j / 4, j % 4, by omega, by omega⟩
      have hi : i < l.length := by omega
      rw [cells4_at l i hi k hk] at hj
      obtain ⟨b, off, e1, c1, c2, c3, c4⟩ := hr i hi
      cases e1
      rw [Addr.add_lit, ← hj, ← Nat.add_assoc]
      match k, hk with
      | 0, _ => exact c1
      | 1, _ => exact c2
      | 2, _ => exact c3
      | 3, _ => exact c4
    · intro v' w' hown' hgrow _
      exact h v' w' hown' (hb.grown hgrow hb.size (fun j hj => (hown.lt j hj).1)) hgrow.size hgrow
theorem QuadRow.drop1 {w : World} {b off : Nat} {l : List Sm} (h : QuadRow w (some ⟨b, off, none⟩) l) : QuadRow w (some ⟨b, off + 4, none⟩) (l.drop 1) := fun j hj => by
  rw [List.length_drop] at hj
  obtain ⟨b', off', e, h1, h2, h3, h4⟩ := h (1 + j) (by omega)
  cases e
  have g : (l.drop 1).getD j smZ = l.getD (1 + j) smZ := by
    simp only [List.getD_eq_getElem?_getD, List.getElem?_drop]
  rw [g]
  refine ⟨b, off + 4, rfl, ?_, ?_, ?_, ?_⟩
  · rw [show off + 4 + j * 4 = off + (1 + j) * 4 by omega]; exact h1
  · rw [show off + 4 + j * 4 + 1 = off + (1 + j) * 4 + 1 by omega]; exact h2
  · rw [show off + 4 + j * 4 + 2 = off + (1 + j) * 4 + 2 by omega]; exact h3
  · rw [show off + 4 + j * 4 + 3 = off + (1 + j) * 4 + 3 by omega]; exact h4
theorem QuadRow.set {w : World} {g i : Nat} {u : Value} {a : Option Addr} {l : List Sm} (h : QuadRow w a l) (hg : ∀ b o, a = some ⟨b, o, none⟩ → b ≠ g) : QuadRow (w.setCell ⟨g, i, none⟩ u) a l := fun j hj => by
  obtain ⟨b, off, e, h1, h2, h3, h4⟩ := h j hj
  have hb := hg b off e
  have key : ∀ {o : Nat} {v : Value}, w.cell? ⟨b, o, none⟩ = some v → (w.setCell ⟨g, i, none⟩ u).cell? ⟨b, o, none⟩ = some v := fun {o v} h => by
    rw [World.cell?_of_block (Below.heap_setCell _ ⟨g, i, none⟩ u b hb)]
    exact h
  exact ⟨b, off, e, key h1, key h2, key h3, key h4⟩
/-- a's block is the old one, or a new one -/
def FrA (s : Sm) (a a' : Option Addr) (w : World) : Prop := (rgtS s = false ∧ a' = a) ∨ (∀ b o, a' = some ⟨b, o, none⟩ → w.heap.size ≤ b)
def noV : Value := .slice none 0 0
theorem noV_own (k : Nat) : noV.ownBlock ≠ some k := by simp [noV, Value.ownBlock]
def RkAddOut (g : Nat) (a : Option Addr) (c : Ck) (s : Sm) (w : World) (e : Ending) (w' : World) : Prop := ∃ a' cap', e = .returned (.int .i64 (addC c s).1) ∧ RkO w' g a' cap' (addC c s).2 ∧ KpC g noV w w' ∧ FrA s a a' w ∧ (∀ b o, a' = some ⟨b, o, none⟩ → b ≠ g)
theorem RkO.setStreak {w : World} {g cap : Nat} {a : Option Addr} {c : Ck} (h : RkO w g a cap c) (hg : ∀ b o, a = some ⟨b, o, none⟩ → b ≠ g) (k : Int) : RkO (w.setCell ⟨g, 3, none⟩ (.int .i64 k)) g a cap { c with streak := k } := ⟨h.1.set 3 _, h.2.1.set hg, h.2.2⟩
theorem RkO.setHeld {w : World} {g cap : Nat} {a : Option Addr} {c : Ck} (h : RkO w g a cap c) (hg : ∀ b o, a = some ⟨b, o, none⟩ → b ≠ g) (k : Bool) : RkO (w.setCell ⟨g, 2, none⟩ (.bool k)) g a cap { c with held := k } := ⟨h.1.set 2 _, h.2.1.set hg, h.2.2⟩
theorem RkO.setRow {w : World} {g n cap : Nat} {x : Value} {a : Option Addr} {c : Ck} {L : List Sm} (h : Kept w g #[.int .i64 c.rho, .int .i64 c.need, .bool c.held, .int .i64 c.streak, x] 81) (hn : L.length = n) (hq : QuadRow w a L) (ha : a = none → cap = 0) (hg : ∀ b o, a = some ⟨b, o, none⟩ → b ≠ g) : RkO (w.setCell ⟨g, 4, none⟩ (.slice a n cap)) g a cap { c with L := L } := by
  subst hn
  exact ⟨h.set 4 _, hq.set hg, ha⟩
theorem agree_of_gaps (L : List Sm) (t r : Int) : ∀ p ∈ gapsS L t r, InP p := fun p hp => by
  obtain ⟨s, _, rfl⟩ := List.mem_map.1 hp
  unfold gapS
  split
  · rename_i h
    have h1 := gapS_right (s := s) (t := t) (r := r)
    have h2 : (gapS s t r).1 ≤ (gapS s t r).2 := of_decide_eq_true (by rw [h1]; exact decide_eq_true h)
    have h3 := gapS_in h2
    unfold gapS at h2 h3
    rw [if_pos h] at h2 h3
    unfold InP InI
    dsimp only at *
    omega
  · unfold InP InI
    dsimp only
    omega
end Go.Proofs.Ytflplliiamodhaa
