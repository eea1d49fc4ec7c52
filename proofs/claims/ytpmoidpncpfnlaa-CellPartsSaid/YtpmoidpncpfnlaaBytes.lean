/- noonmarkref00: CopyBytes, SameBytes: for every list; lists of bytes in memory. -/
import Derived.Test.YtpmoidpncpfnlaaKeep
namespace Go.Proofs.Ytpmoidpncpfnlaa
open Go.RowKit
set_option linter.unusedVariables false

theorem IntRow.ownK {w : World} {base e n : Nat} {v : Value} {k : IntKind} {d : List Int} (h : w.ownsRow base e 1 v n (d.map (Value.int k))) : ∃ a cap, v = .slice a n cap ∧ d.length = n ∧ n ≤ cap ∧ cap ≤ 9223372036854775807 ∧ (a = none → cap = 0) ∧ IntRow w a k d := by
  have hl : d.length = n := by have := h.1; simpa using this
  rcases h.2 with ⟨rfl, h0⟩ | ⟨g, cap, cur, rfl, hb, hh, h1, h2, h3, h4⟩
  · exact ⟨none, 0, by rw [h0], hl, by omega, by omega, fun _ => rfl, fun j hj => by omega⟩
  · refine ⟨_, cap, rfl, hl, h1, h2, fun e => by simp at e, fun j hj => ⟨g, 0, rfl, ?_⟩⟩
    rw [Nat.zero_add, h.cellAt j (by omega)]
    simp [List.getD_eq_getElem?_getD, List.getElem?_eq_getElem hj]
/-- a slice whose elements are these bytes -/
def BytesAt (w : World) (v : Value) (l : List Int) : Prop := ∃ a c, v = .slice a l.length c ∧ (a = none → c = 0) ∧ l.length ≤ c ∧ c ≤ 9223372036854775807 ∧ IntRow w a .u8 l
theorem BytesAt.below {w w' : World} {v : Value} {l : List Int} (h : BytesAt w v l) (hb : Below w.heap.size w w') : BytesAt w' v l := by
  obtain ⟨a, c, h1, h2, h3, h4, h5⟩ := h
  exact ⟨a, c, h1, h2, h3, h4, h5.below hb⟩
theorem BytesAt.drewN {w : World} {v : Value} {l : List Int} (h : BytesAt w v l) (n : Nat) : BytesAt (w.drewN n) v l := by
  obtain ⟨a, c, h1, h2, h3, h4, h5⟩ := h
  exact ⟨a, c, h1, h2, h3, h4, h5⟩
theorem BytesAt.own {w : World} {base e n : Nat} {v : Value} {d : List Int} (h : w.ownsRow base e 1 v n (d.map (Value.int .u8))) : BytesAt w v d := by
  obtain ⟨a, cap, e1, e2, e3, e4, e5, e6⟩ := IntRow.ownK h
  subst e2
  exact ⟨a, cap, e1, e5, e3, e4, e6⟩
theorem BytesAt.nil (w : World) : BytesAt w (.slice none 0 0) [] := ⟨none, 0, rfl, fun _ => rfl, Nat.le_refl _, by omega, fun j hj => by simp at hj⟩
/-- what a call leaves that answers a new list of integers -/
def IntsOut (k : IntKind) (l : List Int) (w : World) (e : Ending) (w' : World) : Prop := ∃ v, e = .returned v ∧ w'.ownsRow w.heap.size 5 1 v l.length (l.map (Value.int k)) ∧ Below w.heap.size w w'
theorem info_uint8 : (Try.prog.info? 5).map (fun i => (i.zero, i.size, i.bytes)) = some (some (.int .u8 0), 1, 1) := by kernel_rfl
def SameRel (l m : List Int) (w : World) (i : Value) (wr : World) : Prop := ∃ k n : Nat, k ≤ l.length ∧ i = .int .i64 k ∧ Hid (∀ j, j < k → l.getD j 0 = m.getD j 0) ∧ wr = w.drewN n
def SamePost (l m : List Int) (w : World) (e : Ending) (w' : World) : Prop := e = .returned (.bool (decide (l = m))) ∧ ∃ n, w' = w.drewN n
end Go.Proofs.Ytpmoidpncpfnlaa
