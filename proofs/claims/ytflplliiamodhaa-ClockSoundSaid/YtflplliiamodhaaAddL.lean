/- What holds of a clock behind each Add. -/
import Derived.Test.YtflplliiamodhaaAlive
namespace Go.Proofs.Ytflplliiamodhaa
open Go.RowKit
set_option linter.unusedVariables false

/-- a clock of a law: its samples are right, and not too many -/
def CkOk (r t : Int) (k : Nat) (c : Ck) : Prop := c.rho = r ∧ c.need = t ∧ c.L.length ≤ 8 ∧ 0 ≤ c.streak ∧ c.streak ≤ k ∧ ∀ s ∈ c.L, rgtS s = true
theorem pushL_mem {L : List Sm} {s x : Sm} (h : x ∈ pushL L s) : x ∈ L ∨ x = s := by
  have key : x ∈ L ++ [s] := by
    unfold pushL at h
    split at h
    · exact List.mem_of_mem_drop h
    · exact h
  simpa using key
theorem CkOk.add {r t : Int} {k : Nat} {c : Ck} (h : CkOk r t k c) (hk : k ≤ 1000) (s : Sm) : CkOk r t (k + 1) (addC c s).2 := by
  obtain ⟨h1, h2, h3, h4, h5, h6⟩ := h
  cases hr : rgtS s
  · rw [addC_no hr]
    exact ⟨h1, h2, h3, h4, by show c.streak ≤ ((k + 1 : Nat) : Int); omega, h6⟩
  · cases hag : agreeB (gapsS (pushL c.L s) s.2.2.1 c.rho)
    · rw [addC_un hr hag]
      refine ⟨h1, h2, ?_, Int.le_refl _, by show (0 : Int) ≤ ((k + 1 : Nat) : Int); omega, fun x hx => ?_⟩
      · dsimp only; split <;> simp
      · dsimp only at hx
        split at hx
        · have : x = s := by simpa using hx
          rw [this]; exact hr
        · simp at hx
    · rw [addC_yes hr hag]
      have hu : upS c.streak = c.streak + 1 := if_pos (by omega)
      refine ⟨h1, h2, (pushL_len h3).2, by show 0 ≤ upS c.streak; rw [hu]; omega, by show upS c.streak ≤ ((k + 1 : Nat) : Int); rw [hu]; omega, fun x hx => ?_⟩
      rcases pushL_mem hx with h' | rfl
      · exact h6 x h'
      · exact hr
theorem g_neq_self (a b : Int) (w : World) : (binOp .neq 39 (.agg #[.int .i64 a, .int .i64 b]) (.agg #[.int .i64 a, .int .i64 b])).run Try.prog w = .ok (.bool false) w := by
  simp [go_sem]
/-- behind the loop of Adds -/
def AdRel (r t : Int) (g : Nat) (n : Nat) (w : World) (i : Value) (wr : World) : Prop :=
  ∃ (k : Nat) (v : Value) (c : Ck), k ≤ n ∧ i = .int .i64 k ∧ Hid (CkO wr g v c) ∧ Hid (Below w.heap.size w wr) ∧ Hid (∀ k, v.ownBlock = some k → w.heap.size ≤ k) ∧ Hid (CkOk r t k c)
theorem AdRel.next {r t : Int} {g n k : Nat} {w wr W : World} {v v' : Value} {c : Ck} {s : Sm} (hk : k < n) (hn : n ≤ 1000) (hB : Below w.heap.size w wr) (hg : w.heap.size ≤ g) (hV : ∀ k, v.ownBlock = some k → w.heap.size ≤ k) (ho : CkOk r t k c)
    (h1 : CkO W g v' (addC c s).2) (h2 : KpC g v wr W) (h3 : Fr v v' wr) : AdRel r t g n w (.int .i64 ((k : Int) + 1)) W :=
  ⟨k + 1, v', (addC c s).2, hk, rfl, Lib.hid h1, Lib.hid (hB.trans (h2.out hB.size hg hV)), Lib.hid fun j hj => by
    rcases h3 j hj with h | h
    · exact hV j h
    · have := hB.size; omega, Lib.hid (ho.add (by omega) s)⟩
end Go.Proofs.Ytflplliiamodhaa
