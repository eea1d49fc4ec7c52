/- An argument that is a slice of arrays of integers. -/
import Derived.Test.YtldgdedfioigiaaArr
import Derived.DataReads
namespace Go.Proofs.Ytldgdedfioigiaa
open Go.ChangeShapes Go.WideShapes Go.ChangeAt Go.RowKit Go.Joins
set_option linter.unusedVariables false

theorem arrs_open {H : Type} {enc : TypeId × Value → H} {P : Program} {w : World} {base : Nat} {sp : Nat → Bool} {held : Bool} {t e i64 : TypeId} {n : Nat} {k : IntKind} {a : Option Addr} {len cap : Nat} {d : DataW H} {p : List MemPlace}
    (hn : 0 < n) (ht : P.underlying t = some (.slice e)) (he : P.underlying e = some (.array n i64)) (hi : P.underlying i64 = some (.int k)) (ce : P.cellsOf e = n) (ci : P.cellsOf i64 = 1)
    (h : DataW.Trod enc P w base sp held t (.slice a len cap) d p) :
    ∃ L : List (List Int), L.length = len ∧ (∀ j, j < L.length → (L.getD j []).length = n) ∧
      (∀ j, j < L.length → ∃ b off, a = some ⟨b, off, none⟩ ∧ ∀ i, i < n → w.cell? ⟨b, off + j * n + i, none⟩ = some (.int k ((L.getD j []).getD i 0)) ∧ (Lit.int k ((L.getD j []).getD i 0)).wf = true) ∧
      len ≤ cap ∧ cap ≤ maxLen ∧ (a = none → cap = 0) := by
  obtain ⟨fuel, hf⟩ := h
  rcases DataW.trod_slice ht hf with ⟨hcs, _⟩ | ⟨x, l, c, elems, rest, m, _, hcs, _, hb, hl, hm, hel, hx, _, _⟩
  · simp [Value.cells] at hcs
    obtain ⟨rfl, rfl, rfl⟩ := hcs
    exact ⟨[], rfl, fun j hj => by simp at hj, fun j hj => by simp at hj, Nat.le_refl _, Nat.zero_le _, fun _ => rfl⟩
  · simp [Value.cells] at hcs
    obtain ⟨rfl, rfl, rfl⟩ := hcs
    have each : ∀ j, j < len → ∀ i, i < n → ∃ z : Int, w.cell? ((x.add (j * n)).add i) = some (.int k z) ∧ (Lit.int k z).wf = true := fun j hj i hin => by
      have h1 := hx j hj
      obtain ⟨y, hy⟩ : ∃ y, elems[j]? = some y := ⟨_, List.getElem?_eq_getElem (by omega)⟩
      rw [hy, ce, Option.bind_eq_some_iff] at h1
      obtain ⟨cs, h2, h3⟩ := h1
      obtain ⟨xs, m', rfl, hx', hl', hxl, hi'⟩ := DataW.trod_array he h3
      have h4 := hi' i hin
      rw [ci, Nat.mul_one] at h4
      obtain ⟨y', hy'⟩ : ∃ y, xs[i]? = some y := ⟨_, List.getElem?_eq_getElem (by omega)⟩
      rw [hy'] at h4
      obtain ⟨z, e1, -, w1⟩ := DataW.trod_int hi h4
      refine ⟨z, ?_, w1⟩
      have h5 : cs[i]? = some (.int k z) := by
        have : ((cs.drop i).take 1)[0]? = some (.int k z) := by rw [e1]; rfl
        simpa [List.getElem?_take, List.getElem?_drop] using this
      have h6 := World.cells?_some h2
      rw [← h5]
      exact h6.2.2 i hin
    obtain ⟨Y, hY⟩ : ∃ Y : Nat → Nat → Int, ∀ j i, j < len → i < n → w.cell? ((x.add (j * n)).add i) = some (.int k (Y j i)) ∧ (Lit.int k (Y j i)).wf = true := by
      refine ⟨fun j i => if h : j < len ∧ i < n then (each j h.1 i h.2).choose else 0, fun j i hj hi => ?_⟩
      simp only [dif_pos (And.intro hj hi)]
      exact (each j hj i hi).choose_spec
    have g1 : ∀ j, j < len → ((List.range len).map fun j => (List.range n).map (Y j)).getD j [] = (List.range n).map (Y j) := fun j hj => by
      rw [List.getD_eq_getElem?_getD, List.getElem?_map, List.getElem?_range hj]; rfl
    have g2 : ∀ j i, i < n → ((List.range n).map (Y j)).getD i 0 = Y j i := fun j i hi => by
      rw [List.getD_eq_getElem?_getD, List.getElem?_map, List.getElem?_range hi]; rfl
    refine ⟨(List.range len).map fun j => (List.range n).map (Y j), by simp, fun j hj => ?_, fun j hj => ?_, hl, hm, fun e => by simp at e⟩
    · simp only [List.length_map, List.length_range] at hj
      rw [g1 j hj]; simp
    · simp only [List.length_map, List.length_range] at hj
      obtain ⟨b, off, spot⟩ := x
      have hspot : spot = none := by simpa [Addr.add] using World.cell?_spot (hY 0 0 (by omega) hn).1
      subst hspot
      refine ⟨b, off, rfl, fun i hi => ?_⟩
      rw [g1 j hj, g2 j i hi]
      obtain ⟨q0, q1⟩ := hY j i hj hi
      rw [Go.WideShapes.add_plain, Go.WideShapes.add_plain] at q0
      exact ⟨q0, q1⟩
end Go.Proofs.Ytldgdedfioigiaa
