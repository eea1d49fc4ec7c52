/- An argument that is a slice of structs of two int64s. -/
import Derived.Test.YtflplliiamodhaaRows
import Derived.WalkKit
import Derived.OpenShut
import Derived.Deep.SlicePairs
namespace Go.Proofs.Ytflplliiamodhaa
open Go.ChangeShapes Go.WideShapes Go.RowKit
set_option linter.unusedVariables false

section
variable {H : Type} {enc : TypeId × Value → H} {P : Program} {w : World} {base : Nat} {spare : Nat → Bool} {held : Bool}
theorem pairs_open {t e : TypeId} {f0 f1 : Field} {i64 : TypeId} {a : Option Addr} {len cap : Nat} {d : DataW H} {p : List MemPlace} (ht : P.underlying t = some (.slice e)) (he : P.underlying e = some (.struct #[f0, f1]))
    (ce : P.cellsOf e = 2) (o0 : f0.offset = 0) (o1 : f1.offset = 1) (c0 : P.cellsOf f0.type = 1) (c1 : P.cellsOf f1.type = 1) (t0 : f0.type = i64) (t1 : f1.type = i64) (hi : P.underlying i64 = some (.int .i64))
    (h : DataW.Trod enc P w base spare held t (.slice a len cap) d p) :
    ∃ l : List (Int × Int), l.length = len ∧ (∀ j, j < l.length → ∃ b off, a = some ⟨b, off, none⟩ ∧ w.cell? ⟨b, off + j * 2, none⟩ = some (.int .i64 (l.getD j (0, 0)).1) ∧ w.cell? ⟨b, off + j * 2 + 1, none⟩ = some (.int .i64 (l.getD j (0, 0)).2)) ∧
      (∀ q ∈ l, (Lit.int .i64 q.1).wf = true ∧ (Lit.int .i64 q.2).wf = true) ∧ len ≤ cap ∧ cap ≤ maxLen ∧ (a = none → cap = 0) := by
  obtain ⟨fuel, hf⟩ := h
  rcases Go.Deep.open_slice_pairs ht he ce o0 o1 c0 c1 hf with ⟨hcs, _⟩ | ⟨x, l, c, m, n, V0, V1, D0, D1, P0, P1, hcs, _, hl, hm, hmm, _, hx⟩
  · simp [Value.cells] at hcs
    obtain ⟨rfl, rfl, rfl⟩ := hcs
    exact ⟨[], rfl, fun j hj => by simp at hj, fun q hq => by simp at hq, Nat.le_refl _, Nat.zero_le _, fun _ => rfl⟩
  · simp [Value.cells] at hcs
    obtain ⟨rfl, rfl, rfl⟩ := hcs
    have hlm : len ≤ m := by rw [hmm]; split <;> omega
    have each : ∀ i, i < len → ∃ y z : Int, w.cell? (x.add (i * 2)) = some (.int .i64 y) ∧ w.cell? (x.add (i * 2 + 1)) = some (.int .i64 z) ∧ (Lit.int .i64 y).wf = true ∧ (Lit.int .i64 z).wf = true := fun i hil => by
      obtain ⟨g0, g1, k0, k1⟩ := hx i (by omega)
      rw [t0] at k0
      rw [t1] at k1
      obtain ⟨y, ey, _, wy⟩ := DataW.trod_int hi k0
      obtain ⟨z, ez, _, wz⟩ := DataW.trod_int hi k1
      simp at ey ez
      exact ⟨y, z, by rw [g0, ey], by rw [g1, ez], wy, wz⟩
    obtain ⟨Y, hY⟩ : ∃ Y : Nat → Int × Int, ∀ i, i < len → w.cell? (x.add (i * 2)) = some (.int .i64 (Y i).1) ∧ w.cell? (x.add (i * 2 + 1)) = some (.int .i64 (Y i).2) ∧ (Lit.int .i64 (Y i).1).wf = true ∧ (Lit.int .i64 (Y i).2).wf = true := by
      refine ⟨fun i => if h : i < len then ((each i h).choose, (each i h).choose_spec.choose) else (0, 0), fun i h => ?_⟩
      simp only [dif_pos h]
      exact (each i h).choose_spec.choose_spec
    have hg : ∀ j, j < len → ((List.range len).map Y).getD j (0, 0) = Y j := fun j hj => by
      rw [List.getD_eq_getElem?_getD, List.getElem?_map, List.getElem?_range hj]; rfl
    refine ⟨(List.range len).map Y, by simp, fun j hj => ?_, fun q hq => ?_, hl, hm, fun e => by simp at e⟩
    · simp only [List.length_map, List.length_range] at hj
      obtain ⟨b, off, spot⟩ := x
      have hspot : spot = none := by simpa [Addr.add] using World.cell?_spot (hY 0 (by omega)).1
      subst hspot
      obtain ⟨q0, q1, -, -⟩ := hY j hj
      rw [Go.WideShapes.add_plain] at q0 q1
      rw [hg j hj]
      exact ⟨b, off, rfl, q0, by rw [Nat.add_assoc]; exact q1⟩
    · obtain ⟨j, hj, rfl⟩ := List.mem_map.1 hq
      exact ⟨(hY j (List.mem_range.1 hj)).2.2.1, (hY j (List.mem_range.1 hj)).2.2.2⟩
end
end Go.Proofs.Ytflplliiamodhaa
