import Derived.Test.YtflplliiamodhaaRows
import Derived.WalkKit
import Derived.OpenShut
import Derived.Deep.SlicePairs
import Derived.Test.YtflplliiamodhaaZCallsW
/- An argument that is a slice of structs of four int64s. -/
namespace Go.Proofs.Ytflplliiamodhaa
open Go.ChangeShapes Go.WideShapes Go.RowKit Go.Deep
set_option linter.unusedVariables false

section
variable {H : Type} {enc : TypeId × Value → H} {P : Program} {w : World} {base : Nat} {spare : Nat → Bool} {held : Bool}
theorem quads_open {t e : TypeId} {f0 f1 f2 f3 : Field} {a : Option Addr} {len cap : Nat} {d : DataW H} {p : List MemPlace} (ht : P.underlying t = some (.slice e)) (he : P.underlying e = some (.struct #[f0, f1, f2, f3]))
    (ce : P.cellsOf e = 4) (o0 : f0.offset = 0) (o1 : f1.offset = 1) (o2 : f2.offset = 2) (o3 : f3.offset = 3) (c0 : P.cellsOf f0.type = 1) (c1 : P.cellsOf f1.type = 1) (c2 : P.cellsOf f2.type = 1) (c3 : P.cellsOf f3.type = 1)
    (t0 : P.underlying f0.type = some (.int .i64)) (t1 : P.underlying f1.type = some (.int .i64)) (t2 : P.underlying f2.type = some (.int .i64)) (t3 : P.underlying f3.type = some (.int .i64))
    (h : DataW.Trod enc P w base spare held t (.slice a len cap) d p) :
    ∃ l : List (Int × Int × Int × Int), l.length = len ∧ (∀ j, j < l.length → ∃ b off, a = some ⟨b, off, none⟩ ∧ w.cell? ⟨b, off + j * 4, none⟩ = some (.int .i64 (l.getD j (0, 0, 0, 0)).1) ∧ w.cell? ⟨b, off + j * 4 + 1, none⟩ = some (.int .i64 (l.getD j (0, 0, 0, 0)).2.1) ∧ w.cell? ⟨b, off + j * 4 + 2, none⟩ = some (.int .i64 (l.getD j (0, 0, 0, 0)).2.2.1) ∧ w.cell? ⟨b, off + j * 4 + 3, none⟩ = some (.int .i64 (l.getD j (0, 0, 0, 0)).2.2.2)) ∧
      (∀ q ∈ l, (Lit.int .i64 q.1).wf = true ∧ (Lit.int .i64 q.2.1).wf = true ∧ (Lit.int .i64 q.2.2.1).wf = true ∧ (Lit.int .i64 q.2.2.2).wf = true) ∧ len ≤ cap ∧ cap ≤ maxLen ∧ (a = none → cap = 0) := by
  obtain ⟨fuel, hf⟩ := h
  rcases open_slice ht hf with ⟨hcs, _⟩ | ⟨x, l, c, m, n, D, Pl, hcs, hb, hl, hm, hmm, _, hx⟩
  · simp [Value.cells] at hcs
    obtain ⟨rfl, rfl, rfl⟩ := hcs
    exact ⟨[], rfl, fun j hj => by simp at hj, fun q hq => by simp at hq, Nat.le_refl _, Nat.zero_le _, fun _ => rfl⟩
  · simp [Value.cells] at hcs
    obtain ⟨rfl, rfl, rfl⟩ := hcs
    have hlm : len ≤ m := by rw [hmm]; split <;> omega
    have each : ∀ i, i < len → ∃ y : Int × Int × Int × Int, w.cell? (x.add (i * 4)) = some (.int .i64 y.1) ∧ w.cell? (x.add (i * 4 + 1)) = some (.int .i64 y.2.1) ∧ w.cell? (x.add (i * 4 + 2)) = some (.int .i64 y.2.2.1) ∧ w.cell? (x.add (i * 4 + 3)) = some (.int .i64 y.2.2.2) ∧
        (Lit.int .i64 y.1).wf = true ∧ (Lit.int .i64 y.2.1).wf = true ∧ (Lit.int .i64 y.2.2.1).wf = true ∧ (Lit.int .i64 y.2.2.2).wf = true := fun i hil => by
      obtain ⟨cs', h1, h2⟩ := hx i (by omega)
      rw [ce] at h1
      obtain ⟨_, hlen, hcell⟩ := World.cells?_some h1
      obtain ⟨xs, k, hk, hxy, _, hxl, hff⟩ := DataW.trod_struct he h2
      match xs, hxl, cs', hlen with
      | [y0, y1, y2, y3], _, [v0, v1, v2, v3], _ =>
        have g0 := hff 0 f0 rfl
        have g1 := hff 1 f1 rfl
        have g2 := hff 2 f2 rfl
        have g3 := hff 3 f3 rfl
        simp [o0, o1, o2, o3, c0, c1, c2, c3] at g0 g1 g2 g3
        have e0 := hcell 0 (by omega)
        have e1 := hcell 1 (by omega)
        have e2 := hcell 2 (by omega)
        have e3 := hcell 3 (by omega)
        rw [add_add] at e0 e1 e2 e3
        obtain ⟨z0, ez0, _, w0⟩ := DataW.trod_int t0 g0
        obtain ⟨z1, ez1, _, w1⟩ := DataW.trod_int t1 g1
        obtain ⟨z2, ez2, _, w2⟩ := DataW.trod_int t2 g2
        obtain ⟨z3, ez3, _, w3⟩ := DataW.trod_int t3 g3
        simp at ez0 ez1 ez2 ez3
        subst ez0 ez1 ez2 ez3
        exact ⟨(z0, z1, z2, z3), by simpa using e0, by simpa using e1, by simpa using e2, by simpa using e3, w0, w1, w2, w3⟩
    obtain ⟨Y, hY⟩ := choose_lt each
    have hg : ∀ j, j < len → ((List.range len).map Y).getD j (0, 0, 0, 0) = Y j := fun j hj => by
      rw [List.getD_eq_getElem?_getD, List.getElem?_map, List.getElem?_range hj]; rfl
    refine ⟨(List.range len).map Y, by simp, fun j hj => ?_, fun q hq => ?_, hl, hm, fun e => by simp at e⟩
    · simp only [List.length_map, List.length_range] at hj
      obtain ⟨b, off, spot⟩ := x
      have hspot : spot = none := by simpa [Addr.add] using World.cell?_spot (hY 0 (by omega)).1
      subst hspot
      obtain ⟨q0, q1, q2, q3, -⟩ := hY j hj
      rw [Go.WideShapes.add_plain] at q0 q1 q2 q3
      rw [hg j hj]
      exact ⟨b, off, rfl, q0, by rw [Nat.add_assoc]; exact q1, by rw [Nat.add_assoc]; exact q2, by rw [Nat.add_assoc]; exact q3⟩
    · obtain ⟨j, hj, rfl⟩ := List.mem_map.1 hq
      exact (hY j (List.mem_range.1 hj)).2.2.2.2
end
end Go.Proofs.Ytflplliiamodhaa

/- ClockCalls, for every input. -/
namespace Go.Proofs.Ytflplliiamodhaa
open Go.RowKit
theorem clkcalls_any (r tr t : Int) (x : Option Addr) (xc : Nat) (A : List Sm) (w : World) (hx : QuadRow w x A) :
    Calls Try.prog 3 #[.int .i64 r, .int .i64 tr, .slice x A.length xc, .int .i64 t] w fun e w' => e = .returned (.bool true) ∧ Below w.heap.size w w' := by
  by_cases h : (60 : Int) < (A.length : Int)
  · exact calls_out r tr t x A.length xc w h
  · by_cases hn : newOk r tr
    · exact calls_any r tr t x xc A w hx (by omega) hn
    · exact calls_no r tr t x A.length xc w h hn
end Go.Proofs.Ytflplliiamodhaa
