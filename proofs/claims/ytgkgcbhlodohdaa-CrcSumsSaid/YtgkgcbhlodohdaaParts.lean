/- An argument that is a slice of slices of bytes. -/
import Derived.Test.YtgkgcbhlodohdaaRefB
import Derived.Deep.Matrix
import Derived.SizedLaws
namespace Go.Proofs.Ytgkgcbhlodohdaa
open Go.ChangeShapes Go.WideShapes Go.RowKit
set_option linter.unusedVariables false

section
variable {H : Type} {enc : TypeId × Value → H} {P : Program} {w : World} {base : Nat} {held : Bool}
theorem weights_all {e : TypeId} {n : Nat} {d : DataW H} (hn : n ∈ d.weights P e) : ∀ {l : List (DataW H)}, d ∈ l → n ∈ DataW.weightsAll P e l
  | [], h => by cases h
  | x :: l, h => by
    simp only [DataW.weightsAll, List.mem_append]
    rcases List.mem_cons.1 h with rfl | h
    · exact .inl hn
    · exact .inr (weights_all hn h)
theorem parts_open {t e q : TypeId} {a : Option Addr} {len cap : Nat} {d : DataW H} {p : List MemPlace} (ht : P.underlying t = some (.slice e)) (he : P.underlying e = some (.slice q)) (hq : P.underlying q = some (.int .u8))
    (ce : P.cellsOf e = 1) (cq : P.cellsOf q = 1) (h : DataW.Trod enc P w base (fun _ => true) held t (.slice a len cap) d p) (hw : ∀ n ∈ d.weights P t, n ≤ reachBytes) (hb1 : P.bytesOf q = 1) :
    ∃ l : List (List Int), l.length = len ∧ PartsRow w a l ∧ (∀ p ∈ l, ByteL p) ∧ (∀ p ∈ l, p.length ≤ 140737488351232) ∧ len ≤ cap ∧ cap ≤ maxLen := by
  obtain ⟨fuel, hf⟩ := h
  rcases Go.Deep.open_int_rows ht he hq ce cq hf with ⟨hcs, _⟩ | ⟨x, l, c, A, L, C, Z, hcs, _, hl, hm, hd, hx⟩
  · simp [Value.cells] at hcs
    obtain ⟨rfl, rfl, rfl⟩ := hcs
    exact ⟨[], rfl, fun j hj => by simp at hj, fun p hp => by simp at hp, fun p hp => by simp at hp, Nat.le_refl _, Nat.zero_le _⟩
  · simp [Value.cells] at hcs
    obtain ⟨rfl, rfl, rfl⟩ := hcs
    have hg : ∀ j, j < len → ((List.range len).map fun j => (Z j).take (L j)).getD j [] = (Z j).take (L j) := fun j hj => by
      rw [List.getD_eq_getElem?_getD, List.getElem?_map, List.getElem?_range hj]; rfl
    have hlen : ∀ j, j < len → ((Z j).take (L j)).length = L j := fun j hj => by
      obtain ⟨h1, h2, h3, h4, _⟩ := hx j (by omega)
      rw [List.length_take]; omega
    refine ⟨(List.range len).map fun j => (Z j).take (L j), by simp, fun j hj => ?_, fun p hp => ?_, fun p hp => ?_, hl, hm⟩
    · simp only [List.length_map, List.length_range] at hj
      obtain ⟨h1, h2, h3, h4, h5, h6, h7⟩ := hx j (by omega)
      obtain ⟨b, off, spot⟩ := x
      have hspot : spot = none := by simpa [Addr.add] using World.cell?_spot (hx 0 (by omega)).1
      subst hspot
      rw [Go.WideShapes.add_plain] at h1
      rw [hg j hj, hlen j hj]
      refine ⟨b, off, rfl, A j, C j, h1, h6, fun i hi => ?_⟩
      rw [hlen j hj] at hi
      rcases hA : A j with _ | a'
      · have := h6 hA; omega
      · have h8 := (h7 a' hA).2
        obtain ⟨b', off', spot'⟩ := a'
        have hspot' : spot' = none := by simpa [Addr.add] using World.cell?_spot (h8 0 (by omega))
        subst hspot'
        refine ⟨b', off', rfl, ?_⟩
        have := h8 i (by omega)
        rw [Go.WideShapes.add_plain] at this
        rw [this, getD_take, if_pos hi]
    · obtain ⟨j, hj, rfl⟩ := List.mem_map.1 hp
      obtain ⟨h1, h2, h3, h4, h5, h6, h7⟩ := hx j (by have := List.mem_range.1 hj; omega)
      exact fun y hy => bd8 (h5 y (List.mem_of_mem_take hy))
    · obtain ⟨j, hj, rfl⟩ := List.mem_map.1 hp
      have hj' := List.mem_range.1 hj
      obtain ⟨h1, h2, h3, h4, h5, h6, h7⟩ := hx j (by omega)
      rw [hlen j hj']
      simp only [Prod.mk.injEq] at hd
      have e1 := hd.1
      subst e1
      rcases hA : A j with _ | a'
      · have := h6 hA; omega
      · have hmem : Go.Deep.intRow (H := H) .u8 (A j) (L j) (Z j) ∈ (List.range len).map fun r => Go.Deep.intRow (H := H) .u8 (A r) (L r) (Z r) := List.mem_map.2 ⟨j, hj, rfl⟩
        have hwt : C j * P.bytesOf q ∈ (Go.Deep.intRow (H := H) .u8 (A j) (L j) (Z j)).weights P e := by
          rw [hA]
          simp [Go.Deep.intRow, DataW.weights, he, lits, List.length_take, List.length_drop, ← h4]
          left
          have e2 : min (L j) (Z j).length + ((Z j).length - L j) = (Z j).length := by omega
          rw [e2]
        have hle := hw (C j * P.bytesOf q) (by
          simp only [DataW.weights, ht, List.mem_cons, List.mem_append]
          exact .inr (.inl (weights_all hwt hmem)))
        rw [hb1] at hle
        simp only [reachBytes] at hle
        omega
end
end Go.Proofs.Ytgkgcbhlodohdaa
