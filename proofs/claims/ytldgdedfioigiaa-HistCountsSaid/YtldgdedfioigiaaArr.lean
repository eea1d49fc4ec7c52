/- An array of integers by value, opened. -/
import Derived.Test.YtldgdedfioigiaaBase
import Derived.OpenShut
import Derived.WalkKit
import Derived.Below
import Derived.ChangeOld
import Derived.Lib.SmallJoins
namespace Go.Proofs.Ytldgdedfioigiaa
open Go.ChangeShapes Go.WideShapes Go.ChangeAt Go.RowKit Go.Joins
set_option linter.unusedVariables false

theorem arr_open {H : Type} {enc : TypeId × Value → H} {P : Program} {w : World} {base : Nat} {sp : Nat → Bool} {held : Bool} {t e : TypeId} {n : Nat} {k : IntKind} {v : Value} {d : DataW H} {p : List MemPlace} {os : World} {hd : Reach} {b2 : Nat}
    (ht : P.underlying t = some (.array n e)) (he : P.underlying e = some (.int k)) (hce : P.cellsOf e = 1) (hct : P.cellsOf t = n) (hv : Value.okWide P os hd b2 t v) (h : DataW.Trod enc P w base sp held t v d p) :
    ∃ l : List Int, l.length = n ∧ v = .agg (l.map (Value.int k)).toArray ∧ ∀ x ∈ l, (Lit.int k x).wf = true := by
  obtain ⟨cs, rfl, hsz, _⟩ : ∃ cs, v = .agg cs ∧ cs.size = P.cellsOf t ∧ Row.okWide P os hd b2 t cs := by
    simpa [Value.okWide, ht] using hv
  obtain ⟨fuel, hf⟩ := h
  obtain ⟨xs, m, rfl, hx, hl, hxl, hi⟩ := DataW.trod_array ht hf
  have each : ∀ i, i < n → ∃ z, cs[i]? = some (.int k z) ∧ (Lit.int k z).wf = true := fun i hin => by
    have h1 := hi i hin
    rw [hce, Nat.mul_one] at h1
    obtain ⟨y, hy⟩ : ∃ y, xs[i]? = some y := ⟨_, List.getElem?_eq_getElem (by omega)⟩
    rw [hy] at h1
    obtain ⟨z, e1, -, w1⟩ := DataW.trod_int he h1
    refine ⟨z, ?_, w1⟩
    have h2 : ((((Value.agg cs).cells.toList.drop i).take 1)[0]?) = some (.int k z) := by rw [e1]; rfl
    simpa [List.getElem?_take, List.getElem?_drop, Value.cells] using h2
  rw [hct] at hsz
  refine ⟨(List.range n).map fun i => intOf (cs[i]?.getD (.int k 0)), by simp, ?_, ?_⟩
  · congr 1
    refine Array.ext_getElem? fun i => ?_
    by_cases hin : i < n
    · obtain ⟨z, h1, _⟩ := each i hin
      rw [h1]
      simp [List.getElem?_map, List.getElem?_range hin, h1, intOf]
    · rw [Array.getElem?_eq_none (by omega)]
      simp [List.getElem?_map, List.getElem?_eq_none (l := List.range n) (i := i) (by simp; omega)]
  · intro x hx
    obtain ⟨i, hi2, rfl⟩ := List.mem_map.1 hx
    obtain ⟨z, h1, h2⟩ := each i (List.mem_range.1 hi2)
    rw [h1]
    exact h2
end Go.Proofs.Ytldgdedfioigiaa
