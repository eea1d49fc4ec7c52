/- Arguments that are slices of integers or of strings, with their lengths bounded by what is reached. -/
import Derived.Test.YtojahaimelkhlaaBackW
import Derived.SliceStrings
import Derived.SizedLaws
namespace Go.Proofs.Ytojahaimelkhlaa
open Go.ChangeShapes Go.WideShapes Go.RowKit
set_option linter.unusedVariables false

theorem RowOf.ints {k : IntKind} {w : World} {a : Option Addr} {len cap : Nat} {zs : List Int} (h : RowOf k w a len cap zs) : (zs.take len).length = len ∧ IntRow w a k (zs.take len) ∧ ∀ n ∈ zs.take len, (Lit.int k n).wf = true := by
  rcases h with ⟨rfl, rfl, rfl, rfl⟩ | ⟨x, rfl, h1, h2, h3, h4, h5⟩
  · exact ⟨rfl, fun j hj => by simp at hj, fun x hx => by simp at hx⟩
  · have hlen : (zs.take len).length = len := by rw [List.length_take]; omega
    refine ⟨hlen, ?_, fun n hn => h5 n (List.mem_of_mem_take hn)⟩
    by_cases h0 : len = 0
    · subst h0; exact fun j hj => by simp at hj
    · obtain ⟨b, off, rfl, hc⟩ := ints_at h4 (by omega)
      refine fun j hj => ⟨b, off, rfl, ?_⟩
      rw [hlen] at hj
      rw [hc j (by omega), getD_take, if_pos hj]
section
variable {H : Type} {enc : TypeId × Value → H} {P : Program} {w : World} {base : Nat} {held : Bool}
theorem ints_open {t e : TypeId} {k : IntKind} {a : Option Addr} {len cap : Nat} {d : DataW H} {p : List MemPlace} (ht : P.underlying t = some (.slice e)) (he : P.underlying e = some (.int k))
    (ce : P.cellsOf e = 1) (h : DataW.Trod enc P w base (fun _ => true) held t (.slice a len cap) d p) (hw : ∀ n ∈ d.weights P t, n ≤ reachBytes) (hb1 : 1 ≤ P.bytesOf e) :
    ∃ zs : List Int, zs.length = len ∧ IntRow w a k zs ∧ (∀ n ∈ zs, (Lit.int k n).wf = true) ∧ len ≤ 140737488351232 := by
  obtain ⟨fuel, hf⟩ := h
  rcases open_ints ht he ce hf with ⟨hcs, _⟩ | ⟨x, l, c, zs, hcs, _, hl, hm, hz, hd, hcell, hwz⟩
  · simp [Value.cells] at hcs
    obtain ⟨rfl, rfl, rfl⟩ := hcs
    exact ⟨[], rfl, fun j hj => by simp at hj, fun x hx => by simp at hx, by omega⟩
  · simp [Value.cells] at hcs
    obtain ⟨rfl, rfl, rfl⟩ := hcs
    have hz' : zs.length = cap := by simpa using hz
    have r : RowOf k w (some x) len cap zs := .inr ⟨x, rfl, hl, hm, hz', hcell, hwz⟩
    obtain ⟨q1, q2, q3⟩ := r.ints
    refine ⟨zs.take len, q1, q2, q3, ?_⟩
    simp only [Prod.mk.injEq] at hd
    have e1 := hd.1
    subst e1
    have hle := hw (cap * P.bytesOf e) (by
      simp only [DataW.weights, ht, List.mem_cons]
      left
      simp only [lits, List.length_map, List.length_take, List.length_drop]
      congr 1
      omega)
    simp only [reachBytes] at hle
    have := Nat.mul_le_mul_left cap hb1
    omega
theorem strs_open {t e : TypeId} {a : Option Addr} {len cap : Nat} {d : DataW H} {p : List MemPlace} (ht : P.underlying t = some (.slice e)) (he : P.underlying e = some .string)
    (ce : P.cellsOf e = 1) (h : DataW.Trod enc P w base (fun _ => true) held t (.slice a len cap) d p) (hw : ∀ n ∈ d.weights P t, n ≤ reachBytes) (hb1 : 1 ≤ P.bytesOf e) :
    ∃ ss : List ByteArray, ss.length = len ∧ StrRow w a ss ∧ len ≤ 140737488351232 := by
  obtain ⟨fuel, hf⟩ := h
  rcases open_strings ht he ce hf with ⟨hcs, _⟩ | ⟨x, l, c, ss, hcs, _, hl, hm, hz, hd, hcell, hsz⟩
  · simp [Value.cells] at hcs
    obtain ⟨rfl, rfl, rfl⟩ := hcs
    exact ⟨[], rfl, fun j hj => by simp at hj, by omega⟩
  · simp [Value.cells] at hcs
    obtain ⟨rfl, rfl, rfl⟩ := hcs
    have hz' : ss.length = cap := by simpa using hz
    have hlen : (ss.take len).length = len := by rw [List.length_take]; omega
    refine ⟨ss.take len, hlen, fun j hj => ?_, ?_⟩
    · rw [hlen] at hj
      obtain ⟨b, off, spot⟩ := x
      have hspot : spot = none := by simpa [Addr.add] using World.cell?_spot (hcell 0 (by omega))
      subst hspot
      refine ⟨b, off, rfl, ?_⟩
      have := hcell j (by omega)
      rw [Go.WideShapes.add_plain] at this
      rw [this, List.getD_eq_getElem?_getD, List.getD_eq_getElem?_getD, List.getElem?_take_of_lt hj]
    · simp only [Prod.mk.injEq] at hd
      have e1 := hd.1
      subst e1
      have hle := hw (cap * P.bytesOf e) (by
        simp only [DataW.weights, ht, List.mem_cons]
        left
        simp only [strs, List.length_map, List.length_take, List.length_drop]
        congr 1
        omega)
      simp only [reachBytes] at hle
      have := Nat.mul_le_mul_left cap hb1
      omega
end
theorem bd64u {a : Int} (h : (Lit.int .u64 a).wf = true) : 0 ≤ a ∧ a ≤ 18446744073709551615 := by simp [Lit.wf, IntKind.min, IntKind.max, IntKind.signed, IntKind.bits] at h; exact h
theorem cback_any (aa ab ac : Option Addr) (ca cb cc : Nat) (a b : List Int) (c : List ByteArray) (t : Int) (w : World)
    (ra : IntRow w aa .u64 a) (rb : IntRow w ab .i64 b) (rc : StrRow w ac c) (ba : ∀ x ∈ a, (Lit.int .u64 x).wf = true) (bb : ∀ x ∈ b, (Lit.int .i64 x).wf = true) (ha : a.length ≤ 140737488351232) (hb : b.length ≤ 140737488351232) (hc : c.length ≤ 140737488351232) (ht : (Lit.int .i64 t).wf = true) :
    Calls Try.prog 4 #[.slice aa a.length ca, .slice ab b.length cb, .slice ac c.length cc, .int .i64 t] w (BackPost w) := by
  by_cases h : 100 < a.length + b.length + c.length
  · exact cback_far aa ab ac ca cb cc _ _ _ t w h (by omega) (by omega) (by omega)
  · exact cback_near aa ab ac ca cb cc a b c t w ra rb rc (fun x hx => bd64u (ba x hx)) (fun x hx => bd (bb x hx)) (by omega) (bd ht)
end Go.Proofs.Ytojahaimelkhlaa
