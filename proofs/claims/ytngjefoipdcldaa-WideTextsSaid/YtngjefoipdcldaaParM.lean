/- What texts of numbers are; nothing of any program. -/
import Derived.Test.YtngjefoipdcldaaWideJ
import Derived.Test.YtngjefoipdcldaaLimM
namespace Go.Proofs.Ytngjefoipdcldaa
set_option linter.unusedVariables false

def DigL (d : List Int) : Prop := ∀ c ∈ d, 48 ≤ c ∧ c ≤ 57
theorem uns_pos (d : List Int) (hd : DigL d) (h1 : 1 ≤ d.length) (h2 : d.getD 0 0 ≠ 48) : 1 ≤ unsN d := by
  have key : ∀ n, 1 ≤ n → n ≤ d.length → 1 ≤ unsN (d.take n) := by
    intro n
    induction n with
    | zero => intro h; omega
    | succ n ih =>
      intro _ hn
      rw [unsN_snoc d n (by omega)]
      have hc := hd (d.getD n 0) (by rw [List.getD_eq_getElem?_getD, List.getElem?_eq_getElem (by omega)]; exact List.getElem_mem _)
      by_cases h0 : n = 0
      · subst h0
        have : unsN (d.take 0) = 0 := rfl
        omega
      · have := ih (by omega) (by omega); omega
  have := key d.length h1 (Nat.le_refl _)
  rwa [List.take_length] at this
theorem uns_lt (d : List Int) (hd : DigL d) : 0 ≤ unsN d ∧ unsN d < ten d.length := by
  have key : ∀ n, n ≤ d.length → 0 ≤ unsN (d.take n) ∧ unsN (d.take n) < ten n := by
    intro n
    induction n with
    | zero => intro _; exact ⟨by show (0 : Int) ≤ 0; omega, by show (0 : Int) < 1; omega⟩
    | succ n ih =>
      intro hn
      rw [unsN_snoc d n (by omega)]
      have hc := hd (d.getD n 0) (by rw [List.getD_eq_getElem?_getD, List.getElem?_eq_getElem (by omega)]; exact List.getElem_mem _)
      have := ih (by omega)
      show 0 ≤ _ ∧ _ < ten n * 10
      omega
  have := key d.length (Nat.le_refl _)
  rwa [List.take_length] at this
theorem dec_uns : ∀ (f : Nat) (d : List Int), DigL d → 1 ≤ d.length → d.length ≤ f → (d.getD 0 0 = 48 → d.length = 1) → decF f (unsN d) = d
  | 0, d, _, h1, h2, _ => by omega
  | f + 1, d, hd, h1, h2, h3 => by
    obtain ⟨n, hn⟩ : ∃ n, d.length = n + 1 := ⟨d.length - 1, by omega⟩
    have hs := unsN_snoc d n (by omega)
    rw [← hn, List.take_length] at hs
    have hc := hd (d.getD n 0) (by rw [List.getD_eq_getElem?_getD, List.getElem?_eq_getElem (by omega)]; exact List.getElem_mem _)
    have hsplit : d.take n ++ [d.getD n 0] = d := by
      have := List.take_append_getElem (l := d) (i := n) (by omega)
      rw [List.getD_eq_getElem?_getD, List.getElem?_eq_getElem (by omega), Option.getD_some]
      rw [this, ← hn, List.take_length]
    have hdt : DigL (d.take n) := fun c hc => hd c (List.mem_of_mem_take hc)
    have htl : (d.take n).length = n := by rw [List.length_take]; omega
    unfold decF
    by_cases h0 : n = 0
    · subst h0
      have e0 : unsN (d.take 0) = 0 := rfl
      rw [e0] at hs
      have e9 : 48 + (0 * 10 + (d.getD 0 0 - 48) % 256) = d.getD 0 0 := by omega
      rw [if_pos (by omega), hs, e9]
      exact hsplit
    · have hh : (d.take n).getD 0 0 = d.getD 0 0 := by rw [getD_take, if_pos (by omega)]
      have hne : d.getD 0 0 ≠ 48 := fun e => by have := h3 e; omega
      have hp := uns_pos (d.take n) hdt (by omega) (by rw [hh]; exact hne)
      have ih := dec_uns f (d.take n) hdt (by omega) (by omega) (fun e => absurd (hh ▸ e) hne)
      rw [if_neg (by omega), show unsN d / 10 = unsN (d.take n) by omega, ih, show 48 + unsN d % 10 = d.getD n 0 by omega, hsplit]
/-- a text of a number, and that number -/
def Good (l : List Int) (z : Int) : Prop := ∃ neg d, l = (if neg then 45 :: d else d) ∧ DigL d ∧ 1 ≤ d.length ∧ d.length ≤ 40 ∧ (d.getD 0 0 = 48 → d.length = 1 ∧ neg = false) ∧ z = sg (unsN d) neg
theorem text_good (y : Int) (hy : InW y) : Good (textL y) y := by
  have hy' := hy
  unfold InW at hy'
  unfold textL
  by_cases h : y < 0
  · rw [if_pos h]
    obtain ⟨i1, i2, i3, i4, i5, i6⟩ := dec_facts (-y) (by omega) (by omega)
    exact ⟨true, dec (-y), rfl, i2, i3, by omega, fun e => absurd e (i5 (by omega)), by rw [i1]; unfold sg; simp⟩
  · rw [if_neg h]
    obtain ⟨i1, i2, i3, i4, i5, i6⟩ := dec_facts y (by omega) (by omega)
    refine ⟨false, dec y, rfl, i2, i3, by omega, fun e => ⟨?_, rfl⟩, by rw [i1]; unfold sg; simp⟩
    by_cases h0 : y = 0
    · rw [i6 h0]; rfl
    · exact absurd e (i5 (by omega))
theorem good_unique {l : List Int} {y z : Int} (h : Good l y) (k : Good l z) : y = z := by
  obtain ⟨n1, d1, e1, g1, g2, g3, g4, g5⟩ := h
  obtain ⟨n2, d2, e2, k1, k2, k3, k4, k5⟩ := k
  rw [e1] at e2
  have head : ∀ d : List Int, DigL d → 1 ≤ d.length → d.getD 0 0 ≠ 45 := fun d hd hl e => by
    have := hd (d.getD 0 0) (by rw [List.getD_eq_getElem?_getD, List.getElem?_eq_getElem (by omega)]; exact List.getElem_mem _)
    omega
  cases n1 <;> cases n2 <;> simp at e2
  · rw [g5, k5, e2]
  · exact absurd (by rw [e2]; rfl) (head d1 g1 g2)
  · exact absurd (by rw [← e2]; rfl) (head d2 k1 k2)
  · rw [g5, k5, e2]
theorem good_text {l : List Int} {z : Int} (h : Good l z) (hz : InW z) : textL z = l := by
  obtain ⟨neg, d, e, g1, g2, g3, g4, g5⟩ := h
  have hd := dec_uns 40 d g1 g2 g3 (fun e => (g4 e).1)
  have hb := uns_lt d g1
  unfold textL
  cases neg
  · have : z = unsN d := g5
    rw [if_neg (by omega), this, e]
    exact hd
  · have hz2 : z = -(unsN d) := g5
    have hp := uns_pos d g1 g2 (fun e => by have := (g4 e).2; cases this)
    rw [if_pos (by omega), hz2, Int.neg_neg, e]
    show 45 :: decF 40 (unsN d) = 45 :: d
    rw [hd]
theorem good_bd {l : List Int} {z : Int} (h : Good l z) : -(10000000000000000000000000000000000000000) < z ∧ z < 10000000000000000000000000000000000000000 := by
  obtain ⟨neg, d, e, g1, g2, g3, g4, g5⟩ := h
  have hb := uns_lt d g1
  have hm := ten_mono d.length 40 g3
  have e40 : ten 40 = 10000000000000000000000000000000000000000 := by decide +kernel
  rw [g5]
  unfold sg
  cases neg <;> simp <;> omega
theorem good_split {l d : List Int} {neg : Bool} {y : Int} (hl : l = (if neg then 45 :: d else d)) (hn : neg = false → d.getD 0 0 ≠ 45) (h : Good l y) : DigL d ∧ 1 ≤ d.length ∧ d.length ≤ 40 ∧ (d.getD 0 0 = 48 → d.length = 1 ∧ neg = false) := by
  obtain ⟨n2, d2, e2, k1, k2, k3, k4, k5⟩ := h
  rw [hl] at e2
  have head : d2.getD 0 0 ≠ 45 := fun e => by
    have := k1 (d2.getD 0 0) (by rw [List.getD_eq_getElem?_getD, List.getElem?_eq_getElem (by omega)]; exact List.getElem_mem _)
    omega
  cases neg <;> cases n2 <;> simp at e2
  · subst e2; exact ⟨k1, k2, k3, k4⟩
  · exact absurd (by rw [e2]; rfl) (hn rfl)
  · exact absurd (by rw [← e2]; rfl) head
  · subst e2; exact ⟨k1, k2, k3, k4⟩
theorem digl_of {d : List Int} (h : ∀ j, j < d.length → 48 ≤ d.getD j 0 ∧ d.getD j 0 ≤ 57) : DigL d := fun c hc => by
  obtain ⟨j, hj, e⟩ := List.getElem_of_mem hc
  have := h j hj
  rw [List.getD_eq_getElem?_getD, List.getElem?_eq_getElem hj, Option.getD_some, e] at this
  exact this
/-- what the document's Parse answers -/
def PR (l : List Int) (z : Int) (has : Bool) : Prop := (has = true ∧ Good l z) ∨ (has = false ∧ z = 0 ∧ ∀ y, ¬ Good l y)
end Go.Proofs.Ytngjefoipdcldaa
