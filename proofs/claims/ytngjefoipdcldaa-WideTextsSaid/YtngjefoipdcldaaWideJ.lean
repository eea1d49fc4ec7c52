/- The text of a number and the number of a text; nothing of any program. -/
import Derived.Test.YtngjefoipdcldaaWideI
namespace Go.Proofs.Ytngjefoipdcldaa
open Go.RowKit
set_option linter.unusedVariables false

/-- the number that two words hold, of what is wrapped round -/
def sw (z : Int) : Int := (z + 170141183460469231731687303715884105728) % 340282366920938463463374607431768211456 - 170141183460469231731687303715884105728
theorem sw_in (z : Int) : InW (sw z) := by unfold InW sw; omega
theorem sw_id {z : Int} (h : InW z) : sw z = z := by unfold InW at h; unfold sw; omega
theorem wI_sw (z : Int) : wI (sw z) = wI z := wI_congr (by unfold sw; omega)
theorem unsN_append (l : List Int) (c : Int) : unsN (l ++ [c]) = unsN l * 10 + (c - 48) % 256 := by
  unfold unsN
  rw [List.foldl_append]
  rfl
theorem ten_mono (n m : Nat) (h : n ≤ m) : ten n ≤ ten m := by
  obtain ⟨d, rfl⟩ : ∃ d, m = n + d := ⟨m - n, by omega⟩
  clear h
  induction d with
  | zero => exact Int.le_refl _
  | succ d ih => have := ten_pos (n + d); show ten n ≤ ten (n + d) * 10; omega
/-- digits tell their number; each is one; the first one is no nought, but of nought itself -/
theorem decF_uns : ∀ (f : Nat) (z : Int), 0 ≤ z → z < ten f → 1 ≤ f → unsN (decF f z) = z ∧ (∀ c ∈ decF f z, 48 ≤ c ∧ c ≤ 57) ∧ 1 ≤ (decF f z).length ∧ (decF f z).length ≤ f ∧ (1 ≤ z → (decF f z).getD 0 0 ≠ 48) ∧ (z = 0 → decF f z = [48])
  | 0, z, _, _, h => by omega
  | f + 1, z, h0, h1, _ => by
    unfold decF
    by_cases h : z < 10
    · rw [if_pos h]
      refine ⟨by unfold unsN; simp; omega, by simp; omega, by simp, by simp, by intro h; simp; omega, by intro h; rw [h]; rfl⟩
    · rw [if_neg h]
      have hf : 1 ≤ f := by
        refine Nat.one_le_iff_ne_zero.2 fun e => ?_
        subst e
        simp [ten] at h1
        omega
      unfold ten at h1
      obtain ⟨i1, i2, i3, i4, i5, i6⟩ := decF_uns f (z / 10) (by omega) (by omega) hf
      refine ⟨by rw [unsN_append, i1]; omega, ?_, by simp, by simp; omega, ?_, by omega⟩
      · intro c hc
        rcases List.mem_append.1 hc with hc | hc
        · exact i2 c hc
        · simp at hc; omega
      · intro _
        have := i5 (by omega)
        rw [List.getD_eq_getElem?_getD, List.getElem?_append_left (by omega), ← List.getD_eq_getElem?_getD]
        exact this
theorem decF_len (g : Nat) : ∀ (f : Nat) (z : Int), 0 ≤ z → z < ten g → 1 ≤ g → 1 ≤ f → (decF f z).length ≤ g
  | 0, z, _, _, _, h => by omega
  | f + 1, z, h0, h1, hg, _ => by
    induction g generalizing f z with
    | zero => omega
    | succ g ih =>
      unfold decF
      by_cases h : z < 10
      · rw [if_pos h]; simp
      · rw [if_neg h]
        unfold ten at h1
        by_cases hg0 : g = 0
        · subst hg0; simp [ten] at h1; omega
        · cases f with
          | zero => simp [decF]
          | succ f =>
            have := ih f (z / 10) (by omega) (by omega) (by omega) (by omega)
            simp
            omega
theorem dec_facts (z : Int) (h0 : 0 ≤ z) (h1 : z < 340282366920938463463374607431768211456) : unsN (dec z) = z ∧ (∀ c ∈ dec z, 48 ≤ c ∧ c ≤ 57) ∧ 1 ≤ (dec z).length ∧ (dec z).length ≤ 39 ∧ (1 ≤ z → (dec z).getD 0 0 ≠ 48) ∧ (z = 0 → dec z = [48]) := by
  have e : ten 39 = 1000000000000000000000000000000000000000 := by decide +kernel
  have e2 := ten_mono 39 40 (by omega)
  obtain ⟨i1, i2, i3, i4, i5, i6⟩ := decF_uns 40 z h0 (by omega) (by omega)
  exact ⟨i1, i2, i3, decF_len 39 40 z h0 (by omega) (by omega) (by omega), i5, i6⟩
/-- what is told of a sign and digits -/
def parA (l : List Int) : Int := if l.getD 0 0 = 45 then sw (-(sw (unsN (l.drop 1)))) else sw (unsN l)
theorem parA_in (l : List Int) : InW (parA l) := by unfold parA; split <;> exact sw_in _
theorem textL_facts (z : Int) (h : InW z) : parA (textL z) = z ∧ 1 ≤ (textL z).length ∧ (textL z).length ≤ 40 := by
  have hz := h
  unfold InW at h
  unfold textL parA
  by_cases hn : z < 0
  · rw [if_pos hn]
    obtain ⟨i1, i2, i3, i4, i5, i6⟩ := dec_facts (-z) (by omega) (by omega)
    refine ⟨?_, by simp, by simp; omega⟩
    rw [if_pos (by rfl), List.drop_one, List.tail_cons, i1]
    unfold sw
    omega
  · rw [if_neg hn]
    obtain ⟨i1, i2, i3, i4, i5, i6⟩ := dec_facts z (by omega) (by omega)
    refine ⟨?_, by omega, by omega⟩
    have : (dec z).getD 0 0 ≠ 45 := by
      have h := i2 ((dec z).getD 0 0) (by rw [List.getD_eq_getElem?_getD, List.getElem?_eq_getElem (by omega)]; exact List.getElem_mem _)
      omega
    rw [if_neg this, i1, sw_id hz]
theorem textL_inj {a b : Int} (ha : InW a) (hb : InW b) (h : textL a = textL b) : a = b := by
  rw [← (textL_facts a ha).1, h, (textL_facts b hb).1]
/-- what Parse answers: the number whose text it is, if it is one's -/
def PSpec (l : List Int) (z : Int) (ok : Bool) : Prop := (ok = true ∧ InW z ∧ textL z = l) ∨ (ok = false ∧ z = 0 ∧ ∀ y, InW y → textL y ≠ l)
theorem pspec_long {l : List Int} (h : 40 < l.length) : PSpec l 0 false := .inr ⟨rfl, rfl, fun y hy e => by have := (textL_facts y hy).2.2; rw [e] at this; omega⟩
theorem pspec_yes {l : List Int} (h : textL (parA l) = l) : PSpec l (parA l) true := .inl ⟨rfl, parA_in l, h⟩
theorem pspec_no {l : List Int} (h : textL (parA l) ≠ l) : PSpec l 0 false := .inr ⟨rfl, rfl, fun y hy e => h (by rw [← e, (textL_facts y hy).1])⟩
theorem textL_byte (z : Int) (h : InW z) : ∀ c ∈ textL z, 0 ≤ c ∧ c ≤ 255 := by
  unfold InW at h
  unfold textL
  intro c hc
  split at hc
  · rcases List.mem_cons.1 hc with rfl | hc
    · omega
    · have := (dec_facts (-z) (by omega) (by omega)).2.1 c hc; omega
  · have := (dec_facts z (by omega) (by omega)).2.1 c hc; omega
theorem bl_strOfNums (l : List Int) (h : ∀ c ∈ l, 0 ≤ c ∧ c ≤ 255) : bl (strOfNums l) = l := by
  unfold bl
  rw [strOfNums_data, List.map_map]
  conv => rhs; rw [← List.map_id l]
  refine List.map_congr_left fun c hc => ?_
  have := h c hc
  simp only [Function.comp, id, UInt8.toNat_ofNat']
  omega
end Go.Proofs.Ytngjefoipdcldaa
