/- What WideBytes says of bytes; nothing of its walk. -/
import Derived.Test.YtngjefoipdcldaaSwapsF
namespace Go.Proofs.Ytngjefoipdcldaa
open Go.RowKit
set_option linter.unusedVariables false

theorem bv_inj (L M : List Int) (hl : ByteL L) (hm : ByteL M) (h1 : L.length = 16) (h2 : M.length = 16) (h : bv L 16 = bv M 16) : L = M := by
  have key : ∀ k, k ≤ 16 → ∀ j, j < k → L.getD j 0 = M.getD j 0 := by
    intro k
    induction k with
    | zero => intro _ j hj; omega
    | succ k ih =>
      intro hk j hj
      have ih := ih (by omega)
      by_cases e : j = k
      · subst e
        rcases Int.lt_trichotomy (L.getD j 0) (M.getD j 0) with h3 | h3 | h3
        · have := bv_gt M L hm hl j (fun i hi => (ih i hi).symm) h3 16 (by omega); omega
        · exact h3
        · have := bv_gt L M hl hm j ih h3 16 (by omega); omega
      · exact ih j (by omega)
  exact eq_of_getD (by omega) (fun j hj => key 16 (by omega) j (by omega))
theorem byL_bv (L : List Int) (hl : ByteL L) (h : L.length = 16) : byL (bv L 16) = L := by
  have hb := bv_bd L hl 16
  have e : p8 16 = 340282366920938463463374607431768211456 := by decide +kernel
  refine bv_inj _ _ (byL_byte _) hl (byL_len _) h ?_
  rw [bv_byL]
  omega
/-- the sixteen bytes that a call answers, at an address -/
theorem bytes16 {w : World} {v : Value} {L : List Int} (h : BytesAt w v L) (hl : L.length = 16) : ∃ b o c, v = .slice (some ⟨b, o, none⟩) 16 c ∧ (16 : Int) ≤ c ∧ IntRow w (some ⟨b, o, none⟩) .u8 L := by
  obtain ⟨a, c, rfl, h1, h2, h3, h4⟩ := h
  obtain ⟨b, o, rfl, _⟩ := h4 0 (by omega)
  rw [hl] at h2 ⊢
  exact ⟨b, o, c, rfl, by omega, h4⟩
/-- how two rows of bytes lie to one another, as far as they were looked at -/
def LexSt (X Y : List Int) (k : Nat) (f : Int) : Prop := (f = 0 ∧ ∀ j, j < k → X.getD j 0 = Y.getD j 0) ∨ (f = 1 ∧ bv Y 16 < bv X 16) ∨ (f = -1 ∧ bv X 16 < bv Y 16)
theorem LexSt.step {X Y : List Int} {k : Nat} (hx : ByteL X) (hy : ByteL Y) (h : LexSt X Y k 0) (hk : k < 16) :
    (Y.getD k 0 < X.getD k 0 ∧ LexSt X Y (k + 1) 1) ∨ (X.getD k 0 < Y.getD k 0 ∧ LexSt X Y (k + 1) (-1)) ∨ (X.getD k 0 = Y.getD k 0 ∧ LexSt X Y (k + 1) 0) := by
  rcases h with ⟨_, h⟩ | ⟨h, _⟩ | ⟨h, _⟩
  · rcases Int.lt_trichotomy (X.getD k 0) (Y.getD k 0) with h3 | h3 | h3
    · exact .inr (.inl ⟨h3, .inr (.inr ⟨rfl, bv_gt Y X hy hx k (fun i hi => (h i hi).symm) h3 16 hk⟩)⟩)
    · exact .inr (.inr ⟨h3, .inl ⟨rfl, fun j hj => by
        by_cases e : j = k
        · rw [e]; exact h3
        · exact h j (by omega)⟩⟩)
    · exact .inl ⟨h3, .inr (.inl ⟨rfl, bv_gt X Y hx hy k h h3 16 hk⟩)⟩
  · omega
  · omega
theorem LexSt.done {X Y : List Int} {k : Nat} {f : Int} (h : LexSt X Y k f) (hk : k = 16 ∨ f ≠ 0) : f = ordI (bv X 16) (bv Y 16) := by
  rcases h with ⟨h, h2⟩ | ⟨h, h2⟩ | ⟨h, h2⟩
  · rcases hk with hk | hk
    · subst hk
      rw [bv_eq X Y 16 h2, h]; unfold ordI; rw [if_neg (by omega), if_neg (by omega)]
    · omega
  · rw [h]; unfold ordI; rw [if_neg (by omega), if_pos h2]
  · rw [h]; unfold ordI; rw [if_pos h2]
theorem ord_same {a b : Int} (ha : InW a) (hb : InW b) (h : a < 0 ↔ b < 0) : ordI (bv (byL a) 16) (bv (byL b) 16) = ordI a b := by
  rw [bv_byL, bv_byL]
  unfold InW at ha hb
  unfold ordI
  (repeat' split) <;> omega
theorem first_byte (z : Int) (hz : InW z) : (decide (hiW z < 0) = true ∧ decide ((127 : Int) < (byL z).getD 0 0) = true) ∨ (decide (hiW z < 0) = false ∧ decide ((127 : Int) < (byL z).getD 0 0) = false) := by
  have e : (byL z).getD 0 0 = hiW z / 72057594037927936 % 256 := rfl
  rw [e]
  have h := hiW_in z
  by_cases h0 : hiW z < 0
  · exact .inl ⟨decide_eq_true h0, decide_eq_true (by omega)⟩
  · exact .inr ⟨decide_eq_false h0, decide_eq_false (by omega)⟩
theorem row_bytes {w : World} {a : Option Addr} {len cap : Nat} {zs : List Int} (h : RowOf .u8 w a len cap zs) : ∃ L : List Int, L.length = len ∧ IntRow w a .u8 L ∧ ByteL L ∧ len ≤ 9223372036854775807 ∧ (a = none → cap = 0) := by
  rcases h.cases with ⟨rfl, rfl, rfl⟩ | ⟨rfl, h2, b, off, sub, rfl⟩ | ⟨h0, h1, h2, h3, ⟨b, off, rfl⟩, h4, h5⟩
  · exact ⟨[], rfl, fun j hj => by simp at hj, fun j => by simp, by omega, fun _ => rfl⟩
  · exact ⟨[], rfl, fun j hj => by simp at hj, fun j => by simp, by omega, fun e => by simp at e⟩
  · refine ⟨zs.take len, h3, h4, fun j => ?_, by omega, fun e => by simp at e⟩
    rcases Nat.lt_or_ge j (zs.take len).length with hj | hj
    · have := h5 _ (List.getElem_mem hj)
      rw [List.getD_eq_getElem?_getD, List.getElem?_eq_getElem hj]
      generalize (zs.take len)[j] = y at *
      simp [Lit.wf, IntKind.min, IntKind.max, IntKind.signed, IntKind.bits] at this
      exact this
    · rw [getD_past _ _ hj]; omega
end Go.Proofs.Ytngjefoipdcldaa
