/- HistRanks: ranks are one; where a range over the full buckets stands. -/
import Derived.Test.YtldgdedfioigiaaAlA
import Derived.Test.YtldgdedfioigiaaRankB
namespace Go.Proofs.Ytldgdedfioigiaa
open Go.RowKit Go.Shelf
set_option linter.unusedVariables false

theorem isum_rise (l : List Int) (h65 : l.length = 65) (hok : ∀ k, k < 65 → 0 ≤ l.getD k 0) (b d : Nat) (h : b + d ≤ 65) : isum (l.take b) ≤ isum (l.take (b + d)) := by
  induction d with
  | zero => exact Int.le_refl _
  | succ d ih =>
    have h1 := ih (by omega)
    have h2 := isum_snoc l (b + d) (by omega)
    have h3 := hok (b + d) (by omega)
    rw [show b + (d + 1) = b + d + 1 by omega]
    omega
theorem rank_one (l : List Int) (h65 : l.length = 65) (hok : okL l = true) {z : Int} {b c : Nat} (hb : b < 65) (hc : c < 65) (h1 : isum (l.take b) ≤ z) (h2 : z < isum (l.take (b + 1))) (h3 : isum (l.take c) ≤ z) (h4 : z < isum (l.take (c + 1))) : b = c := by
  have hk := okL_iff.1 hok
  rcases Nat.lt_trichotomy b c with h | h | h
  · have := isum_rise l h65 hk (b + 1) (c - (b + 1)) (by omega)
    rw [show b + 1 + (c - (b + 1)) = c by omega] at this
    omega
  · exact h
  · have := isum_rise l h65 hk (c + 1) (b - (c + 1)) (by omega)
    rw [show c + 1 + (b - (c + 1)) = b by omega] at this
    omega
/-- the program's rank and the reference's are one -/
theorem rank_same (l : List Int) (h65 : l.length = 65) {k v r : Int} {ok : Bool}
    (h : (okL l = true ∧ 0 ≤ k ∧ ok = true ∧ ∃ b : Nat, b < 65 ∧ v = b ∧ isum (l.take b) ≤ k ∧ k < isum (l.take (b + 1))) ∨ ((okL l = false ∨ k < 0 ∨ isum l ≤ k) ∧ v = 0 ∧ ok = false))
    (h' : RrOut l k r) : (ok = true ∧ v = r ∧ 0 ≤ r) ∨ (ok = false ∧ v = 0 ∧ r = -1) := by
  have hall : l.take 65 = l := List.take_of_length_le (by omega)
  rcases h with ⟨a1, a2, rfl, b, a3, rfl, a4, a5⟩ | ⟨a1, rfl, rfl⟩
  · rcases h' with ⟨_, _, c, b1, rfl, b2, b3⟩ | ⟨b1, rfl⟩
    · have := rank_one l h65 a1 a3 b1 a4 a5 b2 b3
      subst this
      exact .inl ⟨rfl, rfl, by omega⟩
    · have hk := okL_iff.1 a1
      have := isum_rise l h65 hk (b + 1) (65 - (b + 1)) (by omega)
      rw [show b + 1 + (65 - (b + 1)) = 65 by omega, hall] at this
      rcases b1 with b1 | b1 | b1
      · rw [a1] at b1; cases b1
      · omega
      · omega
  · rcases h' with ⟨c1, c2, c, b1, rfl, b2, b3⟩ | ⟨b1, rfl⟩
    · have hk := okL_iff.1 c1
      have := isum_rise l h65 hk (c + 1) (65 - (c + 1)) (by omega)
      rw [show c + 1 + (65 - (c + 1)) = 65 by omega, hall] at this
      rcases a1 with a1 | a1 | a1
      · rw [c1] at a1; cases a1
      · omega
      · omega
    · exact .inr ⟨rfl, rfl, rfl⟩
/-- where one looks next behind some full buckets -/
def fromP (pre : List (Nat × Int)) : Nat := match pre.getLast? with | none => 0 | some x => x.1 + 1
theorem fromP_nil : fromP [] = 0 := rfl
theorem fromP_snoc (pre : List (Nat × Int)) (x : Nat × Int) : fromP (pre ++ [x]) = x.1 + 1 := by
  unfold fromP
  rw [List.getLast?_append]
  simp
theorem fromP_full (l : List Int) (k : Nat) : fromP (fullF l k) ≤ k ∧ ∀ j, fromP (fullF l k) ≤ j → j < k → l.getD j 0 = 0 := by
  induction k with
  | zero => exact ⟨Nat.le_refl _, fun j _ h => by omega⟩
  | succ k ih =>
    by_cases h : l.getD k 0 = 0
    · rw [fullF_skip l k h]
      refine ⟨by omega, fun j h1 h2 => ?_⟩
      by_cases e : j = k
      · rw [e]; exact h
      · exact ih.2 j h1 (by omega)
    · rw [fullF_take l k h, fromP_snoc]
      exact ⟨Nat.le_refl _, fun j h1 h2 => by omega⟩
theorem fullF_ne (l : List Int) (k : Nat) (x : Nat × Int) (h : x ∈ fullF l k) : x.2 ≠ 0 := by
  unfold fullF at h
  exact of_decide_eq_true (List.mem_filter.1 h).2
/-- a full bucket that comes in its turn -/
def NextOk (l : List Int) (f b : Nat) : Prop := f ≤ b ∧ (∀ j, f ≤ j → j < b → l.getD j 0 = 0) ∧ l.getD b 0 ≠ 0
theorem next_ok (l : List Int) (k : Nat) (ini : List (Nat × Int)) (x : Nat × Int) (e : fullF l k = ini ++ [x]) : NextOk l (fromP ini) x.1 := by
  obtain ⟨h1, h2, h3⟩ := fullF_last l k ini x e
  have hf := fromP_full l x.1
  rw [h1]
  refine ⟨hf.1, hf.2, ?_⟩
  rw [← h3]
  exact fullF_ne l k x (by rw [e]; simp)
def HrP (l : List Int) (x : Nat × Int) : Prop := x.1 < 65 ∧ x.2 = l.getD x.1 0
theorem hrP_all (l : List Int) : ∀ k, k < 65 → HrP l (k, l.getD k 0) := fun k hk => ⟨hk, rfl⟩
def HrI (l : List Int) (g : Nat) (pre : List {x : Nat × Int // HrP l x}) (W : World) : Prop := Kept W g #[.int .i64 (fromP (pre.map (fun x => x.1)) : Int)] 3
def HrX (l : List Int) (c : Code) (pre : List {x : Nat × Int // HrP l x}) : Prop := c = .ret ∧ ∃ ini last, pre = ini ++ [last] ∧ ¬ NextOk l (fromP (ini.map (fun x => x.1))) last.1.1
theorem hrI_own (l : List Int) (g : Nat) : Own (HrI l g) := fun s A B row h hg hr => kept_own h hg hr
theorem hrI_le (l : List Int) (pre : List {x : Nat × Int // HrP l x}) : fromP (pre.map (fun x => x.1)) ≤ 65 := by
  rcases List.eq_nil_or_concat pre with rfl | ⟨ini, last, rfl⟩
  · exact Nat.zero_le _
  · rw [List.concat_eq_append, List.map_append, List.map_singleton, fromP_snoc]
    exact last.2.1
end Go.Proofs.Ytldgdedfioigiaa
