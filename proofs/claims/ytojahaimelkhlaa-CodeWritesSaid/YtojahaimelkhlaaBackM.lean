/- What a reader tells of numbers' and texts' bytes, whole or cut: plain mathematics. -/
import Derived.Test.YtojahaimelkhlaaAlive
namespace Go.Proofs.Ytojahaimelkhlaa
open Go.RowKit
set_option linter.unusedVariables false

theorem uint_cut (u : Nat) (S : List Int) (m : Nat) (hu : u < 18446744073709551616) (l : List Int) (hl : l = (enc u ++ S).take m) :
    ((enc u).length ≤ m ∧ uintS l 0 = ((u : Int), l.drop (enc u).length, 0)) ∨ (m < (enc u).length ∧ uintS l 0 = (0, l, 15)) := by
  by_cases h : (enc u).length ≤ m
  · refine .inl ⟨h, ?_⟩
    have e : l = enc u ++ S.take (m - (enc u).length) := by rw [hl, List.take_append, List.take_of_length_le h]
    have f := fst_enc u (S.take (m - (enc u).length)) hu
    rw [← e] at f
    simp [uintS, f]
  · refine .inr ⟨by omega, ?_⟩
    have hm : m < (enc u).length := by omega
    have e : l = (enc u).take m := by rw [hl, List.take_append_of_le_length (by omega)]
    have f : fstF 0 0 l = (0, 0, 15) := by
      refine fst_short u l ((enc u).drop (m + 1)) ((enc u)[m]) ?_
      rw [e]
      conv => lhs; rw [← List.take_append_drop m (enc u)]
      rw [List.drop_eq_getElem_cons hm]
    simp [uintS, f]
theorem uint_bad (l : List Int) : uintS l 15 = (0, l, 15) := by simp [uintS]
theorem text_bad (l : List Int) : textS l 15 300 = (ByteArray.empty, l, 15) := by simp [textS, countS, uintS]
theorem strB_back (s : ByteArray) : strOfNums (strB s) = s := by
  apply ByteArray.ext
  apply Array.toList_inj.1
  rw [strOfNums_data]
  unfold strB
  rw [List.map_map]
  conv => rhs; rw [← List.map_id s.data.toList]
  apply List.map_congr_left
  intro x _
  simp
theorem text_cut (s : ByteArray) (S : List Int) (m : Nat) (hs : s.size ≤ 300) (l : List Int) (hl : l = (txt s ++ S).take m) :
    ((txt s).length ≤ m ∧ textS l 0 300 = (s, l.drop (txt s).length, 0)) ∨ (m < (txt s).length ∧ textS l 0 300 = (ByteArray.empty, l, 15)) := by
  have hlen : (txt s).length = (enc s.size).length + s.size := by unfold txt; rw [List.length_append, strB_len]
  have hl2 : l = (enc s.size ++ (strB s ++ S)).take m := by rw [hl]; unfold txt; rw [List.append_assoc]
  rcases uint_cut s.size (strB s ++ S) m (by omega) l hl2 with ⟨h, e⟩ | ⟨h, e⟩
  · have hc : countS l 0 300 = ((s.size : Int), l.drop (enc s.size).length, 0) := by
      unfold countS; rw [e, if_neg (by simp; omega)]
    have hr : l.drop (enc s.size).length = (strB s ++ S).take (m - (enc s.size).length) := by
      rw [hl2, List.drop_take, List.drop_left]
    by_cases hm : (txt s).length ≤ m
    · refine .inl ⟨hm, ?_⟩
      have ht : (l.drop (enc s.size).length).take s.size = strB s := by
        rw [hr, List.take_take, Nat.min_eq_left (by omega), ← strB_len s, List.take_left]
      unfold textS
      rw [hc]
      have hq : ¬ (((l.drop (enc s.size).length).length : Nat) : Int) < (s.size : Int) := by
        rw [hr, List.length_take, List.length_append, strB_len]; omega
      simp only [ne_eq, not_true_eq_false, if_false, if_neg hq, Int.toNat_natCast]
      rw [ht, strB_back, List.drop_drop, hlen]
    · refine .inr ⟨by omega, ?_⟩
      unfold textS
      rw [hc]
      have hq : (((l.drop (enc s.size).length).length : Nat) : Int) < (s.size : Int) := by
        rw [hr, List.length_take]; omega
      simp only [ne_eq, not_true_eq_false, if_false, if_pos hq]
  · refine .inr ⟨by omega, ?_⟩
    have hc : countS l 0 300 = (0, l, 15) := by unfold countS; rw [e, if_neg (by simp)]
    unfold textS
    rw [hc]
    simp
/-- a reader of the first n bytes of T, asked for the things whose bytes are the first p of T -/
def At (w : World) (g : Nat) (T : List Int) (n p : Nat) (ok : Bool) : Prop := (p ≤ n ∧ ok = true ∧ Rd w g ((T.take n).drop p) 0) ∨ (n < p ∧ ∃ l, ByteL l ∧ l.length ≤ T.length ∧ Rd w g l 15)
theorem take_at (T X S : List Int) (n p : Nat) (h : T.drop p = X ++ S) (hp : p ≤ n) : (T.take n).drop p = (X ++ S).take (n - p) := by rw [List.drop_take, h]
end Go.Proofs.Ytojahaimelkhlaa
