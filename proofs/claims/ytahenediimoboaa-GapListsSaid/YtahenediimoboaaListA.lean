/- noonmarkref03: Right, right; noonmarklaw03.of: for every input. -/
import Derived.Test.YtahenediimoboaaAlive
namespace Go.Proofs.Ytahenediimoboaa
open Go.RowKit
set_option linter.unusedVariables false

theorem ref_right_any (a b : Int) (w : World) : Calls Try.prog 31 #[.agg #[.int .i64 a, .int .i64 b]] w (Gives (.bool (decide (a ≤ b))) w) := by
  go_enter Try.func31, Try.ntmps31
  go_wp2
  go_ret
  exact gives_bool rfl (one_alloc _ _)
def RrRel (l : List (Int × Int)) (w : World) (i : Value) (wr : World) : Prop := ∃ k : Nat, k ≤ l.length ∧ i = .int .i64 k ∧ Hid (∀ j, j < k → (l.getD j (0, 0)).1 ≤ (l.getD j (0, 0)).2) ∧ Hid (Below w.heap.size w wr)
/-- all gaps are right, as a bool -/
def rights (l : List (Int × Int)) : Bool := decide (¬ ∃ j, j < l.length ∧ (l.getD j (0, 0)).2 < (l.getD j (0, 0)).1)
theorem rights_no {l : List (Int × Int)} {j : Nat} (h : j < l.length) (hb : (l.getD j (0, 0)).2 < (l.getD j (0, 0)).1) : rights l = false := decide_eq_false (fun f => f ⟨j, h, hb⟩)
theorem rights_yes {l : List (Int × Int)} (h : allR l) : rights l = true := decide_eq_true (fun ⟨j, hj, hb⟩ => by have := h j hj; omega)
set_option maxHeartbeats 1000000 in
theorem rights_any (x : Option Addr) (xc : Nat) (l : List (Int × Int)) (w : World) (hx : PairRow w x l) (hl : l.length ≤ 4000000000) :
    Calls Try.prog 41 #[.slice x l.length xc] w (Gives (.bool (rights l)) w) := by
  have HX := Lib.hid hx
  clear hx
  go_enter Try.func41, Try.ntmps41
  go_wp2
  go_loopw [3] (fun i wr => RrRel l w i wr) (fun i _ => l.length - (intOf i).toNat)
  case atStart => exact ⟨0, Nat.zero_le _, rfl, Lib.hid (fun j hj => by omega), Lib.hid (Below.refl _ _)⟩
  case round =>
    obtain ⟨k, hk, rfl, HV, B0⟩ := hrel
    by_cases hlt : k < l.length
    · obtain ⟨b, off, rfl, h1, h2⟩ := (HX.out.below B0.out) k hlt
      obtain ⟨p, hp⟩ : ∃ p, (l.getD k (0, 0)).1 = p := ⟨_, rfl⟩
      obtain ⟨q, hq⟩ : ∃ q, (l.getD k (0, 0)).2 = q := ⟨_, rfl⟩
      rw [hp] at h1
      rw [hq] at h2
      by_cases hpq : p ≤ q
      · have HV2 : Hid (∀ j, j < k + 1 → (l.getD j (0, 0)).1 ≤ (l.getD j (0, 0)).2) := Lib.hid (fun j hj => by
          by_cases e : j = k
          · rw [e, hp, hq]; exact hpq
          · exact HV.out j (by omega))
        have d0 := decide_eq_true hpq
        clear hp hq hpq
        go_wp2_with fail
        refine (ref_right_any p q _).mono ?_
        rintro e1 w1 ⟨rfl, hb1⟩
        have B1 : Hid (Below w.heap.size w w1) := Lib.hid (bnext B0.out B0.out.size hb1)
        rw [d0]
        clear hb1 h1 h2 d0
        go_wp2
        go_roundw
        case rel => exact ⟨k + 1, hlt, by go_num, HV2, B1⟩
        case measure => simp [intOf]; omega
      · have R : Hid (rights l = false) := Lib.hid (rights_no hlt (by rw [hp, hq]; omega))
        have d0 := decide_eq_false hpq
        clear hp hq hpq
        go_wp2_with fail
        refine (ref_right_any p q _).mono ?_
        rintro e1 w1 ⟨rfl, hb1⟩
        have B1 : Hid (Below w.heap.size w w1) := Lib.hid (bnext B0.out B0.out.size hb1)
        rw [d0]
        clear hb1 h1 h2 d0
        go_wp2
        go_ret
        exact gives_bool R.out.symm B1.out
    · obtain rfl : k = l.length := by omega
      have R : Hid (rights l = true) := Lib.hid (rights_yes HV.out)
      go_wp2
      go_ret
      exact gives_bool R.out.symm B0.out
theorem of_any (a b : Int) (w : World) : Calls Try.prog 12 #[.agg #[.int .i64 a, .int .i64 b]] w (Gives (.agg #[.int .i64 a, .int .i64 b]) w) := by
  have fin : ∀ w', Below w.heap.size w w' → Gives (.agg #[.int .i64 a, .int .i64 b]) w (.returned (.agg #[.int .i64 a, .int .i64 b])) w' := fun w' hb => ⟨rfl, hb⟩
  have Fin := Lib.hid fin
  clear fin
  go_enter Try.func12, Try.ntmps12
  go_wp2
  go_returns
  exact Fin.out _ ((one_alloc _ _).alloc (by simp) _)
end Go.Proofs.Ytahenediimoboaa
