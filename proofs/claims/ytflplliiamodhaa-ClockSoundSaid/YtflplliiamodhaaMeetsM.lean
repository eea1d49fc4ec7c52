/- ClockMeets: the numbers, and the short ways. -/
import Derived.Test.YtflplliiamodhaaAddL
namespace Go.Proofs.Ytflplliiamodhaa
open Go.RowKit
set_option linter.unusedVariables false
set_option linter.unusedSimpArgs false

theorem meets_out (r t : Int) (x : Option Addr) (n xc : Nat) (ma mg ms mc : Int) (w : World) (h : (60 : Int) < (n : Int)) :
    Calls Try.prog 7 #[.int .i64 r, .slice x n xc, .agg #[.int .i64 ma, .int .i64 mg, .int .i64 ms, .int .i64 mc], .int .i64 t] w fun e w' => e = .returned (.bool true) ∧ Below w.heap.size w w' := by
  have B0 := Lib.hid (one_alloc w (.cells #[.int .i64 ma, .int .i64 mg, .int .i64 ms, .int .i64 mc] 33))
  go_enter Try.func7, Try.ntmps7
  go_wp2_with fail
  refine (alive_any _).mono ?_
  rintro _ w1 ⟨rfl, b1⟩
  have B1 := Lib.hid (B0.out.trans (b1.mono B0.out.size))
  clear b1
  go_wp2
  go_ret
  exact ⟨rfl, B1.out⟩
theorem meets_no (r t : Int) (x : Option Addr) (n xc : Nat) (ma mg ms mc : Int) (w : World) (h : ¬ (60 : Int) < (n : Int)) (hn : ¬ newOk r 2) :
    Calls Try.prog 7 #[.int .i64 r, .slice x n xc, .agg #[.int .i64 ma, .int .i64 mg, .int .i64 ms, .int .i64 mc], .int .i64 t] w fun e w' => e = .returned (.bool true) ∧ Below w.heap.size w w' := by
  have CN := Lib.hid fun W => cknew_no r 2 W hn
  have B0 := Lib.hid (one_alloc w (.cells #[.int .i64 ma, .int .i64 mg, .int .i64 ms, .int .i64 mc] 33))
  clear hn
  go_enter Try.func7, Try.ntmps7
  go_wp2_with fail
  refine (alive_any _).mono ?_
  rintro _ w1 ⟨rfl, b1⟩
  have B1 := Lib.hid (B0.out.trans (b1.mono B0.out.size))
  clear b1
  go_wp2_with fail
  refine (CN.out _).mono ?_
  rintro _ w2 ⟨rfl, b2⟩
  have B2 := Lib.hid (B1.out.trans (b2.mono B1.out.size))
  clear b2
  go_wp2
  go_ret
  exact ⟨by rfl, B2.out⟩
def MtRel (L : List Sm) (t r : Int) (w3 : World) (m i : Value) (wr : World) : Prop := ∃ k : Nat, k ≤ L.length ∧ i = .int .i64 k ∧ Hid (wr.ownsRow w3.heap.size 39 2 m k (cells2 (gapsS (L.take k) t r))) ∧ Hid (∀ j, j < k → atE (L.getD j smZ) t r = 0) ∧ Hid (Below w3.heap.size w3 wr)
theorem atE_zero' {s : Sm} {t r : Int} (h : atE s t r = 0) : 0 ≤ t ∧ t ≤ 4611686018427387903 := by
  unfold atE at h
  split at h
  · split at h
    · rename_i h1 h2
      exact tm_yes h2.1
    · cases h
  · cases h
theorem gapsS_get {L : List Sm} {t r : Int} {j : Nat} (h : j < L.length) : (gapsS L t r).getD j (0, 0) = gapS (L.getD j smZ) t r := by
  unfold gapsS
  simp [List.getD, List.getElem?_eq_getElem h]
theorem mt_bad {L : List Sm} {t r : Int} {j : Nat} (h : j < L.length) (hb : atE (L.getD j smZ) t r ≠ 0) : mtE (gapsS L t r) ≠ 0 := by
  intro h0
  have h1 := (mt_zero.1 h0).1 j (by rw [gapsS_len]; exact h)
  rw [gapsS_get h] at h1
  unfold gapS at h1
  rw [if_neg hb] at h1
  dsimp only at h1
  omega
theorem all_right {L : List Sm} {t r : Int} (h : ∀ j, j < L.length → atE (L.getD j smZ) t r = 0) : allR (gapsS L t r) := fun j hj => by
  rw [gapsS_len] at hj
  rw [gapsS_get hj]
  have := gapS_right (s := L.getD j smZ) (t := t) (r := r)
  rw [decide_eq_true (h j hj)] at this
  exact of_decide_eq_true this
/-- all samples' intervals are there: what they have together -/
theorem meets_all {c : Ck} {t : Int} (hne : c.L.length ≠ 0) (h : ∀ j, j < c.L.length → atE (c.L.getD j smZ) t c.rho = 0) :
    (ckE c t = 0 ∧ combE (gapsS c.L t c.rho) ((gapsS c.L t c.rho).foldl opM fullP) = 0 ∧ combL (gapsS c.L t c.rho) ((gapsS c.L t c.rho).foldl opM fullP) = (ckG c t).1 ∧ combH (gapsS c.L t c.rho) ((gapsS c.L t c.rho).foldl opM fullP) = (ckG c t).2) ∨
    (ckE c t = 13 ∧ combE (gapsS c.L t c.rho) ((gapsS c.L t c.rho).foldl opM fullP) = 13) := by
  have ht : tmI t = true := by
    have h1 := atE_zero' (h 0 (by omega))
    unfold tmI
    exact decide_eq_true h1
  have hr := all_right h
  by_cases hf : ((gapsS c.L t c.rho).foldl opM fullP).1 ≤ ((gapsS c.L t c.rho).foldl opM fullP).2
  · left
    have hE : ckE c t = 0 := by
      unfold ckE
      rw [if_neg hne, if_pos ht, if_pos (mt_zero.2 ⟨hr, hf⟩)]
    have hG : ckG c t = (gapsS c.L t c.rho).foldl opM fullP := if_pos hE
    rw [hG]
    exact ⟨hE, comb_ok hr hf⟩
  · right
    have hm : mtE (gapsS c.L t c.rho) ≠ 0 := fun h0 => hf (mt_zero.1 h0).2
    refine ⟨?_, (comb_no hr (by omega)).1⟩
    unfold ckE
    rw [if_neg hne, if_pos ht, if_neg hm]
/-- a sample more that agrees, while there is room, makes it no wider -/
theorem meets_more {c : Ck} {t : Int} {s : Sm} (h8 : c.L.length < 8) (h0 : ckE c t = 0) (ha : (addC c s).1 = 0) (h1 : ckE (addC c s).2 t = 0) :
    (ckG (addC c s).2 t).1 ≤ (ckG (addC c s).2 t).2 ∧ (ckG c t).1 ≤ (ckG (addC c s).2 t).1 ∧ (ckG (addC c s).2 t).2 ≤ (ckG c t).2 := by
  refine ⟨(ck_in h1).2.1, ?_⟩
  cases hr : rgtS s
  · rw [addC_no hr] at ha; cases ha
  · cases hag : agreeB (gapsS (pushL c.L s) s.2.2.1 c.rho)
    · rw [addC_un hr hag] at ha; cases ha
    · have hp : pushL c.L s = c.L ++ [s] := by unfold pushL; rw [if_neg (by omega)]
      rw [addC_yes hr hag] at h1 ⊢
      have e1 : ckG c t = (gapsS c.L t c.rho).foldl opM fullP := if_pos h0
      have e2 : ckG { c with L := pushL c.L s, held := upH c, streak := upS c.streak } t = (gapsS (pushL c.L s) t c.rho).foldl opM fullP := if_pos h1
      rw [e1, e2, hp]
      have e3 : gapsS (c.L ++ [s]) t c.rho = gapsS c.L t c.rho ++ [gapS s t c.rho] := by unfold gapsS; rw [List.map_append]; rfl
      rw [e3, List.foldl_append]
      generalize (gapsS c.L t c.rho).foldl opM fullP = z
      show z.1 ≤ (opM z (gapS s t c.rho)).1 ∧ (opM z (gapS s t c.rho)).2 ≤ z.2
      unfold opM
      exact ⟨Int.le_max_left _ _, Int.min_le_left _ _⟩
end Go.Proofs.Ytflplliiamodhaa
