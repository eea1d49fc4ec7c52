import Derived.Test.YtflplliiamodhaaZSRefB
import Derived.Test.YtflplliiamodhaaZSRefC
/- The order of intervals makes no difference; an interval more that has all. -/
namespace Go.Proofs.Ytflplliiamodhaa
set_option linter.unusedVariables false

theorem votes_same {L M : List (Int × Int)} (h : M.Perm L) (y : Int) : votes M y = votes L y := h.countP_eq _
theorem best_perm {L M : List (Int × Int)} (h : M.Perm L) {b : Int × Int} {n : Int} (hb : BestP M b n) : BestP L b n := by
  unfold BestP at *
  simp only [votes_same h] at hb
  rcases hb with ⟨h1, h2, h3⟩ | ⟨h0, h1, h2, h3, h4, h5, p, hp, h6⟩
  · exact .inl ⟨h1, h2, fun p hp => h3 p (h.mem_iff.2 hp)⟩
  · exact .inr ⟨h0, h1, h2, h3, h4, fun p hp => h5 p (h.mem_iff.2 hp), p, h.mem_iff.1 hp, h6⟩
theorem rights_same {L M : List (Int × Int)} (h : M.Perm L) : rights M = rights L := h.countP_eq _
theorem with_perm {L M : List (Int × Int)} (h : M.Perm L) {f : Int} {r : (Int × Int) × Bool} (hw : WithP M f r) : WithP L f r := by
  unfold WithP WithX at *
  simp only [votes_same h, rights_same h] at hw
  exact hw
theorem with_uniq {L : List (Int × Int)} {f : Int} {r s : (Int × Int) × Bool} (h : WithP L f r) (k : WithP L f s) : r = s := by
  rcases h with ⟨h1, rfl⟩ | ⟨h1, h2⟩ <;> rcases k with ⟨k1, rfl⟩ | ⟨k1, k2⟩
  · rfl
  · omega
  · omega
  · rcases h2 with ⟨rfl, h3⟩ | ⟨h3, h4, h5, h6, h7⟩ <;> rcases k2 with ⟨rfl, k3⟩ | ⟨k3, k4, k5, k6, k7⟩
    · rfl
    · have := h3 s.1.1; omega
    · have := k3 r.1.1; omega
    · have e1 : r.1.1 = s.1.1 := by
        refine Int.le_antisymm (Int.le_of_not_gt fun h => ?_) (Int.le_of_not_gt fun h => ?_)
        · have := h6 _ h; omega
        · have := k6 _ h; omega
      have e2 : r.1.2 = s.1.2 := by
        refine Int.le_antisymm (Int.le_of_not_gt fun h => ?_) (Int.le_of_not_gt fun h => ?_)
        · have := k7 _ h; omega
        · have := h7 _ h; omega
      exact Prod.ext (Prod.ext e1 e2) (h3.trans k3.symm)
theorem agree_iff {L : List (Int × Int)} (hin : ∀ p ∈ L, InP p) : agreeB L = true ↔ 0 < L.length ∧ ∃ y, votes L y = L.length := by
  constructor
  · intro h
    unfold agreeB at h
    rw [Bool.and_eq_true, decide_eq_true_iff, decide_eq_true_iff] at h
    obtain ⟨h0, he⟩ := h
    refine ⟨h0, ?_⟩
    rcases agree_best hin h0 he with ⟨h1, _⟩ | ⟨_, h1, _⟩
    · omega
    · exact ⟨_, by exact_mod_cast h1⟩
  · rintro ⟨h0, y, hy⟩
    have hall := List.countP_eq_length.1 hy
    have hb : ∀ p ∈ L, p.1 ≤ y ∧ y ≤ p.2 := fun p hp => hasB_iff.1 (hall p hp)
    have p0 : L[0] ∈ L := List.getElem_mem h0
    have i0 := hin _ p0
    have b0 := hb _ p0
    unfold InP InI at i0
    have hm := (foldM_has y L fullP).2 ⟨by unfold fullP; dsimp only; omega, hb⟩
    have hallR : allR L := fun j hj => by
      have := hb _ (getP_mem hj)
      omega
    unfold agreeB
    rw [(comb_ok hallR (by omega)).1, decide_eq_true h0]
    rfl
theorem agree_same {L M : List (Int × Int)} (h : M.Perm L) (hin : ∀ p ∈ L, InP p) : agreeB M = agreeB L := by
  rw [Bool.eq_iff_iff, agree_iff hin, agree_iff (fun p hp => hin p (h.mem_iff.1 hp))]
  simp only [votes_same h, h.length_eq]
theorem votes_more (M : List (Int × Int)) (y : Int) : votes (M ++ [fullP]) y = votes M y + (if -9223372036854775808 ≤ y ∧ y ≤ 9223372036854775807 then 1 else 0) := by
  unfold votes
  rw [List.countP_append]
  congr 1
  by_cases h : -9223372036854775808 ≤ y ∧ y ≤ 9223372036854775807
  · rw [if_pos h, List.countP_cons, List.countP_nil, if_pos (hasB_iff.2 (show fullP.1 ≤ y ∧ y ≤ fullP.2 from h))]
  · rw [if_neg h, List.countP_cons, List.countP_nil, if_neg (fun hb => h (hasB_iff.1 hb))]
theorem best_more {M : List (Int × Int)} (hin : ∀ p ∈ M, InP p) {b c : Int × Int} {n m : Int} (h : BestP M b n) (k : BestP (M ++ [fullP]) c m) : m = n + 1 ∧ (n = 0 ∨ c = b) := by
  have hmem : ∀ p, p ∈ M ++ [fullP] ↔ p ∈ M ∨ p = fullP := fun p => by simp
  rcases h with ⟨rfl, rfl, h⟩ | ⟨h0, h1, h2, h3, h4, h5, p, hp, h6, h7⟩
  · have hv : ∀ y, votes M y = 0 := fun y => by
      refine Nat.eq_zero_of_not_pos fun hp => ?_
      obtain ⟨p, hp, hb⟩ := votes_pos.1 hp
      have := hasB_iff.1 hb
      exact h p hp (by omega)
    have hbest : BestP (M ++ [fullP]) fullP 1 := by
      refine .inr ⟨by decide, ?_, fun y => ?_, fun y hy => ?_, by decide, fun p hp hb => ?_, fullP, (hmem _).2 (.inr rfl), by decide, rfl⟩
      · rw [votes_more, hv]; decide
      · rw [votes_more, hv]; split <;> omega
      · rw [votes_more, hv]
        have hy' : y < -9223372036854775808 := hy
        rw [if_neg (by omega)]; decide
      · rcases (hmem p).1 hp with hp | rfl
        · have := hasB_iff.1 hb
          exact absurd (show p.1 ≤ p.2 by omega) (h p hp)
        · exact Int.le_refl _
    obtain ⟨_, e⟩ := best_uniq k hbest
    exact ⟨by omega, .inl rfl⟩
  · have i := hin p hp
    have hb := hasB_iff.1 h6
    unfold InP InI at i
    have hbest : BestP (M ++ [fullP]) b (n + 1) := by
      refine .inr ⟨by omega, ?_, fun y => ?_, fun y hy => ?_, h4, fun q hq hb => ?_, p, (hmem _).2 (.inl hp), h6, h7⟩
      · rw [votes_more, if_pos (by omega)]; omega
      · rw [votes_more]; have := h2 y; split <;> omega
      · rw [votes_more]; have := h3 y hy; split <;> omega
      · rcases (hmem q).1 hq with hq | rfl
        · exact h5 q hq hb
        · unfold fullP; dsimp only; omega
    obtain ⟨e1, e2⟩ := best_uniq k hbest
    exact ⟨e2, .inr e1⟩
end Go.Proofs.Ytflplliiamodhaa

/- noonmarkref17.Agree: for every input. -/
namespace Go.Proofs.Ytflplliiamodhaa
open Go.RowKit
set_option linter.unusedVariables false
set_option linter.unusedSimpArgs false

theorem agree_of {L : List (Int × Int)} (hin : ∀ p ∈ L, InP p) {b : Int × Int} {n : Int} (h : BestP L b n) : agreeB L = (decide (0 < (L.length : Int)) && (n == (L.length : Int))) := by
  rw [Bool.eq_iff_iff, agree_iff hin, Bool.and_eq_true, decide_eq_true_iff, beq_iff_eq]
  have hle : ∀ y, votes L y ≤ L.length := fun y => List.countP_le_length
  constructor
  · rintro ⟨h0, y, hy⟩
    refine ⟨by omega, ?_⟩
    rcases h with ⟨rfl, _, h3⟩ | ⟨_, h1, h2, _⟩
    · obtain ⟨p, hp, hb⟩ := votes_pos.1 (show 0 < votes L y by omega)
      have := hasB_iff.1 hb
      exact absurd (show p.1 ≤ p.2 by omega) (h3 p hp)
    · have := h2 y
      have := hle b.1
      omega
  · rintro ⟨h0, rfl⟩
    refine ⟨by omega, ?_⟩
    rcases h with ⟨h1, _⟩ | ⟨_, h1, _⟩
    · omega
    · exact ⟨b.1, by omega⟩
set_option maxHeartbeats 1000000 in
theorem ragree_any (xa : Option Addr) (xc : Nat) (L : List (Int × Int)) (w : World) (hx : PairRow w xa L) (hin : ∀ p ∈ L, InP p) (hl : L.length ≤ 100000) :
    Calls Try.prog 43 #[.slice xa L.length xc] w (Gives (.bool (agreeB L)) w) := by
  have HX := Lib.hid hx
  have HIN := Lib.hid hin
  have CB := Lib.hid (rbest_any xa xc L w hx hin hl)
  clear hx hin hl
  go_enter Try.func43, Try.ntmps43
  go_wp2_with fail
  refine CB.out.mono ?_
  rintro _ w2 ⟨⟨lo, up⟩, n, rfl, HP, b2⟩
  have A := Lib.hid (agree_of HIN.out HP.out)
  have B2 := Lib.hid (b2.alloc b2.size (.cells #[.int .i64 lo, .int .i64 up] 42))
  clear b2 HP HIN CB
  dsimp only
  by_cases h1 : 0 < (L.length : Int)
  · have d1 : decide (0 < (L.length : Int)) = true := decide_eq_true h1
    by_cases h2 : n = (L.length : Int)
    · have d2 : (n == (L.length : Int)) = true := beq_iff_eq.2 h2
      clear h2
      go_wp2
      go_ret
      exact ⟨by rw [A.out, d1, d2]; rfl, B2.out⟩
    · have d2 : (n == (L.length : Int)) = false := beq_eq_false_iff_ne.mpr h2
      clear h2
      go_wp2
      go_ret
      exact ⟨by rw [A.out, d1, d2]; rfl, B2.out⟩
  · have d1 : decide (0 < (L.length : Int)) = false := decide_eq_false h1
    go_wp2
    go_ret
    exact ⟨by rw [A.out, d1]; rfl, B2.out⟩
end Go.Proofs.Ytflplliiamodhaa
