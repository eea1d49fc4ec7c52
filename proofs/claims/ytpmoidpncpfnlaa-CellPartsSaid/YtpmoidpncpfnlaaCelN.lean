/- Cells that are folds: plain mathematics. -/
import Derived.Test.YtpmoidpncpfnlaaAlive
namespace Go.Proofs.Ytpmoidpncpfnlaa
open Go.RowKit
set_option linter.unusedVariables false
set_option linter.unusedSimpArgs false

def lowN (l : List Int) (b : Nat) : Nat := l.countP fun v => decide (bkt v < b)
def inN (l : List Int) (b : Nat) : Nat := l.countP fun v => bkt v == b
theorem lowN_succ (l : List Int) (b : Nat) : lowN l (b + 1) = lowN l b + inN l b := by
  unfold lowN inN
  induction l with
  | nil => rfl
  | cons x xs ih =>
    rw [List.countP_cons, List.countP_cons, List.countP_cons, ih]
    by_cases h1 : bkt x < b
    · have h2 : bkt x < b + 1 := by omega
      have h3 : (bkt x == b) = false := beq_eq_false_iff_ne.mpr (by omega)
      simp [h1, h2, h3]; omega
    · by_cases h4 : bkt x = b
      · have h3 : (bkt x == b) = true := by simp [h4]
        simp [h4]; omega
      · have h2 : ¬ bkt x < b + 1 := by omega
        have h3 : (bkt x == b) = false := beq_eq_false_iff_ne.mpr h4
        simp [h1, h2, h3]
theorem cnt_take (l : List Int) (b : Nat) (hb : b ≤ 65) : isum ((cntL l).take b) = (lowN l b : Int) := by
  induction b with
  | zero =>
    have e : lowN l 0 = 0 := by unfold lowN; rw [List.countP_eq_zero]; intro v hv; simp
    rw [e]; rfl
  | succ b ih =>
    rw [isum_snoc _ _ (by rw [cntL_len]; omega), ih (by omega), lowN_succ, cntL_get _ _ (by omega)]
    unfold inN
    omega
theorem lowN_all (l : List Int) (hin : ∀ x ∈ l, InI x) : lowN l 65 = l.length := by
  unfold lowN
  rw [List.countP_eq_length]
  intro x hx
  exact decide_eq_true (bkt_lt (hin x hx))
theorem cnt_all (l : List Int) (hin : ∀ x ∈ l, InI x) : isum (cntL l) = (l.length : Int) := by
  have h := cnt_take l 65 (Nat.le_refl _)
  rw [lowN_all l hin, List.take_of_length_le (by rw [cntL_len]; exact Nat.le_refl _)] at h
  exact h
theorem cnt_ok (l : List Int) : okL (cntL l) = true := okL_iff.2 fun k hk => (cntL_le l k hk).1
theorem bitLen_mono : ∀ (n x y : Nat), y ≤ n → x ≤ y → y < 18446744073709551616 → Lib.bitLen x ≤ Lib.bitLen y := by
  intro n
  induction n with
  | zero =>
    intro x y h1 h2 _
    obtain rfl : y = 0 := by omega
    obtain rfl : x = 0 := by omega
    exact Nat.le_refl _
  | succ n ih =>
    intro x y h1 h2 h3
    by_cases hx : x = 0
    · subst hx; rw [bitLen_zero]; exact Nat.zero_le _
    · have hy : y ≠ 0 := by omega
      rw [bitLen_half x hx (by omega), bitLen_half y hy h3]
      have := ih (x / 2) (y / 2) (by omega) (by omega) (by omega)
      omega
theorem bkt_mono {x y : Int} (h : x ≤ y) (hy : InI y) : bkt x ≤ bkt y := by
  unfold InI at hy
  unfold bkt
  by_cases h1 : x < 0
  · rw [if_pos h1]; exact Nat.zero_le _
  · rw [if_neg h1, if_neg (by omega)]
    have := bitLen_mono y.toNat x.toNat y.toNat (Nat.le_refl _) (by omega) (by omega)
    omega
theorem cnt_pos {l : List Int} {b : Nat} (hb : b < 65) : 0 < (cntL l).getD b 0 ↔ ∃ x ∈ l, bkt x = b := by
  rw [cntL_get _ _ hb]
  have : (0 < ((l.countP (fun v => bkt v == b) : Nat) : Int)) ↔ 0 < l.countP (fun v => bkt v == b) := by omega
  rw [this, List.countP_pos_iff]
  simp
theorem minL_all {l : List Int} (h : l ≠ []) : minL l ∈ l ∧ ∀ x ∈ l, minL l ≤ x := by
  unfold minL; rw [if_neg h]; exact minOf_all l h
theorem maxL_all {l : List Int} (h : l ≠ []) : maxL l ∈ l ∧ ∀ x ∈ l, x ≤ maxL l := by
  unfold maxL; rw [if_neg h]; exact maxOf_all l h
theorem rt_fold (l : List Int) (hin : ∀ x ∈ l, InI x) (hl : l.length ≤ 4000000000) : rtC (foldC l) = true := by
  by_cases h : l = []
  · subst h; rw [foldC_nil]; decide +kernel
  · obtain ⟨m1, m2⟩ := minL_all h
    obtain ⟨x1, x2⟩ := maxL_all h
    have hp : preC (foldC l) = true := decide_eq_true ⟨Int.natCast_nonneg _, Int.le_refl _, Int.le_refl _, m2 _ x1⟩
    have hs : isum (foldC l).H = (foldC l).n := cnt_all l hin
    have ha : (fullF (foldC l).H 65).all (okB (bkt (foldC l).mn) (bkt (foldC l).mx)) = true := by
      rw [List.all_eq_true]
      intro p hp
      obtain ⟨h1, h2, h3⟩ := (mem_fullF _ _ _).1 hp
      have h4 : 0 ≤ (cntL l).getD p.1 0 := (cntL_le l p.1 h1).1
      have h2' : p.2 = (cntL l).getD p.1 0 := h2
      have h5 : 0 < (cntL l).getD p.1 0 := by omega
      obtain ⟨x, hx, hb⟩ := (cnt_pos h1).1 h5
      have b1 : bkt (minL l) ≤ bkt x := bkt_mono (m2 x hx) (hin x hx)
      have b2 : bkt x ≤ bkt (maxL l) := bkt_mono (x2 x hx) (hin _ x1)
      unfold okB
      show (!(decide (p.2 < 0) || decide (p.1 < bkt (minL l)) || decide (bkt (maxL l) < p.1))) = true
      rw [decide_eq_false (by omega), decide_eq_false (by omega), decide_eq_false (by omega)]
      rfl
    have he : endC (foldC l) = true := by
      unfold endC
      have hn : ¬ (foldC l).n = 0 := by
        show ¬ (l.length : Int) = 0
        have := List.length_pos_iff.2 h
        omega
      rw [if_neg hn]
      exact decide_eq_true ⟨(cnt_pos (bkt_lt (hin _ m1))).2 ⟨_, m1, rfl⟩, (cnt_pos (bkt_lt (hin _ x1))).2 ⟨_, x1, rfl⟩⟩
    unfold rtC
    rw [hp, decide_eq_true hs, ha, he]
    rfl
theorem min_unique {l : List Int} {a : Int} (h1 : a ∈ l) (h2 : ∀ x ∈ l, a ≤ x) : minL l = a := by
  obtain ⟨m1, m2⟩ := minL_all (List.ne_nil_of_mem h1)
  have := m2 a h1; have := h2 _ m1
  omega
theorem max_unique {l : List Int} {a : Int} (h1 : a ∈ l) (h2 : ∀ x ∈ l, x ≤ a) : maxL l = a := by
  obtain ⟨m1, m2⟩ := maxL_all (List.ne_nil_of_mem h1)
  have := m2 a h1; have := h2 _ m1
  omega
theorem ends_fold (l m : List Int) : (ends2 [foldC l, foldC m]).1 = minL (l ++ m) ∧ (ends2 [foldC l, foldC m]).2.1 = maxL (l ++ m) := by
  have hn : ∀ k : List Int, (foldC k).n = 0 ↔ k = [] := fun k => by
    show (k.length : Int) = 0 ↔ k = []
    rw [← List.length_eq_zero_iff]; omega
  unfold ends2 ends1
  simp only [List.foldl_cons, List.foldl_nil, hn]
  by_cases h1 : l = [] <;> by_cases h2 : m = []
  · subst h1 h2; exact ⟨rfl, rfl⟩
  · subst h1; simp [h2]; exact ⟨rfl, rfl⟩
  · subst h2; simp [h1]; exact ⟨rfl, rfl⟩
  · obtain ⟨a1, a2⟩ := minL_all h1
    obtain ⟨b1, b2⟩ := minL_all h2
    obtain ⟨c1, c2⟩ := maxL_all h1
    obtain ⟨d1, d2⟩ := maxL_all h2
    simp only [h1, h2, if_false, if_true]
    constructor
    · show min (minL l) (minL m) = minL (l ++ m)
      refine (min_unique ?_ ?_).symm
      · rcases Int.le_total (minL l) (minL m) with h | h
        · rw [show min (minL l) (minL m) = minL l by omega]; exact List.mem_append_left _ a1
        · rw [show min (minL l) (minL m) = minL m by omega]; exact List.mem_append_right _ b1
      · intro x hx
        rcases List.mem_append.1 hx with hx | hx
        · have := a2 x hx; omega
        · have := b2 x hx; omega
    · show max (maxL l) (maxL m) = maxL (l ++ m)
      refine (max_unique ?_ ?_).symm
      · rcases Int.le_total (maxL l) (maxL m) with h | h
        · rw [show max (maxL l) (maxL m) = maxL m by omega]; exact List.mem_append_right _ d1
        · rw [show max (maxL l) (maxL m) = maxL l by omega]; exact List.mem_append_left _ c1
      · intro x hx
        rcases List.mem_append.1 hx with hx | hx
        · have := c2 x hx; omega
        · have := d2 x hx; omega
theorem colS2 (l m : List Int) (b : Nat) : colS [l, m] b = l.getD b 0 + m.getD b 0 := by simp [colS, isum]
theorem sumR_cnt (a b : List Int) : sumR [cntL a, cntL b] = cntL (a ++ b) :=
  ext65 (sumR_len _) (cntL_len _) fun k hk => by
    rw [sumR_get _ _ hk, colS2, cntL_get _ _ hk, cntL_get _ _ hk, cntL_get _ _ hk, List.countP_append]
    omega
theorem isum2 (x y : Int) : isum [x, y] = x + y := by simp [isum]
theorem allC_fold (l m : List Int) : allC [foldC l, foldC m] = foldC (l ++ m) := by
  obtain ⟨e1, e2⟩ := ends_fold l m
  unfold allC
  rw [e1, e2]
  show (⟨isum [(l.length : Int), (m.length : Int)], isum [isum l, isum m], minL (l ++ m), maxL (l ++ m), isum [0, 0], isum [0, 0], sumR [cntL l, cntL m]⟩ : Ce) = ⟨((l ++ m).length : Int), isum (l ++ m), minL (l ++ m), maxL (l ++ m), 0, 0, cntL (l ++ m)⟩
  rw [isum2, isum2, isum2, sumR_cnt, isum_append, List.length_append]
  simp
theorem over_fold (l m : List Int) (hl : ∀ x ∈ l, InI x) (hm : ∀ x ∈ m, InI x) (h : l.length + m.length ≤ 1000000000) : ¬ overL [foldC l, foldC m] := by
  have b1 := isum_bound l hl l.length (Nat.le_refl _)
  have b2 := isum_bound m hm m.length (Nat.le_refl _)
  rw [List.take_length] at b1 b2
  refine over2 ?_ (by show InI ((0 : Int) + 0); decide) (by show InI ((0 : Int) + 0); decide) ?_ ?_
  · show InI ((l.length : Int) + (m.length : Int)); unfold InI; omega
  · show InW (isum l + isum m); unfold InW; omega
  · intro k hk
    have h1 := cntL_le l k hk
    have h2 := cntL_le m k hk
    show (cntL l).getD k 0 + (cntL m).getD k 0 ≤ _
    omega
theorem merge_fold {l m : List Int} {w w' : World} {e : Ending} (hl : ∀ x ∈ l, InI x) (hm : ∀ x ∈ m, InI x) (h : l.length + m.length ≤ 1000000000) (hh : MrOut [foldC l, foldC m] w e w') : Gives (.tuple #[.agg (foldC (l ++ m)).A, .int .i64 0]) w e w' := by
  have := mr_ok hh (wrong2 (rt_fold l hl (by omega)) (rt_fold m hm (by omega))) (over_fold l m hl hm h)
  rw [allC_fold] at this
  exact this
end Go.Proofs.Ytpmoidpncpfnlaa
