/- DriftRates, walked. -/
import Derived.Test.YtodjlnfpigmegaaAlive
import Derived.Test.YtodjlnfpigmegaaPairs
namespace Go.Proofs.Ytodjlnfpigmegaa
open Go.RowKit
set_option linter.unusedVariables false

theorem rt_great (x : Option Addr) (xc : Nat) (n r m s : Int) (k : Nat) (w : World) (hm : (k : Int) = n) (d0 : decide (30 < n) = true) :
    Calls Try.prog 5 #[.int .i64 r, .int .i64 m, .slice x k xc, .int .i64 s] w fun e w' => e = .returned (.bool true) ∧ Below w.heap.size w w' := by
  go_enter Try.func5, Try.ntmps5
  go_wp2_with fail
  refine (alive_any _).mono ?_
  rintro _ w1 ⟨rfl, hb1⟩
  go_wp2
  go_ret
  exact ⟨rfl, hb1⟩
theorem rt_none (x : Option Addr) (xc : Nat) (n r m s : Int) (k : Nat) (w : World) (hm : (k : Int) = n) (d0 : decide (30 < n) = false) (C : Hid (∀ W, Below w.heap.size w W → Calls Try.prog 10 #[.int .i64 r, .slice x k xc] W (Gives (.bool false) W))) :
    Calls Try.prog 5 #[.int .i64 r, .int .i64 m, .slice x k xc, .int .i64 s] w fun e w' => e = .returned (.bool true) ∧ Below w.heap.size w w' := by
  go_enter Try.func5, Try.ntmps5
  go_wp2_with fail
  refine (alive_any _).mono ?_
  rintro _ w1 ⟨rfl, hb1⟩
  have B1 := Lib.hid hb1
  go_wp2_with fail
  refine (C.out _ B1.out).mono ?_
  rintro _ w2 ⟨rfl, hb2⟩
  have B2 := Lib.hid (bnext B1.out B1.out.size hb2)
  clear hb1 hb2 B1
  go_wp2
  go_ret
  exact ⟨rfl, B2.out⟩
def HonAt (x : Option Addr) (xc n : Nat) (r : Int) (b : Bool) (w : World) : Prop := ∀ W, Below w.heap.size w W → Calls Try.prog 10 #[.int .i64 r, .slice x n xc] W (Gives (.bool b) W)
/-- the further rate is none that is asked of, or is a rate of theirs -/
def MoreP (x : Option Addr) (xc n : Nat) (r m : Int) (w : World) : Prop := decide (r ≤ m) = false ∨ (decide (r ≤ m) = true ∧ decide (m ≤ 100000) = false) ∨ (decide (r ≤ m) = true ∧ decide (m ≤ 100000) = true ∧ HonAt x xc n m true w)
/-- the least rate v: none less is one of theirs -/
def LessP (x : Option Addr) (xc n : Nat) (v : Int) (w : World) : Prop := decide (0 < v) = false ∨ (decide (0 < v) = true ∧ HonAt x xc n (wrap64 (v - 1)) false w)
set_option maxHeartbeats 8000000 in
theorem rt_mid (x : Option Addr) (xc : Nat) (l : List (Int × Int)) (r m v s : Int) (w : World) (hl : l.length ≤ 30)
    (C : Hid (HonAt x xc l.length r true w)) (M : Hid (MoreP x xc l.length r m w))
    (L : Hid (∀ W, Below w.heap.size w W → Calls Try.prog 11 #[.slice x l.length xc] W (Gives (.tuple #[.int .i64 v, .bool true]) W)))
    (d1 : decide (r < v) = false) (CV : Hid (HonAt x xc l.length v true w)) (V : Hid (LessP x xc l.length v w))
    (ds : decide (s < 0) = true ∨ (decide (s < 0) = false ∧ decide ((l.length : Int) ≤ s) = true)) :
    Calls Try.prog 5 #[.int .i64 r, .int .i64 m, .slice x l.length xc, .int .i64 s] w fun e w' => e = .returned (.bool true) ∧ Below w.heap.size w w' := by
  have d0 : decide (30 < (l.length : Int)) = false := decide_eq_false (by omega)
  obtain ⟨n, hn⟩ : ∃ n, l.length = n := ⟨_, rfl⟩
  rw [hn] at C M L CV V ds d0 hl
  rw [hn]
  clear hn
  go_enter Try.func5, Try.ntmps5
  go_wp2_with fail
  refine (alive_any _).mono ?_
  rintro _ w1 ⟨rfl, hb1⟩
  have B1 := Lib.hid hb1
  go_wp2_with fail
  refine (C.out _ B1.out).mono ?_
  rintro _ w2 ⟨rfl, hb2⟩
  have B2 := Lib.hid (bnext B1.out B1.out.size hb2)
  clear hb1 hb2 B1
  rcases M.out with q1 | ⟨q1, q2⟩ | ⟨q1, q2, CM⟩
  · go_wp2_with fail
    refine (L.out _ B2.out).mono ?_
    rintro _ w4 ⟨rfl, hb4⟩
    have B4 := Lib.hid (bnext B2.out B2.out.size hb4)
    clear hb4 B2 q1
    go_wp2_with fail
    refine (CV.out _ B4.out).mono ?_
    rintro _ w5 ⟨rfl, hb5⟩
    have B5 := Lib.hid (bnext B4.out B4.out.size hb5)
    clear hb5 B4
    rcases V.out with q3 | ⟨q3, CL⟩
    · rcases ds with d2 | ⟨d2, d3⟩
      · go_wp2
        go_ret
        exact ⟨rfl, B5.out⟩
      · go_wp2
        go_ret
        exact ⟨rfl, B5.out⟩
    · have CL := Lib.hid CL
      go_wp2_with fail
      refine (CL.out _ B5.out).mono ?_
      rintro _ w6 ⟨rfl, hb6⟩
      have B6 := Lib.hid (bnext B5.out B5.out.size hb6)
      clear hb6 B5 CL
      rcases ds with d2 | ⟨d2, d3⟩
      · go_wp2
        go_ret
        exact ⟨rfl, B6.out⟩
      · go_wp2
        go_ret
        exact ⟨rfl, B6.out⟩
  · go_wp2_with fail
    refine (L.out _ B2.out).mono ?_
    rintro _ w4 ⟨rfl, hb4⟩
    have B4 := Lib.hid (bnext B2.out B2.out.size hb4)
    clear hb4 B2 q1 q2
    go_wp2_with fail
    refine (CV.out _ B4.out).mono ?_
    rintro _ w5 ⟨rfl, hb5⟩
    have B5 := Lib.hid (bnext B4.out B4.out.size hb5)
    clear hb5 B4
    rcases V.out with q3 | ⟨q3, CL⟩
    · rcases ds with d2 | ⟨d2, d3⟩
      · go_wp2
        go_ret
        exact ⟨rfl, B5.out⟩
      · go_wp2
        go_ret
        exact ⟨rfl, B5.out⟩
    · have CL := Lib.hid CL
      go_wp2_with fail
      refine (CL.out _ B5.out).mono ?_
      rintro _ w6 ⟨rfl, hb6⟩
      have B6 := Lib.hid (bnext B5.out B5.out.size hb6)
      clear hb6 B5 CL
      rcases ds with d2 | ⟨d2, d3⟩
      · go_wp2
        go_ret
        exact ⟨rfl, B6.out⟩
      · go_wp2
        go_ret
        exact ⟨rfl, B6.out⟩
  · have CM := Lib.hid CM
    go_wp2_with fail
    refine (CM.out _ B2.out).mono ?_
    rintro _ w3 ⟨rfl, hb3⟩
    have B3 := Lib.hid (bnext B2.out B2.out.size hb3)
    clear hb3 B2
    go_wp2_with fail
    refine (L.out _ B3.out).mono ?_
    rintro _ w4 ⟨rfl, hb4⟩
    have B4 := Lib.hid (bnext B3.out B3.out.size hb4)
    clear hb4 B3 q1 q2 CM
    go_wp2_with fail
    refine (CV.out _ B4.out).mono ?_
    rintro _ w5 ⟨rfl, hb5⟩
    have B5 := Lib.hid (bnext B4.out B4.out.size hb5)
    clear hb5 B4
    rcases V.out with q3 | ⟨q3, CL⟩
    · rcases ds with d2 | ⟨d2, d3⟩
      · go_wp2
        go_ret
        exact ⟨rfl, B5.out⟩
      · go_wp2
        go_ret
        exact ⟨rfl, B5.out⟩
    · have CL := Lib.hid CL
      go_wp2_with fail
      refine (CL.out _ B5.out).mono ?_
      rintro _ w6 ⟨rfl, hb6⟩
      have B6 := Lib.hid (bnext B5.out B5.out.size hb6)
      clear hb6 B5 CL
      rcases ds with d2 | ⟨d2, d3⟩
      · go_wp2
        go_ret
        exact ⟨rfl, B6.out⟩
      · go_wp2
        go_ret
        exact ⟨rfl, B6.out⟩
set_option maxHeartbeats 8000000 in
theorem rt_left (x : Option Addr) (xc : Nat) (l : List (Int × Int)) (r m v s : Int) (w : World) (hl : l.length ≤ 30)
    (C : Hid (HonAt x xc l.length r true w)) (M : Hid (MoreP x xc l.length r m w))
    (L : Hid (∀ W, Below w.heap.size w W → Calls Try.prog 11 #[.slice x l.length xc] W (Gives (.tuple #[.int .i64 v, .bool true]) W)))
    (d1 : decide (r < v) = false) (CV : Hid (HonAt x xc l.length v true w)) (V : Hid (LessP x xc l.length v w))
    (S : Nat) (hS : s = (S : Int)) (T : Nat) (hT : S + 1 = T) (hTl : T ≤ l.length) (hlc : l.length ≤ xc) (hcm : xc ≤ 9223372036854775807) (b off : Nat) (hxe : x = some ⟨b, off, none⟩) (hx : PairRow w x l)
    (CF : Hid (∀ W a c, PairRow W a (l.take S ++ l.drop T) → Calls Try.prog 10 #[.int .i64 r, .slice a (l.take S ++ l.drop T).length c] W (Gives (.bool true) W))) :
    Calls Try.prog 5 #[.int .i64 r, .int .i64 m, .slice x l.length xc, .int .i64 s] w fun e w' => e = .returned (.bool true) ∧ Below w.heap.size w w' := by
  have d2 : decide (s < 0) = false := decide_eq_false (by omega)
  have d3 : decide ((l.length : Int) ≤ s) = false := decide_eq_false (by omega)
  have e1 : IntKind.i64.wrap ((S : Int) + 1) = (T : Int) := by rw [IntKind.wrap_i64]; omega
  have f1 : S ≤ xc := by omega
  have f2 : (S : Int) ≤ (xc : Int) := by omega
  have f3 : (0 : Int) ≤ (S : Int) := by omega
  have f4 : T ≤ l.length := hTl
  have f5 : (T : Int) ≤ (l.length : Int) := by omega
  have f6 : (0 : Int) ≤ (T : Int) := by omega
  have f7 : S ≤ l.length := by omega
  subst hS
  have HX := Lib.hid hx
  obtain ⟨i0, hi, hz0, hz1, hz2⟩ := info_parts2 info_pt
  have hlt : (l.take S).length = S := by rw [List.length_take]; omega
  have hld : (l.drop T).length = l.length - T := by rw [List.length_drop]
  have hq1 : 0 + S ≤ maxLen := by unfold maxLen; omega
  have hq2 : (0 + S) * 16 ≤ 140737488355328 := by omega
  have hq3 : 0 + S + (l.length - T) ≤ maxLen := by unfold maxLen; omega
  have hq4 : (0 + S + (l.length - T)) * 16 ≤ 140737488355328 := by omega
  have hAN : (if xc = T then some (⟨b, off, none⟩ : Addr) else some ⟨b, off + T * 2, none⟩) = none → xc - T = 0 := fun h => by split at h <;> cases h
  subst hxe
  clear hx
  have d0 : decide (30 < (l.length : Int)) = false := decide_eq_false (by omega)
  go_enter Try.func5, Try.ntmps5
  go_wp2_with fail
  refine (alive_any _).mono ?_
  rintro _ w1 ⟨rfl, hb1⟩
  have B1 := Lib.hid hb1
  go_wp2_with fail
  refine (C.out _ B1.out).mono ?_
  rintro _ w2 ⟨rfl, hb2⟩
  have B2 := Lib.hid (bnext B1.out B1.out.size hb2)
  clear hb1 hb2 B1
  rcases M.out with q1 | ⟨q1, q2⟩ | ⟨q1, q2, CM⟩
  · go_wp2_with fail
    refine (L.out _ B2.out).mono ?_
    rintro _ w4 ⟨rfl, hb4⟩
    have B4 := Lib.hid (bnext B2.out B2.out.size hb4)
    clear hb4 B2 q1
    go_wp2_with fail
    refine (CV.out _ B4.out).mono ?_
    rintro _ w5 ⟨rfl, hb5⟩
    have B5 := Lib.hid (bnext B4.out B4.out.size hb5)
    clear hb5 B4
    rcases V.out with q3 | ⟨q3, CL⟩
    · have RX := Lib.hid (HX.out.below B5.out)
      have G1 : Hid ((w5.alloc (Obj.cells #[] 30)).drew.ownsRow w5.heap.size 30 2 (.slice (some ⟨w5.heap.size, 0, none⟩) 0 0) 0 []) := Lib.hid (show (w5.alloc (Obj.cells #[] 30)).ownsRow _ _ _ _ _ _ from World.ownsRow_made _ #[] 0 (Nat.le_refl _) (by unfold maxLen; omega) rfl)
      have A1 : Hid (Below w5.heap.size w5 (w5.alloc (Obj.cells #[] 30)).drew) := Lib.hid (below_drewN (one_alloc _ _) 1)
      have R1 := Lib.hid ((RX.out.below A1.out).take S)
      have RD : Hid (PairRow w5 (if xc = T then some ⟨b, off, none⟩ else some ⟨b, off + T * 2, none⟩) (l.drop T)) := Lib.hid (by
        by_cases hc : xc = T
        · intro j hj
          rw [List.length_drop] at hj
          omega
        · rw [if_neg hc]
          exact RX.out.drop T)
      go_wp2
      go_region_law (first
        | (refine step_appendPairs (by rfl) _ _ 27 (by rfl) w5 30 i0 (.agg #[.int .i64 0, .int .i64 0]) 16 Try.underlying27 hi hz0 hz1 hz2 (by rfl) v7 (0 + S) _ (by rfl) o7 (if xc = T then some ⟨b, off, none⟩ else some ⟨b, off + T * 2, none⟩) (l.length - T) (xc - T) (l.drop T) hld (by rfl) hAN (RD.out.below b7) hq3 hq4 b7 ?_; intro v8 w8 o8 b8)
        | (refine step_appendPairs (by rfl) _ _ 27 (by rfl) w5 30 i0 (.agg #[.int .i64 0, .int .i64 0]) 16 Try.underlying27 hi hz0 hz1 hz2 (by rfl) _ 0 _ (by rfl) G1.out (some ⟨b, off, none⟩) S xc (l.take S) hlt (by rfl) (by simp) R1.out hq1 hq2 A1.out ?_; intro v7 w7 o7 b7))
      all_goals
        generalize (if xc = T then some (⟨b, off, none⟩ : Addr) else some ⟨b, off + T * 2, none⟩) = A9 at *
        have hnn : 0 + S + (l.length - T) = (l.take S ++ l.drop T).length := by rw [List.length_append, hlt, hld]; omega
        have o9 : w8.ownsRow w5.heap.size 30 2 v8 (l.take S ++ l.drop T).length (cells2 (l.take S ++ l.drop T)) := by rw [← hnn, cells2_append]; simpa using o8
        obtain ⟨a9, c9, rfl, -, -, -, -, R9⟩ := PairRow.own o9
        have CX := Lib.hid (CF.out w8 a9 c9 R9)
        have B9 := Lib.hid (bnext B5.out B5.out.size b8)
        obtain ⟨N9, hN9⟩ : ∃ n, (l.take S ++ l.drop T).length = n := ⟨_, rfl⟩
        rw [hN9] at CX
        rw [hN9]
        clear o7 o8 o9 b7 b8 R9 hnn hN9 RD G1 A1 R1
        go_wp2_with fail
        refine CX.out.mono ?_
        rintro _ w10 ⟨rfl, hb10⟩
        have B10 := Lib.hid (bnext B9.out B9.out.size hb10)
        clear hb10
        go_wp2
        go_ret
        exact ⟨rfl, B10.out⟩
    · have CL := Lib.hid CL
      go_wp2_with fail
      refine (CL.out _ B5.out).mono ?_
      rintro _ w6 ⟨rfl, hb6⟩
      have B6 := Lib.hid (bnext B5.out B5.out.size hb6)
      clear hb6 B5 CL
      have RX := Lib.hid (HX.out.below B6.out)
      have G1 : Hid ((w6.alloc (Obj.cells #[] 30)).drew.ownsRow w6.heap.size 30 2 (.slice (some ⟨w6.heap.size, 0, none⟩) 0 0) 0 []) := Lib.hid (show (w6.alloc (Obj.cells #[] 30)).ownsRow _ _ _ _ _ _ from World.ownsRow_made _ #[] 0 (Nat.le_refl _) (by unfold maxLen; omega) rfl)
      have A1 : Hid (Below w6.heap.size w6 (w6.alloc (Obj.cells #[] 30)).drew) := Lib.hid (below_drewN (one_alloc _ _) 1)
      have R1 := Lib.hid ((RX.out.below A1.out).take S)
      have RD : Hid (PairRow w6 (if xc = T then some ⟨b, off, none⟩ else some ⟨b, off + T * 2, none⟩) (l.drop T)) := Lib.hid (by
        by_cases hc : xc = T
        · intro j hj
          rw [List.length_drop] at hj
          omega
        · rw [if_neg hc]
          exact RX.out.drop T)
      go_wp2
      go_region_law (first
        | (refine step_appendPairs (by rfl) _ _ 27 (by rfl) w6 30 i0 (.agg #[.int .i64 0, .int .i64 0]) 16 Try.underlying27 hi hz0 hz1 hz2 (by rfl) v7 (0 + S) _ (by rfl) o7 (if xc = T then some ⟨b, off, none⟩ else some ⟨b, off + T * 2, none⟩) (l.length - T) (xc - T) (l.drop T) hld (by rfl) hAN (RD.out.below b7) hq3 hq4 b7 ?_; intro v8 w8 o8 b8)
        | (refine step_appendPairs (by rfl) _ _ 27 (by rfl) w6 30 i0 (.agg #[.int .i64 0, .int .i64 0]) 16 Try.underlying27 hi hz0 hz1 hz2 (by rfl) _ 0 _ (by rfl) G1.out (some ⟨b, off, none⟩) S xc (l.take S) hlt (by rfl) (by simp) R1.out hq1 hq2 A1.out ?_; intro v7 w7 o7 b7))
      all_goals
        generalize (if xc = T then some (⟨b, off, none⟩ : Addr) else some ⟨b, off + T * 2, none⟩) = A9 at *
        have hnn : 0 + S + (l.length - T) = (l.take S ++ l.drop T).length := by rw [List.length_append, hlt, hld]; omega
        have o9 : w8.ownsRow w6.heap.size 30 2 v8 (l.take S ++ l.drop T).length (cells2 (l.take S ++ l.drop T)) := by rw [← hnn, cells2_append]; simpa using o8
        obtain ⟨a9, c9, rfl, -, -, -, -, R9⟩ := PairRow.own o9
        have CX := Lib.hid (CF.out w8 a9 c9 R9)
        have B9 := Lib.hid (bnext B6.out B6.out.size b8)
        obtain ⟨N9, hN9⟩ : ∃ n, (l.take S ++ l.drop T).length = n := ⟨_, rfl⟩
        rw [hN9] at CX
        rw [hN9]
        clear o7 o8 o9 b7 b8 R9 hnn hN9 RD G1 A1 R1
        go_wp2_with fail
        refine CX.out.mono ?_
        rintro _ w10 ⟨rfl, hb10⟩
        have B10 := Lib.hid (bnext B9.out B9.out.size hb10)
        clear hb10
        go_wp2
        go_ret
        exact ⟨rfl, B10.out⟩
  · go_wp2_with fail
    refine (L.out _ B2.out).mono ?_
    rintro _ w4 ⟨rfl, hb4⟩
    have B4 := Lib.hid (bnext B2.out B2.out.size hb4)
    clear hb4 B2 q1 q2
    go_wp2_with fail
    refine (CV.out _ B4.out).mono ?_
    rintro _ w5 ⟨rfl, hb5⟩
    have B5 := Lib.hid (bnext B4.out B4.out.size hb5)
    clear hb5 B4
    rcases V.out with q3 | ⟨q3, CL⟩
    · have RX := Lib.hid (HX.out.below B5.out)
      have G1 : Hid ((w5.alloc (Obj.cells #[] 30)).drew.ownsRow w5.heap.size 30 2 (.slice (some ⟨w5.heap.size, 0, none⟩) 0 0) 0 []) := Lib.hid (show (w5.alloc (Obj.cells #[] 30)).ownsRow _ _ _ _ _ _ from World.ownsRow_made _ #[] 0 (Nat.le_refl _) (by unfold maxLen; omega) rfl)
      have A1 : Hid (Below w5.heap.size w5 (w5.alloc (Obj.cells #[] 30)).drew) := Lib.hid (below_drewN (one_alloc _ _) 1)
      have R1 := Lib.hid ((RX.out.below A1.out).take S)
      have RD : Hid (PairRow w5 (if xc = T then some ⟨b, off, none⟩ else some ⟨b, off + T * 2, none⟩) (l.drop T)) := Lib.hid (by
        by_cases hc : xc = T
        · intro j hj
          rw [List.length_drop] at hj
          omega
        · rw [if_neg hc]
          exact RX.out.drop T)
      go_wp2
      go_region_law (first
        | (refine step_appendPairs (by rfl) _ _ 27 (by rfl) w5 30 i0 (.agg #[.int .i64 0, .int .i64 0]) 16 Try.underlying27 hi hz0 hz1 hz2 (by rfl) v7 (0 + S) _ (by rfl) o7 (if xc = T then some ⟨b, off, none⟩ else some ⟨b, off + T * 2, none⟩) (l.length - T) (xc - T) (l.drop T) hld (by rfl) hAN (RD.out.below b7) hq3 hq4 b7 ?_; intro v8 w8 o8 b8)
        | (refine step_appendPairs (by rfl) _ _ 27 (by rfl) w5 30 i0 (.agg #[.int .i64 0, .int .i64 0]) 16 Try.underlying27 hi hz0 hz1 hz2 (by rfl) _ 0 _ (by rfl) G1.out (some ⟨b, off, none⟩) S xc (l.take S) hlt (by rfl) (by simp) R1.out hq1 hq2 A1.out ?_; intro v7 w7 o7 b7))
      all_goals
        generalize (if xc = T then some (⟨b, off, none⟩ : Addr) else some ⟨b, off + T * 2, none⟩) = A9 at *
        have hnn : 0 + S + (l.length - T) = (l.take S ++ l.drop T).length := by rw [List.length_append, hlt, hld]; omega
        have o9 : w8.ownsRow w5.heap.size 30 2 v8 (l.take S ++ l.drop T).length (cells2 (l.take S ++ l.drop T)) := by rw [← hnn, cells2_append]; simpa using o8
        obtain ⟨a9, c9, rfl, -, -, -, -, R9⟩ := PairRow.own o9
        have CX := Lib.hid (CF.out w8 a9 c9 R9)
        have B9 := Lib.hid (bnext B5.out B5.out.size b8)
        obtain ⟨N9, hN9⟩ : ∃ n, (l.take S ++ l.drop T).length = n := ⟨_, rfl⟩
        rw [hN9] at CX
        rw [hN9]
        clear o7 o8 o9 b7 b8 R9 hnn hN9 RD G1 A1 R1
        go_wp2_with fail
        refine CX.out.mono ?_
        rintro _ w10 ⟨rfl, hb10⟩
        have B10 := Lib.hid (bnext B9.out B9.out.size hb10)
        clear hb10
        go_wp2
        go_ret
        exact ⟨rfl, B10.out⟩
    · have CL := Lib.hid CL
      go_wp2_with fail
      refine (CL.out _ B5.out).mono ?_
      rintro _ w6 ⟨rfl, hb6⟩
      have B6 := Lib.hid (bnext B5.out B5.out.size hb6)
      clear hb6 B5 CL
      have RX := Lib.hid (HX.out.below B6.out)
      have G1 : Hid ((w6.alloc (Obj.cells #[] 30)).drew.ownsRow w6.heap.size 30 2 (.slice (some ⟨w6.heap.size, 0, none⟩) 0 0) 0 []) := Lib.hid (show (w6.alloc (Obj.cells #[] 30)).ownsRow _ _ _ _ _ _ from World.ownsRow_made _ #[] 0 (Nat.le_refl _) (by unfold maxLen; omega) rfl)
      have A1 : Hid (Below w6.heap.size w6 (w6.alloc (Obj.cells #[] 30)).drew) := Lib.hid (below_drewN (one_alloc _ _) 1)
      have R1 := Lib.hid ((RX.out.below A1.out).take S)
      have RD : Hid (PairRow w6 (if xc = T then some ⟨b, off, none⟩ else some ⟨b, off + T * 2, none⟩) (l.drop T)) := Lib.hid (by
        by_cases hc : xc = T
        · intro j hj
          rw [List.length_drop] at hj
          omega
        · rw [if_neg hc]
          exact RX.out.drop T)
      go_wp2
      go_region_law (first
        | (refine step_appendPairs (by rfl) _ _ 27 (by rfl) w6 30 i0 (.agg #[.int .i64 0, .int .i64 0]) 16 Try.underlying27 hi hz0 hz1 hz2 (by rfl) v7 (0 + S) _ (by rfl) o7 (if xc = T then some ⟨b, off, none⟩ else some ⟨b, off + T * 2, none⟩) (l.length - T) (xc - T) (l.drop T) hld (by rfl) hAN (RD.out.below b7) hq3 hq4 b7 ?_; intro v8 w8 o8 b8)
        | (refine step_appendPairs (by rfl) _ _ 27 (by rfl) w6 30 i0 (.agg #[.int .i64 0, .int .i64 0]) 16 Try.underlying27 hi hz0 hz1 hz2 (by rfl) _ 0 _ (by rfl) G1.out (some ⟨b, off, none⟩) S xc (l.take S) hlt (by rfl) (by simp) R1.out hq1 hq2 A1.out ?_; intro v7 w7 o7 b7))
      all_goals
        generalize (if xc = T then some (⟨b, off, none⟩ : Addr) else some ⟨b, off + T * 2, none⟩) = A9 at *
        have hnn : 0 + S + (l.length - T) = (l.take S ++ l.drop T).length := by rw [List.length_append, hlt, hld]; omega
        have o9 : w8.ownsRow w6.heap.size 30 2 v8 (l.take S ++ l.drop T).length (cells2 (l.take S ++ l.drop T)) := by rw [← hnn, cells2_append]; simpa using o8
        obtain ⟨a9, c9, rfl, -, -, -, -, R9⟩ := PairRow.own o9
        have CX := Lib.hid (CF.out w8 a9 c9 R9)
        have B9 := Lib.hid (bnext B6.out B6.out.size b8)
        obtain ⟨N9, hN9⟩ : ∃ n, (l.take S ++ l.drop T).length = n := ⟨_, rfl⟩
        rw [hN9] at CX
        rw [hN9]
        clear o7 o8 o9 b7 b8 R9 hnn hN9 RD G1 A1 R1
        go_wp2_with fail
        refine CX.out.mono ?_
        rintro _ w10 ⟨rfl, hb10⟩
        have B10 := Lib.hid (bnext B9.out B9.out.size hb10)
        clear hb10
        go_wp2
        go_ret
        exact ⟨rfl, B10.out⟩
  · have CM := Lib.hid CM
    go_wp2_with fail
    refine (CM.out _ B2.out).mono ?_
    rintro _ w3 ⟨rfl, hb3⟩
    have B3 := Lib.hid (bnext B2.out B2.out.size hb3)
    clear hb3 B2
    go_wp2_with fail
    refine (L.out _ B3.out).mono ?_
    rintro _ w4 ⟨rfl, hb4⟩
    have B4 := Lib.hid (bnext B3.out B3.out.size hb4)
    clear hb4 B3 q1 q2 CM
    go_wp2_with fail
    refine (CV.out _ B4.out).mono ?_
    rintro _ w5 ⟨rfl, hb5⟩
    have B5 := Lib.hid (bnext B4.out B4.out.size hb5)
    clear hb5 B4
    rcases V.out with q3 | ⟨q3, CL⟩
    · have RX := Lib.hid (HX.out.below B5.out)
      have G1 : Hid ((w5.alloc (Obj.cells #[] 30)).drew.ownsRow w5.heap.size 30 2 (.slice (some ⟨w5.heap.size, 0, none⟩) 0 0) 0 []) := Lib.hid (show (w5.alloc (Obj.cells #[] 30)).ownsRow _ _ _ _ _ _ from World.ownsRow_made _ #[] 0 (Nat.le_refl _) (by unfold maxLen; omega) rfl)
      have A1 : Hid (Below w5.heap.size w5 (w5.alloc (Obj.cells #[] 30)).drew) := Lib.hid (below_drewN (one_alloc _ _) 1)
      have R1 := Lib.hid ((RX.out.below A1.out).take S)
      have RD : Hid (PairRow w5 (if xc = T then some ⟨b, off, none⟩ else some ⟨b, off + T * 2, none⟩) (l.drop T)) := Lib.hid (by
        by_cases hc : xc = T
        · intro j hj
          rw [List.length_drop] at hj
          omega
        · rw [if_neg hc]
          exact RX.out.drop T)
      go_wp2
      go_region_law (first
        | (refine step_appendPairs (by rfl) _ _ 27 (by rfl) w5 30 i0 (.agg #[.int .i64 0, .int .i64 0]) 16 Try.underlying27 hi hz0 hz1 hz2 (by rfl) v7 (0 + S) _ (by rfl) o7 (if xc = T then some ⟨b, off, none⟩ else some ⟨b, off + T * 2, none⟩) (l.length - T) (xc - T) (l.drop T) hld (by rfl) hAN (RD.out.below b7) hq3 hq4 b7 ?_; intro v8 w8 o8 b8)
        | (refine step_appendPairs (by rfl) _ _ 27 (by rfl) w5 30 i0 (.agg #[.int .i64 0, .int .i64 0]) 16 Try.underlying27 hi hz0 hz1 hz2 (by rfl) _ 0 _ (by rfl) G1.out (some ⟨b, off, none⟩) S xc (l.take S) hlt (by rfl) (by simp) R1.out hq1 hq2 A1.out ?_; intro v7 w7 o7 b7))
      all_goals
        generalize (if xc = T then some (⟨b, off, none⟩ : Addr) else some ⟨b, off + T * 2, none⟩) = A9 at *
        have hnn : 0 + S + (l.length - T) = (l.take S ++ l.drop T).length := by rw [List.length_append, hlt, hld]; omega
        have o9 : w8.ownsRow w5.heap.size 30 2 v8 (l.take S ++ l.drop T).length (cells2 (l.take S ++ l.drop T)) := by rw [← hnn, cells2_append]; simpa using o8
        obtain ⟨a9, c9, rfl, -, -, -, -, R9⟩ := PairRow.own o9
        have CX := Lib.hid (CF.out w8 a9 c9 R9)
        have B9 := Lib.hid (bnext B5.out B5.out.size b8)
        obtain ⟨N9, hN9⟩ : ∃ n, (l.take S ++ l.drop T).length = n := ⟨_, rfl⟩
        rw [hN9] at CX
        rw [hN9]
        clear o7 o8 o9 b7 b8 R9 hnn hN9 RD G1 A1 R1
        go_wp2_with fail
        refine CX.out.mono ?_
        rintro _ w10 ⟨rfl, hb10⟩
        have B10 := Lib.hid (bnext B9.out B9.out.size hb10)
        clear hb10
        go_wp2
        go_ret
        exact ⟨rfl, B10.out⟩
    · have CL := Lib.hid CL
      go_wp2_with fail
      refine (CL.out _ B5.out).mono ?_
      rintro _ w6 ⟨rfl, hb6⟩
      have B6 := Lib.hid (bnext B5.out B5.out.size hb6)
      clear hb6 B5 CL
      have RX := Lib.hid (HX.out.below B6.out)
      have G1 : Hid ((w6.alloc (Obj.cells #[] 30)).drew.ownsRow w6.heap.size 30 2 (.slice (some ⟨w6.heap.size, 0, none⟩) 0 0) 0 []) := Lib.hid (show (w6.alloc (Obj.cells #[] 30)).ownsRow _ _ _ _ _ _ from World.ownsRow_made _ #[] 0 (Nat.le_refl _) (by unfold maxLen; omega) rfl)
      have A1 : Hid (Below w6.heap.size w6 (w6.alloc (Obj.cells #[] 30)).drew) := Lib.hid (below_drewN (one_alloc _ _) 1)
      have R1 := Lib.hid ((RX.out.below A1.out).take S)
      have RD : Hid (PairRow w6 (if xc = T then some ⟨b, off, none⟩ else some ⟨b, off + T * 2, none⟩) (l.drop T)) := Lib.hid (by
        by_cases hc : xc = T
        · intro j hj
          rw [List.length_drop] at hj
          omega
        · rw [if_neg hc]
          exact RX.out.drop T)
      go_wp2
      go_region_law (first
        | (refine step_appendPairs (by rfl) _ _ 27 (by rfl) w6 30 i0 (.agg #[.int .i64 0, .int .i64 0]) 16 Try.underlying27 hi hz0 hz1 hz2 (by rfl) v7 (0 + S) _ (by rfl) o7 (if xc = T then some ⟨b, off, none⟩ else some ⟨b, off + T * 2, none⟩) (l.length - T) (xc - T) (l.drop T) hld (by rfl) hAN (RD.out.below b7) hq3 hq4 b7 ?_; intro v8 w8 o8 b8)
        | (refine step_appendPairs (by rfl) _ _ 27 (by rfl) w6 30 i0 (.agg #[.int .i64 0, .int .i64 0]) 16 Try.underlying27 hi hz0 hz1 hz2 (by rfl) _ 0 _ (by rfl) G1.out (some ⟨b, off, none⟩) S xc (l.take S) hlt (by rfl) (by simp) R1.out hq1 hq2 A1.out ?_; intro v7 w7 o7 b7))
      all_goals
        generalize (if xc = T then some (⟨b, off, none⟩ : Addr) else some ⟨b, off + T * 2, none⟩) = A9 at *
        have hnn : 0 + S + (l.length - T) = (l.take S ++ l.drop T).length := by rw [List.length_append, hlt, hld]; omega
        have o9 : w8.ownsRow w6.heap.size 30 2 v8 (l.take S ++ l.drop T).length (cells2 (l.take S ++ l.drop T)) := by rw [← hnn, cells2_append]; simpa using o8
        obtain ⟨a9, c9, rfl, -, -, -, -, R9⟩ := PairRow.own o9
        have CX := Lib.hid (CF.out w8 a9 c9 R9)
        have B9 := Lib.hid (bnext B6.out B6.out.size b8)
        obtain ⟨N9, hN9⟩ : ∃ n, (l.take S ++ l.drop T).length = n := ⟨_, rfl⟩
        rw [hN9] at CX
        rw [hN9]
        clear o7 o8 o9 b7 b8 R9 hnn hN9 RD G1 A1 R1
        go_wp2_with fail
        refine CX.out.mono ?_
        rintro _ w10 ⟨rfl, hb10⟩
        have B10 := Lib.hid (bnext B9.out B9.out.size hb10)
        clear hb10
        go_wp2
        go_ret
        exact ⟨rfl, B10.out⟩
end Go.Proofs.Ytodjlnfpigmegaa
