/- noonmarkref19: Span, for all longs. -/
import Derived.Test.YthipeefhkaanbaaRefI
import Derived.Deep.RegionHeld3
namespace Go.Proofs.Ythipeefhkaanbaa
open Go.RowKit
set_option linter.unusedVariables false

set_option maxHeartbeats 16000000 in
theorem rspan_over2 (wd p m v : Int) (w : World) (CR : Hid (∀ W, Calls Try.prog 9 #[.agg #[.int .i64 wd, .int .i64 p, .int .i64 m]] W (Gives (.bool true) W)))
    (C1 : Hid (∀ W, Calls Try.prog 27 #[.int .i64 v] W (NumOut v W))) (C2 : Hid (∀ W, Calls Try.prog 27 #[.int .i64 wd] W (NumOut wd W)))
    (C3 : Hid (∀ W x y, NumAt W x v → NumAt W y wd → Calls Try.prog 26 #[x, y] W (NumOut (v * wd) W)))
    (C4 : Hid (∀ W, Calls Try.prog 27 #[.int .i64 (IntKind.i64.wrap (wd - 1))] W (NumOut (wd - 1) W)))
    (C5 : Hid (∀ W x y, NumAt W x (v * wd) → NumAt W y (wd - 1) → Calls Try.prog 28 #[x, y] W (NumOut (v * wd + (wd - 1)) W)))
    (C6 : Hid (∀ W x, NumAt W x (v * wd) → Calls Try.prog 29 #[x] W (LongPost (v * wd) W)))
    (C7 : Hid (∀ W x, NumAt W x (v * wd + (wd - 1)) → Calls Try.prog 29 #[x] W (LongPost (v * wd + (wd - 1)) W)))
    (h1 : 1 ≤ wd) (h2 : wd ≤ 1099511627776) (o1 : decide (InI (v * wd)) = true) (o2 : decide (InI (v * wd + (wd - 1))) = false) :
    Calls Try.prog 12 #[.agg #[.int .i64 wd, .int .i64 p, .int .i64 m], .int .i64 v] w (GapRes 0 0 12 w) := by
  have B0 : Hid (Below w.heap.size w ((w.alloc (.cells #[.int .i64 wd, .int .i64 p, .int .i64 m] 31)).alloc (.cells #[.int .i64 0, .int .i64 0] 33))) := Lib.hid ((one_alloc w _).alloc (by simp) _)
  have K0 : Hid (Kept ((w.alloc (.cells #[.int .i64 wd, .int .i64 p, .int .i64 m] 31)).alloc (.cells #[.int .i64 0, .int .i64 0] 33)) w.heap.size #[.int .i64 wd, .int .i64 p, .int .i64 m] 31) := Lib.hid (by exact (Kept.new rfl).alloc _)
  have R0 : Hid (Kept ((w.alloc (.cells #[.int .i64 wd, .int .i64 p, .int .i64 m] 31)).alloc (.cells #[.int .i64 0, .int .i64 0] 33)) (w.heap.size + 1) #[.int .i64 0, .int .i64 0] 33) := Lib.hid (by exact Kept.new (by simp))
  go_enter Try.func12, Try.ntmps12
  go_wp2_with fail
  refine (CR.out _).mono ?_
  rintro _ w1 ⟨rfl, hb1⟩
  have B := Lib.hid (bnext B0.out B0.out.size hb1)
  have K := Lib.hid (K0.out.next hb1)
  have R := Lib.hid (R0.out.next hb1)
  clear hb1 B0 K0 R0
  have hl1 : w.heap.size + 1 < w1.heap.size := R.out.lt
  have SS : Hid (Below w.heap.size w w1.drew) ∧ w1.drew.cell? ⟨w.heap.size, 0, none⟩ = some (.int .i64 wd) := ⟨Lib.hid (below_drewN B.out 1), K.out.three.1⟩
  have K : Hid (Kept w1.drew w.heap.size #[.int .i64 wd, .int .i64 p, .int .i64 m] 31) := Lib.hid (show Kept w1.drew _ _ _ from K.out)
  have R : Hid (Kept w1.drew (w.heap.size + 1) #[.int .i64 0, .int .i64 0] 33) := Lib.hid (show Kept w1.drew _ _ _ from R.out)
  clear B
  go_wp2
  have SH := Lib.hid SS
  clear SS
  have SS := SH.out
  go_region_held3 (fun w' => Hid (Below w.heap.size w w') ∧ w'.cell? ⟨w.heap.size, 0, none⟩ = some (.int .i64 wd))
    (first | exact SS | exact keepB1 (one_alloc _ _) SS | exact ⟨Lib.hid (bset2 SS.1.out (by omega) _ _), set2_far SS.2 (by simp; omega)⟩ | exact ⟨Lib.hid (bset2 (SS.1.out.alloc SS.1.out.size _) (by have := SS.1.out.size; simp; omega) _ _), set2_far (keep1 (one_alloc _ _) SS.2) (by simp; omega)⟩ | go_keep)
    (first
      | (go_at_call_of 27 (Value.int IntKind.i64 v); refine (C1.out _).mono ?_; rintro _ w2 ⟨v2, rfl, hn2, hb2⟩; have SS := keepB1 (a := w) hb2 (by first | exact SS | exact keepB1 (one_alloc _ _) SS); have K := Lib.hid (Kept.next (by first | exact K.out | exact K.out.alloc _) hb2); have R := Lib.hid (Kept.next (by first | exact R.out | exact R.out.alloc _) hb2); (try have N1 := Lib.hid (Kept.next (by first | exact N1.out | exact N1.out.alloc _) hb2)); (try have HM := Lib.hid (NumAt.below (by first | exact HM.out | exact NumAt.below HM.out (one_alloc _ _)) hb2)); (first | have NB := Lib.hid (NB.out.next hb2) | have NB := Lib.hid ((Kept.new (w := w1.drew) (g := w1.heap.size) (cs := #[.bool false, .slice none 0 0]) (t := 57) rfl).next hb2) | skip); have hs2 : w1.heap.size ≤ w2.heap.size := (by first | exact hb2.size | exact Nat.le_trans (by simp) hb2.size))
      | (go_at_call_of 27 (Value.int IntKind.i64 wd); refine (C2.out _).mono ?_; rintro _ w3 ⟨v3, rfl, hn3, hb3⟩; have SS := keepB1 (a := w) hb3 (by first | exact SS | exact keepB1 (one_alloc _ _) SS); have K := Lib.hid (Kept.next (by first | exact K.out | exact K.out.alloc _) hb3); have R := Lib.hid (Kept.next (by first | exact R.out | exact R.out.alloc _) hb3); (try have N1 := Lib.hid (Kept.next (by first | exact N1.out | exact N1.out.alloc _) hb3)); (try have HM := Lib.hid (NumAt.below (by first | exact HM.out | exact NumAt.below HM.out (one_alloc _ _)) hb3)); (first | have NB := Lib.hid (NB.out.next hb3) | have NB := Lib.hid ((Kept.new (w := w2) (g := w2.heap.size) (cs := #[.bool false, .slice none 0 0]) (t := 57) rfl).next hb3) | skip); have hs3 : w2.heap.size ≤ w3.heap.size := (by first | exact hb3.size | exact Nat.le_trans (by simp) hb3.size); (try have hn2 := NumAt.below (by first | exact hn2 | exact NumAt.below hn2 (one_alloc _ _)) hb3))
      | (go_at_call 26; refine (C3.out _ v2 v3 (by first | exact hn2 | exact NumAt.below hn2 (one_alloc _ _)) (by first | exact hn3 | exact NumAt.below hn3 (one_alloc _ _))).mono ?_; rintro _ w4 ⟨v4, rfl, hn4, hb4⟩; have SS := keepB1 (a := w) hb4 (by first | exact SS | exact keepB1 (one_alloc _ _) SS); have K := Lib.hid (Kept.next (by first | exact K.out | exact K.out.alloc _) hb4); have R := Lib.hid (Kept.next (by first | exact R.out | exact R.out.alloc _) hb4); (try have N1 := Lib.hid (Kept.next (by first | exact N1.out | exact N1.out.alloc _) hb4)); (try have HM := Lib.hid (NumAt.below (by first | exact HM.out | exact NumAt.below HM.out (one_alloc _ _)) hb4)); (first | have NB := Lib.hid (NB.out.next hb4) | have NB := Lib.hid ((Kept.new (w := w3) (g := w3.heap.size) (cs := #[.bool false, .slice none 0 0]) (t := 57) rfl).next hb4) | skip); have hs4 : w3.heap.size ≤ w4.heap.size := (by first | exact hb4.size | exact Nat.le_trans (by simp) hb4.size); have HN4 := Lib.hid hn4; obtain ⟨ng4, l', d4, rfl, ⟨la4, lc4, rfl, -⟩, -⟩ := hn4; (try obtain ⟨c1, c2, c3, c4, c5⟩ := NB.out.two)))
  all_goals
    clear SH
    first
    | (obtain ⟨b5, hb5⟩ : ∃ b, w4.heap.size = b := ⟨_, rfl⟩
       obtain ⟨W5, hW5⟩ : ∃ W, w4.alloc (Obj.cells #[.bool ng4, .slice la4 d4.length lc4] 57) = W := ⟨_, rfl⟩
       rw [hW5, hb5]
       have N1 : Hid (Kept W5 b5 #[.bool ng4, .slice la4 d4.length lc4] 57) := Lib.hid (by rw [← hW5, ← hb5]; exact Kept.new rfl)
       have B : Hid (Below w.heap.size w W5) := Lib.hid (by rw [← hW5]; exact SS.1.out.alloc SS.1.out.size _)
       have HM : Hid (NumAt W5 (.agg #[.bool ng4, .slice la4 d4.length lc4]) (v * wd)) := Lib.hid (by rw [← hW5]; exact HN4.out.below (one_alloc _ _))
       have K : Hid (Kept W5 w.heap.size #[.int .i64 wd, .int .i64 p, .int .i64 m] 31) := Lib.hid (by rw [← hW5]; exact K.out.alloc _)
       have R : Hid (Kept W5 (w.heap.size + 1) #[.int .i64 0, .int .i64 0] 33) := Lib.hid (by rw [← hW5]; exact R.out.alloc _))
    | (obtain ⟨b5, hb5⟩ : ∃ b, w3.heap.size = b := ⟨_, rfl⟩
       obtain ⟨W5, hW5⟩ : ∃ W, (w4.setCell ⟨w3.heap.size, 0, none⟩ (.bool ng4)).setCell ⟨w3.heap.size, 1, none⟩ (.slice la4 d4.length lc4) = W := ⟨_, rfl⟩
       rw [hW5, hb5]
       have N1 : Hid (Kept W5 b5 #[.bool ng4, .slice la4 d4.length lc4] 57) := Lib.hid (by rw [← hW5, ← hb5]; exact NB.out.set2 _ _)
       have B : Hid (Below w.heap.size w W5) := Lib.hid (by rw [← hW5]; exact bset2 SS.1.out (by omega) _ _)
       have HM : Hid (NumAt W5 (.agg #[.bool ng4, .slice la4 d4.length lc4]) (v * wd)) := Lib.hid (by rw [← hW5]; exact NumAt.set2 HN4.out NB.out _ _)
       have K : Hid (Kept W5 w.heap.size #[.int .i64 wd, .int .i64 p, .int .i64 m] 31) := Lib.hid (by rw [← hW5]; exact Kept.far2 K.out (by omega) _ _)
       have R : Hid (Kept W5 (w.heap.size + 1) #[.int .i64 0, .int .i64 0] 33) := Lib.hid (by rw [← hW5]; exact Kept.far2 R.out (by omega) _ _))
    | (obtain ⟨b5, hb5⟩ : ∃ b, w2.heap.size = b := ⟨_, rfl⟩
       obtain ⟨W5, hW5⟩ : ∃ W, (w4.setCell ⟨w2.heap.size, 0, none⟩ (.bool ng4)).setCell ⟨w2.heap.size, 1, none⟩ (.slice la4 d4.length lc4) = W := ⟨_, rfl⟩
       rw [hW5, hb5]
       have N1 : Hid (Kept W5 b5 #[.bool ng4, .slice la4 d4.length lc4] 57) := Lib.hid (by rw [← hW5, ← hb5]; exact NB.out.set2 _ _)
       have B : Hid (Below w.heap.size w W5) := Lib.hid (by rw [← hW5]; exact bset2 SS.1.out (by omega) _ _)
       have HM : Hid (NumAt W5 (.agg #[.bool ng4, .slice la4 d4.length lc4]) (v * wd)) := Lib.hid (by rw [← hW5]; exact NumAt.set2 HN4.out NB.out _ _)
       have K : Hid (Kept W5 w.heap.size #[.int .i64 wd, .int .i64 p, .int .i64 m] 31) := Lib.hid (by rw [← hW5]; exact Kept.far2 K.out (by omega) _ _)
       have R : Hid (Kept W5 (w.heap.size + 1) #[.int .i64 0, .int .i64 0] 33) := Lib.hid (by rw [← hW5]; exact Kept.far2 R.out (by omega) _ _))
    | (obtain ⟨b5, hb5⟩ : ∃ b, w1.heap.size = b := ⟨_, rfl⟩
       obtain ⟨W5, hW5⟩ : ∃ W, (w4.setCell ⟨w1.heap.size, 0, none⟩ (.bool ng4)).setCell ⟨w1.heap.size, 1, none⟩ (.slice la4 d4.length lc4) = W := ⟨_, rfl⟩
       rw [hW5, hb5]
       have N1 : Hid (Kept W5 b5 #[.bool ng4, .slice la4 d4.length lc4] 57) := Lib.hid (by rw [← hW5, ← hb5]; exact NB.out.set2 _ _)
       have B : Hid (Below w.heap.size w W5) := Lib.hid (by rw [← hW5]; exact bset2 SS.1.out (by omega) _ _)
       have HM : Hid (NumAt W5 (.agg #[.bool ng4, .slice la4 d4.length lc4]) (v * wd)) := Lib.hid (by rw [← hW5]; exact NumAt.set2 HN4.out NB.out _ _)
       have K : Hid (Kept W5 w.heap.size #[.int .i64 wd, .int .i64 p, .int .i64 m] 31) := Lib.hid (by rw [← hW5]; exact Kept.far2 K.out (by omega) _ _)
       have R : Hid (Kept W5 (w.heap.size + 1) #[.int .i64 0, .int .i64 0] 33) := Lib.hid (by rw [← hW5]; exact Kept.far2 R.out (by omega) _ _))
    have hl7 : w.heap.size + 1 < b5 := by omega
    clear SS hW5 hb5 hn2 hn3 hb2 hb3 hb4 hs2 hs3 hs4 HN4
    try clear c1 c2 c3 c4 c5
    try clear NB
    have hl5 : w.heap.size + 1 < W5.heap.size := R.out.lt
    have hl6 : b5 < W5.heap.size := N1.out.lt
    have SS : Hid (Below w.heap.size w W5.drew) ∧ W5.drew.cell? ⟨w.heap.size, 0, none⟩ = some (.int .i64 wd) ∧ W5.drew.cell? ⟨b5, 0, none⟩ = some (.bool ng4) ∧ W5.drew.cell? ⟨b5, 1, none⟩ = some (.slice la4 d4.length lc4) := ⟨Lib.hid (below_drewN B.out 1), K.out.three.1, N1.out.two.1, N1.out.two.2.1⟩
    have K : Hid (Kept W5.drew w.heap.size #[.int .i64 wd, .int .i64 p, .int .i64 m] 31) := Lib.hid (show Kept W5.drew _ _ _ from K.out)
    have R : Hid (Kept W5.drew (w.heap.size + 1) #[.int .i64 0, .int .i64 0] 33) := Lib.hid (show Kept W5.drew _ _ _ from R.out)
    have N1 : Hid (Kept W5.drew b5 #[.bool ng4, .slice la4 d4.length lc4] 57) := Lib.hid (show Kept W5.drew _ _ _ from N1.out)
    have HM : Hid (NumAt W5.drew (.agg #[.bool ng4, .slice la4 d4.length lc4]) (v * wd)) := Lib.hid (show NumAt W5.drew _ _ from HM.out)
    clear B
    go_wp2
    have SH := Lib.hid SS
    clear SS
    have SS := SH.out
    go_region_held3 (fun w' => Hid (Below w.heap.size w w') ∧ w'.cell? ⟨w.heap.size, 0, none⟩ = some (.int .i64 wd) ∧ w'.cell? ⟨b5, 0, none⟩ = some (.bool ng4) ∧ w'.cell? ⟨b5, 1, none⟩ = some (.slice la4 d4.length lc4))
      (first | exact SS | exact keepB3 (one_alloc _ _) SS | exact ⟨Lib.hid (bset2 SS.1.out (by omega) _ _), set2_far SS.2.1 (by simp; omega), set2_far SS.2.2.1 (by simp; omega), set2_far SS.2.2.2 (by simp; omega)⟩ | exact ⟨Lib.hid (bset2 (SS.1.out.alloc SS.1.out.size _) (by have := SS.1.out.size; simp; omega) _ _), set2_far (keep1 (one_alloc _ _) SS.2.1) (by simp; omega), set2_far (keep1 (one_alloc _ _) SS.2.2.1) (by simp; omega), set2_far (keep1 (one_alloc _ _) SS.2.2.2) (by simp; omega)⟩ | go_keep)
      (first
        | (go_at_call 27; refine (C4.out _).mono ?_; rintro _ w6 ⟨v6, rfl, hn6, hb6⟩; have SS := keepB3 (a := w) hb6 (by first | exact SS | exact keepB3 (one_alloc _ _) SS); have K := Lib.hid (Kept.next (by first | exact K.out | exact K.out.alloc _) hb6); have R := Lib.hid (Kept.next (by first | exact R.out | exact R.out.alloc _) hb6); (try have N1 := Lib.hid (Kept.next (by first | exact N1.out | exact N1.out.alloc _) hb6)); (try have HM := Lib.hid (NumAt.below (by first | exact HM.out | exact NumAt.below HM.out (one_alloc _ _)) hb6)); (first | have NB := Lib.hid (NB.out.next hb6) | have NB := Lib.hid ((Kept.new (w := W5.drew) (g := W5.heap.size) (cs := #[.bool false, .slice none 0 0]) (t := 57) rfl).next hb6) | skip); have hs6 : W5.heap.size ≤ w6.heap.size := (by first | exact hb6.size | exact Nat.le_trans (by simp) hb6.size))
        | (go_at_call 28; refine (C5.out _ (.agg #[.bool ng4, .slice la4 d4.length lc4]) v6 (by first | exact HM.out | exact NumAt.below HM.out (one_alloc _ _)) (by first | exact hn6 | exact NumAt.below hn6 (one_alloc _ _))).mono ?_; rintro _ w7 ⟨v7, rfl, hn7, hb7⟩; have SS := keepB3 (a := w) hb7 (by first | exact SS | exact keepB3 (one_alloc _ _) SS); have K := Lib.hid (Kept.next (by first | exact K.out | exact K.out.alloc _) hb7); have R := Lib.hid (Kept.next (by first | exact R.out | exact R.out.alloc _) hb7); (try have N1 := Lib.hid (Kept.next (by first | exact N1.out | exact N1.out.alloc _) hb7)); (try have HM := Lib.hid (NumAt.below (by first | exact HM.out | exact NumAt.below HM.out (one_alloc _ _)) hb7)); (first | have NB := Lib.hid (NB.out.next hb7) | have NB := Lib.hid ((Kept.new (w := w6) (g := w6.heap.size) (cs := #[.bool false, .slice none 0 0]) (t := 57) rfl).next hb7) | skip); have hs7 : w6.heap.size ≤ w7.heap.size := (by first | exact hb7.size | exact Nat.le_trans (by simp) hb7.size); have HN7 := Lib.hid hn7; obtain ⟨ng7, l', d7, rfl, ⟨la7, lc7, rfl, -⟩, -⟩ := hn7; (try obtain ⟨c1, c2, c3, c4, c5⟩ := NB.out.two)))
  all_goals
    clear SH
    first
    | (obtain ⟨b8, hb8⟩ : ∃ b, w7.heap.size = b := ⟨_, rfl⟩
       obtain ⟨W8, hW8⟩ : ∃ W, w7.alloc (Obj.cells #[.bool ng7, .slice la7 d7.length lc7] 57) = W := ⟨_, rfl⟩
       rw [hW8, hb8]
       have N2 : Hid (Kept W8 b8 #[.bool ng7, .slice la7 d7.length lc7] 57) := Lib.hid (by rw [← hW8, ← hb8]; exact Kept.new rfl)
       have B : Hid (Below w.heap.size w W8) := Lib.hid (by rw [← hW8]; exact SS.1.out.alloc SS.1.out.size _)
       have HO : Hid (NumAt W8 (.agg #[.bool ng7, .slice la7 d7.length lc7]) (v * wd + (wd - 1))) := Lib.hid (by rw [← hW8]; exact HN7.out.below (one_alloc _ _))
       have R : Hid (Kept W8 (w.heap.size + 1) #[.int .i64 0, .int .i64 0] 33) := Lib.hid (by rw [← hW8]; exact R.out.alloc _)
       have N1 : Hid (Kept W8 b5 #[.bool ng4, .slice la4 d4.length lc4] 57) := Lib.hid (by rw [← hW8]; exact N1.out.alloc _)
       have HM : Hid (NumAt W8 (.agg #[.bool ng4, .slice la4 d4.length lc4]) (v * wd)) := Lib.hid (by rw [← hW8]; exact HM.out.below (one_alloc _ _)))
    | (obtain ⟨b8, hb8⟩ : ∃ b, w6.heap.size = b := ⟨_, rfl⟩
       obtain ⟨W8, hW8⟩ : ∃ W, (w7.setCell ⟨w6.heap.size, 0, none⟩ (.bool ng7)).setCell ⟨w6.heap.size, 1, none⟩ (.slice la7 d7.length lc7) = W := ⟨_, rfl⟩
       rw [hW8, hb8]
       have N2 : Hid (Kept W8 b8 #[.bool ng7, .slice la7 d7.length lc7] 57) := Lib.hid (by rw [← hW8, ← hb8]; exact NB.out.set2 _ _)
       have B : Hid (Below w.heap.size w W8) := Lib.hid (by rw [← hW8]; exact bset2 SS.1.out (by omega) _ _)
       have HO : Hid (NumAt W8 (.agg #[.bool ng7, .slice la7 d7.length lc7]) (v * wd + (wd - 1))) := Lib.hid (by rw [← hW8]; exact NumAt.set2 HN7.out NB.out _ _)
       have R : Hid (Kept W8 (w.heap.size + 1) #[.int .i64 0, .int .i64 0] 33) := Lib.hid (by rw [← hW8]; exact Kept.far2 R.out (by omega) _ _)
       have N1 : Hid (Kept W8 b5 #[.bool ng4, .slice la4 d4.length lc4] 57) := Lib.hid (by rw [← hW8]; exact Kept.far2 N1.out (by omega) _ _)
       have HM : Hid (NumAt W8 (.agg #[.bool ng4, .slice la4 d4.length lc4]) (v * wd)) := Lib.hid (by rw [← hW8]; exact NumAt.set2 HM.out NB.out _ _))
    | (obtain ⟨b8, hb8⟩ : ∃ b, W5.heap.size = b := ⟨_, rfl⟩
       obtain ⟨W8, hW8⟩ : ∃ W, (w7.setCell ⟨W5.heap.size, 0, none⟩ (.bool ng7)).setCell ⟨W5.heap.size, 1, none⟩ (.slice la7 d7.length lc7) = W := ⟨_, rfl⟩
       rw [hW8, hb8]
       have N2 : Hid (Kept W8 b8 #[.bool ng7, .slice la7 d7.length lc7] 57) := Lib.hid (by rw [← hW8, ← hb8]; exact NB.out.set2 _ _)
       have B : Hid (Below w.heap.size w W8) := Lib.hid (by rw [← hW8]; exact bset2 SS.1.out (by omega) _ _)
       have HO : Hid (NumAt W8 (.agg #[.bool ng7, .slice la7 d7.length lc7]) (v * wd + (wd - 1))) := Lib.hid (by rw [← hW8]; exact NumAt.set2 HN7.out NB.out _ _)
       have R : Hid (Kept W8 (w.heap.size + 1) #[.int .i64 0, .int .i64 0] 33) := Lib.hid (by rw [← hW8]; exact Kept.far2 R.out (by omega) _ _)
       have N1 : Hid (Kept W8 b5 #[.bool ng4, .slice la4 d4.length lc4] 57) := Lib.hid (by rw [← hW8]; exact Kept.far2 N1.out (by omega) _ _)
       have HM : Hid (NumAt W8 (.agg #[.bool ng4, .slice la4 d4.length lc4]) (v * wd)) := Lib.hid (by rw [← hW8]; exact NumAt.set2 HM.out NB.out _ _))
    clear SS hW8 hb8 hn6 hb6 hb7 hs6 hs7 HN7 K
    try clear c1 c2 c3 c4 c5
    try clear NB
    obtain ⟨n1, n2, -, -, nl⟩ := N1.out.two
    go_wp2_with fail
    refine (C6.out _ _ HM.out).mono ?_
    rintro _ w9 ⟨⟨u9, rfl, hu9⟩, hb9⟩
    rw [o1]
    clear n1 n2 nl
    have R := Lib.hid (R.out.next hb9)
    have N2 := Lib.hid (N2.out.next hb9)
    have HO := Lib.hid (HO.out.below hb9)
    have B := Lib.hid (bnext B.out B.out.size hb9)
    clear hb9
    obtain ⟨n1, n2, -, -, nl⟩ := N2.out.two
    go_wp2_with fail
    refine (C7.out _ _ HO.out).mono ?_
    rintro _ w10 ⟨⟨u10, rfl, hu10⟩, hb10⟩
    rw [o2]
    clear n1 n2 nl
    have R := Lib.hid (R.out.next hb10)
    have B := Lib.hid (bnext B.out B.out.size hb10)
    clear hb10 HM HO N1 N2
    clear hu9 hu10
    obtain ⟨r1, r2, -, -, rl⟩ := R.out.two
    obtain ⟨z1, z2⟩ := R.out.read2 (.int .i64 0) (.int .i64 0)
    have hw := B.out.size
    have r3 := (R.out.at_ 0).2
    have r4 := (R.out.at_ 1).2
    go_wp2
    refine bodyPost_ret (v := .tuple #[.agg #[.int .i64 0, .int .i64 0], .int .i64 12]) (by simp [results, Try.results12, go_sem, z1, z2]) rfl ?_
    exact ⟨rfl, bset2 B.out (by omega) _ _⟩
end Go.Proofs.Ythipeefhkaanbaa
