import Derived.Test.YtflplliiamodhaaZDriftA
import Derived.Test.YtflplliiamodhaaZWideE
import Derived.Deep.RegionHeld3
/- drift.sound, weighed, the two closures of keeps: for every list of points. -/
namespace Go.Proofs.Ytflplliiamodhaa
open Go.RowKit
set_option linter.unusedVariables false

/-- the points of a list lie one beside another behind an address, two cells each -/
def PairRow (w : World) (a : Option Addr) (l : List (Int × Int)) : Prop := ∀ j, j < l.length → ∃ b off, a = some ⟨b, off, none⟩ ∧ w.cell? ⟨b, off + j * 2, none⟩ = some (.int .i64 (l.getD j (0, 0)).1) ∧ w.cell? ⟨b, off + j * 2 + 1, none⟩ = some (.int .i64 (l.getD j (0, 0)).2)
theorem PairRow.below {w w' : World} {a : Option Addr} {l : List (Int × Int)} (h : PairRow w a l) (hb : Below w.heap.size w w') : PairRow w' a l := fun j hj => by
  obtain ⟨b, off, e, h1, h2⟩ := h j hj
  exact ⟨b, off, e, (hb.cell (World.block_lt_of_cell? w _ h1)).trans h1, (hb.cell (World.block_lt_of_cell? w _ h2)).trans h2⟩
def SndRel (l : List (Int × Int)) (w : World) (i : Value) (wr : World) : Prop := ∃ k : Nat, k ≤ l.length ∧ i = .int .i64 k ∧ Hid (∀ j, j < k → InT (l.getD j (0, 0))) ∧ Hid (Below w.heap.size w wr)
set_option maxHeartbeats 4000000 in
theorem snd_any (x : Option Addr) (xc : Nat) (l : List (Int × Int)) (w : World) (hx : PairRow w x l) (hl : l.length ≤ 4000000000) :
    Calls Try.prog 56 #[.slice x l.length xc] w (Gives (.bool (decide (soundP l))) w) := by
  have HX := Lib.hid hx
  clear hx
  go_enter Try.func56, Try.ntmps56
  go_wp2
  go_loopw [7] (fun i wr => SndRel l w i wr) (fun i _ => l.length - (intOf i).toNat)
  case atStart => exact ⟨0, Nat.zero_le _, rfl, Lib.hid (fun j hj => by omega), Lib.hid (Below.refl _ _)⟩
  case round =>
    obtain ⟨k, hk, rfl, HV, B0⟩ := hrel
    by_cases hlt : k < l.length
    · obtain ⟨b, off, rfl, h1, h2⟩ := HX.out k hlt
      have c1 := (B0.out.cell (World.block_lt_of_cell? w _ h1)).trans h1
      have c2 := (B0.out.cell (World.block_lt_of_cell? w _ h2)).trans h2
      obtain ⟨p, hp⟩ : ∃ p, (l.getD k (0, 0)).1 = p := ⟨_, rfl⟩
      obtain ⟨q, hq⟩ : ∃ q, (l.getD k (0, 0)).2 = q := ⟨_, rfl⟩
      rw [hp] at c1
      rw [hq] at c2
      have fin1 : timeB p = true → timeB q = true → ∀ w', Hid (Below w.heap.size w w') → SndRel l w (.int .i64 ((k : Int) + 1)) w' := fun t1 t2 w' a3 =>
        ⟨k + 1, hlt, rfl, Lib.hid (fun j hj => by
          by_cases e : j = k
          · rw [e]; exact ⟨by rw [hp]; exact of_decide_eq_true t1, by rw [hq]; exact of_decide_eq_true t2⟩
          · exact HV.out j (by omega)), a3⟩
      have fin2 : (timeB p = false ∨ timeB q = false) → Hid (decide (soundP l) = false) := fun h => Lib.hid (decide_eq_false fun hs => by
        obtain ⟨s1, s2⟩ := hs k hlt
        rw [hp] at s1
        rw [hq] at s2
        rcases h with h | h
        · exact of_decide_eq_false h s1
        · exact of_decide_eq_false h s2)
      have F1 := Lib.hid fin1
      have F2 := Lib.hid fin2
      have B1 := Lib.hid (B0.out.alloc B0.out.size (.cells #[.int .i64 p, .int .i64 q] 59))
      have KP : Hid (Kept (wr.alloc (.cells #[.int .i64 p, .int .i64 q] 59)) wr.heap.size #[.int .i64 p, .int .i64 q] 59) := Lib.hid (Kept.new rfl)
      clear fin1 fin2 hp hq h1 h2
      cases t1 : timeB p
      · have C1 := Lib.hid fun W => istime_any p false t1 W
        have F := Lib.hid (F2.out (.inl t1))
        clear F1 F2 t1
        go_wp2_with fail
        refine (C1.out _).mono ?_
        rintro _ w1 ⟨rfl, hb1⟩
        have B2 := Lib.hid (bnext B1.out B1.out.size hb1)
        clear hb1 c1 c2
        go_wp2
        go_ret
        exact ⟨ret_bool F.out.out.symm, B2.out⟩
      · have C1 := Lib.hid fun W => istime_any p true t1 W
        cases t2 : timeB q
        · have C2 := Lib.hid fun W => istime_any q false t2 W
          have F := Lib.hid (F2.out (.inr t2))
          clear F1 F2 t1 t2
          go_wp2_with fail
          refine (C1.out _).mono ?_
          rintro _ w1 ⟨rfl, hb1⟩
          have B2 := Lib.hid (bnext B1.out B1.out.size hb1)
          have K2 := Lib.hid (KP.out.next hb1)
          clear hb1 c1 c2
          obtain ⟨k1, k2, -, -, kl⟩ := K2.out.two
          go_wp2_with fail
          refine (C2.out _).mono ?_
          rintro _ w2 ⟨rfl, hb2⟩
          have B3 := Lib.hid (bnext B2.out B2.out.size hb2)
          clear hb2 k1 k2 kl
          go_wp2
          go_ret
          exact ⟨ret_bool F.out.out.symm, B3.out⟩
        · have C2 := Lib.hid fun W => istime_any q true t2 W
          have F := Lib.hid (F1.out t1 t2)
          clear F1 F2 t1 t2
          go_wp2_with fail
          refine (C1.out _).mono ?_
          rintro _ w1 ⟨rfl, hb1⟩
          have B2 := Lib.hid (bnext B1.out B1.out.size hb1)
          have K2 := Lib.hid (KP.out.next hb1)
          clear hb1 c1 c2
          obtain ⟨k1, k2, -, -, kl⟩ := K2.out.two
          go_wp2_with fail
          refine (C2.out _).mono ?_
          rintro _ w2 ⟨rfl, hb2⟩
          have B3 := Lib.hid (bnext B2.out B2.out.size hb2)
          have F := Lib.hid (F.out w2 B3)
          clear hb2 k1 k2 kl
          go_wp2
          go_roundw
          case rel => exact F.out
          case measure => simp [intOf]; omega
    · have F : Hid (decide (soundP l) = true) := Lib.hid (decide_eq_true fun j hj => HV.out j (by omega))
      go_wp2
      go_ret
      exact ⟨ret_bool F.out.symm, B0.out⟩
end Go.Proofs.Ytflplliiamodhaa

/- drift.weighed, and the two closures of keeps: for all points. -/
namespace Go.Proofs.Ytflplliiamodhaa
open Go.RowKit
set_option linter.unusedVariables false

theorem Kept.far2 {w : World} {g b : Nat} {cs : Array Value} {t : TypeId} (h : Kept w g cs t) (hb : g ≠ b) (p q : Value) : Kept ((w.setCell ⟨b, 0, none⟩ p).setCell ⟨b, 1, none⟩ q) g cs t := (h.far (p := ⟨b, 0, none⟩) hb p).far (p := ⟨b, 1, none⟩) hb q
set_option maxHeartbeats 8000000 in
theorem weighed_walk (t c m n h1 l1 h2 l2 h3 l3 : Int) (w : World)
    (C1 : Hid (∀ W, Calls Try.prog 99 #[.int .i64 c, .int .i64 m] W (Gives (.agg #[.int .i64 h1, .int .u64 l1]) W)))
    (C2 : Hid (∀ W, Calls Try.prog 99 #[.int .i64 t, .int .i64 n] W (Gives (.agg #[.int .i64 h2, .int .u64 l2]) W)))
    (C3 : Hid (∀ W, Calls Try.prog 98 #[.agg #[.int .i64 h1, .int .u64 l1], .agg #[.int .i64 h2, .int .u64 l2]] W (Gives (.tuple #[.agg #[.int .i64 h3, .int .u64 l3], .int .i64 0]) W))) :
    Calls Try.prog 80 #[.agg #[.int .i64 t, .int .i64 c], .int .i64 m, .int .i64 n] w (Gives (.agg #[.int .i64 h3, .int .u64 l3]) w) := by
  obtain ⟨W, hW⟩ : ∃ W, (w.alloc (.cells #[.int .i64 t, .int .i64 c] 59)).alloc (.cells #[.int .i64 0, .int .u64 0] 121) = W := ⟨_, rfl⟩
  have K0 : Hid (Kept W.drew w.heap.size #[.int .i64 t, .int .i64 c] 59) := Lib.hid (by
    have h : Kept W w.heap.size #[.int .i64 t, .int .i64 c] 59 := by rw [← hW]; exact (Kept.new rfl).alloc _
    exact h)
  have R : Hid (Kept W.drew (w.heap.size + 1) #[.int .i64 0, .int .u64 0] 121) := Lib.hid (by
    have h : Kept W (w.heap.size + 1) #[.int .i64 0, .int .u64 0] 121 := by rw [← hW]; exact Kept.new (by simp)
    exact h)
  have SS : Hid (Below w.heap.size w W.drew) ∧ W.drew.cell? ⟨w.heap.size, 0, none⟩ = some (.int .i64 t) ∧ W.drew.cell? ⟨w.heap.size, 1, none⟩ = some (.int .i64 c) := ⟨Lib.hid (by
    have h : Below w.heap.size w W := by rw [← hW]; exact (one_alloc w _).alloc (by simp) _
    exact below_drewN h 1), K0.out.two.1, K0.out.two.2.1⟩
  have hl1 : w.heap.size + 1 < W.heap.size := R.out.lt
  have HW := Lib.hid hW
  have SH := Lib.hid SS
  clear hW K0 SS
  go_enter Try.func80, Try.ntmps80
  go_wp2
  rw [HW.out]
  have SS := SH.out
  go_region_held3 (fun w' => Hid (Below w.heap.size w w') ∧ w'.cell? ⟨w.heap.size, 0, none⟩ = some (.int .i64 t) ∧ w'.cell? ⟨w.heap.size, 1, none⟩ = some (.int .i64 c))
    (first | exact SS | exact keepB2 (one_alloc _ _) SS | exact ⟨Lib.hid (bset2 SS.1.out (by omega) _ _), set2_far SS.2.1 (by simp; omega), set2_far SS.2.2 (by simp; omega)⟩ | exact ⟨Lib.hid (bset2 (SS.1.out.alloc SS.1.out.size _) (by have := SS.1.out.size; simp; omega) _ _), set2_far (keep1 (one_alloc _ _) SS.2.1) (by simp; omega), set2_far (keep1 (one_alloc _ _) SS.2.2) (by simp; omega)⟩ | go_keep)
    (first
      | (go_at_call_of 99 (Value.int IntKind.i64 c); refine (C1.out _).mono ?_; rintro _ w2 ⟨rfl, hb2⟩; have SS := keepB2 (a := w) hb2 (by first | exact SS | exact keepB2 (one_alloc _ _) SS); have R := Lib.hid (Kept.next (by first | exact R.out | exact R.out.alloc _) hb2); (first | have NB := Lib.hid (NB.out.next hb2) | have NB := Lib.hid ((Kept.new (w := W.drew) (g := W.heap.size) (cs := #[.int .i64 0, .int .u64 0]) (t := 121) rfl).next hb2) | skip); have hs2 : W.heap.size ≤ w2.heap.size := (by first | exact hb2.size | exact Nat.le_trans (by simp) hb2.size))
      | (go_at_call_of 99 (Value.int IntKind.i64 t); refine (C2.out _).mono ?_; rintro _ w3 ⟨rfl, hb3⟩; have SS := keepB2 (a := w) hb3 (by first | exact SS | exact keepB2 (one_alloc _ _) SS); have R := Lib.hid (Kept.next (by first | exact R.out | exact R.out.alloc _) hb3); (first | have NB := Lib.hid (NB.out.next hb3) | have NB := Lib.hid ((Kept.new (w := w2) (g := w2.heap.size) (cs := #[.int .i64 0, .int .u64 0]) (t := 121) rfl).next hb3) | skip); have hs3 : w2.heap.size ≤ w3.heap.size := (by first | exact hb3.size | exact Nat.le_trans (by simp) hb3.size))
      | (go_at_call 98; refine (C3.out _).mono ?_; rintro _ w4 ⟨rfl, hb4⟩; have SS := keepB2 (a := w) hb4 (by first | exact SS | exact keepB2 (one_alloc _ _) SS); have R := Lib.hid (Kept.next (by first | exact R.out | exact R.out.alloc _) hb4); (first | have NB := Lib.hid (NB.out.next hb4) | have NB := Lib.hid ((Kept.new (w := w3) (g := w3.heap.size) (cs := #[.int .i64 0, .int .u64 0]) (t := 121) rfl).next hb4) | skip); have hs4 : w3.heap.size ≤ w4.heap.size := (by first | exact hb4.size | exact Nat.le_trans (by simp) hb4.size); (try obtain ⟨c1, c2, c3, c4, c5⟩ := NB.out.two)))
  all_goals
    clear SH
    first
    | (obtain ⟨b5, hb5⟩ : ∃ b, w4.heap.size = b := ⟨_, rfl⟩
       obtain ⟨W5, hW5⟩ : ∃ W, w4.alloc (Obj.cells #[.int .i64 h3, .int .u64 l3] 121) = W := ⟨_, rfl⟩
       rw [hW5, hb5]
       have N1 : Hid (Kept W5 b5 #[.int .i64 h3, .int .u64 l3] 121) := Lib.hid (by rw [← hW5, ← hb5]; exact Kept.new rfl)
       have B : Hid (Below w.heap.size w W5) := Lib.hid (by rw [← hW5]; exact SS.1.out.alloc SS.1.out.size _)
       have R : Hid (Kept W5 (w.heap.size + 1) #[.int .i64 0, .int .u64 0] 121) := Lib.hid (by rw [← hW5]; exact R.out.alloc _))
    | (obtain ⟨b5, hb5⟩ : ∃ b, w3.heap.size = b := ⟨_, rfl⟩
       obtain ⟨W5, hW5⟩ : ∃ V, (w4.setCell ⟨w3.heap.size, 0, none⟩ (.int .i64 h3)).setCell ⟨w3.heap.size, 1, none⟩ (.int .u64 l3) = V := ⟨_, rfl⟩
       rw [hW5, hb5]
       have N1 : Hid (Kept W5 b5 #[.int .i64 h3, .int .u64 l3] 121) := Lib.hid (by rw [← hW5, ← hb5]; exact NB.out.set2 _ _)
       have B : Hid (Below w.heap.size w W5) := Lib.hid (by rw [← hW5]; exact bset2 SS.1.out (by omega) _ _)
       have R : Hid (Kept W5 (w.heap.size + 1) #[.int .i64 0, .int .u64 0] 121) := Lib.hid (by rw [← hW5]; exact Kept.far2 R.out (by omega) _ _))
    | (obtain ⟨b5, hb5⟩ : ∃ b, w2.heap.size = b := ⟨_, rfl⟩
       obtain ⟨W5, hW5⟩ : ∃ V, (w4.setCell ⟨w2.heap.size, 0, none⟩ (.int .i64 h3)).setCell ⟨w2.heap.size, 1, none⟩ (.int .u64 l3) = V := ⟨_, rfl⟩
       rw [hW5, hb5]
       have N1 : Hid (Kept W5 b5 #[.int .i64 h3, .int .u64 l3] 121) := Lib.hid (by rw [← hW5, ← hb5]; exact NB.out.set2 _ _)
       have B : Hid (Below w.heap.size w W5) := Lib.hid (by rw [← hW5]; exact bset2 SS.1.out (by omega) _ _)
       have R : Hid (Kept W5 (w.heap.size + 1) #[.int .i64 0, .int .u64 0] 121) := Lib.hid (by rw [← hW5]; exact Kept.far2 R.out (by omega) _ _))
    | (obtain ⟨b5, hb5⟩ : ∃ b, W.heap.size = b := ⟨_, rfl⟩
       obtain ⟨W5, hW5⟩ : ∃ V, (w4.setCell ⟨W.heap.size, 0, none⟩ (.int .i64 h3)).setCell ⟨W.heap.size, 1, none⟩ (.int .u64 l3) = V := ⟨_, rfl⟩
       rw [hW5, hb5]
       have N1 : Hid (Kept W5 b5 #[.int .i64 h3, .int .u64 l3] 121) := Lib.hid (by rw [← hW5, ← hb5]; exact NB.out.set2 _ _)
       have B : Hid (Below w.heap.size w W5) := Lib.hid (by rw [← hW5]; exact bset2 SS.1.out (by omega) _ _)
       have R : Hid (Kept W5 (w.heap.size + 1) #[.int .i64 0, .int .u64 0] 121) := Lib.hid (by rw [← hW5]; exact Kept.far2 R.out (by omega) _ _))
    clear SS hW5 hb5 hb2 hb3 hb4 hs2 hs3 hs4
    try clear c1 c2 c3 c4 c5
    try clear NB
    obtain ⟨n1, n2, -, -, nl⟩ := N1.out.two
    obtain ⟨r1, r2, r3, r4, rl⟩ := R.out.two
    obtain ⟨z1, z2⟩ := R.out.read2 (.int .i64 h3) (.int .u64 l3)
    go_wp2
    refine bodyPost_ret (v := .agg #[.int .i64 h3, .int .u64 l3]) (by simp [results, Try.results80, go_sem, z1, z2]) rfl ?_
    exact ⟨rfl, bset2 B.out (by omega) _ _⟩
theorem weighed_any (t c m n : Int) (w : World) (ht : InI t) (hc : InI c) (hm : InI m) (hn : InI n) (hs : InW (c * m + t * n)) (h1 : InW (c * m)) (h2 : InW (t * n)) :
    Calls Try.prog 80 #[.agg #[.int .i64 t, .int .i64 c], .int .i64 m, .int .i64 n] w (Gives (wI (c * m + t * n)) w) :=
  weighed_walk t c m n _ _ _ _ _ _ w (Lib.hid fun W => wtimes_any c m W hc hm) (Lib.hid fun W => wtimes_any t n W ht hn) (Lib.hid fun W => by
    have h := wadd_any (c * m) (t * n) W h1 h2
    rw [vW_in hs, eW_in hs] at h
    exact h)
set_option maxHeartbeats 1000000 in
theorem fast_walk (t c r y h l : Int) (g : Nat) (w : World) (hr : w.cell? ⟨g, 0, none⟩ = some (.int .i64 r)) (e1 : wrap64 (-1000000 - r) = y)
    (C1 : Hid (∀ W, Calls Try.prog 80 #[.agg #[.int .i64 t, .int .i64 c], .int .i64 1000000, .int .i64 y] W (Gives (.agg #[.int .i64 h, .int .u64 l]) W))) :
    Calls Try.prog 79 #[.agg #[.int .i64 t, .int .i64 c], .pointer (some ⟨g, 0, none⟩)] w (Gives (.agg #[.int .i64 h, .int .u64 l]) w) := by
  have E1 := Lib.hid e1
  obtain ⟨W, hW⟩ : ∃ W, (w.alloc (.cells #[.int .i64 t, .int .i64 c] 59)).alloc (.cells #[.int .i64 0, .int .u64 0] 121) = W := ⟨_, rfl⟩
  have K0 : Hid (Kept W w.heap.size #[.int .i64 t, .int .i64 c] 59) := Lib.hid (by rw [← hW]; exact (Kept.new rfl).alloc _)
  have R : Hid (Kept W (w.heap.size + 1) #[.int .i64 0, .int .u64 0] 121) := Lib.hid (by rw [← hW]; exact Kept.new (by simp))
  have B : Hid (Below w.heap.size w W) := Lib.hid (by rw [← hW]; exact (one_alloc w _).alloc (by simp) _)
  have hr2 : ((w.alloc (.cells #[.int .i64 t, .int .i64 c] 59)).alloc (.cells #[.int .i64 0, .int .u64 0] 121)).cell? ⟨g, 0, none⟩ = some (.int .i64 r) := keep1 (by rw [hW]; exact B.out) hr
  have hg : g < w.heap.size := World.block_lt_of_cell? w _ hr
  have HW := Lib.hid hW
  clear hW e1
  obtain ⟨k1, k2, -, -, kl⟩ := K0.out.two
  go_enter Try.func79, Try.ntmps79
  go_wp2_with (fail)
  rw [HW.out, E1.out]
  refine (C1.out _).mono ?_
  rintro _ w1 ⟨rfl, hb1⟩
  have B := Lib.hid (bnext B.out B.out.size hb1)
  have R := Lib.hid (R.out.next hb1)
  clear hb1 k1 k2 kl hr2 hr
  obtain ⟨r1, r2, r3, r4, rl⟩ := R.out.two
  obtain ⟨z1, z2⟩ := R.out.read2 (.int .i64 h) (.int .u64 l)
  go_wp2
  refine bodyPost_ret (v := .agg #[.int .i64 h, .int .u64 l]) (by simp [results, Try.results79, go_sem, z1, z2]) rfl ?_
  exact ⟨rfl, bset2 B.out (by omega) _ _⟩
theorem fast_inW {r : Int} {p : Int × Int} (hp : InT p) (h1 : 0 ≤ r) (h2 : r ≤ 100000) : InW (fastV r p) ∧ -9000000000000000000000000 ≤ fastV r p ∧ fastV r p ≤ 9000000000000000000000000 := by
  obtain ⟨⟨a1, a2⟩, b1, b2⟩ := hp
  have e1 : 0 ≤ p.1 * r := Int.mul_nonneg a1 h1
  have e2 : p.1 * r ≤ p.1 * 100000 := Int.mul_le_mul_of_nonneg_left h2 a1
  unfold fastV InW
  rw [Int.mul_sub]
  omega
theorem fast_any (p : Int × Int) (r : Int) (g : Nat) (w : World) (hr : w.cell? ⟨g, 0, none⟩ = some (.int .i64 r)) (hp : InT p) (h1 : 0 ≤ r) (h2 : r ≤ 100000) :
    Calls Try.prog 79 #[.agg #[.int .i64 p.1, .int .i64 p.2], .pointer (some ⟨g, 0, none⟩)] w (Gives (wI (fastV r p)) w) := by
  have hw := (fast_inW hp h1 h2).1
  obtain ⟨⟨a1, a2⟩, b1, b2⟩ := hp
  have e1 : 0 ≤ p.1 * r := Int.mul_nonneg a1 h1
  have e2 : p.1 * r ≤ p.1 * 100000 := Int.mul_le_mul_of_nonneg_left h2 a1
  refine fast_walk p.1 p.2 r (-1000000 - r) _ _ g w hr (IntWalk.wrap64_in _ (by omega)) (Lib.hid fun W => weighed_any p.1 p.2 (1000000) (-1000000 - r) W (by unfold InI; omega) (by unfold InI; omega) (by unfold InI; omega) (by unfold InI; omega) hw (by unfold InW; omega) (by unfold InW; rw [Int.mul_sub]; omega))
set_option maxHeartbeats 1000000 in
theorem slow_walk (t c r y h l : Int) (g : Nat) (w : World) (hr : w.cell? ⟨g, 0, none⟩ = some (.int .i64 r)) (e1 : wrap64 (1000000 - r) = y)
    (C1 : Hid (∀ W, Calls Try.prog 80 #[.agg #[.int .i64 t, .int .i64 c], .int .i64 (-1000000), .int .i64 y] W (Gives (.agg #[.int .i64 h, .int .u64 l]) W))) :
    Calls Try.prog 81 #[.agg #[.int .i64 t, .int .i64 c], .pointer (some ⟨g, 0, none⟩)] w (Gives (.agg #[.int .i64 h, .int .u64 l]) w) := by
  have E1 := Lib.hid e1
  obtain ⟨W, hW⟩ : ∃ W, (w.alloc (.cells #[.int .i64 t, .int .i64 c] 59)).alloc (.cells #[.int .i64 0, .int .u64 0] 121) = W := ⟨_, rfl⟩
  have K0 : Hid (Kept W w.heap.size #[.int .i64 t, .int .i64 c] 59) := Lib.hid (by rw [← hW]; exact (Kept.new rfl).alloc _)
  have R : Hid (Kept W (w.heap.size + 1) #[.int .i64 0, .int .u64 0] 121) := Lib.hid (by rw [← hW]; exact Kept.new (by simp))
  have B : Hid (Below w.heap.size w W) := Lib.hid (by rw [← hW]; exact (one_alloc w _).alloc (by simp) _)
  have hr2 : ((w.alloc (.cells #[.int .i64 t, .int .i64 c] 59)).alloc (.cells #[.int .i64 0, .int .u64 0] 121)).cell? ⟨g, 0, none⟩ = some (.int .i64 r) := keep1 (by rw [hW]; exact B.out) hr
  have hg : g < w.heap.size := World.block_lt_of_cell? w _ hr
  have HW := Lib.hid hW
  clear hW e1
  obtain ⟨k1, k2, -, -, kl⟩ := K0.out.two
  go_enter Try.func81, Try.ntmps81
  go_wp2_with (fail)
  rw [HW.out, E1.out]
  refine (C1.out _).mono ?_
  rintro _ w1 ⟨rfl, hb1⟩
  have B := Lib.hid (bnext B.out B.out.size hb1)
  have R := Lib.hid (R.out.next hb1)
  clear hb1 k1 k2 kl hr2 hr
  obtain ⟨r1, r2, r3, r4, rl⟩ := R.out.two
  obtain ⟨z1, z2⟩ := R.out.read2 (.int .i64 h) (.int .u64 l)
  go_wp2
  refine bodyPost_ret (v := .agg #[.int .i64 h, .int .u64 l]) (by simp [results, Try.results81, go_sem, z1, z2]) rfl ?_
  exact ⟨rfl, bset2 B.out (by omega) _ _⟩
theorem slow_inW {r : Int} {p : Int × Int} (hp : InT p) (h1 : 0 ≤ r) (h2 : r ≤ 100000) : InW (slowV r p) ∧ -9000000000000000000000000 ≤ slowV r p ∧ slowV r p ≤ 9000000000000000000000000 := by
  obtain ⟨⟨a1, a2⟩, b1, b2⟩ := hp
  have e1 : 0 ≤ p.1 * r := Int.mul_nonneg a1 h1
  have e2 : p.1 * r ≤ p.1 * 100000 := Int.mul_le_mul_of_nonneg_left h2 a1
  unfold slowV InW
  rw [Int.mul_sub]
  omega
theorem slow_any (p : Int × Int) (r : Int) (g : Nat) (w : World) (hr : w.cell? ⟨g, 0, none⟩ = some (.int .i64 r)) (hp : InT p) (h1 : 0 ≤ r) (h2 : r ≤ 100000) :
    Calls Try.prog 81 #[.agg #[.int .i64 p.1, .int .i64 p.2], .pointer (some ⟨g, 0, none⟩)] w (Gives (wI (slowV r p)) w) := by
  have hw := (slow_inW hp h1 h2).1
  obtain ⟨⟨a1, a2⟩, b1, b2⟩ := hp
  have e1 : 0 ≤ p.1 * r := Int.mul_nonneg a1 h1
  have e2 : p.1 * r ≤ p.1 * 100000 := Int.mul_le_mul_of_nonneg_left h2 a1
  refine slow_walk p.1 p.2 r (1000000 - r) _ _ g w hr (IntWalk.wrap64_in _ (by omega)) (Lib.hid fun W => weighed_any p.1 p.2 ((-1000000)) (1000000 - r) W (by unfold InI; omega) (by unfold InI; omega) (by unfold InI; omega) (by unfold InI; omega) hw (by unfold InW; omega) (by unfold InW; rw [Int.mul_sub]; omega))
end Go.Proofs.Ytflplliiamodhaa
