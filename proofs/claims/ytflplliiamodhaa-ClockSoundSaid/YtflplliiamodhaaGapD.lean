/- gap.Meet, gap.Hull: for every list of intervals. -/
import Derived.Test.YtflplliiamodhaaGapA
import Derived.Test.YtflplliiamodhaaDriftF
namespace Go.Proofs.Ytflplliiamodhaa
open Go.RowKit
set_option linter.unusedVariables false

def GapRes (lo hi e : Int) (w : World) (x : Ending) (w' : World) : Prop := x = .returned (.tuple #[.agg #[.int .i64 lo, .int .i64 hi], .int .i64 e]) ∧ Below w.heap.size w w'
/-- the intervals of a list lie one beside another behind an address, two cells each -/
def InP (p : Int × Int) : Prop := InI p.1 ∧ InI p.2
def opM (p q : Int × Int) : Int × Int := (max p.1 q.1, min p.2 q.2)
def opH (p q : Int × Int) : Int × Int := (min p.1 q.1, max p.2 q.2)
def fullP : Int × Int := (-9223372036854775808, 9223372036854775807)
def noneP : Int × Int := (9223372036854775807, -9223372036854775808)
/-- are all right? -/
def allR (l : List (Int × Int)) : Prop := ∀ j, j < l.length → (l.getD j (0, 0)).1 ≤ (l.getD j (0, 0)).2
def combE (l : List (Int × Int)) (r : Int × Int) : Int := if (∃ j, j < l.length ∧ (l.getD j (0, 0)).2 < (l.getD j (0, 0)).1) then 10 else if r.1 ≤ r.2 then 0 else 13
def combL (l : List (Int × Int)) (r : Int × Int) : Int := if combE l r = 0 then r.1 else 0
def combH (l : List (Int × Int)) (r : Int × Int) : Int := if combE l r = 0 then r.2 else 0
theorem comb_bad {l : List (Int × Int)} {r : Int × Int} {j : Nat} (h : j < l.length) (hb : (l.getD j (0, 0)).2 < (l.getD j (0, 0)).1) : combE l r = 10 ∧ combL l r = 0 ∧ combH l r = 0 := by
  have e : combE l r = 10 := by unfold combE; rw [if_pos ⟨j, h, hb⟩]
  exact ⟨e, by unfold combL; rw [e]; rfl, by unfold combH; rw [e]; rfl⟩
theorem comb_no {l : List (Int × Int)} {r : Int × Int} (h : allR l) (hr : r.2 < r.1) : combE l r = 13 ∧ combL l r = 0 ∧ combH l r = 0 := by
  have e : combE l r = 13 := by unfold combE; rw [if_neg (by rintro ⟨j, hj, hb⟩; have := h j hj; omega), if_neg (by omega)]
  exact ⟨e, by unfold combL; rw [e]; rfl, by unfold combH; rw [e]; rfl⟩
theorem comb_ok {l : List (Int × Int)} {r : Int × Int} (h : allR l) (hr : r.1 ≤ r.2) : combE l r = 0 ∧ combL l r = r.1 ∧ combH l r = r.2 := by
  have e : combE l r = 0 := by unfold combE; rw [if_neg (by rintro ⟨j, hj, hb⟩; have := h j hj; omega), if_pos (by omega)]
  exact ⟨e, by unfold combL; rw [e]; rfl, by unfold combH; rw [e]; rfl⟩
theorem fold_snoc (op : Int × Int → Int × Int → Int × Int) (z : Int × Int) (l : List (Int × Int)) (k : Nat) (hk : k < l.length) : (l.take (k + 1)).foldl op z = op ((l.take k).foldl op z) (l.getD k (0, 0)) := by
  rw [List.take_add_one, List.foldl_append]
  simp [List.getD, List.getElem?_eq_getElem hk]
def Loop1Rel (l : List (Int × Int)) (w : World) (z : Int × Int) (i : Value) (wr : World) : Prop := ∃ k : Nat, k ≤ l.length ∧ i = .int .i64 k ∧ Hid (∀ j, j < k → (l.getD j (0, 0)).1 ≤ (l.getD j (0, 0)).2) ∧
  Hid (Kept wr w.heap.size #[.int .i64 z.1, .int .i64 z.2] 39) ∧ Hid (Kept wr (w.heap.size + 1) #[.int .i64 0, .int .i64 0] 39) ∧ Hid (Below w.heap.size w wr) ∧ w.heap.size + 2 ≤ wr.heap.size
def Loop2Rel (op : Int × Int → Int × Int → Int × Int) (l : List (Int × Int)) (w : World) (z : Int × Int) (i : Value) (wr : World) : Prop := ∃ (k : Nat) (r : Int × Int), k ≤ l.length ∧ i = .int .i64 k ∧ Hid ((l.take k).foldl op z = r) ∧
  Hid (Kept wr w.heap.size #[.int .i64 r.1, .int .i64 r.2] 39) ∧ Hid (Kept wr (w.heap.size + 1) #[.int .i64 0, .int .i64 0] 39) ∧ Hid (Below w.heap.size w wr) ∧ w.heap.size + 2 ≤ wr.heap.size
theorem meet1_any (a b c d : Int) (w : World) : Calls Try.prog 65 #[.agg #[.int .i64 a, .int .i64 b], .agg #[.int .i64 c, .int .i64 d]] w (Gives (.agg #[.int .i64 (opM (a, b) (c, d)).1, .int .i64 (opM (a, b) (c, d)).2]) w) := by
  have h1 : (opM (a, b) (c, d)).1 = max a c := rfl
  have h2 : (opM (a, b) (c, d)).2 = min b d := rfl
  rw [h1, h2]
  clear h1 h2
  have fin : ∀ p q w', p = max a c → q = min b d → Below w.heap.size w w' → Gives (.agg #[.int .i64 (max a c), .int .i64 (min b d)]) w (.returned (.agg #[.int .i64 p, .int .i64 q])) w' := fun p q w' h1 h2 hb => ⟨by rw [h1, h2], hb⟩
  have Fin := Lib.hid fin
  clear fin
  go_enter Try.func65, Try.ntmps65
  go_wp2
  all_goals
    go_returns
    exact Fin.out _ _ _ (by omega) (by omega) (((one_alloc _ _).alloc (by simp) _).alloc (by simp; omega) _)
set_option maxHeartbeats 4000000 in
theorem meet_comb (x : Option Addr) (xc : Nat) (l : List (Int × Int)) (z : Int × Int) (w : World) (hx : PairRow w x l) (hl : l.length ≤ 4000000000) :
    Calls Try.prog 64 #[.agg #[.int .i64 z.1, .int .i64 z.2], .slice x l.length xc, .func (.func 65) #[] #[]] w (GapRes (combL l (l.foldl opM z)) (combH l (l.foldl opM z)) (combE l (l.foldl opM z)) w) := by
  have HX := Lib.hid hx
  clear hx
  go_enter Try.func64, Try.ntmps64
  go_wp2
  go_loopw [14] (fun i wr => Loop1Rel l w z i wr) (fun i _ => l.length - (intOf i).toNat)
  case atStart => exact ⟨0, Nat.zero_le _, rfl, Lib.hid (fun j hj => by omega), Lib.hid ((Kept.new rfl).alloc _), Lib.hid (Kept.new (by simp)), Lib.hid ((one_alloc _ _).alloc (by simp) _), by simp⟩
  case round =>
    obtain ⟨k, hk, rfl, HV, K0, R0, B0, hsz⟩ := hrel
    by_cases hlt : k < l.length
    · obtain ⟨b, off, rfl, h1, h2⟩ := HX.out k hlt
      have c1 := (B0.out.cell (World.block_lt_of_cell? w _ h1)).trans h1
      have c2 := (B0.out.cell (World.block_lt_of_cell? w _ h2)).trans h2
      obtain ⟨r1, r2, f1, f2, -⟩ := R0.out.two
      obtain ⟨p, hp⟩ : ∃ p, (l.getD k (0, 0)).1 = p := ⟨_, rfl⟩
      obtain ⟨q, hq⟩ : ∃ q, (l.getD k (0, 0)).2 = q := ⟨_, rfl⟩
      rw [hp] at c1
      rw [hq] at c2
      have fin1 : p ≤ q → ∀ w', Hid (Kept w' w.heap.size #[.int .i64 z.1, .int .i64 z.2] 39) → Hid (Kept w' (w.heap.size + 1) #[.int .i64 0, .int .i64 0] 39) → Hid (Below w.heap.size w w') → w.heap.size + 2 ≤ w'.heap.size → Loop1Rel l w z (.int .i64 ((k : Int) + 1)) w' := fun h w' a1 a2 a3 a4 =>
        ⟨k + 1, hlt, rfl, Lib.hid (fun j hj => by
          by_cases e : j = k
          · rw [e, hp, hq]; exact h
          · exact HV.out j (by omega)), a1, a2, a3, a4⟩
      have fin2 : q < p → ∀ w', Below w.heap.size w w' → GapRes (combL l (l.foldl opM z)) (combH l (l.foldl opM z)) (combE l (l.foldl opM z)) w (.returned (.tuple #[.agg #[.int .i64 0, .int .i64 0], .int .i64 10])) w' := fun h w' hb => by
        obtain ⟨e1, e2, e3⟩ := comb_bad (r := l.foldl opM z) hlt (by rw [hp, hq]; exact h)
        exact ⟨by rw [e1, e2, e3], hb⟩
      have F1 := Lib.hid fin1
      have F2 := Lib.hid fin2
      have K1 := Lib.hid (K0.out.alloc (.cells #[.int .i64 p, .int .i64 q] 39))
      have R1 := Lib.hid (R0.out.alloc (.cells #[.int .i64 p, .int .i64 q] 39))
      have B1 := Lib.hid (B0.out.alloc B0.out.size (.cells #[.int .i64 p, .int .i64 q] 39))
      clear fin1 fin2 hp hq h1 h2
      by_cases hpq : p ≤ q
      · have d0 := decide_eq_true hpq
        have F := Lib.hid (F1.out hpq)
        clear F1 F2 hpq
        go_wp2_with fail
        refine (right_any p q _).mono ?_
        rintro e1 w1 ⟨rfl, hb1⟩
        rw [d0]
        have F := Lib.hid (F.out w1 (Lib.hid (K1.out.next hb1)) (Lib.hid (R1.out.next hb1)) (Lib.hid (bnext B1.out B1.out.size hb1)) (by have := hb1.size; simp at this; omega))
        clear hb1 d0 c1 c2 r1 r2 f1 f2
        go_wp2
        go_roundw
        case rel => exact F.out
        case measure => simp [intOf]; omega
      · have d0 := decide_eq_false hpq
        have F := Lib.hid (F2.out (by omega))
        clear F1 F2 hpq
        go_wp2_with fail
        refine (right_any p q _).mono ?_
        rintro e1 w1 ⟨rfl, hb1⟩
        rw [d0]
        have R2 := Lib.hid (R1.out.next hb1)
        have B2 := Lib.hid (bnext B1.out B1.out.size hb1)
        clear hb1 d0 c1 c2 r1 r2 f1 f2
        obtain ⟨r1, r2, f1, f2, -⟩ := R2.out.two
        obtain ⟨s1, s2⟩ := R2.out.read2 (.int .i64 0) (.int .i64 0)
        go_wp2
        refine bodyPost_ret (v := .tuple #[.agg #[.int .i64 0, .int .i64 0], .int .i64 10]) (by simp [results, Try.results64, go_sem, s1, s2]) rfl ?_
        exact F.out _ (bset2 B2.out (Nat.le_succ _) _ _)
    · obtain rfl : k = l.length := by omega
      have HV' := HV
      go_wp2
      go_loopw [25] (fun i wr => Loop2Rel opM l w z i wr) (fun i _ => l.length - (intOf i).toNat)
      case atStart => exact ⟨0, z, Nat.zero_le _, rfl, Lib.hid rfl, K0, R0, B0, hsz⟩
      case round =>
        obtain ⟨k, r, hk, rfl, HF, K0, R0, B0, hsz⟩ := hrel
        obtain ⟨a1, a2⟩ := r
        by_cases hlt : k < l.length
        · obtain ⟨b, off, rfl, h1, h2⟩ := HX.out k hlt
          have c1 := (B0.out.cell (World.block_lt_of_cell? w _ h1)).trans h1
          have c2 := (B0.out.cell (World.block_lt_of_cell? w _ h2)).trans h2
          have hfs := fold_snoc opM z l k hlt
          rw [HF.out] at hfs
          obtain ⟨pq, hpq⟩ : ∃ p, l.getD k (0, 0) = p := ⟨_, rfl⟩
          rw [hpq] at c1 c2 hfs
          obtain ⟨p, q⟩ := pq
          have Cb : Hid (∀ W, Calls Try.prog 65 #[.agg #[.int .i64 a1, .int .i64 a2], .agg #[.int .i64 p, .int .i64 q]] W (Gives (.agg #[.int .i64 (opM (a1, a2) (p, q)).1, .int .i64 (opM (a1, a2) (p, q)).2]) W)) := Lib.hid fun W => meet1_any a1 a2 p q W
          have fin : ∀ w', Hid (Kept w' w.heap.size #[.int .i64 (opM (a1, a2) (p, q)).1, .int .i64 (opM (a1, a2) (p, q)).2] 39) → Hid (Kept w' (w.heap.size + 1) #[.int .i64 0, .int .i64 0] 39) → Hid (Below w.heap.size w w') → w.heap.size + 2 ≤ w'.heap.size → Loop2Rel opM l w z (.int .i64 ((k : Int) + 1)) w' := fun w' x1 x2 x3 x4 =>
            ⟨k + 1, opM (a1, a2) (p, q), hlt, rfl, Lib.hid hfs, x1, x2, x3, x4⟩
          generalize (opM (a1, a2) (p, q)).1 = n1 at *
          generalize (opM (a1, a2) (p, q)).2 = n2 at *
          have F := Lib.hid fin
          have K1 := Lib.hid (K0.out.alloc (.cells #[.int .i64 p, .int .i64 q] 39))
          have R1 := Lib.hid (R0.out.alloc (.cells #[.int .i64 p, .int .i64 q] 39))
          have B1 := Lib.hid (B0.out.alloc B0.out.size (.cells #[.int .i64 p, .int .i64 q] 39))
          obtain ⟨k1, k2, g1, g2, kl⟩ := K0.out.two
          clear fin hpq hfs h1 h2
          go_wp2_with fail
          refine (Cb.out _).mono ?_
          rintro e1 w1 ⟨rfl, hb1⟩
          have K2 := Lib.hid (K1.out.next hb1)
          have R2 := Lib.hid (R1.out.next hb1)
          have B2 := Lib.hid (bnext B1.out B1.out.size hb1)
          have hs2 := hb1.size
          simp at hs2
          clear hb1 c1 c2 k1 k2 g1 g2
          obtain ⟨k1, k2, g1, g2, -⟩ := K2.out.two
          go_wp2
          go_roundw
          case rel => exact F.out _ (Lib.hid (K2.out.set2 _ _)) (Lib.hid ((R2.out.far (by simp) _).far (by simp) _)) (Lib.hid (bset2 B2.out (Nat.le_refl _) _ _)) (by simp [World.setCell]; omega)
          case measure => simp [intOf]; omega
        · obtain rfl : k = l.length := by omega
          have hf := HF.out
          rw [List.take_length] at hf
          have hall : allR l := fun j hj => HV'.out j hj
          obtain ⟨k1, k2, g1, g2, -⟩ := K0.out.two
          by_cases ha : a1 ≤ a2
          · have d0 := decide_eq_true ha
            have fin : ∀ w', Below w.heap.size w w' → GapRes (combL l (l.foldl opM z)) (combH l (l.foldl opM z)) (combE l (l.foldl opM z)) w (.returned (.tuple #[.agg #[.int .i64 a1, .int .i64 a2], .int .i64 0])) w' := fun w' hb => by
              obtain ⟨e1, e2, e3⟩ := comb_ok (r := l.foldl opM z) hall (by rw [hf]; exact ha)
              exact ⟨by rw [e1, e2, e3, hf], hb⟩
            have F := Lib.hid fin
            clear fin ha hf hall
            go_wp2_with fail
            refine (right_any a1 a2 _).mono ?_
            rintro e1 w1 ⟨rfl, hb1⟩
            rw [d0]
            have K2 := Lib.hid (K0.out.next hb1)
            have R2 := Lib.hid (R0.out.next hb1)
            have B2 := Lib.hid (bnext B0.out B0.out.size hb1)
            clear hb1 d0 k1 k2 g1 g2
            obtain ⟨k1, k2, g1, g2, -⟩ := K2.out.two
            obtain ⟨r1, r2, f1, f2, -⟩ := R2.out.two
            obtain ⟨s1, s2⟩ := R2.out.read2 (.int .i64 a1) (.int .i64 a2)
            go_wp2
            refine bodyPost_ret (v := .tuple #[.agg #[.int .i64 a1, .int .i64 a2], .int .i64 0]) (by simp [results, Try.results64, go_sem, s1, s2]) rfl ?_
            exact F.out _ (bset2 B2.out (Nat.le_succ _) _ _)
          · have d0 := decide_eq_false ha
            have fin : ∀ w', Below w.heap.size w w' → GapRes (combL l (l.foldl opM z)) (combH l (l.foldl opM z)) (combE l (l.foldl opM z)) w (.returned (.tuple #[.agg #[.int .i64 0, .int .i64 0], .int .i64 13])) w' := fun w' hb => by
              obtain ⟨e1, e2, e3⟩ := comb_no (r := l.foldl opM z) hall (by rw [hf]; omega)
              exact ⟨by rw [e1, e2, e3], hb⟩
            have F := Lib.hid fin
            clear fin ha hf hall
            go_wp2_with fail
            refine (right_any a1 a2 _).mono ?_
            rintro e1 w1 ⟨rfl, hb1⟩
            rw [d0]
            have K2 := Lib.hid (K0.out.next hb1)
            have R2 := Lib.hid (R0.out.next hb1)
            have B2 := Lib.hid (bnext B0.out B0.out.size hb1)
            clear hb1 d0 k1 k2 g1 g2
            obtain ⟨r1, r2, f1, f2, -⟩ := R2.out.two
            obtain ⟨s1, s2⟩ := R2.out.read2 (.int .i64 0) (.int .i64 0)
            go_wp2
            refine bodyPost_ret (v := .tuple #[.agg #[.int .i64 0, .int .i64 0], .int .i64 13]) (by simp [results, Try.results64, go_sem, s1, s2]) rfl ?_
            exact F.out _ (bset2 B2.out (Nat.le_succ _) _ _)
theorem meet_any (x : Option Addr) (xc : Nat) (l : List (Int × Int)) (w : World) (hx : PairRow w x l) (hl : l.length ≤ 4000000000) :
    Calls Try.prog 32 #[.slice x l.length xc] w (GapRes (combL l (l.foldl opM fullP)) (combH l (l.foldl opM fullP)) (combE l (l.foldl opM fullP)) w) := by
  obtain ⟨W, hW⟩ : ∃ W, (w.alloc (.cells #[.int .i64 0, .int .i64 0] 39)).alloc (.cells #[.int .i64 fullP.1, .int .i64 fullP.2] 39) = W := ⟨_, rfl⟩
  have R0 : Hid (Kept W w.heap.size #[.int .i64 0, .int .i64 0] 39) := Lib.hid (by rw [← hW]; exact (Kept.new rfl).alloc _)
  have B0 : Hid (Below w.heap.size w W) := Lib.hid (by rw [← hW]; exact (one_alloc _ _).alloc (by simp) _)
  have Cc := Lib.hid (meet_comb x xc l fullP W (hx.below B0.out) hl)
  have HW := Lib.hid hW
  generalize combL l (l.foldl opM fullP) = lo at *
  generalize combH l (l.foldl opM fullP) = hi at *
  generalize combE l (l.foldl opM fullP) = er at *
  clear hW hx
  go_enter Try.func32, Try.ntmps32
  go_wp2_with fail
  have HW' : (w.alloc (.cells #[.int .i64 0, .int .i64 0] 39)).alloc (.cells #[.int .i64 (-9223372036854775808), .int .i64 9223372036854775807] 39) = W := HW.out
  rw [HW']
  clear HW'
  refine Calls.mono (show Calls Try.prog 64 #[.agg #[.int .i64 (-9223372036854775808), .int .i64 9223372036854775807], .slice x l.length xc, .func (.func 65) #[] #[]] W _ from Cc.out) ?_
  rintro e w1 ⟨rfl, hb1⟩
  have R1 := Lib.hid (R0.out.next hb1)
  have B1 := Lib.hid (bnext B0.out B0.out.size hb1)
  obtain ⟨r1, r2, g1, g2, -⟩ := R1.out.two
  obtain ⟨s1, s2⟩ := R1.out.read2 (.int .i64 lo) (.int .i64 hi)
  clear hb1
  go_wp2
  refine bodyPost_ret (v := .tuple #[.agg #[.int .i64 lo, .int .i64 hi], .int .i64 er]) (by simp [results, Try.results32, go_sem, s1, s2]) rfl ?_
  exact ⟨rfl, bset2 B1.out (Nat.le_refl _) _ _⟩
end Go.Proofs.Ytflplliiamodhaa
