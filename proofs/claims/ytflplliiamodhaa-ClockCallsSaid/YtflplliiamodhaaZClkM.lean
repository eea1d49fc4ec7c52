import Derived.Test.YtflplliiamodhaaZDriftM
import Derived.Test.YtflplliiamodhaaZDriftF
import Derived.Test.YtflplliiamodhaaZDriftC
import Derived.Laws.OwnMore
import Derived.Deep.RegionHeldLaw
/- gap.Meet, gap.Hull: for every list of intervals. -/
namespace Go.Proofs.Ytflplliiamodhaa
open Go.RowKit
set_option linter.unusedVariables false

def GapRes (lo hi e : Int) (w : World) (x : Ending) (w' : World) : Prop := x = .returned (.tuple #[.agg #[.int .i64 lo, .int .i64 hi], .int .i64 e]) ∧ Below w.heap.size w w'
/-- the intervals of a list lie one beside another behind an address, two cells each -/
def InP (p : Int × Int) : Prop := InI p.1 ∧ InI p.2
def opM (p q : Int × Int) : Int × Int := (max p.1 q.1, min p.2 q.2)
def opH (p q : Int × Int) : Int × Int := (min p.1 q.1, max p.2 q.2)
def fullP : Int × Int := (-9223372036854775808, 9223372036854775807)
def noneP : Int × Int := (9223372036854775807, -9223372036854775808)
/-- are all right? -/
def allR (l : List (Int × Int)) : Prop := ∀ j, j < l.length → (l.getD j (0, 0)).1 ≤ (l.getD j (0, 0)).2
def combE (l : List (Int × Int)) (r : Int × Int) : Int := if (∃ j, j < l.length ∧ (l.getD j (0, 0)).2 < (l.getD j (0, 0)).1) then 10 else if r.1 ≤ r.2 then 0 else 13
def combL (l : List (Int × Int)) (r : Int × Int) : Int := if combE l r = 0 then r.1 else 0
def combH (l : List (Int × Int)) (r : Int × Int) : Int := if combE l r = 0 then r.2 else 0
theorem comb_bad {l : List (Int × Int)} {r : Int × Int} {j : Nat} (h : j < l.length) (hb : (l.getD j (0, 0)).2 < (l.getD j (0, 0)).1) : combE l r = 10 ∧ combL l r = 0 ∧ combH l r = 0 := by
  have e : combE l r = 10 := by unfold combE; rw [if_pos ⟨j, h, hb⟩]
  exact ⟨e, by unfold combL; rw [e]; rfl, by unfold combH; rw [e]; rfl⟩
theorem comb_no {l : List (Int × Int)} {r : Int × Int} (h : allR l) (hr : r.2 < r.1) : combE l r = 13 ∧ combL l r = 0 ∧ combH l r = 0 := by
  have e : combE l r = 13 := by unfold combE; rw [if_neg (by rintro ⟨j, hj, hb⟩; have := h j hj; omega), if_neg (by omega)]
  exact ⟨e, by unfold combL; rw [e]; rfl, by unfold combH; rw [e]; rfl⟩
theorem comb_ok {l : List (Int × Int)} {r : Int × Int} (h : allR l) (hr : r.1 ≤ r.2) : combE l r = 0 ∧ combL l r = r.1 ∧ combH l r = r.2 := by
  have e : combE l r = 0 := by unfold combE; rw [if_neg (by rintro ⟨j, hj, hb⟩; have := h j hj; omega), if_pos (by omega)]
  exact ⟨e, by unfold combL; rw [e]; rfl, by unfold combH; rw [e]; rfl⟩
theorem fold_snoc (op : Int × Int → Int × Int → Int × Int) (z : Int × Int) (l : List (Int × Int)) (k : Nat) (hk : k < l.length) : (l.take (k + 1)).foldl op z = op ((l.take k).foldl op z) (l.getD k (0, 0)) := by
  rw [List.take_add_one, List.foldl_append]
  simp [List.getD, List.getElem?_eq_getElem hk]
def Loop1Rel (l : List (Int × Int)) (w : World) (z : Int × Int) (i : Value) (wr : World) : Prop := ∃ k : Nat, k ≤ l.length ∧ i = .int .i64 k ∧ Hid (∀ j, j < k → (l.getD j (0, 0)).1 ≤ (l.getD j (0, 0)).2) ∧
  Hid (Kept wr w.heap.size #[.int .i64 z.1, .int .i64 z.2] 39) ∧ Hid (Kept wr (w.heap.size + 1) #[.int .i64 0, .int .i64 0] 39) ∧ Hid (Below w.heap.size w wr) ∧ w.heap.size + 2 ≤ wr.heap.size
def Loop2Rel (op : Int × Int → Int × Int → Int × Int) (l : List (Int × Int)) (w : World) (z : Int × Int) (i : Value) (wr : World) : Prop := ∃ (k : Nat) (r : Int × Int), k ≤ l.length ∧ i = .int .i64 k ∧ Hid ((l.take k).foldl op z = r) ∧
  Hid (Kept wr w.heap.size #[.int .i64 r.1, .int .i64 r.2] 39) ∧ Hid (Kept wr (w.heap.size + 1) #[.int .i64 0, .int .i64 0] 39) ∧ Hid (Below w.heap.size w wr) ∧ w.heap.size + 2 ≤ wr.heap.size
theorem meet1_any (a b c d : Int) (w : World) : Calls Try.prog 65 #[.agg #[.int .i64 a, .int .i64 b], .agg #[.int .i64 c, .int .i64 d]] w (Gives (.agg #[.int .i64 (opM (a, b) (c, d)).1, .int .i64 (opM (a, b) (c, d)).2]) w) := by
  have h1 : (opM (a, b) (c, d)).1 = max a c := rfl
  have h2 : (opM (a, b) (c, d)).2 = min b d := rfl
  rw [h1, h2]
  clear h1 h2
  have fin : ∀ p q w', p = max a c → q = min b d → Below w.heap.size w w' → Gives (.agg #[.int .i64 (max a c), .int .i64 (min b d)]) w (.returned (.agg #[.int .i64 p, .int .i64 q])) w' := fun p q w' h1 h2 hb => ⟨by rw [h1, h2], hb⟩
  have Fin := Lib.hid fin
  clear fin
  go_enter Try.func65, Try.ntmps65
  go_wp2
  all_goals
    go_returns
    exact Fin.out _ _ _ (by omega) (by omega) (((one_alloc _ _).alloc (by simp) _).alloc (by simp; omega) _)
set_option maxHeartbeats 4000000 in
theorem meet_comb (x : Option Addr) (xc : Nat) (l : List (Int × Int)) (z : Int × Int) (w : World) (hx : PairRow w x l) (hl : l.length ≤ 4000000000) :
    Calls Try.prog 64 #[.agg #[.int .i64 z.1, .int .i64 z.2], .slice x l.length xc, .func (.func 65) #[] #[]] w (GapRes (combL l (l.foldl opM z)) (combH l (l.foldl opM z)) (combE l (l.foldl opM z)) w) := by
  have HX := Lib.hid hx
  clear hx
  go_enter Try.func64, Try.ntmps64
  go_wp2
  go_loopw [14] (fun i wr => Loop1Rel l w z i wr) (fun i _ => l.length - (intOf i).toNat)
  case atStart => exact ⟨0, Nat.zero_le _, rfl, Lib.hid (fun j hj => by omega), Lib.hid ((Kept.new rfl).alloc _), Lib.hid (Kept.new (by simp)), Lib.hid ((one_alloc _ _).alloc (by simp) _), by simp⟩
  case round =>
    obtain ⟨k, hk, rfl, HV, K0, R0, B0, hsz⟩ := hrel
    by_cases hlt : k < l.length
    · obtain ⟨b, off, rfl, h1, h2⟩ := HX.out k hlt
      have c1 := (B0.out.cell (World.block_lt_of_cell? w _ h1)).trans h1
      have c2 := (B0.out.cell (World.block_lt_of_cell? w _ h2)).trans h2
      obtain ⟨r1, r2, f1, f2, -⟩ := R0.out.two
      obtain ⟨p, hp⟩ : ∃ p, (l.getD k (0, 0)).1 = p := ⟨_, rfl⟩
      obtain ⟨q, hq⟩ : ∃ q, (l.getD k (0, 0)).2 = q := ⟨_, rfl⟩
      rw [hp] at c1
      rw [hq] at c2
      have fin1 : p ≤ q → ∀ w', Hid (Kept w' w.heap.size #[.int .i64 z.1, .int .i64 z.2] 39) → Hid (Kept w' (w.heap.size + 1) #[.int .i64 0, .int .i64 0] 39) → Hid (Below w.heap.size w w') → w.heap.size + 2 ≤ w'.heap.size → Loop1Rel l w z (.int .i64 ((k : Int) + 1)) w' := fun h w' a1 a2 a3 a4 =>
        ⟨k + 1, hlt, rfl, Lib.hid (fun j hj => by
          by_cases e : j = k
          · rw [e, hp, hq]; exact h
          · exact HV.out j (by omega)), a1, a2, a3, a4⟩
      have fin2 : q < p → ∀ w', Below w.heap.size w w' → GapRes (combL l (l.foldl opM z)) (combH l (l.foldl opM z)) (combE l (l.foldl opM z)) w (.returned (.tuple #[.agg #[.int .i64 0, .int .i64 0], .int .i64 10])) w' := fun h w' hb => by
        obtain ⟨e1, e2, e3⟩ := comb_bad (r := l.foldl opM z) hlt (by rw [hp, hq]; exact h)
        exact ⟨by rw [e1, e2, e3], hb⟩
      have F1 := Lib.hid fin1
      have F2 := Lib.hid fin2
      have K1 := Lib.hid (K0.out.alloc (.cells #[.int .i64 p, .int .i64 q] 39))
      have R1 := Lib.hid (R0.out.alloc (.cells #[.int .i64 p, .int .i64 q] 39))
      have B1 := Lib.hid (B0.out.alloc B0.out.size (.cells #[.int .i64 p, .int .i64 q] 39))
      clear fin1 fin2 hp hq h1 h2
      by_cases hpq : p ≤ q
      · have d0 := decide_eq_true hpq
        have F := Lib.hid (F1.out hpq)
        clear F1 F2 hpq
        go_wp2_with fail
        refine (right_any p q _).mono ?_
        rintro e1 w1 ⟨rfl, hb1⟩
        rw [d0]
        have F := Lib.hid (F.out w1 (Lib.hid (K1.out.next hb1)) (Lib.hid (R1.out.next hb1)) (Lib.hid (bnext B1.out B1.out.size hb1)) (by have := hb1.size; simp at this; omega))
        clear hb1 d0 c1 c2 r1 r2 f1 f2
        go_wp2
        go_roundw
        case rel => exact F.out
        case measure => simp [intOf]; omega
      · have d0 := decide_eq_false hpq
        have F := Lib.hid (F2.out (by omega))
        clear F1 F2 hpq
        go_wp2_with fail
        refine (right_any p q _).mono ?_
        rintro e1 w1 ⟨rfl, hb1⟩
        rw [d0]
        have R2 := Lib.hid (R1.out.next hb1)
        have B2 := Lib.hid (bnext B1.out B1.out.size hb1)
        clear hb1 d0 c1 c2 r1 r2 f1 f2
        obtain ⟨r1, r2, f1, f2, -⟩ := R2.out.two
        obtain ⟨s1, s2⟩ := R2.out.read2 (.int .i64 0) (.int .i64 0)
        go_wp2
        refine bodyPost_ret (v := .tuple #[.agg #[.int .i64 0, .int .i64 0], .int .i64 10]) (by simp [results, Try.results64, go_sem, s1, s2]) rfl ?_
        exact F.out _ (bset2 B2.out (Nat.le_succ _) _ _)
    · obtain rfl : k = l.length := by omega
      have HV' := HV
      go_wp2
      go_loopw [25] (fun i wr => Loop2Rel opM l w z i wr) (fun i _ => l.length - (intOf i).toNat)
      case atStart => exact ⟨0, z, Nat.zero_le _, rfl, Lib.hid rfl, K0, R0, B0, hsz⟩
      case round =>
        obtain ⟨k, r, hk, rfl, HF, K0, R0, B0, hsz⟩ := hrel
        obtain ⟨a1, a2⟩ := r
        by_cases hlt : k < l.length
        · obtain ⟨b, off, rfl, h1, h2⟩ := HX.out k hlt
          have c1 := (B0.out.cell (World.block_lt_of_cell? w _ h1)).trans h1
          have c2 := (B0.out.cell (World.block_lt_of_cell? w _ h2)).trans h2
          have hfs := fold_snoc opM z l k hlt
          rw [HF.out] at hfs
          obtain ⟨pq, hpq⟩ : ∃ p, l.getD k (0, 0) = p := ⟨_, rfl⟩
          rw [hpq] at c1 c2 hfs
          obtain ⟨p, q⟩ := pq
          have Cb : Hid (∀ W, Calls Try.prog 65 #[.agg #[.int .i64 a1, .int .i64 a2], .agg #[.int .i64 p, .int .i64 q]] W (Gives (.agg #[.int .i64 (opM (a1, a2) (p, q)).1, .int .i64 (opM (a1, a2) (p, q)).2]) W)) := Lib.hid fun W => meet1_any a1 a2 p q W
          have fin : ∀ w', Hid (Kept w' w.heap.size #[.int .i64 (opM (a1, a2) (p, q)).1, .int .i64 (opM (a1, a2) (p, q)).2] 39) → Hid (Kept w' (w.heap.size + 1) #[.int .i64 0, .int .i64 0] 39) → Hid (Below w.heap.size w w') → w.heap.size + 2 ≤ w'.heap.size → Loop2Rel opM l w z (.int .i64 ((k : Int) + 1)) w' := fun w' x1 x2 x3 x4 =>
            ⟨k + 1, opM (a1, a2) (p, q), hlt, rfl, Lib.hid hfs, x1, x2, x3, x4⟩
          generalize (opM (a1, a2) (p, q)).1 = n1 at *
          generalize (opM (a1, a2) (p, q)).2 = n2 at *
          have F := Lib.hid fin
          have K1 := Lib.hid (K0.out.alloc (.cells #[.int .i64 p, .int .i64 q] 39))
          have R1 := Lib.hid (R0.out.alloc (.cells #[.int .i64 p, .int .i64 q] 39))
          have B1 := Lib.hid (B0.out.alloc B0.out.size (.cells #[.int .i64 p, .int .i64 q] 39))
          obtain ⟨k1, k2, g1, g2, kl⟩ := K0.out.two
          clear fin hpq hfs h1 h2
          go_wp2_with fail
          refine (Cb.out _).mono ?_
          rintro e1 w1 ⟨rfl, hb1⟩
          have K2 := Lib.hid (K1.out.next hb1)
          have R2 := Lib.hid (R1.out.next hb1)
          have B2 := Lib.hid (bnext B1.out B1.out.size hb1)
          have hs2 := hb1.size
          simp at hs2
          clear hb1 c1 c2 k1 k2 g1 g2
          obtain ⟨k1, k2, g1, g2, -⟩ := K2.out.two
          go_wp2
          go_roundw
          case rel => exact F.out _ (Lib.hid (K2.out.set2 _ _)) (Lib.hid ((R2.out.far (by simp) _).far (by simp) _)) (Lib.hid (bset2 B2.out (Nat.le_refl _) _ _)) (by simp [World.setCell]; omega)
          case measure => simp [intOf]; omega
        · obtain rfl : k = l.length := by omega
          have hf := HF.out
          rw [List.take_length] at hf
          have hall : allR l := fun j hj => HV'.out j hj
          obtain ⟨k1, k2, g1, g2, -⟩ := K0.out.two
          by_cases ha : a1 ≤ a2
          · have d0 := decide_eq_true ha
            have fin : ∀ w', Below w.heap.size w w' → GapRes (combL l (l.foldl opM z)) (combH l (l.foldl opM z)) (combE l (l.foldl opM z)) w (.returned (.tuple #[.agg #[.int .i64 a1, .int .i64 a2], .int .i64 0])) w' := fun w' hb => by
              obtain ⟨e1, e2, e3⟩ := comb_ok (r := l.foldl opM z) hall (by rw [hf]; exact ha)
              exact ⟨by rw [e1, e2, e3, hf], hb⟩
            have F := Lib.hid fin
            clear fin ha hf hall
            go_wp2_with fail
            refine (right_any a1 a2 _).mono ?_
            rintro e1 w1 ⟨rfl, hb1⟩
            rw [d0]
            have K2 := Lib.hid (K0.out.next hb1)
            have R2 := Lib.hid (R0.out.next hb1)
            have B2 := Lib.hid (bnext B0.out B0.out.size hb1)
            clear hb1 d0 k1 k2 g1 g2
            obtain ⟨k1, k2, g1, g2, -⟩ := K2.out.two
            obtain ⟨r1, r2, f1, f2, -⟩ := R2.out.two
            obtain ⟨s1, s2⟩ := R2.out.read2 (.int .i64 a1) (.int .i64 a2)
            go_wp2
            refine bodyPost_ret (v := .tuple #[.agg #[.int .i64 a1, .int .i64 a2], .int .i64 0]) (by simp [results, Try.results64, go_sem, s1, s2]) rfl ?_
            exact F.out _ (bset2 B2.out (Nat.le_succ _) _ _)
          · have d0 := decide_eq_false ha
            have fin : ∀ w', Below w.heap.size w w' → GapRes (combL l (l.foldl opM z)) (combH l (l.foldl opM z)) (combE l (l.foldl opM z)) w (.returned (.tuple #[.agg #[.int .i64 0, .int .i64 0], .int .i64 13])) w' := fun w' hb => by
              obtain ⟨e1, e2, e3⟩ := comb_no (r := l.foldl opM z) hall (by rw [hf]; omega)
              exact ⟨by rw [e1, e2, e3], hb⟩
            have F := Lib.hid fin
            clear fin ha hf hall
            go_wp2_with fail
            refine (right_any a1 a2 _).mono ?_
            rintro e1 w1 ⟨rfl, hb1⟩
            rw [d0]
            have K2 := Lib.hid (K0.out.next hb1)
            have R2 := Lib.hid (R0.out.next hb1)
            have B2 := Lib.hid (bnext B0.out B0.out.size hb1)
            clear hb1 d0 k1 k2 g1 g2
            obtain ⟨r1, r2, f1, f2, -⟩ := R2.out.two
            obtain ⟨s1, s2⟩ := R2.out.read2 (.int .i64 0) (.int .i64 0)
            go_wp2
            refine bodyPost_ret (v := .tuple #[.agg #[.int .i64 0, .int .i64 0], .int .i64 13]) (by simp [results, Try.results64, go_sem, s1, s2]) rfl ?_
            exact F.out _ (bset2 B2.out (Nat.le_succ _) _ _)
theorem meet_any (x : Option Addr) (xc : Nat) (l : List (Int × Int)) (w : World) (hx : PairRow w x l) (hl : l.length ≤ 4000000000) :
    Calls Try.prog 32 #[.slice x l.length xc] w (GapRes (combL l (l.foldl opM fullP)) (combH l (l.foldl opM fullP)) (combE l (l.foldl opM fullP)) w) := by
  obtain ⟨W, hW⟩ : ∃ W, (w.alloc (.cells #[.int .i64 0, .int .i64 0] 39)).alloc (.cells #[.int .i64 fullP.1, .int .i64 fullP.2] 39) = W := ⟨_, rfl⟩
  have R0 : Hid (Kept W w.heap.size #[.int .i64 0, .int .i64 0] 39) := Lib.hid (by rw [← hW]; exact (Kept.new rfl).alloc _)
  have B0 : Hid (Below w.heap.size w W) := Lib.hid (by rw [← hW]; exact (one_alloc _ _).alloc (by simp) _)
  have Cc := Lib.hid (meet_comb x xc l fullP W (hx.below B0.out) hl)
  have HW := Lib.hid hW
  generalize combL l (l.foldl opM fullP) = lo at *
  generalize combH l (l.foldl opM fullP) = hi at *
  generalize combE l (l.foldl opM fullP) = er at *
  clear hW hx
  go_enter Try.func32, Try.ntmps32
  go_wp2_with fail
  have HW' : (w.alloc (.cells #[.int .i64 0, .int .i64 0] 39)).alloc (.cells #[.int .i64 (-9223372036854775808), .int .i64 9223372036854775807] 39) = W := HW.out
  rw [HW']
  clear HW'
  refine Calls.mono (show Calls Try.prog 64 #[.agg #[.int .i64 (-9223372036854775808), .int .i64 9223372036854775807], .slice x l.length xc, .func (.func 65) #[] #[]] W _ from Cc.out) ?_
  rintro e w1 ⟨rfl, hb1⟩
  have R1 := Lib.hid (R0.out.next hb1)
  have B1 := Lib.hid (bnext B0.out B0.out.size hb1)
  obtain ⟨r1, r2, g1, g2, -⟩ := R1.out.two
  obtain ⟨s1, s2⟩ := R1.out.read2 (.int .i64 lo) (.int .i64 hi)
  clear hb1
  go_wp2
  refine bodyPost_ret (v := .tuple #[.agg #[.int .i64 lo, .int .i64 hi], .int .i64 er]) (by simp [results, Try.results32, go_sem, s1, s2]) rfl ?_
  exact ⟨rfl, bset2 B1.out (Nat.le_refl _) _ _⟩
end Go.Proofs.Ytflplliiamodhaa

/- Slices of points that a function owns. -/
namespace Go.Proofs.Ytflplliiamodhaa
open Go.RowKit
set_option linter.unusedVariables false

def cells2 : List (Int × Int) → List Value
  | [] => []
  | p :: l => .int .i64 p.1 :: .int .i64 p.2 :: cells2 l
theorem cells2_len : ∀ l, (cells2 l).length = l.length * 2
  | [] => rfl
  | p :: l => by simp [cells2, cells2_len l]; omega
theorem cells2_append : ∀ l m, cells2 (l ++ m) = cells2 l ++ cells2 m
  | [], m => rfl
  | p :: l, m => by simp [cells2, cells2_append l m]
theorem cells2_get : ∀ (l : List (Int × Int)) (j : Nat) (u : Value), (cells2 l)[j]? = some u → ∃ i, i < l.length ∧ ((j = i * 2 ∧ u = .int .i64 (l.getD i (0, 0)).1) ∨ (j = i * 2 + 1 ∧ u = .int .i64 (l.getD i (0, 0)).2))
  | [], j, u, h => by simp [cells2] at h
  | p :: l, 0, u, h => ⟨0, by simp, .inl ⟨rfl, by simpa [cells2] using h.symm⟩⟩
  | p :: l, 1, u, h => ⟨0, by simp, .inr ⟨rfl, by simpa [cells2] using h.symm⟩⟩
  | p :: l, j + 2, u, h => by
    obtain ⟨i, hi, h'⟩ := cells2_get l j u (by simpa [cells2] using h)
    refine ⟨i + 1, by simpa using hi, ?_⟩
    rcases h' with ⟨e, eu⟩ | ⟨e, eu⟩
    · exact .inl ⟨by omega, by simpa using eu⟩
    · exact .inr ⟨by omega, by simpa using eu⟩
theorem cells2_at : ∀ (l : List (Int × Int)) (i : Nat), i < l.length → (cells2 l)[i * 2]? = some (.int .i64 (l.getD i (0, 0)).1) ∧ (cells2 l)[i * 2 + 1]? = some (.int .i64 (l.getD i (0, 0)).2)
  | [], i, h => by simp at h
  | p :: l, 0, h => by simp [cells2]
  | p :: l, i + 1, h => by
    have := cells2_at l i (by simpa using h)
    rw [show (i + 1) * 2 = i * 2 + 2 by omega, show i * 2 + 2 + 1 = (i * 2 + 1) + 2 by omega]
    simpa [cells2] using this
theorem wp_appendPairs {P : Program} {o : Oper} {a : Act} {w : World} {K : Act → World → Prop} {Q : Exit → Act → World → Prop} (s x : Operand) (t : TypeId)
    (ho : o.op = .call { callee := .builtin .append, args := #[s, x], argTypes := #[t, t] })
    (w0 : World) (e : TypeId) (i : TypeInfo) (z : Value) (bytes : Nat) (ht : P.underlying t = some (.slice e)) (hi : P.info? e = some i) (hz : i.zero = some z)
    (hsize : i.size = 2) (hby : i.bytes = bytes) (hzs : z.cells.size = 2)
    (v : Value) (n : Nat) (xs : List Value) (hs : a.eval s = v) (hown : w.ownsRow w0.heap.size e 2 v n xs)
    (A : Option Addr) (c : Nat) (l : List (Int × Int)) (hx : a.eval x = .slice A l.length c) (hA : A = none → c = 0) (hr : PairRow w A l)
    (h63 : n + l.length ≤ maxLen) (hbytes : (n + l.length) * bytes ≤ 140737488355328) (hb : Below w0.heap.size w0 w)
    (h : ∀ v' w', w'.ownsRow w0.heap.size e 2 v' (n + l.length) (xs ++ cells2 l) → Below w0.heap.size w0 w' → K (a.put o.dst v') w') : o.wp P a w K Q := by
  rcases A with _ | ad
  · have hl : l = [] := by
      cases l with
      | nil => rfl
      | cons y ys => obtain ⟨_, _, e1, _⟩ := hr 0 (by simp); cases e1
    subst hl
    have hrun := run_append_owned_none (P := P) (w := w) w0.heap.size t o.type e i 2 ht hi v n xs hown
    have hx' : a.eval x = .slice none 0 0 := by rw [hx, hA rfl]; rfl
    have h1 := h v w (by simpa [cells2] using hown) hb
    unfold Oper.wp
    simp [execOp, ho, resolve, invoke, builtin, hs, hx', hrun, Result.andThen]
    exact h1
  · refine wp_append_own w s x t ho w0.heap.size e i z 2 bytes ht hi hz hsize hby hzs (by decide) v n xs hs hown ad l.length c (cells2 l) hx (cells2_len l) ?_ ?_ h63 hbytes hb.size ?_
    · intro j u hj
      obtain ⟨k, hk, h'⟩ := cells2_get l j u hj
      obtain ⟨b, off, e1, c1, c2⟩ := hr k hk
      obtain rfl := Option.some.inj e1
      have e2 : ∀ q, (⟨b, off, none⟩ : Addr).add q = ⟨b, off + q, none⟩ := fun q => by
        unfold Addr.add
        split
        · subst_vars; rfl
        · rfl
      rw [e2]
      rcases h' with ⟨rfl, rfl⟩ | ⟨rfl, rfl⟩
      · exact c1
      · rw [← Nat.add_assoc]; exact c2
    · intro u hu
      obtain ⟨j, hj⟩ := List.getElem?_of_mem hu
      obtain ⟨k, hk, h'⟩ := cells2_get l j u hj
      rcases h' with ⟨_, rfl⟩ | ⟨_, rfl⟩ <;> rfl
    · intro v' w' hown' hgrow _
      exact h v' w' hown' (hb.grown hgrow hb.size (fun j hj => (hown.lt j hj).1))
theorem wpList_appendPairs {P : Program} {ops : Array Oper} {rest : List Oper} {o : Oper} {a : Act} {w : World} {Q : Exit → Act → World → Prop} (hgd : o.guard = none) (s x : Operand) (t : TypeId)
    (ho : o.op = .call { callee := .builtin .append, args := #[s, x], argTypes := #[t, t] })
    (w0 : World) (e : TypeId) (i : TypeInfo) (z : Value) (bytes : Nat) (ht : P.underlying t = some (.slice e)) (hi : P.info? e = some i) (hz : i.zero = some z)
    (hsize : i.size = 2) (hby : i.bytes = bytes) (hzs : z.cells.size = 2)
    (v : Value) (n : Nat) (xs : List Value) (hs : a.eval s = v) (hown : w.ownsRow w0.heap.size e 2 v n xs)
    (A : Option Addr) (c : Nat) (l : List (Int × Int)) (hx : a.eval x = .slice A l.length c) (hA : A = none → c = 0) (hr : PairRow w A l)
    (h63 : n + l.length ≤ maxLen) (hbytes : (n + l.length) * bytes ≤ 140737488355328) (hb : Below w0.heap.size w0 w)
    (h : ∀ v' w', w'.ownsRow w0.heap.size e 2 v' (n + l.length) (xs ++ cells2 l) → Below w0.heap.size w0 w' → wpList P ops Q rest (a.put o.dst v') w') : wpList P ops Q (o :: rest) a w :=
  wpList_plain hgd fun _ hK => wp_appendPairs s x t ho w0 e i z bytes ht hi hz hsize hby hzs v n xs hs hown A c l hx hA hr h63 hbytes hb fun v' w' h2 h3 => hK _ _ (h v' w' h2 h3)
theorem PairRow.own {w : World} {base e n : Nat} {v : Value} {d : List (Int × Int)} (h : w.ownsRow base e 2 v n (cells2 d)) : ∃ a cap, v = .slice a n cap ∧ d.length = n ∧ n ≤ cap ∧ cap ≤ 9223372036854775807 ∧ (a = none → cap = 0) ∧ PairRow w a d := by
  have hl : d.length = n := by have := h.1; rw [cells2_len] at this; omega
  rcases h.2 with ⟨rfl, h0⟩ | ⟨g, cap, cur, rfl, hb, hh, h1, h2, h3, h4⟩
  · exact ⟨none, 0, by rw [h0], hl, by omega, by omega, fun _ => rfl, fun j hj => by omega⟩
  · refine ⟨_, cap, rfl, hl, h1, h2, fun e => by simp at e, fun j hj => ⟨g, 0, rfl, ?_, ?_⟩⟩
    · rw [Nat.zero_add, h.cellAt (j * 2) (by omega)]; exact (cells2_at d j hj).1
    · rw [Nat.zero_add, h.cellAt (j * 2 + 1) (by omega)]; exact (cells2_at d j hj).2
theorem owns_below {w w' : World} {base e size n : Nat} {v : Value} {xs : List Value} (h : w.ownsRow base e size v n xs) (hb : Below w.heap.size w w') : w'.ownsRow base e size v n xs := by
  obtain ⟨h1, h2⟩ := h
  refine ⟨h1, ?_⟩
  rcases h2 with h2 | ⟨g, cap, cur, e1, e2, e3, e4⟩
  · exact .inl h2
  · exact .inr ⟨g, cap, cur, e1, e2, (hb.block g (Array.getElem?_eq_some_iff.1 e3).1).trans e3, e4⟩
theorem info_parts2 {P : Program} {t : TypeId} {z : Value} {s b : Nat} (h : (P.info? t).map (fun i => (i.zero, i.size, i.bytes)) = some (some z, s, b)) : ∃ i, P.info? t = some i ∧ i.zero = some z ∧ i.size = s ∧ i.bytes = b := by
  obtain ⟨i, h1, h2⟩ := Option.map_eq_some_iff.1 h
  simp only [Prod.mk.injEq] at h2
  exact ⟨i, h1, h2.1, h2.2.1, h2.2.2⟩
theorem take_pair (l : List (Int × Int)) (k : Nat) (hk : k < l.length) : l.take (k + 1) = l.take k ++ [l.getD k (0, 0)] := by
  rw [List.take_add_one]
  simp [List.getD, List.getElem?_eq_getElem hk]
theorem pair_one {w : World} {g : Nat} {p q : Int} {T : TypeId} (h : Kept w g #[.int .i64 p, .int .i64 q] T) : PairRow w (some ⟨g, 0, none⟩) [(p, q)] := fun j hj => by
  simp only [List.length_cons, List.length_nil] at hj
  obtain rfl : j = 0 := by omega
  exact ⟨g, 0, rfl, (h.at_ 0).1, (h.at_ 1).1⟩
theorem step_appendPairs {P : Program} {ops : Array Oper} {o : Oper} {a : Act} {w : World} {K : Act → World → Prop} {Q : Exit → Act → World → Prop} {E : Prop} (hgd : o.guard = none) (s x : Operand) (t : TypeId)
    (ho : o.op = .call { callee := .builtin .append, args := #[s, x], argTypes := #[t, t] })
    (w0 : World) (e : TypeId) (i : TypeInfo) (z : Value) (bytes : Nat) (ht : P.underlying t = some (.slice e)) (hi : P.info? e = some i) (hz : i.zero = some z)
    (hsize : i.size = 2) (hby : i.bytes = bytes) (hzs : z.cells.size = 2)
    (v : Value) (n : Nat) (xs : List Value) (hs : a.eval s = v) (hown : w.ownsRow w0.heap.size e 2 v n xs)
    (A : Option Addr) (m c : Nat) (l : List (Int × Int)) (hm : l.length = m) (hx : a.eval x = .slice A m c) (hA : A = none → c = 0) (hr : PairRow w A l)
    (h63 : n + m ≤ maxLen) (hbytes : (n + m) * bytes ≤ 140737488355328) (hb : Below w0.heap.size w0 w)
    (h : ∀ v' w', w'.ownsRow w0.heap.size e 2 v' (n + m) (xs ++ cells2 l) → Below w0.heap.size w0 w' → K (a.put o.dst v') w') :
    if Region.wanted o (yielded ops a.tmps) = true then Oper.wp P o a w K Q else E := by
  subst hm
  have hw : Region.wanted o (yielded ops a.tmps) = true := by simp [Region.wanted, hgd]
  rw [if_pos hw]
  exact wp_appendPairs s x t ho w0 e i z bytes ht hi hz hsize hby hzs v n xs hs hown A c l hx hA hr h63 hbytes hb h
theorem PairRow.take {w : World} {a : Option Addr} {l : List (Int × Int)} (h : PairRow w a l) (n : Nat) : PairRow w a (l.take n) := fun j hj => by
  rw [List.length_take] at hj
  obtain ⟨b, off, e, h1, h2⟩ := h j (by omega)
  have g : (l.take n).getD j (0, 0) = l.getD j (0, 0) := by
    simp only [List.getD_eq_getElem?_getD, List.getElem?_take]
    rw [if_pos (by omega)]
  rw [g]
  exact ⟨b, off, e, h1, h2⟩
theorem PairRow.drop {w : World} {b off : Nat} {l : List (Int × Int)} (h : PairRow w (some ⟨b, off, none⟩) l) (n : Nat) : PairRow w (some ⟨b, off + n * 2, none⟩) (l.drop n) := fun j hj => by
  rw [List.length_drop] at hj
  obtain ⟨b', off', e, h1, h2⟩ := h (n + j) (by omega)
  cases e
  have g : (l.drop n).getD j (0, 0) = l.getD (n + j) (0, 0) := by
    simp only [List.getD_eq_getElem?_getD, List.getElem?_drop]
  rw [g]
  exact ⟨b, off + n * 2, rfl, by rw [show off + n * 2 + j * 2 = off + (n + j) * 2 by omega]; exact h1, by rw [show off + n * 2 + j * 2 + 1 = off + (n + j) * 2 + 1 by omega]; exact h2⟩
end Go.Proofs.Ytflplliiamodhaa

/- Slices of intervals that a function grows. -/
namespace Go.Proofs.Ytflplliiamodhaa
open Go.RowKit
set_option linter.unusedVariables false

theorem info_gap : (Try.prog.info? 39).map (fun i => (i.zero, i.size, i.bytes)) = some (some (.agg #[.int .i64 0, .int .i64 0]), 2, 16) := by kernel_rfl
end Go.Proofs.Ytflplliiamodhaa

/- Meets of intervals, point by point. -/
namespace Go.Proofs.Ytflplliiamodhaa
set_option linter.unusedVariables false

theorem foldM_has (x : Int) : ∀ (l : List (Int × Int)) (z : Int × Int), ((l.foldl opM z).1 ≤ x ∧ x ≤ (l.foldl opM z).2) ↔ ((z.1 ≤ x ∧ x ≤ z.2) ∧ ∀ p ∈ l, p.1 ≤ x ∧ x ≤ p.2)
  | [], z => by simp
  | p :: l, z => by
    rw [List.foldl_cons, foldM_has x l (opM z p)]
    simp only [List.mem_cons, forall_eq_or_imp]
    have h : ((opM z p).1 ≤ x ∧ x ≤ (opM z p).2) ↔ ((z.1 ≤ x ∧ x ≤ z.2) ∧ (p.1 ≤ x ∧ x ≤ p.2)) := by unfold opM; simp only; omega
    rw [h, and_assoc]
theorem foldM_le : ∀ (l : List (Int × Int)) (z : Int × Int), (z.1 ≤ (l.foldl opM z).1 ∧ (l.foldl opM z).2 ≤ z.2) ∧ ∀ p ∈ l, p.1 ≤ (l.foldl opM z).1 ∧ (l.foldl opM z).2 ≤ p.2
  | [], z => by simp
  | p :: l, z => by
    rw [List.foldl_cons]
    obtain ⟨h1, h2⟩ := foldM_le l (opM z p)
    have h3 : z.1 ≤ (opM z p).1 ∧ (opM z p).2 ≤ z.2 ∧ p.1 ≤ (opM z p).1 ∧ (opM z p).2 ≤ p.2 := by unfold opM; simp only; omega
    refine ⟨by omega, fun q hq => ?_⟩
    rcases List.mem_cons.1 hq with rfl | hq
    · omega
    · exact h2 q hq
theorem getP_mem {l : List (Int × Int)} {j : Nat} (h : j < l.length) : l.getD j (0, 0) ∈ l := by
  rw [List.getD_eq_getElem?_getD, List.getElem?_eq_getElem h]
  exact List.getElem_mem h
theorem all_iff {l : List (Int × Int)} {P : Int × Int → Prop} : (∀ p ∈ l, P p) ↔ ∀ j, j < l.length → P (l.getD j (0, 0)) := by
  constructor
  · exact fun h j hj => h _ (getP_mem hj)
  · intro h p hp
    obtain ⟨j, hj, rfl⟩ := List.mem_iff_getElem.1 hp
    have := h j hj
    rwa [List.getD_eq_getElem?_getD, List.getElem?_eq_getElem hj] at this
end Go.Proofs.Ytflplliiamodhaa

/- sweep.Agree. -/
namespace Go.Proofs.Ytflplliiamodhaa
open Go.RowKit Go.Shelf
set_option linter.unusedVariables false
attribute [local go_sem] Oper.semAt_some

def agreeB (L : List (Int × Int)) : Bool := decide (0 < L.length) && decide (combE L (L.foldl opM fullP) = 0)
set_option maxHeartbeats 1000000 in
theorem agree_any (x : Option Addr) (c : Nat) (L : List (Int × Int)) (w : World) (hx : PairRow w x L) (hL : L.length ≤ 100000) :
    Calls Try.prog 38 #[.slice x L.length c] w (Gives (.bool (agreeB L)) w) := by
  have CM := Lib.hid (meet_any x c L w hx (by omega))
  have F : Hid (agreeB L = (decide (0 < L.length) && decide (combE L (L.foldl opM fullP) = 0))) := Lib.hid rfl
  generalize combL L (L.foldl opM fullP) = lo at *
  generalize combH L (L.foldl opM fullP) = hi at *
  generalize combE L (L.foldl opM fullP) = e at *
  generalize agreeB L = r at *
  clear hx
  by_cases h0 : 0 < L.length
  · have h1 : (0 : Int) < (L.length : Int) := by omega
    by_cases he : e = 0
    · have F' : Hid (r = true) := Lib.hid (by rw [F.out, decide_eq_true h0, decide_eq_true he]; rfl)
      subst he
      clear F h0
      go_enter Try.func38, Try.ntmps38
      go_wp2_with fail
      refine CM.out.mono ?_
      rintro _ w2 ⟨rfl, b2⟩
      have BB := Lib.hid (b2.alloc b2.size (.cells #[.int .i64 lo, .int .i64 hi] 39))
      clear b2
      go_wp2
      go_ret
      exact ⟨ret_bool F'.out.symm, BB.out⟩
    · have F' : Hid (r = false) := Lib.hid (by rw [F.out, decide_eq_false he, Bool.and_false])
      have hd : (e == 0) = false := beq_eq_false_iff_ne.mpr he
      clear F h0 he
      go_enter Try.func38, Try.ntmps38
      go_wp2_with fail
      refine CM.out.mono ?_
      rintro _ w2 ⟨rfl, b2⟩
      have BB := Lib.hid (b2.alloc b2.size (.cells #[.int .i64 lo, .int .i64 hi] 39))
      clear b2
      go_wp2
      go_ret
      exact ⟨ret_bool F'.out.symm, BB.out⟩
  · have F' : Hid (r = false) := Lib.hid (by rw [F.out, decide_eq_false h0, Bool.false_and])
    have h1 : ¬ (0 : Int) < (L.length : Int) := by omega
    clear F h0
    go_enter Try.func38, Try.ntmps38
    go_wp2_with fail
    refine CM.out.mono ?_
    rintro _ w2 ⟨rfl, b2⟩
    have BB := Lib.hid (b2.alloc b2.size (.cells #[.int .i64 lo, .int .i64 hi] 39))
    clear b2
    go_wp2
    go_ret
    exact ⟨ret_bool F'.out.symm, BB.out⟩
end Go.Proofs.Ytflplliiamodhaa

/- The numbers of layer 18: samples, and their intervals. -/
namespace Go.Proofs.Ytflplliiamodhaa
open Go.RowKit
set_option linter.unusedVariables false

theorem Kept.four {w : World} {g : Nat} {x y z u : Value} {t : TypeId} (h : Kept w g #[x, y, z, u] t) : w.cell? ⟨g, 0, none⟩ = some x ∧ w.cell? ⟨g, 1, none⟩ = some y ∧ w.cell? ⟨g, 2, none⟩ = some z ∧ w.cell? ⟨g, 3, none⟩ = some u ∧ w.frozen? ⟨g, 0, none⟩ = false ∧ w.frozen? ⟨g, 1, none⟩ = false ∧ w.frozen? ⟨g, 2, none⟩ = false ∧ w.frozen? ⟨g, 3, none⟩ = false ∧ g < w.heap.size :=
  ⟨(h.at_ 0).1, (h.at_ 1).1, (h.at_ 2).1, (h.at_ 3).1, (h.at_ 0).2, (h.at_ 1).2, (h.at_ 2).2, (h.at_ 3).2, h.lt⟩
theorem Kept.five {w : World} {g : Nat} {x y z u v : Value} {t : TypeId} (h : Kept w g #[x, y, z, u, v] t) : w.cell? ⟨g, 0, none⟩ = some x ∧ w.cell? ⟨g, 1, none⟩ = some y ∧ w.cell? ⟨g, 2, none⟩ = some z ∧ w.cell? ⟨g, 3, none⟩ = some u ∧ w.cell? ⟨g, 4, none⟩ = some v ∧ w.frozen? ⟨g, 0, none⟩ = false ∧ w.frozen? ⟨g, 1, none⟩ = false ∧ w.frozen? ⟨g, 2, none⟩ = false ∧ w.frozen? ⟨g, 3, none⟩ = false ∧ w.frozen? ⟨g, 4, none⟩ = false ∧ g < w.heap.size :=
  ⟨(h.at_ 0).1, (h.at_ 1).1, (h.at_ 2).1, (h.at_ 3).1, (h.at_ 4).1, (h.at_ 0).2, (h.at_ 1).2, (h.at_ 2).2, (h.at_ 3).2, (h.at_ 4).2, h.lt⟩
/-- a sample: asked, got, sent, came -/
abbrev Sm := Int × Int × Int × Int
def rgtS (s : Sm) : Bool := decide (0 ≤ s.1 ∧ s.1 ≤ s.2.2.2 ∧ s.2.2.2 ≤ 4611686018427387903 ∧ 0 ≤ s.2.1 ∧ s.2.1 ≤ s.2.2.1 ∧ s.2.2.1 ≤ 4611686018427387903)
def RgtS (a g s c : Int) : Prop := 0 ≤ a ∧ a ≤ c ∧ c ≤ 4611686018427387903 ∧ 0 ≤ g ∧ g ≤ s ∧ s ≤ 4611686018427387903
instance (a g s c : Int) : Decidable (RgtS a g s c) := inferInstanceAs (Decidable (0 ≤ a ∧ a ≤ c ∧ c ≤ 4611686018427387903 ∧ 0 ≤ g ∧ g ≤ s ∧ s ≤ 4611686018427387903))
theorem rgt_iff {a g s c : Int} : decide (RgtS a g s c) = true ↔ (0 ≤ a ∧ a ≤ c ∧ c ≤ 4611686018427387903 ∧ 0 ≤ g ∧ g ≤ s ∧ s ≤ 4611686018427387903) := decide_eq_true_iff
theorem rgt_yes {a g s c : Int} (h : rgtS (a, g, s, c) = true) : RgtS a g s c := by unfold rgtS at h; exact of_decide_eq_true h
theorem rgt_no {a g s c : Int} (h : rgtS (a, g, s, c) = false) : ¬ RgtS a g s c := by unfold rgtS at h; exact of_decide_eq_false h
def tmI (t : Int) : Bool := decide (0 ≤ t ∧ t ≤ 4611686018427387903)
theorem tm_yes {t : Int} (h : tmI t = true) : 0 ≤ t ∧ t ≤ 4611686018427387903 := of_decide_eq_true h
theorem tm_no {t : Int} (h : tmI t = false) : ¬ (0 ≤ t ∧ t ≤ 4611686018427387903) := of_decide_eq_false h
def tripS (s : Sm) : Int := if rgtS s = true then (s.2.2.2 - s.1) - (s.2.2.1 - s.2.1) else 0
def atLo (s : Sm) (t r : Int) : Int := max 0 (s.1 + lowI (t - s.2.1) r)
def atHi (s : Sm) (t r : Int) : Int := min 4611686018427387903 (s.2.2.2 + highI (t - s.2.2.1) r)
def atE (s : Sm) (t r : Int) : Int := if rgtS s = true then (if tmI t = true ∧ rateB r = true then (if atLo s t r ≤ atHi s t r then 0 else 13) else 11) else 10
def atG (s : Sm) (t r : Int) : Int × Int := if atE s t r = 0 then (atLo s t r, atHi s t r) else (0, 0)
/-- what a clock lays for a sample: its interval, or none -/
def gapS (s : Sm) (t r : Int) : Int × Int := if atE s t r = 0 then (atLo s t r, atHi s t r) else (1, 0)
def gapsS (L : List Sm) (t r : Int) : List (Int × Int) := L.map fun s => gapS s t r
theorem low_range {x r : Int} (h : -4611686018427387904 ≤ x) (h' : x ≤ 4611686018427387904) (h1 : 0 ≤ r) (h2 : r ≤ 100000) : -6000000000000000000 ≤ lowI x r ∧ lowI x r ≤ x + 1 := by
  refine ⟨?_, (low_near h1 h2).1⟩
  by_cases hx : 0 < x
  · obtain ⟨q, e, a1, a2⟩ := low_pos hx h1
    rw [e]; omega
  · obtain ⟨q, e, a1, a2⟩ := low_neg hx h2
    rw [e]
    have : q ≤ 6000000000000000000 := by
      refine le_of_mul (c := 1000000 - r) (by omega) ?_
      have : (6000000000000000000 : Int) * (1000000 - r) ≥ 6000000000000000000 * 900000 := Int.mul_le_mul_of_nonneg_left (by omega) (by decide)
      omega
    omega
theorem high_range {x r : Int} (h : -4611686018427387904 ≤ x) (h' : x ≤ 4611686018427387904) (h1 : 0 ≤ r) (h2 : r ≤ 100000) : x - 1 ≤ highI x r ∧ highI x r ≤ 6000000000000000000 := by
  have := low_range (x := -x) (r := r) (by omega) (by omega) h1 h2
  unfold highI
  omega
theorem rate_lowE {x r : Int} (h : -4611686018427387904 ≤ x) (h' : x ≤ 4611686018427387904) : lowE x r = if rateB r = true then 0 else 11 := by
  unfold lowE rateB
  by_cases hr : 0 ≤ r ∧ r ≤ 100000
  · rw [if_pos (by omega), if_pos (decide_eq_true hr)]
  · rw [if_neg (by omega), decide_eq_false hr]; rfl
theorem atE_no {s : Sm} {t r : Int} (h : rgtS s = false) : atE s t r = 10 := by unfold atE; rw [if_neg (by rw [h]; exact Bool.false_ne_true)]
theorem atE_range {s : Sm} {t r : Int} (h : rgtS s = true) (h' : ¬ (tmI t = true ∧ rateB r = true)) : atE s t r = 11 := by unfold atE; rw [if_pos h, if_neg h']
theorem atE_form {s : Sm} {t r : Int} (h : rgtS s = true) (h' : tmI t = true ∧ rateB r = true) : atE s t r = if atLo s t r ≤ atHi s t r then 0 else 13 := by unfold atE; rw [if_pos h, if_pos h']
theorem atG_bad {s : Sm} {t r : Int} (h : atE s t r ≠ 0) : atG s t r = (0, 0) := if_neg h
theorem atG_ok {s : Sm} {t r : Int} (h : atE s t r = 0) : atG s t r = (atLo s t r, atHi s t r) := if_pos h
end Go.Proofs.Ytflplliiamodhaa
