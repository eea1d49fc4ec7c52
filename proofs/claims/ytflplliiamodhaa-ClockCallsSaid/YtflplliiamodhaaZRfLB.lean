import Derived.Test.YtflplliiamodhaaZSRefV
import Derived.Deep.QuietTactic
import Derived.BigQuiet
import Derived.StillTailTactics
/- noonmarkref03: Right, right; noonmarklaw03.of: for every input. -/
namespace Go.Proofs.Ytflplliiamodhaa
open Go.RowKit
set_option linter.unusedVariables false

def RrRel (l : List (Int × Int)) (w : World) (i : Value) (wr : World) : Prop := ∃ k : Nat, k ≤ l.length ∧ i = .int .i64 k ∧ Hid (∀ j, j < k → (l.getD j (0, 0)).1 ≤ (l.getD j (0, 0)).2) ∧ Hid (Below w.heap.size w wr)
/-- all gaps are right, as a bool -/
def rgtsL (l : List (Int × Int)) : Bool := decide (¬ ∃ j, j < l.length ∧ (l.getD j (0, 0)).2 < (l.getD j (0, 0)).1)
theorem rights_no {l : List (Int × Int)} {j : Nat} (h : j < l.length) (hb : (l.getD j (0, 0)).2 < (l.getD j (0, 0)).1) : rgtsL l = false := decide_eq_false (fun f => f ⟨j, h, hb⟩)
theorem rights_yes {l : List (Int × Int)} (h : allR l) : rgtsL l = true := decide_eq_true (fun ⟨j, hj, hb⟩ => by have := h j hj; omega)
set_option maxHeartbeats 1000000 in
theorem rights_any (x : Option Addr) (xc : Nat) (l : List (Int × Int)) (w : World) (hx : PairRow w x l) (hl : l.length ≤ 4000000000) :
    Calls Try.prog 71 #[.slice x l.length xc] w (Gives (.bool (rgtsL l)) w) := by
  have HX := Lib.hid hx
  clear hx
  go_enter Try.func71, Try.ntmps71
  go_wp2
  go_loopw [3] (fun i wr => RrRel l w i wr) (fun i _ => l.length - (intOf i).toNat)
  case atStart => exact ⟨0, Nat.zero_le _, rfl, Lib.hid (fun j hj => by omega), Lib.hid (Below.refl _ _)⟩
  case round =>
    obtain ⟨k, hk, rfl, HV, B0⟩ := hrel
    by_cases hlt : k < l.length
    · obtain ⟨b, off, rfl, h1, h2⟩ := (HX.out.below B0.out) k hlt
      obtain ⟨p, hp⟩ : ∃ p, (l.getD k (0, 0)).1 = p := ⟨_, rfl⟩
      obtain ⟨q, hq⟩ : ∃ q, (l.getD k (0, 0)).2 = q := ⟨_, rfl⟩
      rw [hp] at h1
      rw [hq] at h2
      by_cases hpq : p ≤ q
      · have HV2 : Hid (∀ j, j < k + 1 → (l.getD j (0, 0)).1 ≤ (l.getD j (0, 0)).2) := Lib.hid (fun j hj => by
          by_cases e : j = k
          · rw [e, hp, hq]; exact hpq
          · exact HV.out j (by omega))
        have d0 := decide_eq_true hpq
        clear hp hq hpq
        go_wp2_with fail
        refine (ref_right_any p q _).mono ?_
        rintro e1 w1 ⟨rfl, hb1⟩
        have B1 : Hid (Below w.heap.size w w1) := Lib.hid (bnext B0.out B0.out.size hb1)
        rw [d0]
        clear hb1 h1 h2 d0
        go_wp2
        go_roundw
        case rel => exact ⟨k + 1, hlt, by go_num, HV2, B1⟩
        case measure => simp [intOf]; omega
      · have R : Hid (rgtsL l = false) := Lib.hid (rights_no hlt (by rw [hp, hq]; omega))
        have d0 := decide_eq_false hpq
        clear hp hq hpq
        go_wp2_with fail
        refine (ref_right_any p q _).mono ?_
        rintro e1 w1 ⟨rfl, hb1⟩
        have B1 : Hid (Below w.heap.size w w1) := Lib.hid (bnext B0.out B0.out.size hb1)
        rw [d0]
        clear hb1 h1 h2 d0
        go_wp2
        go_ret
        exact gives_bool R.out.symm B1.out
    · obtain rfl : k = l.length := by omega
      have R : Hid (rgtsL l = true) := Lib.hid (rights_yes HV.out)
      go_wp2
      go_ret
      exact gives_bool R.out.symm B0.out
end Go.Proofs.Ytflplliiamodhaa

/- noonmarkref03.Meet: for every list of intervals. -/
namespace Go.Proofs.Ytflplliiamodhaa
open Go.RowKit
set_option linter.unusedVariables false

theorem below_drew {B : Nat} {a w : World} (h : Below B a w) : Below B a w.drew := ⟨h.os, h.tape, h.output, h.size, h.block⟩
def RmRel (op : Int × Int → Int × Int → Int × Int) (z : Int × Int) (l : List (Int × Int)) (w : World) (g : Nat) (i : Value) (wr : World) : Prop := ∃ (k : Nat) (r : Int × Int), k ≤ l.length ∧ i = .int .i64 k ∧ Hid ((l.take k).foldl op z = r) ∧
  Hid (Kept wr g #[.int .i64 r.1, .int .i64 r.2] 42) ∧ Hid (Kept wr w.heap.size #[.int .i64 0, .int .i64 0] 42) ∧ Hid (Below w.heap.size w wr)
set_option maxHeartbeats 4000000 in
theorem rmeet_any (x : Option Addr) (xc : Nat) (l : List (Int × Int)) (w : World) (hx : PairRow w x l) (hl : l.length ≤ 4000000000) :
    Calls Try.prog 48 #[.slice x l.length xc] w (GapRes (combL l (l.foldl opM fullP)) (combH l (l.foldl opM fullP)) (combE l (l.foldl opM fullP)) w) := by
  have HX := Lib.hid hx
  have B0 := Lib.hid (one_alloc w (.cells #[.int .i64 0, .int .i64 0] 42))
  have K0 := Lib.hid (Kept.new (w := w) (cs := #[.int .i64 0, .int .i64 0]) (t := 42) rfl)
  have C := Lib.hid (fun W (h : Below w.heap.size w W) => rights_any x xc l W (HX.out.below h) hl)
  clear hx
  go_enter Try.func48, Try.ntmps48
  go_wp2_with fail
  refine (C.out _ B0.out).mono ?_
  rintro _ w1 ⟨rfl, b1⟩
  have B1 : Hid (Below w.heap.size w w1) := Lib.hid (B0.out.trans (b1.mono (by simp)))
  have K1 := Lib.hid (K0.out.next b1)
  have hgw : Hid (w.heap.size < w1.heap.size) := Lib.hid (by have := b1.size; simp at this; omega)
  clear b1
  by_cases hr : allR l
  · have hr1 := rights_yes hr
    rw [hr1]
    have HA := Lib.hid hr
    clear hr hr1
    have K2 := Lib.hid (K1.out.alloc (.cells #[.int .i64 fullP.1, .int .i64 fullP.2] 42))
    have O2 := Lib.hid (Kept.new (w := w1) (cs := #[.int .i64 fullP.1, .int .i64 fullP.2]) (t := 42) rfl)
    have B2 := Lib.hid (B1.out.alloc B1.out.size (.cells #[.int .i64 fullP.1, .int .i64 fullP.2] 42))
    go_wp2
    go_loopw [5] (fun i wr => RmRel opM fullP l w w1.heap.size i wr) (fun i _ => l.length - (intOf i).toNat)
    case atStart => exact ⟨0, fullP, Nat.zero_le _, rfl, Lib.hid rfl, O2, K2, B2⟩
    case round =>
      clear K2 O2 B2 K1
      obtain ⟨k, r, hk, rfl, HF, O, K, B⟩ := hrel
      by_cases hlt : k < l.length
      · obtain ⟨b, off, rfl, h1, h2⟩ := (HX.out.below B.out) k hlt
        have hsn := fold_snoc opM fullP l k hlt
        rw [HF.out] at hsn
        obtain ⟨p, hp⟩ : ∃ p, (l.getD k (0, 0)).1 = p := ⟨_, rfl⟩
        obtain ⟨q, hq⟩ : ∃ q, (l.getD k (0, 0)).2 = q := ⟨_, rfl⟩
        rw [hp] at h1
        rw [hq] at h2
        have HP := Lib.hid hp
        have HQ := Lib.hid hq
        have SN : Hid ((l.take (k + 1)).foldl opM fullP = (max r.1 p, min r.2 q)) := Lib.hid (by rw [hsn, ← hp, ← hq]; rfl)
        have X : Hid ((if r.1 < p then p else r.1) = max r.1 p) := Lib.hid (by split <;> omega)
        have Y : Hid ((if q < r.2 then q else r.2) = min r.2 q) := Lib.hid (by split <;> omega)
        have O3 : Hid (Kept (wr.setCell ⟨w1.heap.size, 0, none⟩ (.int .i64 (max r.1 p))).drew w1.heap.size #[.int .i64 (max r.1 p), .int .i64 r.2] 42) := Lib.hid (O.out.set 0 _)
        have K3 : Hid (Kept (wr.setCell ⟨w1.heap.size, 0, none⟩ (.int .i64 (max r.1 p))).drew w.heap.size #[.int .i64 0, .int .i64 0] 42) := Lib.hid (K.out.far (by have := hgw.out; show w.heap.size ≠ w1.heap.size; omega) _)
        have B3 : Hid (Below w.heap.size w (wr.setCell ⟨w1.heap.size, 0, none⟩ (.int .i64 (max r.1 p))).drew) := Lib.hid (below_drew (B.out.setCell (Nat.le_of_lt hgw.out) _))
        clear hsn hp hq
        obtain ⟨k1, k2, g1, g2, kl⟩ := O.out.two
        have hk0 : (0 : Int) ≤ (k : Int) := by omega
        have hk1 : (k : Int) < (l.length : Int) := by omega
        go_wp2
        go_region
        (try rw [X.out])
        clear k1 k2 g1 g2 kl h1 h2 hk0 hk1
        generalize (wr.setCell ⟨w1.heap.size, 0, none⟩ (.int .i64 (max r.1 p))).drew = W3 at *
        obtain ⟨b', off', e', c1, c2⟩ := (HX.out.below B3.out) k hlt
        injection e' with e'; injection e' with e1 e2; subst e1 e2
        rw [HP.out] at c1
        rw [HQ.out] at c2
        obtain ⟨k1, k2, g1, g2, kl⟩ := O3.out.two
        have hk0 : (0 : Int) ≤ (k : Int) := by omega
        have hk1 : (k : Int) < (l.length : Int) := by omega
        go_wp2
        go_region
        (try rw [Y.out])
        clear k1 k2 g1 g2 kl c1 c2 hk0 hk1
        have O4 : Hid (Kept (W3.setCell ⟨w1.heap.size, 1, none⟩ (.int .i64 (min r.2 q))).drew w1.heap.size #[.int .i64 (max r.1 p), .int .i64 (min r.2 q)] 42) := Lib.hid (O3.out.set 1 _)
        have K4 : Hid (Kept (W3.setCell ⟨w1.heap.size, 1, none⟩ (.int .i64 (min r.2 q))).drew w.heap.size #[.int .i64 0, .int .i64 0] 42) := Lib.hid (K3.out.far (by have := hgw.out; show w.heap.size ≠ w1.heap.size; omega) _)
        have B4 : Hid (Below w.heap.size w (W3.setCell ⟨w1.heap.size, 1, none⟩ (.int .i64 (min r.2 q))).drew) := Lib.hid (below_drew (B3.out.setCell (Nat.le_of_lt hgw.out) _))
        generalize (W3.setCell ⟨w1.heap.size, 1, none⟩ (.int .i64 (min r.2 q))).drew = W4 at *
        go_wp2
        go_roundw
        case rel => exact ⟨k + 1, (max r.1 p, min r.2 q), hlt, by go_num, SN, O4, K4, B4⟩
        case measure => simp [intOf]; omega
      · obtain rfl : k = l.length := by omega
        have hf := HF.out
        rw [List.take_length] at hf
        have hall := HA.out
        obtain ⟨a1, a2⟩ := r
        obtain ⟨k1, k2, g1, g2, -⟩ := O.out.two
        by_cases ha : a1 ≤ a2
        · have d0 := decide_eq_true ha
          have fin : ∀ w', Below w.heap.size w w' → GapRes (combL l (l.foldl opM fullP)) (combH l (l.foldl opM fullP)) (combE l (l.foldl opM fullP)) w (.returned (.tuple #[.agg #[.int .i64 a1, .int .i64 a2], .int .i64 0])) w' := fun w' hb => by
            obtain ⟨e1, e2, e3⟩ := comb_ok (r := l.foldl opM fullP) hall (by rw [hf]; exact ha)
            exact ⟨by rw [e1, e2, e3, hf], hb⟩
          have F := Lib.hid fin
          clear fin ha hf hall
          go_wp2_with fail
          refine (ref_right_any a1 a2 _).mono ?_
          rintro _ w2 ⟨rfl, b2⟩
          rw [d0]
          have O2 := Lib.hid (O.out.next b2)
          have K2 := Lib.hid (K.out.next b2)
          have B2 := Lib.hid (bnext B.out B.out.size b2)
          clear b2 d0 k1 k2 g1 g2
          obtain ⟨k1, k2, g1, g2, -⟩ := O2.out.two
          obtain ⟨r1, r2, f1, f2, -⟩ := K2.out.two
          obtain ⟨s1, s2⟩ := K2.out.read2 (.int .i64 a1) (.int .i64 a2)
          go_wp2
          refine bodyPost_ret (v := .tuple #[.agg #[.int .i64 a1, .int .i64 a2], .int .i64 0]) (by simp [results, Try.results48, go_sem, s1, s2]) rfl ?_
          exact F.out _ (bset2 B2.out (Nat.le_refl _) _ _)
        · have d0 := decide_eq_false ha
          have fin : ∀ w', Below w.heap.size w w' → GapRes (combL l (l.foldl opM fullP)) (combH l (l.foldl opM fullP)) (combE l (l.foldl opM fullP)) w (.returned (.tuple #[.agg #[.int .i64 0, .int .i64 0], .int .i64 13])) w' := fun w' hb => by
            obtain ⟨e1, e2, e3⟩ := comb_no (r := l.foldl opM fullP) hall (by rw [hf]; show a2 < a1; omega)
            exact ⟨by rw [e1, e2, e3], hb⟩
          have F := Lib.hid fin
          clear fin ha hf hall
          go_wp2_with fail
          refine (ref_right_any a1 a2 _).mono ?_
          rintro _ w2 ⟨rfl, b2⟩
          rw [d0]
          have K2 := Lib.hid (K.out.next b2)
          have B2 := Lib.hid (bnext B.out B.out.size b2)
          clear b2 d0 k1 k2 g1 g2
          obtain ⟨r1, r2, f1, f2, -⟩ := K2.out.two
          obtain ⟨s1, s2⟩ := K2.out.read2 (.int .i64 0) (.int .i64 0)
          go_wp2
          refine bodyPost_ret (v := .tuple #[.agg #[.int .i64 0, .int .i64 0], .int .i64 13]) (by simp [results, Try.results48, go_sem, s1, s2]) rfl ?_
          exact F.out _ (bset2 B2.out (Nat.le_refl _) _ _)
  · have hx : ∃ j, j < l.length ∧ (l.getD j (0, 0)).2 < (l.getD j (0, 0)).1 := Classical.byContradiction fun h => hr fun j hj => Int.not_lt.1 fun hb => h ⟨j, hj, hb⟩
    obtain ⟨j, hj, hb⟩ := hx
    rw [rights_no hj hb]
    have fin : ∀ w', Below w.heap.size w w' → GapRes (combL l (l.foldl opM fullP)) (combH l (l.foldl opM fullP)) (combE l (l.foldl opM fullP)) w (.returned (.tuple #[.agg #[.int .i64 0, .int .i64 0], .int .i64 10])) w' := fun w' hb' => by
      obtain ⟨e1, e2, e3⟩ := comb_bad (r := l.foldl opM fullP) hj hb
      exact ⟨by rw [e1, e2, e3], hb'⟩
    have F := Lib.hid fin
    clear fin hr hj hb
    obtain ⟨r1, r2, f1, f2, -⟩ := K1.out.two
    obtain ⟨s1, s2⟩ := K1.out.read2 (.int .i64 0) (.int .i64 0)
    go_wp2
    refine bodyPost_ret (v := .tuple #[.agg #[.int .i64 0, .int .i64 0], .int .i64 10]) (by simp [results, Try.results48, go_sem, s1, s2]) rfl ?_
    exact F.out _ (bset2 B1.out (Nat.le_refl _) _ _)
end Go.Proofs.Ytflplliiamodhaa
