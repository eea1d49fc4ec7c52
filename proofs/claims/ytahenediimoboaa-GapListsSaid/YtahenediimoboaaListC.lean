/- noonmarkref03.Hull: for every list of intervals. -/
import Derived.Test.YtahenediimoboaaListB
namespace Go.Proofs.Ytahenediimoboaa
open Go.RowKit
set_option linter.unusedVariables false

def RhRel (l : List (Int × Int)) (w : World) (g : Nat) (i : Value) (wr : World) : Prop := ∃ (k : Nat) (r : Int × Int), 1 ≤ k ∧ k ≤ l.length ∧ i = .int .i64 k ∧ r.1 ≤ r.2 ∧ Hid ((l.take k).foldl opH noneP = r) ∧
  Hid (Kept wr g #[.int .i64 r.1, .int .i64 r.2] 31) ∧ Hid (Kept wr w.heap.size #[.int .i64 0, .int .i64 0] 31) ∧ Hid (Below w.heap.size w wr)
set_option maxHeartbeats 4000000 in
theorem rhull_any (x : Option Addr) (xc : Nat) (l : List (Int × Int)) (w : World) (hx : PairRow w x l) (hl : l.length ≤ 4000000000) (hin : ∀ p ∈ l, InP p) :
    Calls Try.prog 24 #[.slice x l.length xc] w (GapRes (combL l (l.foldl opH noneP)) (combH l (l.foldl opH noneP)) (combE l (l.foldl opH noneP)) w) := by
  have HX := Lib.hid hx
  have HI := Lib.hid hin
  clear hin
  have B0 := Lib.hid (one_alloc w (.cells #[.int .i64 0, .int .i64 0] 31))
  have K0 := Lib.hid (Kept.new (w := w) (cs := #[.int .i64 0, .int .i64 0]) (t := 31) rfl)
  have C := Lib.hid (fun W (h : Below w.heap.size w W) => rights_any x xc l W (HX.out.below h) hl)
  clear hx
  go_enter Try.func24, Try.ntmps24
  go_wp2_with fail
  refine (C.out _ B0.out).mono ?_
  rintro _ w1 ⟨rfl, b1⟩
  have B1 : Hid (Below w.heap.size w w1) := Lib.hid (B0.out.trans (b1.mono (by simp)))
  have K1 := Lib.hid (K0.out.next b1)
  have hgw : Hid (w.heap.size < w1.heap.size) := Lib.hid (by have := b1.size; simp at this; omega)
  clear b1
  by_cases hr : allR l
  · have hr1 := rights_yes hr
    rw [hr1]
    have HA := Lib.hid hr
    clear hr hr1
    by_cases hn : l = []
    · subst hn
      have F : Hid (∀ w', Below w.heap.size w w' → GapRes (combL [] (([] : List (Int × Int)).foldl opH noneP)) (combH [] (([] : List (Int × Int)).foldl opH noneP)) (combE [] (([] : List (Int × Int)).foldl opH noneP)) w (.returned (.tuple #[.agg #[.int .i64 0, .int .i64 0], .int .i64 13])) w') := Lib.hid (fun w' hb => by
        obtain ⟨e1, e2, e3⟩ := comb_no (l := []) (r := ([] : List (Int × Int)).foldl opH noneP) HA.out (by decide)
        exact ⟨by rw [e1, e2, e3], hb⟩)
      obtain ⟨r1, r2, f1, f2, -⟩ := K1.out.two
      obtain ⟨s1, s2⟩ := K1.out.read2 (.int .i64 0) (.int .i64 0)
      go_wp2
      refine bodyPost_ret (v := .tuple #[.agg #[.int .i64 0, .int .i64 0], .int .i64 13]) (by simp [results, Try.results24, go_sem, s1, s2]) rfl ?_
      exact F.out _ (bset2 B1.out (Nat.le_refl _) _ _)
    have hpos : 0 < l.length := List.length_pos_iff.2 hn
    have hb0 : ((l.length : Int) == 0) = false := by rw [beq_eq_false_iff_ne]; omega
    have hp0 : (0 : Int) < (l.length : Int) := by omega
    obtain ⟨bb, oo, rfl, hh1, hh2⟩ := (HX.out.below B1.out) 0 hpos
    have hi0 : InP (l.getD 0 (0, 0)) := HI.out _ (by rw [List.getD_eq_getElem?_getD, List.getElem?_eq_getElem hpos]; exact List.getElem_mem hpos)
    have hr0 := HA.out 0 hpos
    have hf1 : (l.take 1).foldl opH noneP = l.getD 0 (0, 0) := by
      rw [fold_snoc opH noneP l 0 hpos]
      obtain ⟨⟨a1, a2⟩, a3, a4⟩ := hi0
      show (min (9223372036854775807 : Int) _, max (-9223372036854775808 : Int) _) = _
      rw [Int.min_eq_right a2, Int.max_eq_right a3]
    generalize l.getD 0 (0, 0) = z at hh1 hh2 hi0 hr0 hf1
    obtain ⟨z1, z2⟩ := z
    have HF1 := Lib.hid hf1
    have HR0 : Hid (z1 ≤ z2) := Lib.hid hr0
    have HN := Lib.hid hpos
    clear hn hpos hi0 hr0 hf1
    rw [Nat.zero_mul, Nat.add_zero] at hh1 hh2
    have K2 := Lib.hid (K1.out.alloc (.cells #[.int .i64 z1, .int .i64 z2] 31))
    have O2 := Lib.hid (Kept.new (w := w1) (cs := #[.int .i64 z1, .int .i64 z2]) (t := 31) rfl)
    have B2 := Lib.hid (B1.out.alloc B1.out.size (.cells #[.int .i64 z1, .int .i64 z2] 31))
    go_wp2
    go_loopw [5] (fun i wr => RhRel l w w1.heap.size i wr) (fun i _ => l.length - (intOf i).toNat)
    case atStart => exact ⟨1, (z1, z2), Nat.le_refl _, HN.out, rfl, HR0.out, HF1, O2, K2, B2⟩
    case round =>
      clear K2 O2 B2 K1
      obtain ⟨k, r, hk0', hk, rfl, hle, HF, O, K, B⟩ := hrel
      by_cases hlt : k < l.length
      · obtain ⟨b, off, e', h1, h2⟩ := (HX.out.below B.out) k hlt
        injection e' with e'; injection e' with e1 e2; subst e1 e2
        have hsn := fold_snoc opH noneP l k hlt
        rw [HF.out] at hsn
        obtain ⟨p, hp⟩ : ∃ p, (l.getD k (0, 0)).1 = p := ⟨_, rfl⟩
        obtain ⟨q, hq⟩ : ∃ q, (l.getD k (0, 0)).2 = q := ⟨_, rfl⟩
        rw [hp] at h1
        rw [hq] at h2
        have HP := Lib.hid hp
        have HQ := Lib.hid hq
        have SN : Hid ((l.take (k + 1)).foldl opH noneP = (min r.1 p, max r.2 q)) := Lib.hid (by rw [hsn, ← hp, ← hq]; rfl)
        have X : Hid ((if p < r.1 then p else r.1) = min r.1 p) := Lib.hid (by split <;> omega)
        have Y : Hid ((if r.2 < q then q else r.2) = max r.2 q) := Lib.hid (by split <;> omega)
        have O3 : Hid (Kept (wr.setCell ⟨w1.heap.size, 0, none⟩ (.int .i64 (min r.1 p))).drew w1.heap.size #[.int .i64 (min r.1 p), .int .i64 r.2] 31) := Lib.hid (O.out.set 0 _)
        have K3 : Hid (Kept (wr.setCell ⟨w1.heap.size, 0, none⟩ (.int .i64 (min r.1 p))).drew w.heap.size #[.int .i64 0, .int .i64 0] 31) := Lib.hid (K.out.far (by have := hgw.out; show w.heap.size ≠ w1.heap.size; omega) _)
        have B3 : Hid (Below w.heap.size w (wr.setCell ⟨w1.heap.size, 0, none⟩ (.int .i64 (min r.1 p))).drew) := Lib.hid (below_drew (B.out.setCell (Nat.le_of_lt hgw.out) _))
        have HL2 : Hid (min r.1 p ≤ max r.2 q) := Lib.hid (by omega)
        clear hsn hp hq hle
        obtain ⟨k1, k2, g1, g2, kl⟩ := O.out.two
        have hk0 : (0 : Int) ≤ (k : Int) := by omega
        have hk1 : (k : Int) < (l.length : Int) := by omega
        go_wp2
        go_region
        rw [X.out]
        clear k1 k2 g1 g2 kl h1 h2 hk0 hk1
        generalize (wr.setCell ⟨w1.heap.size, 0, none⟩ (.int .i64 (min r.1 p))).drew = W3 at *
        obtain ⟨b', off', e', c1, c2⟩ := (HX.out.below B3.out) k hlt
        injection e' with e'; injection e' with e1 e2; subst e1 e2
        rw [HP.out] at c1
        rw [HQ.out] at c2
        obtain ⟨k1, k2, g1, g2, kl⟩ := O3.out.two
        have hk0 : (0 : Int) ≤ (k : Int) := by omega
        have hk1 : (k : Int) < (l.length : Int) := by omega
        go_wp2
        go_region
        rw [Y.out]
        clear k1 k2 g1 g2 kl c1 c2 hk0 hk1
        have O4 : Hid (Kept (W3.setCell ⟨w1.heap.size, 1, none⟩ (.int .i64 (max r.2 q))).drew w1.heap.size #[.int .i64 (min r.1 p), .int .i64 (max r.2 q)] 31) := Lib.hid (O3.out.set 1 _)
        have K4 : Hid (Kept (W3.setCell ⟨w1.heap.size, 1, none⟩ (.int .i64 (max r.2 q))).drew w.heap.size #[.int .i64 0, .int .i64 0] 31) := Lib.hid (K3.out.far (by have := hgw.out; show w.heap.size ≠ w1.heap.size; omega) _)
        have B4 : Hid (Below w.heap.size w (W3.setCell ⟨w1.heap.size, 1, none⟩ (.int .i64 (max r.2 q))).drew) := Lib.hid (below_drew (B3.out.setCell (Nat.le_of_lt hgw.out) _))
        generalize (W3.setCell ⟨w1.heap.size, 1, none⟩ (.int .i64 (max r.2 q))).drew = W4 at *
        go_wp2
        go_roundw
        case rel => exact ⟨k + 1, (min r.1 p, max r.2 q), by omega, hlt, by go_num, HL2.out, SN, O4, K4, B4⟩
        case measure => simp [intOf]; omega
      · obtain rfl : k = l.length := by omega
        have hf := HF.out
        rw [List.take_length] at hf
        have hall := HA.out
        obtain ⟨a1, a2⟩ := r
        obtain ⟨k1, k2, g1, g2, -⟩ := O.out.two
        have ha : a1 ≤ a2 := hle
        · have fin : ∀ w', Below w.heap.size w w' → GapRes (combL l (l.foldl opH noneP)) (combH l (l.foldl opH noneP)) (combE l (l.foldl opH noneP)) w (.returned (.tuple #[.agg #[.int .i64 a1, .int .i64 a2], .int .i64 0])) w' := fun w' hb => by
            obtain ⟨e1, e2, e3⟩ := comb_ok (r := l.foldl opH noneP) hall (by rw [hf]; exact ha)
            exact ⟨by rw [e1, e2, e3, hf], hb⟩
          have F := Lib.hid fin
          clear fin ha hf hall hle
          obtain ⟨r1, r2, f1, f2, -⟩ := K.out.two
          obtain ⟨s1, s2⟩ := K.out.read2 (.int .i64 a1) (.int .i64 a2)
          go_wp2
          refine bodyPost_ret (v := .tuple #[.agg #[.int .i64 a1, .int .i64 a2], .int .i64 0]) (by simp [results, Try.results24, go_sem, s1, s2]) rfl ?_
          exact F.out _ (bset2 B.out (Nat.le_refl _) _ _)
  · have hx : ∃ j, j < l.length ∧ (l.getD j (0, 0)).2 < (l.getD j (0, 0)).1 := Classical.byContradiction fun h => hr fun j hj => Int.not_lt.1 fun hb => h ⟨j, hj, hb⟩
    obtain ⟨j, hj, hb⟩ := hx
    rw [rights_no hj hb]
    have fin : ∀ w', Below w.heap.size w w' → GapRes (combL l (l.foldl opH noneP)) (combH l (l.foldl opH noneP)) (combE l (l.foldl opH noneP)) w (.returned (.tuple #[.agg #[.int .i64 0, .int .i64 0], .int .i64 10])) w' := fun w' hb' => by
      obtain ⟨e1, e2, e3⟩ := comb_bad (r := l.foldl opH noneP) hj hb
      exact ⟨by rw [e1, e2, e3], hb'⟩
    have F := Lib.hid fin
    clear fin hr hj hb
    obtain ⟨r1, r2, f1, f2, -⟩ := K1.out.two
    obtain ⟨s1, s2⟩ := K1.out.read2 (.int .i64 0) (.int .i64 0)
    go_wp2
    refine bodyPost_ret (v := .tuple #[.agg #[.int .i64 0, .int .i64 0], .int .i64 10]) (by simp [results, Try.results24, go_sem, s1, s2]) rfl ?_
    exact F.out _ (bset2 B1.out (Nat.le_refl _) _ _)
end Go.Proofs.Ytahenediimoboaa
