/- noonmarkref01: Total. -/
import Derived.Test.YtldgdedfioigiaaLimE
namespace Go.Proofs.Ytldgdedfioigiaa
open Go.RowKit
set_option linter.unusedVariables false

/-- the box of the result, and that of the number so far, in a call of Total -/
structure TotBox (w wr : World) (x0 x1 : Value) : Prop where
  r0 : wr.cell? ⟨w.heap.size, 0, none⟩ = some (.bool false)
  r1 : wr.cell? ⟨w.heap.size, 1, none⟩ = some (.slice none 0 0)
  f0 : wr.frozen? ⟨w.heap.size, 0, none⟩ = false
  f1 : wr.frozen? ⟨w.heap.size, 1, none⟩ = false
  o0 : wr.cell? ⟨w.heap.size + 1, 0, none⟩ = some x0
  o1 : wr.cell? ⟨w.heap.size + 1, 1, none⟩ = some x1
  g0 : wr.frozen? ⟨w.heap.size + 1, 0, none⟩ = false
  g1 : wr.frozen? ⟨w.heap.size + 1, 1, none⟩ = false
  lt : w.heap.size + 2 ≤ wr.heap.size
  low : Below w.heap.size w wr
theorem TotBox.next {w w2 w3 : World} {x0 x1 : Value} (h : TotBox w w2 x0 x1) (hb : Below w2.heap.size w2 w3) : TotBox w w3 x0 x1 := by
  have l := h.lt
  exact ⟨(hb.cell (by simp; omega)).trans h.r0, (hb.cell (by simp; omega)).trans h.r1, (hb.frozen (by simp; omega)).trans h.f0, (hb.frozen (by simp; omega)).trans h.f1,
    (hb.cell (by simp; omega)).trans h.o0, (hb.cell (by simp; omega)).trans h.o1, (hb.frozen (by simp; omega)).trans h.g0, (hb.frozen (by simp; omega)).trans h.g1, Nat.le_trans l hb.size, h.low.trans (hb.mono (by omega))⟩
theorem TotBox.stored {w w2 : World} {x0 x1 : Value} (h : TotBox w w2 x0 x1) (p q : Value) : TotBox w ((w2.setCell ⟨w.heap.size + 1, 0, none⟩ p).setCell ⟨w.heap.size + 1, 1, none⟩ q) p q := by
  obtain ⟨s0, s1⟩ := box2_stored h.o0 h.o1 p q
  have l := h.lt
  refine ⟨set2_far h.r0 (by simp), set2_far h.r1 (by simp), ?_, ?_, ?_, s1, ?_, ?_, by simpa [World.setCell] using l, (h.low.setCell (by simp) _).setCell (by simp) _⟩
  · rw [World.frozen?_setCell, World.frozen?_setCell]; exact h.f0
  · rw [World.frozen?_setCell, World.frozen?_setCell]; exact h.f1
  · exact (World.cell?_setCell_other _ _ _ _ (by simp)).trans s0
  · rw [World.frozen?_setCell, World.frozen?_setCell]; exact h.g0
  · rw [World.frozen?_setCell, World.frozen?_setCell]; exact h.g1
theorem TotBox.drewN {w w2 : World} {x0 x1 : Value} (h : TotBox w w2 x0 x1) (n : Nat) : TotBox w (w2.drewN n) x0 x1 :=
  ⟨h.r0, h.r1, h.f0, h.f1, h.o0, h.o1, h.g0, h.g1, h.lt, below_drewN h.low n⟩
theorem totbox_start {w : World} {x0 x1 : Value} {T : TypeId} : TotBox w ((w.alloc (.cells #[.bool false, .slice none 0 0] T)).alloc (.cells #[x0, x1] T)) x0 x1 := by
  have hb := (Below.refl _ w).alloc (Nat.le_refl _) (.cells #[.bool false, .slice none 0 0] T)
  refine ⟨?_, ?_, ?_, ?_, ?_, ?_, ?_, ?_, by simp, (hb.alloc (by simp) _)⟩
  · rw [World.cell?_alloc_past _ _ _ (by simp), World.cell?_alloc_at _ _ _ _ rfl]; rfl
  · rw [World.cell?_alloc_past _ _ _ (by simp), World.cell?_alloc_at _ _ _ _ rfl]; rfl
  · rw [World.frozen?_alloc_past _ _ _ (by simp)]; exact World.frozen?_alloc_at _ _ _ _ (by simp)
  · rw [World.frozen?_alloc_past _ _ _ (by simp)]; exact World.frozen?_alloc_at _ _ _ _ (by simp)
  · rw [World.cell?_alloc_at _ _ _ _ (by simp)]; rfl
  · rw [World.cell?_alloc_at _ _ _ _ (by simp)]; rfl
  · exact World.frozen?_alloc_at _ _ _ _ (by simp)
  · exact World.frozen?_alloc_at _ _ _ _ (by simp)
def TotMid (z : Int) (w : World) (x0 x1 : Value) (e : Ending) (w' : World) : Prop := ∃ neg a n cap, e = .returned (.agg #[.bool neg, .slice a n cap]) ∧ Hid (NumAt w' (.agg #[.bool neg, .slice a n cap]) z) ∧ Hid (TotBox w w' x0 x1)
theorem NumOut.tot {z : Int} {w w2 w3 : World} {x0 x1 : Value} {e : Ending} (h : NumOut z w2 e w3) (hb : TotBox w w2 x0 x1) : TotMid z w x0 x1 e w3 := by
  obtain ⟨v, rfl, hn, hB⟩ := h
  have hn' := hn
  obtain ⟨neg, l, d, rfl, ⟨a, cap, rfl, -⟩, -⟩ := hn
  exact ⟨neg, a, _, cap, rfl, Lib.hid hn', Lib.hid (hb.next hB)⟩
def TotalRel (l : List Int) (w : World) (i : Value) (wr : World) : Prop := ∃ (k : Nat) (neg : Bool) (a : Option Addr) (n cap : Nat), k ≤ l.length ∧ i = .int .i64 k ∧ Hid (NumAt wr (.agg #[.bool neg, .slice a n cap]) (isum (l.take k))) ∧ Hid (TotBox w wr (.bool neg) (.slice a n cap))
theorem hund_of {z : Int} (h : -(18446744073709551616 * 65536) < z ∧ z < 18446744073709551616 * 65536) : Hund z := by
  have := pw_le 5 100 (by omega)
  have e : pw 5 = 18446744073709551616 * 65536 := by decide
  unfold Hund
  omega
theorem numat_nil (w : World) : NumAt w (.agg #[.bool false, .slice none 0 0]) 0 :=
  ⟨false, _, [], rfl, ⟨none, 0, rfl, fun j hj => by simp at hj, by simp, by omega, fun _ => rfl, dig_nil⟩, .inl rfl, by simp, rfl⟩
set_option maxHeartbeats 2000000 in
theorem ltotal_any (xa : Option Addr) (xc : Nat) (l : List Int) (w : World) (hx : IntRow w xa .i64 l) (hb : ∀ x ∈ l, InI x) (hl : l.length ≤ 100) :
    Calls Try.prog 48 #[.slice xa l.length xc] w fun e w' => NumOut (isum l) w e w' := by
  have HX := Lib.hid hx
  have HB := Lib.hid hb
  clear hx hb
  go_enter Try.func48, Try.ntmps48
  go_wp2
  go_loopw [4] (fun i wr => TotalRel l w i wr) (fun i _ => l.length - (intOf i).toNat)
  case atStart => exact ⟨0, false, none, 0, 0, by omega, rfl, Lib.hid (numat_nil _), Lib.hid totbox_start⟩
  case round =>
    obtain ⟨k, neg, a, n, cap, hk, rfl, HN, HT⟩ := hrel
    obtain ⟨r0, r1, f0, f1, o0, o1, g0, g1, hlt2, -⟩ := HT.out
    by_cases hlt : k < l.length
    · obtain ⟨b, off, rfl, hcw⟩ := HX.out k hlt
      have hcell := (HT.out.low.cell (p := ⟨b, off + k, none⟩) (World.block_lt_of_cell? w _ hcw)).trans hcw
      have hv := getD_of_all l HB.out k hlt
      have hs := isum_snoc l k hlt
      have hbd := isum_bound l HB.out k hk
      generalize l.getD k 0 = v at *
      generalize hS : isum (l.take k) = S at *
      have hv' := hv
      unfold InI at hv'
      have Co : Hid (Calls Try.prog 21 #[.int .i64 v] wr.drew (fun e w' => TotMid v w (.bool neg) (.slice a n cap) e w' ∧ Hid (NumAt w' (.agg #[.bool neg, .slice a n cap]) S))) := Lib.hid ((of_any v wr.drew hv).mono fun e w' h => ⟨h.tot (HT.out.drewN 1), Lib.hid (by obtain ⟨_, _, _, hB⟩ := h; exact HN.out.below (show Below wr.heap.size wr w' from ⟨hB.os, hB.tape, hB.output, hB.size, hB.block⟩))⟩)
      have Cadd : Hid (∀ w2 v2, Hid (TotBox w w2 (.bool neg) (.slice a n cap)) → Hid (NumAt w2 v2 v) → Hid (NumAt w2 (.agg #[.bool neg, .slice a n cap]) S) → Calls Try.prog 20 #[.agg #[.bool neg, .slice a n cap], v2] w2 (TotMid (S + v) w (.bool neg) (.slice a n cap))) := Lib.hid fun w2 v2 hb h1 h2 =>
        (num_add _ _ S v w2 h2.out h1.out (hund_of (by omega)) (hund_of (by omega))).mono fun e w' h => h.tot hb.out
      clear hv hcw
      go_wp2_with fail
      go_region_with (first | (go_at_call 21; refine Co.out.mono ?_; rintro e w2 ⟨⟨n1, a1, m1, c1, rfl, hn1, hb1⟩, hold⟩; obtain ⟨-, -, -, -, o0', o1', g0', g1', -, -⟩ := hb1.out) | (go_at_call 20; refine (Cadd.out _ _ hb1 hn1 hold).mono ?_; rintro e w3 ⟨n2, a2, m2, c2, rfl, hn2, hb2⟩; obtain ⟨-, -, -, -, p0', p1', q0', q1', -, -⟩ := hb2.out))
      all_goals
        have fin : TotalRel l w (.int .i64 ((k : Int) + 1)) ((w3.setCell ⟨w.heap.size + 1, 0, none⟩ (.bool n2)).setCell ⟨w.heap.size + 1, 1, none⟩ (.slice a2 m2 c2)) :=
          ⟨k + 1, n2, a2, m2, c2, hlt, rfl, Lib.hid (by rw [hs]; exact (hn2.out.setCell p0' (by simp) _).setCell ((World.cell?_setCell_other _ _ _ _ (by simp)).trans p1') (by simp) _), Lib.hid (hb2.out.stored _ _)⟩
        have Fin := Lib.hid fin
        clear fin hs
        go_wp2
        go_roundw
        case rel => exact Fin.out
        case measure => simp [intOf]; omega
    · obtain rfl : k = l.length := by omega
      obtain ⟨s1, s2⟩ := box2_stored r0 r1 (.bool neg) (.slice a n cap)
      have fin : NumOut (isum l) w (.returned (.agg #[.bool neg, .slice a n cap])) ((wr.setCell ⟨w.heap.size, 0, none⟩ (.bool neg)).setCell ⟨w.heap.size, 1, none⟩ (.slice a n cap)) := by
        have hn := HN.out
        rw [List.take_length] at hn
        exact num_stored_at HT.out.low hn r0 r1 (by simp) (by simp) (Nat.le_refl _)
      have Fin := Lib.hid fin
      clear fin
      go_wp2
      refine bodyPost_ret (v := .agg #[.bool neg, .slice a n cap]) (by simp [results, Try.results48, go_sem, s1, s2]) rfl ?_
      exact Fin.out
end Go.Proofs.Ytldgdedfioigiaa
