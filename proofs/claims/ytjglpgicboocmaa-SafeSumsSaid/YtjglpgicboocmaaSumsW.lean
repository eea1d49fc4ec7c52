/- The walk of SafeSums. -/
import Derived.Test.YtjglpgicboocmaaNumG
import Derived.Deep.RegionLaw
import Derived.OpenShut
namespace Go.Proofs.Ytjglpgicboocmaa
open Go.RowKit
set_option linter.unusedVariables false

theorem sums_long (a : Option Addr) (c n : Nat) (turn : Int) (w : World) (hn : 100 < n) :
    Calls Try.prog 3 #[.slice a n c, .int .i64 turn] w fun e w' => e = .returned (.bool true) ∧ Below w.heap.size w w' := by
  go_enter Try.func3, Try.ntmps3
  go_wp2_with fail
  refine (alive_bel _).mono ?_
  rintro e w1 ⟨rfl, hb⟩
  have HB := Lib.hid hb
  clear hb
  go_wp2
  go_ret
  exact ⟨rfl, HB.out⟩
theorem isum_append (l m : List Int) : isum (l ++ m) = isum l + isum m := by
  have h : ∀ (m : List Int) (x : Int), m.foldl (· + ·) x = x + isum m := by
    intro m
    induction m with
    | nil => intro x; simp [isum]
    | cons y ys ih => intro x; unfold isum; rw [List.foldl_cons, List.foldl_cons, ih, ih (0 + y)]; omega
  unfold isum
  rw [List.foldl_append, h]
  rfl
theorem isum_turn (l : List Int) (t : Nat) : isum (l.drop t ++ l.take t) = isum l := by
  have h := isum_append (l.take t) (l.drop t)
  rw [List.take_append_drop] at h
  rw [isum_append]
  omega
theorem IntRow.drop {w : World} {b off c t : Nat} {k : IntKind} {l : List Int} (h : IntRow w (some ⟨b, off, none⟩) k l) (hc : l.length ≤ c) : IntRow w (if c = t then some ⟨b, off, none⟩ else some ⟨b, off + t, none⟩) k (l.drop t) := fun j hj => by
  rw [List.length_drop] at hj
  rw [if_neg (by omega)]
  obtain ⟨b', off', e, hcell⟩ := h (t + j) (by omega)
  injection e with e
  injection e with e1 e2
  subst e1 e2
  refine ⟨b, off + t, rfl, ?_⟩
  rw [Nat.add_assoc, hcell]
  simp [List.getD_eq_getElem?_getD]
def TurnMid (l : List Int) (w0 w : World) (e : Ending) (w' : World) : Prop := ∃ v, e = .returned v ∧ Hid (w'.ownsRow w.heap.size 2 1 v l.length (l.map (Value.int .i64))) ∧ Hid (Below w.heap.size w w') ∧ Hid (Below w0.heap.size w0 w')
set_option maxHeartbeats 2000000 in
theorem sums_zero (b off c : Nat) (l : List Int) (turn : Int) (t : Nat) (w : World) (hr : IntRow w (some ⟨b, off, none⟩) .i64 l) (hb : ∀ x ∈ l, InI x) (hl : l.length ≤ 100) (hc : l.length ≤ c) (hc2 : c ≤ 9223372036854775807) (h0 : 0 < l.length)
    (ht : (turn < 0 ∧ t = 0) ∨ ((l.length : Int) < turn ∧ t = 0)) :
    Calls Try.prog 3 #[.slice (some ⟨b, off, none⟩) l.length c, .int .i64 turn] w fun e w' => e = .returned (.bool true) ∧ Below w.heap.size w w' := by
  have HR := Lib.hid hr
  have HB := Lib.hid hb
  have htl : t ≤ l.length := by omega
  have htc : t ≤ c := by omega
  have htc2 : (t : Int) ≤ (c : Int) := by omega
  have htc3 : (0 : Int) ≤ (t : Int) := by omega
  obtain ⟨i0, hi, hz0, hz1, hz2⟩ := info_parts info_int64
  have Cc : Hid (∀ W : World, IntRow W (some ⟨b, off, none⟩) .i64 l → Calls Try.prog 7 #[.slice (some ⟨b, off, none⟩) l.length c] W.drew (TurnMid l W W.drew)) := Lib.hid fun W h =>
    (copyLongs_any (some ⟨b, off, none⟩) c l W.drew h (by simp) (by omega)).mono fun e w' ⟨v, he, h1, h2⟩ => ⟨v, he, Lib.hid h1, Lib.hid h2, Lib.hid ⟨h2.os, h2.tape, h2.output, h2.size, h2.block⟩⟩
  have hq1 : l.length + 0 ≤ maxLen := by unfold maxLen; omega
  have hq2 : (l.length + 0) * 8 ≤ 140737488355328 := by omega
  clear hr hb
  rcases ht with ⟨h1, rfl⟩ | ⟨h1, rfl⟩
  all_goals
    go_enter Try.func3, Try.ntmps3
    go_wp2_with fail
    refine (alive_bel _).mono ?_
    rintro e w1 ⟨rfl, hb1⟩
    have B1 := Lib.hid hb1
    have R1 := Lib.hid (HR.out.below hb1)
    clear hb1
    go_wp2_with fail
    refine (copyLongs_any _ c l _ R1.out (by simp) (by omega)).mono ?_
    rintro e w2 ⟨v2, rfl, hown, hb2⟩
    obtain ⟨oa, ocap, rfl, hqn, k1, k2, k3, hrow⟩ := IntRow.own hown
    have B2 := Lib.hid (B1.out.trans (hb2.mono B1.out.size))
    have R2 := Lib.hid (R1.out.below hb2)
    have O2 := Lib.hid hrow
    have K3 := Lib.hid k3
    clear hown hb2 hrow hqn k3
    go_wp2_with fail
    refine (sum_any oa ocap l w2 O2.out HB.out (by omega)).mono ?_
    rintro e w3 ⟨rfl, rfl⟩
    go_wp2_with fail
    refine (sum_ref _ c l w2 R2.out HB.out hl).mono ?_
    rintro e w3 ⟨rfl, hb3⟩
    have B3 := Lib.hid (B2.out.trans (hb3.mono B2.out.size))
    have R3 := Lib.hid (R2.out.below hb3)
    have O3 := Lib.hid (O2.out.below hb3)
    clear hb3
    go_wp2
    go_region_law (first | (refine step_appendInts (by rfl) _ _ 22 (by rfl) w3.drew 2 i0 (.int .i64 0) 8 Try.underlying22 hi hz0 hz1 hz2 (by rfl) v4 (l.length) _ (by rfl) hown4 .i64 (some ⟨b, off, none⟩) (0) c (l.take 0) (by simp; try omega) (by rfl) (by simp) ((R3.out.below ⟨hbel4.out.os, hbel4.out.tape, hbel4.out.output, hbel4.out.size, hbel4.out.block⟩).take 0) (by first | exact hq1 | exact hq0) (by first | exact hq2 | exact hq3) hbel4.out ?_; intro v5 w5 hown5 hbel5) | (go_simp; go_at_call 7; refine (Cc.out _ R3.out).mono ?_; rintro e w4 ⟨v4, rfl, hown4', hbel4, hbel4'⟩; have hown4 := hown4'.out))
    all_goals
      try rw [show l.length - t + t = l.length from by omega] at hown5
      try rw [Nat.add_zero] at hown5
      obtain ⟨sa, scap, rfl, hqn, k4, k5, k6, hrow5⟩ := IntRow.own (d := l ++ l.take 0) (by rw [List.map_append]; exact hown5)
      have B5 := Lib.hid (B3.out.trans (Below.mono (B := w3.heap.size) ⟨hbel5.os, hbel5.tape, hbel5.output, hbel5.size, hbel5.block⟩ B3.out.size))
      have R5 := Lib.hid (R3.out.below ⟨hbel5.os, hbel5.tape, hbel5.output, hbel5.size, hbel5.block⟩)
      have O5 := Lib.hid (O3.out.below ⟨hbel5.os, hbel5.tape, hbel5.output, hbel5.size, hbel5.block⟩)
      have cs := sum_any sa scap (l ++ l.take 0) w5 hrow5 (fun x hx => HB.out x (by rcases List.mem_append.1 hx with h | h; exact h; exact List.mem_of_mem_take h)) (by omega)
      rw [hqn] at cs
      have Cs : Hid (Calls Try.prog 8 #[.slice sa l.length scap] w5 (SumPost l w5)) := Lib.hid (cs.mono fun e w' h => by unfold SumPost at h ⊢; rw [show isum (l ++ l.take 0) = isum l from by simp] at h; exact h)
      have Ce : Hid (Calls Try.prog 10 #[.slice oa l.length ocap, .slice (some ⟨b, off, none⟩) l.length c] w5 (fun e w' => e = .returned (.bool true) ∧ ∃ n, w' = w5.drewN n)) := Lib.hid ((sameLongs_any oa _ ocap c l l w5 O5.out R5.out (by omega) (by omega)).mono fun e w' h => ⟨h.1.trans (by rw [decide_eq_true rfl]), h.2⟩)
      clear hown5 hbel5 hrow5 cs hqn k6 hown4 hown4' hbel4 hbel4'
      go_wp2_with fail
      refine Cs.out.mono ?_
      rintro e w6 ⟨rfl, rfl⟩
      go_wp2_with fail
      refine Ce.out.mono ?_
      rintro e w6 ⟨rfl, n6, hw6⟩
      subst hw6
      go_wp2
      go_ret
      exact ⟨rfl, below_drewN B5.out _⟩
set_option maxHeartbeats 2000000 in
theorem sums_at (b off c : Nat) (l : List Int) (turn : Int) (t : Nat) (w : World) (hr : IntRow w (some ⟨b, off, none⟩) .i64 l) (hb : ∀ x ∈ l, InI x) (hl : l.length ≤ 100) (hc : l.length ≤ c) (hc2 : c ≤ 9223372036854775807) (h0 : 0 < l.length)
    (ht : turn = t ∧ t ≤ l.length) :
    Calls Try.prog 3 #[.slice (some ⟨b, off, none⟩) l.length c, .int .i64 turn] w fun e w' => e = .returned (.bool true) ∧ Below w.heap.size w w' := by
  have HR := Lib.hid hr
  have HB := Lib.hid hb
  have htl : t ≤ l.length := by omega
  have htc : t ≤ c := by omega
  have htc2 : (t : Int) ≤ (c : Int) := by omega
  have htc3 : (0 : Int) ≤ (t : Int) := by omega
  obtain ⟨i0, hi, hz0, hz1, hz2⟩ := info_parts info_int64
  obtain ⟨A, hA⟩ : ∃ A, (if c = t then some (⟨b, off, none⟩ : Addr) else some ⟨b, off + t, none⟩) = A := ⟨_, rfl⟩
  have hAn : A ≠ none := by rw [← hA]; split <;> simp
  have RD : Hid (∀ W, IntRow W (some ⟨b, off, none⟩) .i64 l → IntRow W A .i64 (l.drop t)) := Lib.hid (fun W h => by rw [← hA]; exact h.drop hc)
  have Cc : Hid (∀ W : World, IntRow W (some ⟨b, off, none⟩) .i64 l → Calls Try.prog 7 #[.slice A (l.length - t) (c - t)] W.drew (TurnMid (l.drop t) W W.drew)) := Lib.hid fun W h => by
    have := copyLongs_any A (c - t) (l.drop t) W.drew (RD.out _ h) (fun e => absurd e hAn) (by simp; omega)
    rw [List.length_drop] at this
    exact this.mono fun e w' ⟨v, he, h1, h2⟩ => ⟨v, he, Lib.hid h1, Lib.hid h2, Lib.hid ⟨h2.os, h2.tape, h2.output, h2.size, h2.block⟩⟩
  have hq1 : l.length - t + t ≤ maxLen := by unfold maxLen; omega
  have hq2 : (l.length - t + t) * 8 ≤ 140737488355328 := by omega
  clear hr hb
  obtain ⟨rfl, h1⟩ := ht
  all_goals
    go_enter Try.func3, Try.ntmps3
    go_wp2_with fail
    refine (alive_bel _).mono ?_
    rintro e w1 ⟨rfl, hb1⟩
    have B1 := Lib.hid hb1
    have R1 := Lib.hid (HR.out.below hb1)
    clear hb1
    go_wp2_with fail
    refine (copyLongs_any _ c l _ R1.out (by simp) (by omega)).mono ?_
    rintro e w2 ⟨v2, rfl, hown, hb2⟩
    obtain ⟨oa, ocap, rfl, hqn, k1, k2, k3, hrow⟩ := IntRow.own hown
    have B2 := Lib.hid (B1.out.trans (hb2.mono B1.out.size))
    have R2 := Lib.hid (R1.out.below hb2)
    have O2 := Lib.hid hrow
    have K3 := Lib.hid k3
    clear hown hb2 hrow hqn k3
    go_wp2_with fail
    refine (sum_any oa ocap l w2 O2.out HB.out (by omega)).mono ?_
    rintro e w3 ⟨rfl, rfl⟩
    go_wp2_with fail
    refine (sum_ref _ c l w2 R2.out HB.out hl).mono ?_
    rintro e w3 ⟨rfl, hb3⟩
    have B3 := Lib.hid (B2.out.trans (hb3.mono B2.out.size))
    have R3 := Lib.hid (R2.out.below hb3)
    have O3 := Lib.hid (O2.out.below hb3)
    clear hb3
    go_wp2
    go_region_law (first | (refine step_appendInts (by rfl) _ _ 22 (by rfl) w3.drew 2 i0 (.int .i64 0) 8 Try.underlying22 hi hz0 hz1 hz2 (by rfl) v4 (l.length - t) _ (by rfl) hown4 .i64 (some ⟨b, off, none⟩) (t) c (l.take t) (by simp; try omega) (by rfl) (by simp) ((R3.out.below ⟨hbel4.out.os, hbel4.out.tape, hbel4.out.output, hbel4.out.size, hbel4.out.block⟩).take t) (by first | exact hq1 | exact hq0) (by first | exact hq2 | exact hq3) hbel4.out ?_; intro v5 w5 hown5 hbel5) | (go_simp; go_at_call 7; refine (Cc.out _ R3.out).mono ?_; rintro e w4 ⟨v4, rfl, hown4', hbel4, hbel4'⟩; have hown4 := hown4'.out; rw [List.length_drop] at hown4))
    all_goals
      try rw [show l.length - t + t = l.length from by omega] at hown5
      try rw [Nat.add_zero] at hown5
      obtain ⟨sa, scap, rfl, hqn, k4, k5, k6, hrow5⟩ := IntRow.own (d := l.drop t ++ l.take t) (by rw [List.map_append]; exact hown5)
      have B5 := Lib.hid (B3.out.trans (Below.mono (B := w3.heap.size) ⟨hbel5.os, hbel5.tape, hbel5.output, hbel5.size, hbel5.block⟩ B3.out.size))
      have R5 := Lib.hid (R3.out.below ⟨hbel5.os, hbel5.tape, hbel5.output, hbel5.size, hbel5.block⟩)
      have O5 := Lib.hid (O3.out.below ⟨hbel5.os, hbel5.tape, hbel5.output, hbel5.size, hbel5.block⟩)
      have cs := sum_any sa scap (l.drop t ++ l.take t) w5 hrow5 (fun x hx => HB.out x (by rcases List.mem_append.1 hx with h | h; exact List.mem_of_mem_drop h; exact List.mem_of_mem_take h)) (by omega)
      rw [hqn] at cs
      have Cs : Hid (Calls Try.prog 8 #[.slice sa l.length scap] w5 (SumPost l w5)) := Lib.hid (cs.mono fun e w' h => by unfold SumPost at h ⊢; rw [isum_turn] at h; exact h)
      have Ce : Hid (Calls Try.prog 10 #[.slice oa l.length ocap, .slice (some ⟨b, off, none⟩) l.length c] w5 (fun e w' => e = .returned (.bool true) ∧ ∃ n, w' = w5.drewN n)) := Lib.hid ((sameLongs_any oa _ ocap c l l w5 O5.out R5.out (by omega) (by omega)).mono fun e w' h => ⟨h.1.trans (by rw [decide_eq_true rfl]), h.2⟩)
      clear hown5 hbel5 hrow5 cs hqn k6 hown4 hown4' hbel4 hbel4'
      go_wp2_with fail
      refine Cs.out.mono ?_
      rintro e w6 ⟨rfl, rfl⟩
      go_wp2_with fail
      refine Ce.out.mono ?_
      rintro e w6 ⟨rfl, n6, hw6⟩
      subst hw6
      go_wp2
      go_ret
      exact ⟨rfl, below_drewN B5.out _⟩
set_option maxHeartbeats 2000000 in
theorem sums_nil (turn : Int) (w : World) :
    Calls Try.prog 3 #[.slice none 0 0, .int .i64 turn] w fun e w' => e = .returned (.bool true) ∧ Below w.heap.size w w' := by
  obtain ⟨i0, hi, hz0, hz1, hz2⟩ := info_parts info_int64
  have rowN : ∀ (W : World) (A : Option Addr), IntRow W A .i64 [] := fun W A j hj => by simp at hj
  have RN := Lib.hid rowN
  have Cc : Hid (∀ W : World, Calls Try.prog 7 #[.slice none 0 0] W.drew (TurnMid [] W W.drew)) := Lib.hid fun W =>
    (copyLongs_any none 0 [] W.drew (rowN _ _) (by simp) (by simp)).mono fun e w' ⟨v, he, h1, h2⟩ => ⟨v, he, Lib.hid h1, Lib.hid h2, Lib.hid ⟨h2.os, h2.tape, h2.output, h2.size, h2.block⟩⟩
  have hq1 : 0 + 0 ≤ maxLen := by unfold maxLen; omega
  have hq2 : (0 + 0) * 8 ≤ 140737488355328 := by omega
  clear rowN
  have ht : turn < 0 ∨ 0 < turn ∨ turn = 0 := by omega
  rcases ht with h1 | h1 | rfl
  all_goals
    go_enter Try.func3, Try.ntmps3
    go_wp2_with fail
    refine (alive_bel _).mono ?_
    rintro e w1 ⟨rfl, hb1⟩
    have B1 := Lib.hid hb1
    clear hb1
    go_wp2_with fail
    refine (copyLongs_any none 0 [] _ (RN.out _ _) (by simp) (by simp)).mono ?_
    rintro e w2 ⟨v2, rfl, hown, hb2⟩
    obtain ⟨oa, ocap, rfl, hqn, k1, k2, k3, hrow⟩ := IntRow.own hown
    have B2 := Lib.hid (B1.out.trans (hb2.mono B1.out.size))
    clear hown hb2 hrow hqn k3
    go_wp2_with fail
    refine (sum_any oa ocap [] w2 (RN.out _ _) (by simp) (by simp)).mono ?_
    rintro e w3 ⟨rfl, rfl⟩
    go_wp2_with fail
    refine (sum_ref none 0 [] w2 (RN.out _ _) (by simp) (by simp)).mono ?_
    rintro e w3 ⟨rfl, hb3⟩
    have B3 := Lib.hid (B2.out.trans (hb3.mono B2.out.size))
    clear hb3
    go_wp2
    go_region_law (first | (refine step_appendInts (by rfl) _ _ 22 (by rfl) w3.drew 2 i0 (.int .i64 0) 8 Try.underlying22 hi hz0 hz1 hz2 (by rfl) v4 0 _ (by rfl) hown4'.out .i64 none 0 0 [] (by rfl) (by rfl) (by simp) (RN.out _ _) hq1 hq2 hbel4.out ?_; intro v5 w5 hown5 hbel5) | (go_simp; go_at_call 7; refine (Cc.out _).mono ?_; rintro e w4 ⟨v4, rfl, hown4', hbel4, hbel4'⟩))
    all_goals
      obtain ⟨sa, scap, rfl, hqn, k4, k5, k6, hrow5⟩ := IntRow.own (d := []) hown5
      have B5 := Lib.hid (B3.out.trans (Below.mono (B := w3.heap.size) ⟨hbel5.os, hbel5.tape, hbel5.output, hbel5.size, hbel5.block⟩ B3.out.size))
      have Cs : Hid (Calls Try.prog 8 #[.slice sa 0 scap] w5 (SumPost [] w5)) := Lib.hid (sum_any sa scap [] w5 (RN.out _ _) (by simp) (by simp))
      have Ce : Hid (Calls Try.prog 10 #[.slice oa 0 ocap, .slice none 0 0] w5 (fun e w' => e = .returned (.bool true) ∧ ∃ n, w' = w5.drewN n)) := Lib.hid ((sameLongs_any oa none ocap 0 [] [] w5 (RN.out _ _) (RN.out _ _) (by simp) (by simp)).mono fun e w' h => ⟨h.1.trans (by rw [decide_eq_true rfl]), h.2⟩)
      clear hown5 hbel5 hrow5 hqn k6 hown4' hbel4 hbel4'
      go_wp2_with fail
      refine Cs.out.mono ?_
      rintro e w6 ⟨rfl, rfl⟩
      go_wp2_with fail
      refine Ce.out.mono ?_
      rintro e w6 ⟨rfl, n6, hw6⟩
      subst hw6
      go_wp2
      go_ret
      exact ⟨rfl, below_drewN B5.out _⟩
set_option maxHeartbeats 2000000 in
theorem sums_none (b off c : Nat) (sub : Option Nat) (turn : Int) (w : World) (hc2 : c ≤ 9223372036854775807) :
    Calls Try.prog 3 #[.slice (some ⟨b, off, sub⟩) 0 c, .int .i64 turn] w fun e w' => e = .returned (.bool true) ∧ Below w.heap.size w w' := by
  obtain ⟨i0, hi, hz0, hz1, hz2⟩ := info_parts info_int64
  have rowN : ∀ (W : World) (A : Option Addr), IntRow W A .i64 [] := fun W A j hj => by simp at hj
  have RN := Lib.hid rowN
  have Cc : Hid (∀ W : World, Calls Try.prog 7 #[.slice (some ⟨b, off, sub⟩) 0 c] W.drew (TurnMid [] W W.drew)) := Lib.hid fun W =>
    (copyLongs_any (some ⟨b, off, sub⟩) c [] W.drew (rowN _ _) (by simp) (by simp)).mono fun e w' ⟨v, he, h1, h2⟩ => ⟨v, he, Lib.hid h1, Lib.hid h2, Lib.hid ⟨h2.os, h2.tape, h2.output, h2.size, h2.block⟩⟩
  have hq1 : 0 + 0 ≤ maxLen := by unfold maxLen; omega
  have hq2 : (0 + 0) * 8 ≤ 140737488355328 := by omega
  clear rowN
  have ht : turn < 0 ∨ 0 < turn ∨ turn = 0 := by omega
  rcases ht with h1 | h1 | rfl
  all_goals
    go_enter Try.func3, Try.ntmps3
    go_wp2_with fail
    refine (alive_bel _).mono ?_
    rintro e w1 ⟨rfl, hb1⟩
    have B1 := Lib.hid hb1
    clear hb1
    go_wp2_with fail
    refine (copyLongs_any (some ⟨b, off, sub⟩) c [] _ (RN.out _ _) (by simp) (by simp)).mono ?_
    rintro e w2 ⟨v2, rfl, hown, hb2⟩
    obtain ⟨oa, ocap, rfl, hqn, k1, k2, k3, hrow⟩ := IntRow.own hown
    have B2 := Lib.hid (B1.out.trans (hb2.mono B1.out.size))
    clear hown hb2 hrow hqn k3
    go_wp2_with fail
    refine (sum_any oa ocap [] w2 (RN.out _ _) (by simp) (by simp)).mono ?_
    rintro e w3 ⟨rfl, rfl⟩
    go_wp2_with fail
    refine (sum_ref (some ⟨b, off, sub⟩) c [] w2 (RN.out _ _) (by simp) (by simp)).mono ?_
    rintro e w3 ⟨rfl, hb3⟩
    have B3 := Lib.hid (B2.out.trans (hb3.mono B2.out.size))
    clear hb3
    go_wp2
    go_region_law (first | (refine step_appendInts (by rfl) _ _ 22 (by rfl) w3.drew 2 i0 (.int .i64 0) 8 Try.underlying22 hi hz0 hz1 hz2 (by rfl) v4 0 _ (by rfl) hown4'.out .i64 (some ⟨b, off, sub⟩) 0 c [] (by rfl) (by rfl) (by simp) (RN.out _ _) hq1 hq2 hbel4.out ?_; intro v5 w5 hown5 hbel5) | (go_simp; go_at_call 7; refine (Cc.out _).mono ?_; rintro e w4 ⟨v4, rfl, hown4', hbel4, hbel4'⟩))
    all_goals
      obtain ⟨sa, scap, rfl, hqn, k4, k5, k6, hrow5⟩ := IntRow.own (d := []) hown5
      have B5 := Lib.hid (B3.out.trans (Below.mono (B := w3.heap.size) ⟨hbel5.os, hbel5.tape, hbel5.output, hbel5.size, hbel5.block⟩ B3.out.size))
      have Cs : Hid (Calls Try.prog 8 #[.slice sa 0 scap] w5 (SumPost [] w5)) := Lib.hid (sum_any sa scap [] w5 (RN.out _ _) (by simp) (by simp))
      have Ce : Hid (Calls Try.prog 10 #[.slice oa 0 ocap, .slice (some ⟨b, off, sub⟩) 0 c] w5 (fun e w' => e = .returned (.bool true) ∧ ∃ n, w' = w5.drewN n)) := Lib.hid ((sameLongs_any oa (some ⟨b, off, sub⟩) ocap c [] [] w5 (RN.out _ _) (RN.out _ _) (by simp) (by simp)).mono fun e w' h => ⟨h.1.trans (by rw [decide_eq_true rfl]), h.2⟩)
      clear hown5 hbel5 hrow5 hqn k6 hown4' hbel4 hbel4'
      go_wp2_with fail
      refine Cs.out.mono ?_
      rintro e w6 ⟨rfl, rfl⟩
      go_wp2_with fail
      refine Ce.out.mono ?_
      rintro e w6 ⟨rfl, n6, hw6⟩
      subst hw6
      go_wp2
      go_ret
      exact ⟨rfl, below_drewN B5.out _⟩

/-- a row of integers, as the shell tells it -/
def RowOf (k : IntKind) (w : World) (a : Option Addr) (len cap : Nat) (zs : List Int) : Prop :=
  (a = none ∧ len = 0 ∧ cap = 0 ∧ zs = []) ∨
  ∃ x, a = some x ∧ len ≤ cap ∧ cap ≤ maxLen ∧ zs.length = cap ∧ (∀ i, i < zs.length → w.cell? (x.add i) = some (.int k (zs.getD i 0))) ∧ ∀ n ∈ zs, (Lit.int k n).wf = true
theorem RowOf.cases {k : IntKind} {w : World} {a : Option Addr} {len cap : Nat} {zs : List Int} (h : RowOf k w a len cap zs) :
    (a = none ∧ len = 0 ∧ cap = 0) ∨ (len = 0 ∧ cap ≤ 9223372036854775807 ∧ ∃ b off sub, a = some ⟨b, off, sub⟩) ∨
    (0 < len ∧ len ≤ cap ∧ cap ≤ 9223372036854775807 ∧ (zs.take len).length = len ∧ (∃ b off, a = some ⟨b, off, none⟩) ∧ IntRow w a k (zs.take len) ∧ ∀ n ∈ zs.take len, (Lit.int k n).wf = true) := by
  rcases h with ⟨h1, h2, h3, _⟩ | ⟨x, rfl, h1, h2, h3, h4, h5⟩
  · exact .inl ⟨h1, h2, h3⟩
  · simp only [maxLen] at h2
    by_cases h0 : len = 0
    · exact .inr (.inl ⟨h0, by omega, x.block, x.off, x.spot, rfl⟩)
    · obtain ⟨b, off, rfl, hc⟩ := ints_at h4 (by omega)
      refine .inr (.inr ⟨by omega, h1, by omega, by rw [List.length_take]; omega, ⟨b, off, rfl⟩, fun j hj => ⟨b, off, rfl, ?_⟩, fun n hn => h5 n (List.mem_of_mem_take hn)⟩)
      rw [List.length_take] at hj
      rw [hc j (by omega), getD_take, if_pos (by omega)]
theorem sums_any (a : Option Addr) (len cap : Nat) (zs : List Int) (turn : Int) (w : World) (h : RowOf .i64 w a len cap zs) :
    Calls Try.prog 3 #[.slice a len cap, .int .i64 turn] w fun e w' => e = .returned (.bool true) ∧ Below w.heap.size w w' := by
  by_cases hbig : 100 < len
  · exact sums_long a cap len turn w hbig
  · rcases h.cases with ⟨rfl, rfl, rfl⟩ | ⟨rfl, h2, b, off, sub, rfl⟩ | ⟨h0, h1, h2, h3, ⟨b, off, rfl⟩, h4, h5⟩
    · exact sums_nil turn w
    · exact sums_none b off cap sub turn w h2
    · have hb : ∀ x ∈ zs.take len, InI x := fun x hx => bd (h5 x hx)
      generalize zs.take len = l at *
      subst h3
      by_cases ht : turn < 0 ∨ (l.length : Int) < turn
      · exact sums_zero b off cap l turn 0 w h4 hb (by omega) h1 h2 h0 (by omega)
      · exact sums_at b off cap l turn turn.toNat w h4 hb (by omega) h1 h2 h0 (by omega)
end Go.Proofs.Ytjglpgicboocmaa
