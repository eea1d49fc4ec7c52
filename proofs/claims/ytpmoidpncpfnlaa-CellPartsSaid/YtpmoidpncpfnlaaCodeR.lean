/- (*code.Reader): the same contracts with the frame in full: all blocks but the reader's own are as they were. -/
import Derived.Test.YtpmoidpncpfnlaaCodeD
namespace Go.Proofs.Ytpmoidpncpfnlaa
open Go.RowKit
set_option linter.unusedVariables false

/-- a call that turns block g alone -/
structure BelR (g : Nat) (w w' : World) : Prop where
  os : w'.os = w.os
  tape : w'.tape = w.tape
  output : w'.output = w.output
  size : w.heap.size ≤ w'.heap.size
  block : ∀ k, k < w.heap.size → k ≠ g → w'.heap[k]? = w.heap[k]?
theorem BelR.refl (g : Nat) (w : World) : BelR g w w := ⟨rfl, rfl, rfl, Nat.le_refl _, fun _ _ _ => rfl⟩
theorem BelR.trans {g : Nat} {a b c : World} (h : BelR g a b) (k : BelR g b c) : BelR g a c := ⟨k.os.trans h.os, k.tape.trans h.tape, k.output.trans h.output, Nat.le_trans h.size k.size, fun i hi hg => (k.block i (Nat.lt_of_lt_of_le hi h.size) hg).trans (h.block i hi hg)⟩
theorem BelR.set {g : Nat} {w w' : World} (h : BelR g w w') (i : Nat) (v : Value) : BelR g w (w'.setCell ⟨g, i, none⟩ v) := by
  have hb := (Below.refl w'.heap.size w').os
  exact ⟨h.os, h.tape, h.output, by simpa using h.size, fun k hk hg => (Below.heap_setCell w' ⟨g, i, none⟩ v k hg).trans (h.block k hk hg)⟩
theorem BelR.below {g : Nat} {w w' : World} (h : Below w.heap.size w w') : BelR g w w' := ⟨h.os, h.tape, h.output, h.size, fun k hk _ => h.block k hk⟩
theorem BelR.out {g B : Nat} {w w' : World} (h : BelR g w w') (hB : B ≤ w.heap.size) (hg : B ≤ g) : Below B w w' := ⟨h.os, h.tape, h.output, h.size, fun k hk => h.block k (by omega) (by omega)⟩
theorem Kept.belr {w w' : World} {g b : Nat} {cs : Array Value} {t : TypeId} (h : Kept w b cs t) (hb : BelR g w w') (hne : b ≠ g) : Kept w' b cs t := (hb.block b h.lt hne).trans h
theorem IntRow.lowR {w w' : World} {a : Option Addr} {k : IntKind} {d : List Int} {B : Nat} (h : IntRow w a k d) (ha : LowA a B) (hb : BelR B w w') : IntRow w' a k d := fun j hj => by
  obtain ⟨b, off, e, hc⟩ := h j hj
  refine ⟨b, off, e, ?_⟩
  have hlt := World.block_lt_of_cell? w _ hc
  rw [← hc]
  simp only [World.cell?]
  rw [hb.block b hlt (by subst e; have := ha.lt; omega)]
def RdOutR (w : World) (g : Nat) (l : List Int) (e : Int) (v : Value) (en : Ending) (w' : World) : Prop := en = .returned v ∧ Hid (Rd w' g l e) ∧ Hid (BelR g w w')
theorem Row.lowR {w w' : World} {g : Nat} {v : Value} {l : List Int} (h : Row w g v l) (hb : BelR g w w') : Row w' g v l := by
  obtain ⟨a, c, rfl, h1, h2, h3, h4, h5⟩ := h
  exact ⟨a, c, rfl, h1, h2, h3, h4.lowR h5 hb, h5⟩
set_option maxHeartbeats 1000000 in
theorem uintr_any (g : Nat) (l : List Int) (e : Int) (w : World) (h : Rd w g l e) (hb : ByteL l) (hl : l.length ≤ 1000000000) :
    Calls Try.prog 78 #[.pointer (some ⟨g, 0, none⟩)] w (RdOutR w g (uintS l e).2.1 (uintS l e).2.2 (.int .u64 (uintS l e).1)) := by
  obtain ⟨a, c, k, h1, h2, h3, h4, h5⟩ := h
  have C := Lib.hid (first_any a c l w h4 hb (by omega))
  have cs := fst_case l hb
  have K := Lib.hid k
  obtain ⟨k1, k2, k3, k4, k5⟩ := k.two
  have R0 : Hid (Rd w g l e) := Lib.hid ⟨a, c, K.out, h1, h2, h3, h4, h5⟩
  by_cases he : e = 0
  · subst he
    rcases cs with ⟨v, n, ef, n1, n2, n3, v1, _⟩ | ef | ef
    · have hu : uintS l 0 = ((v : Int), l.drop n, 0) := by simp [uintS, ef]
      rw [hu]
      have hne : a ≠ none := fun e => by have := h1 e; omega
      obtain ⟨ad, rfl⟩ := Option.ne_none_iff_exists'.1 hne
      obtain ⟨b, off, e1, _⟩ := h4 0 (by omega)
      injection e1 with e1
      subst e1
      have hlen : (l.drop n).length = l.length - n := List.length_drop
      have F : Hid (∀ v', v' = Value.slice (if c = n then some ⟨b, off, none⟩ else some ⟨b, off + n, none⟩) (l.length - n) (c - n) → Rd (w.setCell ⟨g, 0, none⟩ v') g (l.drop n) 0 ∧ BelR g w (w.setCell ⟨g, 0, none⟩ v')) := Lib.hid (fun v' e => by
        subst e
        refine ⟨⟨(if c = n then some ⟨b, off, none⟩ else some ⟨b, off + n, none⟩), c - n, ?_, ?_, ?_, by omega, ?_, ?_⟩, (BelR.refl g w).set _ _⟩
        · rw [hlen]; exact K.out.set 0 _
        · intro h; split at h <;> simp at h
        · omega
        · refine IntRow.lowR (B := g) (IntRow.drop h4 h2) h5.cut ((BelR.refl g w).set _ _)
        · exact h5.cut)
      have EF := Lib.hid ef
      have n2' : (n : Int) ≤ (l.length : Int) := by omega
      have n3' : (l.length : Int) ≤ (c : Int) := by omega
      clear ef hu h4 h5 h1 hne R0
      go_enter Try.func78, Try.ntmps78
      go_wp2_with fail
      refine C.out.mono ?_
      rintro _ _ ⟨rfl, rfl⟩
      rw [EF.out]
      go_wp2
      · rename_i h
        have F1 := F.out (Value.slice (some ⟨b, off, none⟩) (l.length - n) 0) (by rw [if_pos h, h, Nat.sub_self])
        go_ret
        exact ⟨rfl, Lib.hid F1.1, Lib.hid F1.2⟩
      · rename_i h
        have F1 := F.out _ (by rw [if_neg h])
        go_ret
        exact ⟨rfl, Lib.hid F1.1, Lib.hid F1.2⟩
    all_goals
      have hu : uintS l 0 = (0, l, (fstF 0 0 l).2.2) := by simp [uintS, ef]
      rw [hu, ef]
      have F : Hid (∀ e', Rd (w.setCell ⟨g, 1, none⟩ (.int .i64 e')) g l e' ∧ BelR g w (w.setCell ⟨g, 1, none⟩ (.int .i64 e'))) := Lib.hid (fun e' => by
        have hw : BelR g w (w.setCell ⟨g, 1, none⟩ (.int .i64 e')) := (BelR.refl g w).set _ _
        exact ⟨⟨a, c, K.out.set 1 _, h1, h2, h3, h4.lowR h5 hw, h5⟩, hw⟩)
      have EF := Lib.hid ef
      clear ef hu h4 h5 h1 R0
      go_enter Try.func78, Try.ntmps78
      go_wp2_with fail
      refine C.out.mono ?_
      rintro _ _ ⟨rfl, rfl⟩
      rw [EF.out]
      go_wp2
      go_ret
      exact ⟨rfl, Lib.hid (F.out _).1, Lib.hid (F.out _).2⟩
  · have hu : uintS l e = (0, l, e) := by simp [uintS, he]
    rw [hu]
    have hne : (e != 0) = true := by simp [he]
    clear cs hu h4 h5 h1 he
    go_enter Try.func78, Try.ntmps78
    go_wp2
    go_ret
    exact ⟨rfl, R0, Lib.hid (BelR.refl _ _)⟩
set_option maxHeartbeats 1000000 in
theorem intr_any (g : Nat) (l : List Int) (e : Int) (w : World) (h : Rd w g l e) (hb : ByteL l) (hl : l.length ≤ 1000000000) :
    Calls Try.prog 48 #[.pointer (some ⟨g, 0, none⟩)] w (RdOutR w g (uintS l e).2.1 (uintS l e).2.2 (.int .i64 (unzig (uintS l e).1))) := by
  have C := Lib.hid (uintr_any g l e w h hb hl)
  obtain ⟨u, hu, hu2⟩ := uintS_nat l e hb
  rw [hu] at C ⊢
  have D := Lib.hid (fun W => unturn_any u W hu2)
  generalize (uintS l e).2.1 = l2 at *
  generalize (uintS l e).2.2 = e2 at *
  clear h hu
  go_enter Try.func48, Try.ntmps48
  go_wp2_with fail
  refine C.out.mono ?_
  rintro _ w1 ⟨rfl, R, B⟩
  go_wp2_with fail
  refine (D.out _).mono ?_
  rintro _ _ ⟨rfl, rfl⟩
  go_wp2
  go_ret
  exact ⟨rfl, R, B⟩
theorem setRdR {w : World} {g : Nat} {l : List Int} {e : Int} (h : Rd w g l e) (e' : Int) : Rd (w.setCell ⟨g, 1, none⟩ (.int .i64 e')) g l e' ∧ BelR g w (w.setCell ⟨g, 1, none⟩ (.int .i64 e')) := by
  obtain ⟨a, c, k, h1, h2, h3, h4, h5⟩ := h
  have hw : BelR g w (w.setCell ⟨g, 1, none⟩ (.int .i64 e')) := (BelR.refl g w).set _ _
  exact ⟨⟨a, c, k.set 1 _, h1, h2, h3, h4.lowR h5 hw, h5⟩, hw⟩
set_option maxHeartbeats 1000000 in
theorem endr_any (g : Nat) (l : List Int) (e : Int) (w : World) (h : Rd w g l e) : Calls Try.prog 52 #[.pointer (some ⟨g, 0, none⟩)] w (RdOutR w g l (endS l e) (.int .i64 (endS l e))) := by
  have F := Lib.hid (setRdR h 10)
  have G := setRd_read h 10
  have H := Lib.hid h
  obtain ⟨a, c, k, h1, h2, h3, h4, h5⟩ := h
  obtain ⟨k1, k2, k3, k4, k5⟩ := k.two
  clear k h1 h4 h5
  have hr : ∀ e' w', endS l e = e' → Rd w' g l e' → BelR g w w' → RdOutR w g l (endS l e) (.int .i64 (endS l e)) (.returned (.int .i64 e')) w' := fun e' w' h1 h2 h3 => ⟨by rw [h1], Lib.hid (by rw [h1]; exact h2), Lib.hid h3⟩
  have Hr := Lib.hid hr
  clear hr
  by_cases he : e = 0
  · subst he
    by_cases hl : l = []
    · subst hl
      have E : Hid (endS [] 0 = 0) := Lib.hid (by simp [endS])
      go_enter Try.func52, Try.ntmps52
      go_wp2
      go_ret
      exact Hr.out _ _ E.out H.out (BelR.refl _ _)
    · have E : Hid (endS l 0 = 10) := Lib.hid (by simp [endS, hl])
      have hpos : (0 : Int) < (l.length : Int) := by have := List.length_pos_iff.2 hl; omega
      clear hl
      go_enter Try.func52, Try.ntmps52
      go_wp2
      go_ret
      exact Hr.out _ _ E.out F.out.1 F.out.2
  · have E : Hid (endS l e = e) := Lib.hid (by simp [endS, he])
    have hne : (e == 0) = false := by simp [he]
    clear he
    go_enter Try.func52, Try.ntmps52
    go_wp2
    go_ret
    exact Hr.out _ _ E.out H.out (BelR.refl _ _)
theorem back_rdR {w : World} {g : Nat} {v v2 : Value} {l : List Int} {e : Int} (k : Kept w g #[v2, .int .i64 e] 126) (h : Row w g v l) (e' : Int) :
    Rd ((w.setCell ⟨g, 0, none⟩ v).setCell ⟨g, 1, none⟩ (.int .i64 e')) g l e' ∧ BelR g w ((w.setCell ⟨g, 0, none⟩ v).setCell ⟨g, 1, none⟩ (.int .i64 e')) := by
  have hb : BelR g w ((w.setCell ⟨g, 0, none⟩ v).setCell ⟨g, 1, none⟩ (.int .i64 e')) := ((BelR.refl g w).set _ _).set _ _
  exact ⟨Rd.close (k.set2 v (.int .i64 e')) (h.lowR hb), hb⟩
set_option maxHeartbeats 1000000 in
theorem countr_any (g : Nat) (l : List Int) (e : Int) (m : Nat) (w : World) (h : Rd w g l e) (hb : ByteL l) (hl : l.length ≤ 1000000000) (hm : m ≤ 9223372036854775807) :
    Calls Try.prog 80 #[.pointer (some ⟨g, 0, none⟩), .int .i64 m] w (RdOutR w g (countS l e m).2.1 (countS l e m).2.2 (.int .i64 (countS l e m).1)) := by
  have C := Lib.hid (uintr_any g l e w h hb hl)
  obtain ⟨u, hu, hu2⟩ := uintS_nat l e hb
  obtain ⟨v, k, hr⟩ := h.open_
  obtain ⟨k1, k2, k3, k4, k5⟩ := k.two
  have hr2 := Lib.hid hr
  obtain ⟨a, c, rfl, _⟩ := hr
  have E : Hid (countS l e m = if m < u then (0, l, 17) else ((u : Int), (uintS l e).2.1, (uintS l e).2.2)) := Lib.hid (by
    unfold countS
    rw [hu]
    by_cases hc : m < u
    · rw [if_pos hc, if_pos (by omega)]
    · rw [if_neg hc, if_neg (by omega), ← hu])
  rw [hu] at C
  generalize (uintS l e).2.1 = l2 at *
  generalize (uintS l e).2.2 = e2 at *
  have w1 : IntKind.u64.wrap (m : Int) = (m : Int) := by simp only [IntKind.wrap_u64]; omega
  have m1 : max (0 : Int) (m : Int) = (m : Int) := by omega
  clear h hu k
  by_cases hc : m < u
  · rw [E.out, if_pos hc]
    have hc' : (m : Int) < (u : Int) := by omega
    go_enter Try.func80, Try.ntmps80
    go_wp2_with fail
    refine C.out.mono ?_
    rintro _ w1 ⟨rfl, R, B⟩
    obtain ⟨v2, q, _⟩ := R.out.open_
    obtain ⟨q1, q2, q3, q4, q5⟩ := q.two
    have F := Lib.hid (back_rdR q (hr2.out.lowR B.out) 17)
    clear q
    go_wp2
    go_ret
    exact ⟨rfl, Lib.hid F.out.1, Lib.hid (B.out.trans F.out.2)⟩
  · rw [E.out, if_neg hc]
    have hc' : ¬ (m : Int) < (u : Int) := by omega
    have w2 : wrap64 (u : Int) = (u : Int) := by unfold wrap64; omega
    go_enter Try.func80, Try.ntmps80
    go_wp2_with fail
    refine C.out.mono ?_
    rintro _ w1 ⟨rfl, R, B⟩
    go_wp2
    go_ret
    exact ⟨rfl, R, B⟩
set_option maxHeartbeats 2000000 in
set_option maxRecDepth 100000 in
theorem textr_any (g : Nat) (l : List Int) (e : Int) (m : Nat) (w : World) (h : Rd w g l e) (hb : ByteL l) (hl : l.length ≤ 1000000000) (hm : m ≤ 9223372036854775807) :
    Calls Try.prog 50 #[.pointer (some ⟨g, 0, none⟩), .int .i64 m] w (RdOutR w g (textS l e m).2.1 (textS l e m).2.2 (.string (textS l e m).1)) := by
  have C := Lib.hid (countr_any g l e m w h hb hl hm)
  obtain ⟨u, hu, hu2⟩ := countS_nat l e m hb
  obtain ⟨hs1, hs2⟩ := countS_sub l e m
  obtain ⟨v, k, hr⟩ := h.open_
  obtain ⟨k1, k2, k3, k4, k5⟩ := k.two
  have hr2 := Lib.hid hr
  obtain ⟨a, c, rfl, _⟩ := hr
  have E : Hid (textS l e m = if (countS l e m).2.2 ≠ 0 then (ByteArray.empty, (countS l e m).2.1, (countS l e m).2.2) else if (countS l e m).2.1.length < u then (ByteArray.empty, l, 15) else (strOfNums ((countS l e m).2.1.take u), (countS l e m).2.1.drop u, 0)) := Lib.hid (by
    unfold textS
    rw [hu]
    by_cases h1 : (countS l e m).2.2 ≠ 0
    · rw [if_pos h1, if_pos h1]
    · rw [if_neg h1, if_neg h1]
      by_cases hc : (countS l e m).2.1.length < u
      · rw [if_pos hc, if_pos (by omega)]
      · rw [if_neg hc, if_neg (by omega), Int.toNat_natCast])
  rw [hu] at C
  generalize (countS l e m).2.1 = l2 at *
  generalize (countS l e m).2.2 = e2 at *
  clear h hu k
  by_cases he : e2 = 0
  · subst he
    rw [if_neg (by simp)] at E
    by_cases hc : l2.length < u
    · rw [if_pos hc] at E
      rw [E.out]
      have hc' : (l2.length : Int) < (u : Int) := by omega
      clear hc hs2
      go_enter Try.func50, Try.ntmps50
      go_wp2_with fail
      refine C.out.mono ?_
      rintro _ w1 ⟨rfl, R, B⟩
      obtain ⟨v2, q, hr3⟩ := R.out.open_
      obtain ⟨a2, c2, rfl, _⟩ := hr3
      obtain ⟨q1, q2, q3, q4, q5⟩ := q.two
      have F := Lib.hid (back_rdR q (hr2.out.lowR B.out) 15)
      clear q
      go_wp2
      go_ret
      exact ⟨rfl, Lib.hid F.out.1, Lib.hid (B.out.trans F.out.2)⟩
    · rw [if_neg hc] at E
      rw [E.out]
      have hc' : (u : Int) ≤ (l2.length : Int) := by omega
      have hcn : u ≤ l2.length := by omega
      clear hc hs2
      go_enter Try.func50, Try.ntmps50
      go_wp2_with fail
      refine C.out.mono ?_
      rintro _ w1 ⟨rfl, R, B⟩
      obtain ⟨v2, q, hr3⟩ := R.out.open_
      obtain ⟨a2, c2, rfl, h1, h2, h3, h4, h5⟩ := hr3
      obtain ⟨q1, q2, q3, q4, q5⟩ := q.two
      have K := Lib.hid q
      clear q
      have hlen : (l2.drop u).length = l2.length - u := List.length_drop
      have h2' : (u : Int) ≤ (c2 : Int) := by omega
      have h2'' : (l2.length : Int) ≤ (c2 : Int) := by omega
      rcases a2 with _ | ⟨b, off, p⟩
      · have hc0 := h1 rfl
        subst hc0
        obtain rfl : l2 = [] := List.eq_nil_of_length_eq_zero (by omega)
        obtain rfl : u = 0 := by simpa using hcn
        have hcv := fun (w : World) => Lib.run_convert_nil_bytes (P := Try.prog) w 53 9 5 0 Try.underlying53 Try.underlying5 Try.underlying9
        have F : Hid (Rd (w1.setCell ⟨g, 0, none⟩ (.slice none 0 0)) g [] 0 ∧ BelR g w1 (w1.setCell ⟨g, 0, none⟩ (.slice none 0 0))) := Lib.hid ⟨⟨none, 0, K.out.set 0 _, fun _ => rfl, by simp, by omega, fun j hj => by simp at hj, fun ad e => by simp at e⟩, (BelR.refl g w1).set _ _⟩
        clear h4 h5 h1
        go_wp2
        go_ret
        exact ⟨rfl, Lib.hid F.out.1, Lib.hid (B.out.trans F.out.2)⟩
      · obtain rfl : p = none := by
          obtain ⟨b', off', e, _⟩ := h5 _ rfl
          injection e
        have hcv : ∀ W, BelR g w1 W → (convert 53 9 (.slice (some ⟨b, off, none⟩) u c2)).run Try.prog W = .ok (.string (strOfNums (l2.take u))) W := fun W hW => run_convert_bytes_arg W 53 5 Try.underlying53 Try.underlying5 b off u c2 (l2.take u) (by simp; omega) (fun j hj => by
          obtain ⟨b', off', e', hcell⟩ := (h4.lowR h5 hW) j (by omega)
          injection e' with e'; injection e' with e1 e2; subst e1 e2
          rw [hcell, getD_take, if_pos hj]) 9 Try.underlying9
        have hcv1 := hcv w1 (BelR.refl _ _)
        have F : Hid (∀ v', v' = Value.slice (if c2 = u then some ⟨b, off, none⟩ else some ⟨b, off + u, none⟩) (l2.length - u) (c2 - u) → Rd (w1.setCell ⟨g, 0, none⟩ v') g (l2.drop u) 0 ∧ BelR g w1 (w1.setCell ⟨g, 0, none⟩ v')) := Lib.hid (fun v' e => by
          subst e
          refine ⟨⟨(if c2 = u then some ⟨b, off, none⟩ else some ⟨b, off + u, none⟩), c2 - u, ?_, ?_, ?_, by omega, ?_, ?_⟩, (BelR.refl g w1).set _ _⟩
          · rw [hlen]; exact K.out.set 0 _
          · intro h; split at h <;> simp at h
          · omega
          · refine IntRow.lowR (B := g) (IntRow.drop h4 h2) h5.cut ((BelR.refl g w1).set _ _)
          · exact h5.cut)
        clear h4 h5 h1 hcv
        go_wp2
        · rename_i h
          have F1 := F.out (Value.slice (some ⟨b, off, none⟩) (l2.length - u) 0) (by rw [if_pos h, h, Nat.sub_self])
          go_ret
          exact ⟨rfl, Lib.hid F1.1, Lib.hid (B.out.trans F1.2)⟩
        · rename_i h
          have F1 := F.out _ (by rw [if_neg h])
          go_ret
          exact ⟨rfl, Lib.hid F1.1, Lib.hid (B.out.trans F1.2)⟩
  · rw [if_pos he] at E
    rw [E.out]
    have hne : (e2 != 0) = true := by simp [he]
    clear he
    go_enter Try.func50, Try.ntmps50
    go_wp2_with fail
    refine C.out.mono ?_
    rintro _ w1 ⟨rfl, R, B⟩
    obtain ⟨v2, q, hr3⟩ := R.out.open_
    obtain ⟨q1, q2, q3, q4, q5⟩ := q.two
    clear q hr3
    go_wp2
    go_ret
    exact ⟨rfl, R, B⟩
end Go.Proofs.Ytpmoidpncpfnlaa
