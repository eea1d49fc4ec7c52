/- (*code.Reader).Count, Text: for every input. -/
import Derived.Test.YtpmoidpncpfnlaaCodeC
namespace Go.Proofs.Ytpmoidpncpfnlaa
open Go.RowKit
set_option linter.unusedVariables false

def Row (w : World) (g : Nat) (v : Value) (l : List Int) : Prop := ∃ a c, v = .slice a l.length c ∧ (a = none → c = 0) ∧ l.length ≤ c ∧ c ≤ 9223372036854775807 ∧ IntRow w a .u8 l ∧ LowA a g
theorem Row.low {w w' : World} {g : Nat} {v : Value} {l : List Int} (h : Row w g v l) (hb : Below g w w') : Row w' g v l := by
  obtain ⟨a, c, rfl, h1, h2, h3, h4, h5⟩ := h
  exact ⟨a, c, rfl, h1, h2, h3, h4.low h5 hb, h5⟩
theorem Rd.open_ {w : World} {g : Nat} {l : List Int} {e : Int} (h : Rd w g l e) : ∃ v, Kept w g #[v, .int .i64 e] 126 ∧ Row w g v l := by
  obtain ⟨a, c, k, h1, h2, h3, h4, h5⟩ := h
  exact ⟨_, k, a, c, rfl, h1, h2, h3, h4, h5⟩
theorem Rd.close {w : World} {g : Nat} {v : Value} {l : List Int} {e : Int} (k : Kept w g #[v, .int .i64 e] 126) (h : Row w g v l) : Rd w g l e := by
  obtain ⟨a, c, rfl, h1, h2, h3, h4, h5⟩ := h
  exact ⟨a, c, k, h1, h2, h3, h4, h5⟩
theorem back_rd {w : World} {g : Nat} {v v2 : Value} {l : List Int} {e : Int} (k : Kept w g #[v2, .int .i64 e] 126) (h : Row w g v l) (e' : Int) :
    Rd ((w.setCell ⟨g, 0, none⟩ v).setCell ⟨g, 1, none⟩ (.int .i64 e')) g l e' ∧ Below g w ((w.setCell ⟨g, 0, none⟩ v).setCell ⟨g, 1, none⟩ (.int .i64 e')) := by
  have hb : Below g w ((w.setCell ⟨g, 0, none⟩ v).setCell ⟨g, 1, none⟩ (.int .i64 e')) := bset2 (Below.refl g w) (Nat.le_refl _) _ _
  exact ⟨Rd.close (k.set2 v (.int .i64 e')) (h.low hb), hb⟩
def countS (l : List Int) (e : Int) (m : Nat) : Int × List Int × Int := if (m : Int) < (uintS l e).1 then (0, l, 17) else uintS l e
theorem countS_sub (l : List Int) (e : Int) (m : Nat) : (countS l e m).2.1.length ≤ l.length ∧ (ByteL l → ByteL (countS l e m).2.1) := by
  unfold countS
  split
  · exact ⟨Nat.le_refl _, id⟩
  · exact uintS_sub l e
theorem countS_nat (l : List Int) (e : Int) (m : Nat) (h : ByteL l) : ∃ u : Nat, (countS l e m).1 = u ∧ u ≤ m := by
  unfold countS
  obtain ⟨u, hu, _⟩ := uintS_nat l e h
  split
  · exact ⟨0, rfl, by omega⟩
  · exact ⟨u, hu, by omega⟩
set_option maxHeartbeats 1000000 in
theorem count_any (g : Nat) (l : List Int) (e : Int) (m : Nat) (w : World) (h : Rd w g l e) (hb : ByteL l) (hl : l.length ≤ 1000000000) (hm : m ≤ 9223372036854775807) :
    Calls Try.prog 80 #[.pointer (some ⟨g, 0, none⟩), .int .i64 m] w (RdOut w g (countS l e m).2.1 (countS l e m).2.2 (.int .i64 (countS l e m).1)) := by
  have C := Lib.hid (uint_any g l e w h hb hl)
  obtain ⟨u, hu, hu2⟩ := uintS_nat l e hb
  obtain ⟨v, k, hr⟩ := h.open_
  obtain ⟨k1, k2, k3, k4, k5⟩ := k.two
  have hr2 := Lib.hid hr
  obtain ⟨a, c, rfl, _⟩ := hr
  have E : Hid (countS l e m = if m < u then (0, l, 17) else ((u : Int), (uintS l e).2.1, (uintS l e).2.2)) := Lib.hid (by
    unfold countS
    rw [hu]
    by_cases hc : m < u
    · rw [if_pos hc, if_pos (by omega)]
    · rw [if_neg hc, if_neg (by omega), ← hu])
  rw [hu] at C
  generalize (uintS l e).2.1 = l2 at *
  generalize (uintS l e).2.2 = e2 at *
  have w1 : IntKind.u64.wrap (m : Int) = (m : Int) := by simp only [IntKind.wrap_u64]; omega
  have m1 : max (0 : Int) (m : Int) = (m : Int) := by omega
  clear h hu k
  by_cases hc : m < u
  · rw [E.out, if_pos hc]
    have hc' : (m : Int) < (u : Int) := by omega
    go_enter Try.func80, Try.ntmps80
    go_wp2_with fail
    refine C.out.mono ?_
    rintro _ w1 ⟨rfl, R, B⟩
    obtain ⟨v2, q, _⟩ := R.out.open_
    obtain ⟨q1, q2, q3, q4, q5⟩ := q.two
    have F := Lib.hid (back_rd q (hr2.out.low B.out) 17)
    clear q
    go_wp2
    go_ret
    exact ⟨rfl, Lib.hid F.out.1, Lib.hid (B.out.trans F.out.2)⟩
  · rw [E.out, if_neg hc]
    have hc' : ¬ (m : Int) < (u : Int) := by omega
    have w2 : wrap64 (u : Int) = (u : Int) := by unfold wrap64; omega
    go_enter Try.func80, Try.ntmps80
    go_wp2_with fail
    refine C.out.mono ?_
    rintro _ w1 ⟨rfl, R, B⟩
    go_wp2
    go_ret
    exact ⟨rfl, R, B⟩
def textS (l : List Int) (e : Int) (m : Nat) : ByteArray × List Int × Int := if (countS l e m).2.2 ≠ 0 then (ByteArray.empty, (countS l e m).2.1, (countS l e m).2.2) else if ((countS l e m).2.1.length : Int) < (countS l e m).1 then (ByteArray.empty, l, 15) else (strOfNums ((countS l e m).2.1.take (countS l e m).1.toNat), (countS l e m).2.1.drop (countS l e m).1.toNat, 0)
set_option maxHeartbeats 2000000 in
set_option maxRecDepth 100000 in
theorem text_any (g : Nat) (l : List Int) (e : Int) (m : Nat) (w : World) (h : Rd w g l e) (hb : ByteL l) (hl : l.length ≤ 1000000000) (hm : m ≤ 9223372036854775807) :
    Calls Try.prog 50 #[.pointer (some ⟨g, 0, none⟩), .int .i64 m] w (RdOut w g (textS l e m).2.1 (textS l e m).2.2 (.string (textS l e m).1)) := by
  have C := Lib.hid (count_any g l e m w h hb hl hm)
  obtain ⟨u, hu, hu2⟩ := countS_nat l e m hb
  obtain ⟨hs1, hs2⟩ := countS_sub l e m
  obtain ⟨v, k, hr⟩ := h.open_
  obtain ⟨k1, k2, k3, k4, k5⟩ := k.two
  have hr2 := Lib.hid hr
  obtain ⟨a, c, rfl, _⟩ := hr
  have E : Hid (textS l e m = if (countS l e m).2.2 ≠ 0 then (ByteArray.empty, (countS l e m).2.1, (countS l e m).2.2) else if (countS l e m).2.1.length < u then (ByteArray.empty, l, 15) else (strOfNums ((countS l e m).2.1.take u), (countS l e m).2.1.drop u, 0)) := Lib.hid (by
    unfold textS
    rw [hu]
    by_cases h1 : (countS l e m).2.2 ≠ 0
    · rw [if_pos h1, if_pos h1]
    · rw [if_neg h1, if_neg h1]
      by_cases hc : (countS l e m).2.1.length < u
      · rw [if_pos hc, if_pos (by omega)]
      · rw [if_neg hc, if_neg (by omega), Int.toNat_natCast])
  rw [hu] at C
  generalize (countS l e m).2.1 = l2 at *
  generalize (countS l e m).2.2 = e2 at *
  clear h hu k
  by_cases he : e2 = 0
  · subst he
    rw [if_neg (by simp)] at E
    by_cases hc : l2.length < u
    · rw [if_pos hc] at E
      rw [E.out]
      have hc' : (l2.length : Int) < (u : Int) := by omega
      clear hc hs2
      go_enter Try.func50, Try.ntmps50
      go_wp2_with fail
      refine C.out.mono ?_
      rintro _ w1 ⟨rfl, R, B⟩
      obtain ⟨v2, q, hr3⟩ := R.out.open_
      obtain ⟨a2, c2, rfl, _⟩ := hr3
      obtain ⟨q1, q2, q3, q4, q5⟩ := q.two
      have F := Lib.hid (back_rd q (hr2.out.low B.out) 15)
      clear q
      go_wp2
      go_ret
      exact ⟨rfl, Lib.hid F.out.1, Lib.hid (B.out.trans F.out.2)⟩
    · rw [if_neg hc] at E
      rw [E.out]
      have hc' : (u : Int) ≤ (l2.length : Int) := by omega
      have hcn : u ≤ l2.length := by omega
      clear hc hs2
      go_enter Try.func50, Try.ntmps50
      go_wp2_with fail
      refine C.out.mono ?_
      rintro _ w1 ⟨rfl, R, B⟩
      obtain ⟨v2, q, hr3⟩ := R.out.open_
      obtain ⟨a2, c2, rfl, h1, h2, h3, h4, h5⟩ := hr3
      obtain ⟨q1, q2, q3, q4, q5⟩ := q.two
      have K := Lib.hid q
      clear q
      have hlen : (l2.drop u).length = l2.length - u := List.length_drop
      have h2' : (u : Int) ≤ (c2 : Int) := by omega
      have h2'' : (l2.length : Int) ≤ (c2 : Int) := by omega
      rcases a2 with _ | ⟨b, off, p⟩
      · have hc0 := h1 rfl
        subst hc0
        obtain rfl : l2 = [] := List.eq_nil_of_length_eq_zero (by omega)
        obtain rfl : u = 0 := by simpa using hcn
        have hcv := fun (w : World) => Lib.run_convert_nil_bytes (P := Try.prog) w 53 9 5 0 Try.underlying53 Try.underlying5 Try.underlying9
        have F : Hid (Rd (w1.setCell ⟨g, 0, none⟩ (.slice none 0 0)) g [] 0 ∧ Below g w1 (w1.setCell ⟨g, 0, none⟩ (.slice none 0 0))) := Lib.hid ⟨⟨none, 0, K.out.set 0 _, fun _ => rfl, by simp, by omega, fun j hj => by simp at hj, fun ad e => by simp at e⟩, (Below.refl g w1).setCell (Nat.le_refl _) _⟩
        clear h4 h5 h1
        go_wp2
        go_ret
        exact ⟨rfl, Lib.hid F.out.1, Lib.hid (B.out.trans F.out.2)⟩
      · obtain rfl : p = none := by
          obtain ⟨b', off', e, _⟩ := h5 _ rfl
          injection e
        have hcv : ∀ W, Below g w1 W → (convert 53 9 (.slice (some ⟨b, off, none⟩) u c2)).run Try.prog W = .ok (.string (strOfNums (l2.take u))) W := fun W hW => run_convert_bytes_arg W 53 5 Try.underlying53 Try.underlying5 b off u c2 (l2.take u) (by simp; omega) (fun j hj => by
          obtain ⟨b', off', e', hcell⟩ := (h4.low h5 hW) j (by omega)
          injection e' with e'; injection e' with e1 e2; subst e1 e2
          rw [hcell, getD_take, if_pos hj]) 9 Try.underlying9
        have hcv1 := hcv w1 (Below.refl _ _)
        have F : Hid (∀ v', v' = Value.slice (if c2 = u then some ⟨b, off, none⟩ else some ⟨b, off + u, none⟩) (l2.length - u) (c2 - u) → Rd (w1.setCell ⟨g, 0, none⟩ v') g (l2.drop u) 0 ∧ Below g w1 (w1.setCell ⟨g, 0, none⟩ v')) := Lib.hid (fun v' e => by
          subst e
          refine ⟨⟨(if c2 = u then some ⟨b, off, none⟩ else some ⟨b, off + u, none⟩), c2 - u, ?_, ?_, ?_, by omega, ?_, ?_⟩, (Below.refl g w1).setCell (Nat.le_refl _) _⟩
          · rw [hlen]; exact K.out.set 0 _
          · intro h; split at h <;> simp at h
          · omega
          · refine IntRow.low (B := g) (IntRow.drop h4 h2) h5.cut ((Below.refl g w1).setCell (Nat.le_refl _) _)
          · exact h5.cut)
        clear h4 h5 h1 hcv
        go_wp2
        · rename_i h
          have F1 := F.out (Value.slice (some ⟨b, off, none⟩) (l2.length - u) 0) (by rw [if_pos h, h, Nat.sub_self])
          go_ret
          exact ⟨rfl, Lib.hid F1.1, Lib.hid (B.out.trans F1.2)⟩
        · rename_i h
          have F1 := F.out _ (by rw [if_neg h])
          go_ret
          exact ⟨rfl, Lib.hid F1.1, Lib.hid (B.out.trans F1.2)⟩
  · rw [if_pos he] at E
    rw [E.out]
    have hne : (e2 != 0) = true := by simp [he]
    clear he
    go_enter Try.func50, Try.ntmps50
    go_wp2_with fail
    refine C.out.mono ?_
    rintro _ w1 ⟨rfl, R, B⟩
    obtain ⟨v2, q, hr3⟩ := R.out.open_
    obtain ⟨q1, q2, q3, q4, q5⟩ := q.two
    clear q hr3
    go_wp2
    go_ret
    exact ⟨rfl, R, B⟩
end Go.Proofs.Ytpmoidpncpfnlaa
