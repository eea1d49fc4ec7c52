/- code.New, (*code.Reader).Uint, Int: for every input. -/
import Derived.Test.YtpmoidpncpfnlaaCodeF
import Derived.Lib.SlBytesRow
import Derived.Lib.BufferRead
namespace Go.Proofs.Ytpmoidpncpfnlaa
open Go.RowKit
set_option linter.unusedVariables false

set_option maxHeartbeats 400000 in
theorem clone_any (v : Value) (l : List Int) (w : World) (h : BytesAt w v l) (hl : l.length ≤ 1000000000) :
    Calls Try.prog 77 #[v] w (NewBytes l w) := by
  obtain ⟨i0, hi, hz0, hz1, hz2⟩ := info_parts info_uint8
  obtain ⟨a, c, rfl, ha, hlc, hc, hr⟩ := h
  have hnil := fun (w : World) (a : Option Addr) (n c : Nat) => Lib.run_eql_slice_nil (P := Try.prog) w 53 5 a n c 0 0 Try.underlying53
  rcases a with _ | ad
  · have hc0 := ha rfl
    have hl0 : l = [] := by cases l with
      | nil => rfl
      | cons y ys => rw [hc0] at hlc; simp at hlc
    subst hc0 hl0
    go_enter Try.func77, Try.ntmps77
    go_wp2
    go_ret
    exact ⟨_, rfl, World.ownsRow_nil _ _ _ _, Below.refl _ _⟩
  · have HR := Lib.hid (hr.alloc (Obj.cells #[] 5))
    have hc1 : 0 + l.length ≤ maxLen := by unfold maxLen; omega
    have hc2 : (0 + l.length) * 1 ≤ 140737488355328 := by omega
    have hown : Hid ((w.alloc (Obj.cells #[] 5)).ownsRow w.heap.size 5 1 (.slice (some ⟨w.heap.size, 0, none⟩) 0 0) 0 []) := Lib.hid (World.ownsRow_made _ #[] 0 (Nat.le_refl _) (by unfold maxLen; omega) rfl)
    have hbel : Hid (Below w.heap.size w (w.alloc (Obj.cells #[] 5))) := Lib.hid ((Below.refl _ _).alloc (Nat.le_refl _) _)
    have HA := Lib.hid ha
    clear hr ha hlc hc
    go_enter Try.func77, Try.ntmps77
    go_wp2_with (at_builtin; refine wpList_appendInts rfl _ _ 53 rfl w 5 i0 (.int .u8 0) 1 Try.underlying53 hi hz0 hz1 hz2 rfl _ 0 [] rfl hown.out .u8 (some ad) c l rfl HA.out HR.out hc1 hc2 hbel.out ?_)
    intro v' w1 hown' hbel'
    have Hown' := Lib.hid hown'
    have Hbel' := Lib.hid hbel'
    clear hown' hbel'
    go_wp2
    go_ret
    exact ⟨_, rfl, by simpa using Hown'.out, Hbel'.out⟩
/-- an address below block g -/
def LowA (a : Option Addr) (g : Nat) : Prop := ∀ ad, a = some ad → ∃ b off, ad = ⟨b, off, none⟩ ∧ b < g
theorem LowA.lt {b off g : Nat} (h : LowA (some ⟨b, off, none⟩) g) : b < g := by
  obtain ⟨b', off', e, h⟩ := h _ rfl
  injection e with e1 e2
  omega
theorem LowA.mono {a : Option Addr} {g g' : Nat} (h : LowA a g) (hg : g ≤ g') : LowA a g' := fun ad e => by
  obtain ⟨b, off, e, h⟩ := h ad e
  exact ⟨b, off, e, by omega⟩
theorem LowA.cut {b off g u : Nat} {p : Prop} [Decidable p] (h : LowA (some ⟨b, off, none⟩) g) : LowA (if p then some ⟨b, off, none⟩ else some ⟨b, off + u, none⟩) g := fun ad e => by
  have := h.lt
  split at e <;> (injection e with e; subst e; exact ⟨_, _, rfl, this⟩)
/-- a reader at block g: what is left, and its error -/
def Rd (w : World) (g : Nat) (l : List Int) (e : Int) : Prop := ∃ a c, Kept w g #[.slice a l.length c, .int .i64 e] 126 ∧ (a = none → c = 0) ∧ l.length ≤ c ∧ c ≤ 9223372036854775807 ∧ IntRow w a .u8 l ∧ LowA a g
theorem IntRow.low {w w' : World} {a : Option Addr} {k : IntKind} {d : List Int} {B : Nat} (h : IntRow w a k d) (ha : LowA a B) (hb : Below B w w') : IntRow w' a k d := fun j hj => by
  obtain ⟨b, off, e, hc⟩ := h j hj
  refine ⟨b, off, e, ?_⟩
  rw [← hc]
  simp only [World.cell?]
  rw [hb.block b (by subst e; exact ha.lt)]
theorem Rd.below {w w' : World} {g : Nat} {l : List Int} {e : Int} (h : Rd w g l e) {B : Nat} (hb : Below B w w') (hg : g < B) : Rd w' g l e := by
  obtain ⟨a, c, k, h1, h2, h3, h4, h5⟩ := h
  exact ⟨a, c, k.below hb hg, h1, h2, h3, h4.low (h5.mono (Nat.le_of_lt hg)) hb, h5⟩
theorem Rd.lt {w : World} {g : Nat} {l : List Int} {e : Int} (h : Rd w g l e) : g < w.heap.size := by
  obtain ⟨a, c, k, _⟩ := h
  exact k.lt
def RdOut (w : World) (g : Nat) (l : List Int) (e : Int) (v : Value) (en : Ending) (w' : World) : Prop := en = .returned v ∧ Hid (Rd w' g l e) ∧ Hid (Below g w w')
def uintS (l : List Int) (e : Int) : Int × List Int × Int := if e ≠ 0 then (0, l, e) else if (fstF 0 0 l).2.2 ≠ 0 then (0, l, (fstF 0 0 l).2.2) else ((fstF 0 0 l).1, l.drop (fstF 0 0 l).2.1.toNat, 0)
def NewOut (l : List Int) (w : World) (e : Ending) (w' : World) : Prop := ∃ g, e = .returned (.pointer (some ⟨g, 0, none⟩)) ∧ w.heap.size ≤ g ∧ Hid (Rd w' g l 0) ∧ Hid (Below w.heap.size w w')
set_option maxHeartbeats 1000000 in
theorem new_any (v : Value) (l : List Int) (w : World) (h : BytesAt w v l) (hl : l.length ≤ 1000000000) :
    Calls Try.prog 46 #[v] w (NewOut l w) := by
  have C := Lib.hid (clone_any v l w h hl)
  clear h
  go_enter Try.func46, Try.ntmps46
  go_wp2_with fail
  refine C.out.mono ?_
  rintro e w1 ⟨v1, rfl, ho, hb⟩
  obtain ⟨a, cap0, rfl, e2, e3, e4, e5, e6⟩ := IntRow.ownK ho
  have hbk : LowA a w1.heap.size := fun ad e => by
    subst e
    rcases ho.2 with ⟨h0, _⟩ | ⟨g, cap, cur, hv, hbb, hh, _⟩
    · simp at h0
    · injection hv with hv
      injection hv with hv
      subst hv
      exact ⟨g, 0, rfl, (Array.getElem?_eq_some_iff.1 hh).1⟩
  have F : Hid (NewOut l w (.returned (.pointer (some ⟨w1.heap.size, 0, none⟩))) (w1.alloc (.cells #[.slice a l.length cap0, .int .i64 0] 126))) := Lib.hid ⟨w1.heap.size, rfl, hb.size, Lib.hid ⟨a, cap0, Kept.new rfl, e5, e3, e4, e6.alloc _, hbk⟩, Lib.hid (hb.alloc hb.size _)⟩
  clear ho hb hbk e2 e3 e4 e5 e6
  go_wp2
  go_ret
  exact F.out
set_option maxHeartbeats 1000000 in
theorem uint_any (g : Nat) (l : List Int) (e : Int) (w : World) (h : Rd w g l e) (hb : ByteL l) (hl : l.length ≤ 1000000000) :
    Calls Try.prog 78 #[.pointer (some ⟨g, 0, none⟩)] w (RdOut w g (uintS l e).2.1 (uintS l e).2.2 (.int .u64 (uintS l e).1)) := by
  obtain ⟨a, c, k, h1, h2, h3, h4, h5⟩ := h
  have C := Lib.hid (first_any a c l w h4 hb (by omega))
  have cs := fst_case l hb
  have K := Lib.hid k
  obtain ⟨k1, k2, k3, k4, k5⟩ := k.two
  have R0 : Hid (Rd w g l e) := Lib.hid ⟨a, c, K.out, h1, h2, h3, h4, h5⟩
  by_cases he : e = 0
  · subst he
    rcases cs with ⟨v, n, ef, n1, n2, n3, v1, _⟩ | ef | ef
    · have hu : uintS l 0 = ((v : Int), l.drop n, 0) := by simp [uintS, ef]
      rw [hu]
      have hne : a ≠ none := fun e => by have := h1 e; omega
      obtain ⟨ad, rfl⟩ := Option.ne_none_iff_exists'.1 hne
      obtain ⟨b, off, e1, _⟩ := h4 0 (by omega)
      injection e1 with e1
      subst e1
      have hlen : (l.drop n).length = l.length - n := List.length_drop
      have F : Hid (∀ v', v' = Value.slice (if c = n then some ⟨b, off, none⟩ else some ⟨b, off + n, none⟩) (l.length - n) (c - n) → Rd (w.setCell ⟨g, 0, none⟩ v') g (l.drop n) 0 ∧ Below g w (w.setCell ⟨g, 0, none⟩ v')) := Lib.hid (fun v' e => by
        subst e
        refine ⟨⟨(if c = n then some ⟨b, off, none⟩ else some ⟨b, off + n, none⟩), c - n, ?_, ?_, ?_, by omega, ?_, ?_⟩, (Below.refl g w).setCell (Nat.le_refl _) _⟩
        · rw [hlen]; exact K.out.set 0 _
        · intro h; split at h <;> simp at h
        · omega
        · refine IntRow.low (B := g) (IntRow.drop h4 h2) h5.cut ((Below.refl g w).setCell (Nat.le_refl _) _)
        · exact h5.cut)
      have EF := Lib.hid ef
      have n2' : (n : Int) ≤ (l.length : Int) := by omega
      have n3' : (l.length : Int) ≤ (c : Int) := by omega
      clear ef hu h4 h5 h1 hne R0
      go_enter Try.func78, Try.ntmps78
      go_wp2_with fail
      refine C.out.mono ?_
      rintro _ _ ⟨rfl, rfl⟩
      rw [EF.out]
      go_wp2
      · rename_i h
        have F1 := F.out (Value.slice (some ⟨b, off, none⟩) (l.length - n) 0) (by rw [if_pos h, h, Nat.sub_self])
        go_ret
        exact ⟨rfl, Lib.hid F1.1, Lib.hid F1.2⟩
      · rename_i h
        have F1 := F.out _ (by rw [if_neg h])
        go_ret
        exact ⟨rfl, Lib.hid F1.1, Lib.hid F1.2⟩
    all_goals
      have hu : uintS l 0 = (0, l, (fstF 0 0 l).2.2) := by simp [uintS, ef]
      rw [hu, ef]
      have F : Hid (∀ e', Rd (w.setCell ⟨g, 1, none⟩ (.int .i64 e')) g l e' ∧ Below g w (w.setCell ⟨g, 1, none⟩ (.int .i64 e'))) := Lib.hid (fun e' => by
        have hw : Below g w (w.setCell ⟨g, 1, none⟩ (.int .i64 e')) := (Below.refl g w).setCell (Nat.le_refl _) _
        exact ⟨⟨a, c, K.out.set 1 _, h1, h2, h3, h4.low h5 hw, h5⟩, hw⟩)
      have EF := Lib.hid ef
      clear ef hu h4 h5 h1 R0
      go_enter Try.func78, Try.ntmps78
      go_wp2_with fail
      refine C.out.mono ?_
      rintro _ _ ⟨rfl, rfl⟩
      rw [EF.out]
      go_wp2
      go_ret
      exact ⟨rfl, Lib.hid (F.out _).1, Lib.hid (F.out _).2⟩
  · have hu : uintS l e = (0, l, e) := by simp [uintS, he]
    rw [hu]
    have hne : (e != 0) = true := by simp [he]
    clear cs hu h4 h5 h1 he
    go_enter Try.func78, Try.ntmps78
    go_wp2
    go_ret
    exact ⟨rfl, R0, Lib.hid (Below.refl _ _)⟩
theorem drop_bytes {l : List Int} (h : ByteL l) (n : Nat) : ByteL (l.drop n) := fun x hx => h x (List.mem_of_mem_drop hx)
theorem uintS_sub (l : List Int) (e : Int) : (uintS l e).2.1.length ≤ l.length ∧ (ByteL l → ByteL (uintS l e).2.1) := by
  unfold uintS
  split
  · exact ⟨Nat.le_refl _, id⟩
  · split
    · exact ⟨Nat.le_refl _, id⟩
    · exact ⟨by simp, fun h => drop_bytes h _⟩
theorem uintS_nat (l : List Int) (e : Int) (h : ByteL l) : ∃ u : Nat, (uintS l e).1 = u ∧ u < 18446744073709551616 := by
  unfold uintS
  split
  · exact ⟨0, rfl, by omega⟩
  · rcases fst_case l h with ⟨v, n, ef, n1, n2, n3, v1, _⟩ | ef | ef
    · rw [ef]; exact ⟨v, by simp, v1⟩
    · rw [ef]; exact ⟨0, by simp, by omega⟩
    · rw [ef]; exact ⟨0, by simp, by omega⟩
set_option maxHeartbeats 1000000 in
theorem int_any (g : Nat) (l : List Int) (e : Int) (w : World) (h : Rd w g l e) (hb : ByteL l) (hl : l.length ≤ 1000000000) :
    Calls Try.prog 48 #[.pointer (some ⟨g, 0, none⟩)] w (RdOut w g (uintS l e).2.1 (uintS l e).2.2 (.int .i64 (unzig (uintS l e).1))) := by
  have C := Lib.hid (uint_any g l e w h hb hl)
  obtain ⟨u, hu, hu2⟩ := uintS_nat l e hb
  rw [hu] at C ⊢
  have D := Lib.hid (fun W => unturn_any u W hu2)
  generalize (uintS l e).2.1 = l2 at *
  generalize (uintS l e).2.2 = e2 at *
  clear h hu
  go_enter Try.func48, Try.ntmps48
  go_wp2_with fail
  refine C.out.mono ?_
  rintro _ w1 ⟨rfl, R, B⟩
  go_wp2_with fail
  refine (D.out _).mono ?_
  rintro _ _ ⟨rfl, rfl⟩
  go_wp2
  go_ret
  exact ⟨rfl, R, B⟩
def endS (l : List Int) (e : Int) : Int := if e = 0 ∧ l ≠ [] then 10 else e
theorem setRd {w : World} {g : Nat} {l : List Int} {e : Int} (h : Rd w g l e) (e' : Int) : Rd (w.setCell ⟨g, 1, none⟩ (.int .i64 e')) g l e' ∧ Below g w (w.setCell ⟨g, 1, none⟩ (.int .i64 e')) := by
  obtain ⟨a, c, k, h1, h2, h3, h4, h5⟩ := h
  have hw : Below g w (w.setCell ⟨g, 1, none⟩ (.int .i64 e')) := (Below.refl g w).setCell (Nat.le_refl _) _
  exact ⟨⟨a, c, k.set 1 _, h1, h2, h3, h4.low h5 hw, h5⟩, hw⟩
theorem setRd_read {w : World} {g : Nat} {l : List Int} {e : Int} (h : Rd w g l e) (e' : Int) : (w.setCell ⟨g, 1, none⟩ (.int .i64 e')).cell? ⟨g, 1, none⟩ = some (.int .i64 e') := by
  obtain ⟨a, c, k, h1, h2, h3, h4, h5⟩ := h
  exact ((k.set 1 _).two).2.1
set_option maxHeartbeats 1000000 in
theorem end_any (g : Nat) (l : List Int) (e : Int) (w : World) (h : Rd w g l e) : Calls Try.prog 52 #[.pointer (some ⟨g, 0, none⟩)] w (RdOut w g l (endS l e) (.int .i64 (endS l e))) := by
  have F := Lib.hid (setRd h 10)
  have G := setRd_read h 10
  have H := Lib.hid h
  obtain ⟨a, c, k, h1, h2, h3, h4, h5⟩ := h
  obtain ⟨k1, k2, k3, k4, k5⟩ := k.two
  clear k h1 h4 h5
  have hr : ∀ e' w', endS l e = e' → Rd w' g l e' → Below g w w' → RdOut w g l (endS l e) (.int .i64 (endS l e)) (.returned (.int .i64 e')) w' := fun e' w' h1 h2 h3 => ⟨by rw [h1], Lib.hid (by rw [h1]; exact h2), Lib.hid h3⟩
  have Hr := Lib.hid hr
  clear hr
  by_cases he : e = 0
  · subst he
    by_cases hl : l = []
    · subst hl
      have E : Hid (endS [] 0 = 0) := Lib.hid (by simp [endS])
      go_enter Try.func52, Try.ntmps52
      go_wp2
      go_ret
      exact Hr.out _ _ E.out H.out (Below.refl _ _)
    · have E : Hid (endS l 0 = 10) := Lib.hid (by simp [endS, hl])
      have hpos : (0 : Int) < (l.length : Int) := by have := List.length_pos_iff.2 hl; omega
      clear hl
      go_enter Try.func52, Try.ntmps52
      go_wp2
      go_ret
      exact Hr.out _ _ E.out F.out.1 F.out.2
  · have E : Hid (endS l e = e) := Lib.hid (by simp [endS, he])
    have hne : (e == 0) = false := by simp [he]
    clear he
    go_enter Try.func52, Try.ntmps52
    go_wp2
    go_ret
    exact Hr.out _ _ E.out H.out (Below.refl _ _)
end Go.Proofs.Ytpmoidpncpfnlaa
