import Derived.Test.YtflplliiamodhaaZLimD
import Derived.Laws.MakeOwn
/- noonmarkref01: Add: for all numbers that lie in memory. -/
namespace Go.Proofs.Ytflplliiamodhaa
open Go.RowKit
set_option linter.unusedVariables false

theorem box6 {w w2 : World} {x0 x1 y0 y1 r0 r1 : Value} {T : TypeId} (hb : Below (((w.alloc (.cells #[x0, x1] T)).alloc (.cells #[y0, y1] T)).alloc (.cells #[r0, r1] T)).heap.size (((w.alloc (.cells #[x0, x1] T)).alloc (.cells #[y0, y1] T)).alloc (.cells #[r0, r1] T)) w2) :
    w2.cell? ⟨w.heap.size, 0, none⟩ = some x0 ∧ w2.cell? ⟨w.heap.size, 1, none⟩ = some x1 ∧ w2.cell? ⟨w.heap.size + 1, 0, none⟩ = some y0 ∧ w2.cell? ⟨w.heap.size + 1, 1, none⟩ = some y1 ∧
    w2.cell? ⟨w.heap.size + 2, 0, none⟩ = some r0 ∧ w2.cell? ⟨w.heap.size + 2, 1, none⟩ = some r1 ∧ w2.frozen? ⟨w.heap.size + 2, 0, none⟩ = false ∧ w2.frozen? ⟨w.heap.size + 2, 1, none⟩ = false ∧ w.heap.size + 3 ≤ w2.heap.size ∧ Below w.heap.size w w2 := by
  refine ⟨?_, ?_, ?_, ?_, ?_, ?_, ?_, ?_, by have := hb.size; simp at this; omega, Below.unalloc (Below.unalloc (Below.unalloc hb))⟩
  · rw [hb.cell (p := ⟨w.heap.size, 0, none⟩) (by simp; omega), World.cell?_alloc_past _ _ _ (by simp; omega), World.cell?_alloc_past _ _ _ (by simp), World.cell?_alloc_at _ _ _ _ rfl]; rfl
  · rw [hb.cell (p := ⟨w.heap.size, 1, none⟩) (by simp; omega), World.cell?_alloc_past _ _ _ (by simp; omega), World.cell?_alloc_past _ _ _ (by simp), World.cell?_alloc_at _ _ _ _ rfl]; rfl
  · rw [hb.cell (p := ⟨w.heap.size + 1, 0, none⟩) (by simp), World.cell?_alloc_past _ _ _ (by simp), World.cell?_alloc_at _ _ _ _ (by simp)]; rfl
  · rw [hb.cell (p := ⟨w.heap.size + 1, 1, none⟩) (by simp), World.cell?_alloc_past _ _ _ (by simp), World.cell?_alloc_at _ _ _ _ (by simp)]; rfl
  · rw [hb.cell (p := ⟨w.heap.size + 2, 0, none⟩) (by simp), World.cell?_alloc_at _ _ _ _ (by simp)]; rfl
  · rw [hb.cell (p := ⟨w.heap.size + 2, 1, none⟩) (by simp), World.cell?_alloc_at _ _ _ _ (by simp)]; rfl
  · rw [hb.frozen (p := ⟨w.heap.size + 2, 0, none⟩) (by simp)]; exact World.frozen?_alloc_at _ _ _ _ (by simp)
  · rw [hb.frozen (p := ⟨w.heap.size + 2, 1, none⟩) (by simp)]; exact World.frozen?_alloc_at _ _ _ _ (by simp)
/-- a number is stored into the two cells that were laid for it -/
theorem num_stored_at {w w2 : World} {v : Value} {z : Int} {x y p q : Value} {b : Nat} (hb : Below w.heap.size w w2) (hn : NumAt w2 v z) (b1 : w2.cell? ⟨b, 0, none⟩ = some x) (b2 : w2.cell? ⟨b, 1, none⟩ = some y) (hx : ∀ z, x ≠ .int .i64 z) (hy : ∀ z, y ≠ .int .i64 z) (hlt : w.heap.size ≤ b) :
    NumOut z w (.returned v) ((w2.setCell ⟨b, 0, none⟩ p).setCell ⟨b, 1, none⟩ q) :=
  ⟨v, rfl, (hn.setCell b1 hx p).setCell ((World.cell?_setCell_other _ _ _ _ (by simp)).trans b2) hy q, (hb.setCell hlt _).setCell hlt _⟩
/-- what lies in the three boxes of a call of Add, in a world behind them -/
structure Boxes (w W w2 : World) (x0 x1 y0 y1 : Value) : Prop where
  c1 : w2.cell? ⟨w.heap.size, 0, none⟩ = some x0
  c2 : w2.cell? ⟨w.heap.size, 1, none⟩ = some x1
  c3 : w2.cell? ⟨w.heap.size + 1, 0, none⟩ = some y0
  c4 : w2.cell? ⟨w.heap.size + 1, 1, none⟩ = some y1
  c5 : w2.cell? ⟨w.heap.size + 2, 0, none⟩ = some (.bool false)
  c6 : w2.cell? ⟨w.heap.size + 2, 1, none⟩ = some (.slice none 0 0)
  c7 : w2.frozen? ⟨w.heap.size + 2, 0, none⟩ = false
  c8 : w2.frozen? ⟨w.heap.size + 2, 1, none⟩ = false
  lt : w.heap.size + 3 ≤ w2.heap.size
  low : Below w.heap.size w w2
  below : Below W.heap.size W w2
theorem boxes_of {w w2 : World} {x0 x1 y0 y1 : Value} {T : TypeId} (hb : Below (((w.alloc (.cells #[x0, x1] T)).alloc (.cells #[y0, y1] T)).alloc (.cells #[.bool false, .slice none 0 0] T)).heap.size (((w.alloc (.cells #[x0, x1] T)).alloc (.cells #[y0, y1] T)).alloc (.cells #[.bool false, .slice none 0 0] T)) w2) :
    Boxes w (((w.alloc (.cells #[x0, x1] T)).alloc (.cells #[y0, y1] T)).alloc (.cells #[.bool false, .slice none 0 0] T)) w2 x0 x1 y0 y1 := by
  obtain ⟨a1, a2, a3, a4, a5, a6, a7, a8, a9, a10⟩ := box6 hb
  exact ⟨a1, a2, a3, a4, a5, a6, a7, a8, a9, a10, hb⟩
theorem Boxes.next {w W w2 w3 : World} {x0 x1 y0 y1 : Value} (h : Boxes w W w2 x0 x1 y0 y1) (hb : Below w2.heap.size w2 w3) : Boxes w W w3 x0 x1 y0 y1 := by
  have l := h.lt
  exact ⟨(hb.cell (by simp; omega)).trans h.c1, (hb.cell (by simp; omega)).trans h.c2, (hb.cell (by simp; omega)).trans h.c3, (hb.cell (by simp; omega)).trans h.c4, (hb.cell (by simp; omega)).trans h.c5, (hb.cell (by simp; omega)).trans h.c6,
    (hb.frozen (by simp; omega)).trans h.c7, (hb.frozen (by simp; omega)).trans h.c8, Nat.le_trans l hb.size, h.low.trans (hb.mono (by omega)), h.below.trans (hb.mono h.below.size)⟩
theorem Boxes.drewN {w W w2 : World} {x0 x1 y0 y1 : Value} (h : Boxes w W w2 x0 x1 y0 y1) (n : Nat) : Boxes w W (w2.drewN n) x0 x1 y0 y1 :=
  ⟨h.c1, h.c2, h.c3, h.c4, h.c5, h.c6, h.c7, h.c8, h.lt, below_drewN h.low n, below_drewN h.below n⟩
def LimbsMid (z : Int) (w W : World) (x0 x1 y0 y1 : Value) (e : Ending) (w' : World) : Prop := ∃ a cap d, e = .returned (.slice a (d : List Int).length cap) ∧ Hid (IntRow w' a .i64 d ∧ Dig d ∧ nv d = z ∧ (a = none → cap = 0)) ∧ d.length ≤ cap ∧ cap ≤ 9223372036854775807 ∧ Hid (Boxes w W w' x0 x1 y0 y1)
def NumMid (z : Int) (w W : World) (x0 x1 y0 y1 : Value) (e : Ending) (w' : World) : Prop := ∃ neg a cap n, e = .returned (.agg #[.bool neg, .slice a n cap]) ∧ Hid (NumAt w' (.agg #[.bool neg, .slice a n cap]) z) ∧ Hid (Boxes w W w' x0 x1 y0 y1)
theorem LimbsOut.mid {z : Int} {w W w2 w3 : World} {x0 x1 y0 y1 : Value} {e : Ending} (h : LimbsOut z w2 e w3) (hb : Boxes w W w2 x0 x1 y0 y1) : LimbsMid z w W x0 x1 y0 y1 e w3 := by
  obtain ⟨v, d, rfl, ⟨a, cap, rfl, hr, h1, h2, h3, h4⟩, ht, hn, hB⟩ := h
  exact ⟨a, cap, d, rfl, Lib.hid ⟨hr, h4, hn, h3⟩, h1, h2, Lib.hid (hb.next hB)⟩
theorem NumOut.mid {z : Int} {w W w2 w3 : World} {x0 x1 y0 y1 : Value} {e : Ending} (h : NumOut z w2 e w3) (hb : Boxes w W w2 x0 x1 y0 y1) : NumMid z w W x0 x1 y0 y1 e w3 := by
  obtain ⟨v, rfl, hn, hB⟩ := h
  have hn' := hn
  obtain ⟨neg, l, d, rfl, ⟨a, cap, rfl, -⟩, -⟩ := hn
  exact ⟨neg, a, cap, _, rfl, Lib.hid hn', Lib.hid (hb.next hB)⟩
def AddRes (z : Int) (w : World) (e : Ending) (w' : World) : Prop := NumOut z w e w'
theorem add_end {z : Int} {w W w2 : World} {x0 x1 y0 y1 p q : Value} {v : Value} (hn : NumAt w2 v z) (hb : Boxes w W w2 x0 x1 y0 y1) :
    AddRes z w (.returned v) ((w2.setCell ⟨w.heap.size + 2, 0, none⟩ p).setCell ⟨w.heap.size + 2, 1, none⟩ q) :=
  num_stored_at hb.low hn hb.c5 hb.c6 (by simp) (by simp) (by omega)
set_option maxHeartbeats 2000000 in
theorem add_num_same (neg : Bool) (xa ya : Option Addr) (xc yc : Nat) (a b : List Int) (z : Int) (w : World) (hx : IntRow w xa .i64 a) (hy : IntRow w ya .i64 b) (da : Dig a) (db : Dig b) (la : a.length ≤ 100000) (lb : b.length ≤ 100000)
    (hz : sg (nv a + nv b) neg = z) :
    Calls Try.prog 54 #[.agg #[.bool neg, .slice xa a.length xc], .agg #[.bool neg, .slice ya b.length yc]] w fun e w' => AddRes z w e w' := by
  obtain ⟨W, hW⟩ : ∃ W, ((w.alloc (.cells #[.bool neg, .slice xa a.length xc] 93)).alloc (.cells #[.bool neg, .slice ya b.length yc] 93)).alloc (.cells #[.bool false, .slice none 0 0] 93) = W := ⟨_, rfl⟩
  have hWb : Below w.heap.size w W := by rw [← hW]; exact (((Below.refl _ _).alloc (Nat.le_refl _) _).alloc (by simp) _).alloc (by simp; omega) _
  have B0 : Hid (Boxes w W W (.bool neg) (.slice xa a.length xc) (.bool neg) (.slice ya b.length yc)) := Lib.hid (by have := boxes_of (w := w) (x0 := .bool neg) (x1 := .slice xa a.length xc) (y0 := .bool neg) (y1 := .slice ya b.length yc) (T := 93) (Below.refl _ _); rw [hW] at this; exact this)
  have Cp : Hid (∀ n, Calls Try.prog 75 #[.slice xa a.length xc, .slice ya b.length yc] (W.drewN n) (LimbsMid (nv a + nv b) w W (.bool neg) (.slice xa a.length xc) (.bool neg) (.slice ya b.length yc))) :=
    Lib.hid fun n => (plus_any xa ya xc yc a b (W.drewN n) (hx.below (below_drewN hWb n)) (hy.below (below_drewN hWb n)) da db (by omega) (by omega)).mono fun e w' h => h.mid (B0.out.drewN n)
  have Cm : Hid (∀ (c : Option Addr) (cap : Nat) (d : List Int) (w2 : World), Hid (IntRow w2 c .i64 d ∧ Dig d ∧ nv d = nv a + nv b ∧ (c = none → cap = 0)) → d.length ≤ cap → cap ≤ 9223372036854775807 → Hid (Boxes w W w2 (.bool neg) (.slice xa a.length xc) (.bool neg) (.slice ya b.length yc)) →
      Calls Try.prog 74 #[.bool neg, .slice c d.length cap] w2 (NumMid z w W (.bool neg) (.slice xa a.length xc) (.bool neg) (.slice ya b.length yc))) :=
    Lib.hid fun c cap d w2 h h1 h2 hb => (made_any neg c cap d w2 h.out.1 h.out.2.1 h1 h2 h.out.2.2.2).mono fun e w' hh => by
      rw [h.out.2.2.1, hz] at hh
      exact hh.mid hb.out
  have HW := Lib.hid hW
  clear hW hWb hx hy hz
  go_enter Try.func54, Try.ntmps54
  go_wp2
  rw [HW.out]
  obtain ⟨c1, c2, c3, c4, -⟩ := B0.out
  go_region_held3 (fun w' => w'.cell? ⟨w.heap.size, 0, none⟩ = some (.bool neg) ∧ w'.cell? ⟨w.heap.size, 1, none⟩ = some (.slice xa a.length xc) ∧ w'.cell? ⟨w.heap.size + 1, 0, none⟩ = some (.bool neg) ∧ w'.cell? ⟨w.heap.size + 1, 1, none⟩ = some (.slice ya b.length yc))
    (first | exact ⟨c1', c2', c3', c4'⟩ | exact ⟨set2_far c1' (by first | (simp; done) | (simp; omega)), set2_far c2' (by first | (simp; done) | (simp; omega)), set2_far c3' (by first | (simp; done) | (simp; omega)), set2_far c4' (by first | (simp; done) | (simp; omega))⟩ | go_keep)
    (first | (go_at_call 75; refine (Cp.out 1).mono ?_; rintro e w2 ⟨c, cap, d, rfl, hl, hl1, hl2, hB⟩; obtain ⟨c1', c2', c3', c4', -⟩ := hB.out) | (go_at_call 74; refine (Cm.out _ _ _ _ hl hl1 hl2 hB).mono ?_; rintro e w3 ⟨neg', c', cap', n', rfl, hnum, hB3⟩; obtain ⟨c1', c2', c3', c4', b5, b6, b7, b8, -⟩ := hB3.out))
  all_goals
    obtain ⟨r1, r2⟩ := box2_stored b5 b6 (.bool neg') (.slice c' n' cap')
    go_wp2
    refine bodyPost_ret (v := .agg #[.bool neg', .slice c' n' cap']) (by simp [results, Try.results54, go_sem, r1, r2]) rfl ?_
    exact add_end hnum.out hB3.out
set_option maxHeartbeats 2000000 in
theorem add_num_ge (neg neg2 : Bool) (hne : (neg == neg2) = false) (xa ya : Option Addr) (xc yc : Nat) (a b : List Int) (z : Int) (w : World) (hx : IntRow w xa .i64 a) (hy : IntRow w ya .i64 b) (da : Dig a) (db : Dig b) (ta : Top a) (tb : Top b) (la : a.length ≤ 100000) (lb : b.length ≤ 100000)
    (hab : nv b ≤ nv a) (hz : sg (nv a - nv b) neg = z) :
    Calls Try.prog 54 #[.agg #[.bool neg, .slice xa a.length xc], .agg #[.bool neg2, .slice ya b.length yc]] w fun e w' => AddRes z w e w' := by
  obtain ⟨W, hW⟩ : ∃ W, ((w.alloc (.cells #[.bool neg, .slice xa a.length xc] 93)).alloc (.cells #[.bool neg2, .slice ya b.length yc] 93)).alloc (.cells #[.bool false, .slice none 0 0] 93) = W := ⟨_, rfl⟩
  have hWb : Below w.heap.size w W := by rw [← hW]; exact (((Below.refl _ _).alloc (Nat.le_refl _) _).alloc (by simp) _).alloc (by simp; omega) _
  have B0 : Hid (Boxes w W W (.bool neg) (.slice xa a.length xc) (.bool neg2) (.slice ya b.length yc)) := Lib.hid (by have := boxes_of (w := w) (x0 := .bool neg) (x1 := .slice xa a.length xc) (y0 := .bool neg2) (y1 := .slice ya b.length yc) (T := 93) (Below.refl _ _); rw [hW] at this; exact this)
  have Ca : Hid (∀ n, Calls Try.prog 76 #[.slice xa a.length xc, .slice ya b.length yc] (W.drewN n) fun e w' => e = .returned (.int .i64 (lordI (nv a) (nv b))) ∧ W.drewN n = w') :=
    Lib.hid fun n => above_any xa ya xc yc a b (W.drewN n) (hx.below (below_drewN hWb n)) (hy.below (below_drewN hWb n)) da db (by omega) (by omega)
  have Cp : Hid (∀ n, Calls Try.prog 77 #[.slice xa a.length xc, .slice ya b.length yc] (W.drewN n) (LimbsMid (nv a - nv b) w W (.bool neg) (.slice xa a.length xc) (.bool neg2) (.slice ya b.length yc))) :=
    Lib.hid fun n => (minus_any xa ya xc yc a b (W.drewN n) (hx.below (below_drewN hWb n)) (hy.below (below_drewN hWb n)) da db tb (by omega) (by omega)).mono fun e w' h => h.mid (B0.out.drewN n)
  have Cm : Hid (∀ (c : Option Addr) (cap : Nat) (d : List Int) (w2 : World), Hid (IntRow w2 c .i64 d ∧ Dig d ∧ nv d = nv a - nv b ∧ (c = none → cap = 0)) → d.length ≤ cap → cap ≤ 9223372036854775807 → Hid (Boxes w W w2 (.bool neg) (.slice xa a.length xc) (.bool neg2) (.slice ya b.length yc)) →
      Calls Try.prog 74 #[.bool neg, .slice c d.length cap] w2 (NumMid z w W (.bool neg) (.slice xa a.length xc) (.bool neg2) (.slice ya b.length yc))) :=
    Lib.hid fun c cap d w2 h h1 h2 hb => (made_any neg c cap d w2 h.out.1 h.out.2.1 h1 h2 h.out.2.2.2).mono fun e w' hh => by
      rw [h.out.2.2.1, hz] at hh
      exact hh.mid hb.out
  have HW := Lib.hid hW
  obtain ⟨o, ho, hob⟩ : ∃ o, lordI (nv a) (nv b) = o ∧ 0 ≤ o ∧ o ≤ 1 := ⟨_, rfl, by unfold lordI; (repeat' split) <;> omega⟩
  rw [ho] at Ca
  clear hW hWb hx hy hz ho hab ta tb
  go_enter Try.func54, Try.ntmps54
  obtain ⟨c1, c2, c3, c4, -⟩ := B0.out
  go_wp2_with fail
  rw [HW.out]
  refine (Ca.out 0).mono ?_
  rintro e w1 ⟨rfl, hw1⟩
  have hw1 : W = w1 := hw1
  subst hw1
  go_wp2
  go_region_held3 (fun w' => w'.cell? ⟨w.heap.size, 0, none⟩ = some (.bool neg) ∧ w'.cell? ⟨w.heap.size, 1, none⟩ = some (.slice xa a.length xc) ∧ w'.cell? ⟨w.heap.size + 1, 0, none⟩ = some (.bool neg2) ∧ w'.cell? ⟨w.heap.size + 1, 1, none⟩ = some (.slice ya b.length yc))
    (first | exact ⟨c1', c2', c3', c4'⟩ | exact ⟨set2_far c1' (by first | (simp; done) | (simp; omega)), set2_far c2' (by first | (simp; done) | (simp; omega)), set2_far c3' (by first | (simp; done) | (simp; omega)), set2_far c4' (by first | (simp; done) | (simp; omega))⟩ | go_keep)
    (first | (go_at_call 77; refine (Cp.out 1).mono ?_; rintro e w2 ⟨c, cap, d, rfl, hl, hl1, hl2, hB⟩; obtain ⟨c1', c2', c3', c4', -⟩ := hB.out) | (go_at_call 74; refine (Cm.out _ _ _ _ hl hl1 hl2 hB).mono ?_; rintro e w3 ⟨neg', c', cap', n', rfl, hnum, hB3⟩; obtain ⟨c1', c2', c3', c4', b5, b6, b7, b8, -⟩ := hB3.out))
  all_goals
    obtain ⟨r1, r2⟩ := box2_stored b5 b6 (.bool neg') (.slice c' n' cap')
    go_wp2
    refine bodyPost_ret (v := .agg #[.bool neg', .slice c' n' cap']) (by simp [results, Try.results54, go_sem, r1, r2]) rfl ?_
    exact add_end hnum.out hB3.out
set_option maxHeartbeats 2000000 in
theorem add_num_lt (neg neg2 : Bool) (hne : (neg == neg2) = false) (xa ya : Option Addr) (xc yc : Nat) (a b : List Int) (z : Int) (w : World) (hx : IntRow w xa .i64 a) (hy : IntRow w ya .i64 b) (da : Dig a) (db : Dig b) (ta : Top a) (tb : Top b) (la : a.length ≤ 100000) (lb : b.length ≤ 100000)
    (hab : nv a < nv b) (hz : sg (nv b - nv a) neg2 = z) :
    Calls Try.prog 54 #[.agg #[.bool neg, .slice xa a.length xc], .agg #[.bool neg2, .slice ya b.length yc]] w fun e w' => AddRes z w e w' := by
  obtain ⟨W, hW⟩ : ∃ W, ((w.alloc (.cells #[.bool neg, .slice xa a.length xc] 93)).alloc (.cells #[.bool neg2, .slice ya b.length yc] 93)).alloc (.cells #[.bool false, .slice none 0 0] 93) = W := ⟨_, rfl⟩
  have hWb : Below w.heap.size w W := by rw [← hW]; exact (((Below.refl _ _).alloc (Nat.le_refl _) _).alloc (by simp) _).alloc (by simp; omega) _
  have B0 : Hid (Boxes w W W (.bool neg) (.slice xa a.length xc) (.bool neg2) (.slice ya b.length yc)) := Lib.hid (by have := boxes_of (w := w) (x0 := .bool neg) (x1 := .slice xa a.length xc) (y0 := .bool neg2) (y1 := .slice ya b.length yc) (T := 93) (Below.refl _ _); rw [hW] at this; exact this)
  have Ca : Hid (∀ n, Calls Try.prog 76 #[.slice xa a.length xc, .slice ya b.length yc] (W.drewN n) fun e w' => e = .returned (.int .i64 (lordI (nv a) (nv b))) ∧ W.drewN n = w') :=
    Lib.hid fun n => above_any xa ya xc yc a b (W.drewN n) (hx.below (below_drewN hWb n)) (hy.below (below_drewN hWb n)) da db (by omega) (by omega)
  have Cp : Hid (∀ n, Calls Try.prog 77 #[.slice ya b.length yc, .slice xa a.length xc] (W.drewN n) (LimbsMid (nv b - nv a) w W (.bool neg) (.slice xa a.length xc) (.bool neg2) (.slice ya b.length yc))) :=
    Lib.hid fun n => (minus_any ya xa yc xc b a (W.drewN n) (hy.below (below_drewN hWb n)) (hx.below (below_drewN hWb n)) db da ta (by omega) (by omega)).mono fun e w' h => h.mid (B0.out.drewN n)
  have Cm : Hid (∀ (c : Option Addr) (cap : Nat) (d : List Int) (w2 : World), Hid (IntRow w2 c .i64 d ∧ Dig d ∧ nv d = nv b - nv a ∧ (c = none → cap = 0)) → d.length ≤ cap → cap ≤ 9223372036854775807 → Hid (Boxes w W w2 (.bool neg) (.slice xa a.length xc) (.bool neg2) (.slice ya b.length yc)) →
      Calls Try.prog 74 #[.bool neg2, .slice c d.length cap] w2 (NumMid z w W (.bool neg) (.slice xa a.length xc) (.bool neg2) (.slice ya b.length yc))) :=
    Lib.hid fun c cap d w2 h h1 h2 hb => (made_any neg2 c cap d w2 h.out.1 h.out.2.1 h1 h2 h.out.2.2.2).mono fun e w' hh => by
      rw [h.out.2.2.1, hz] at hh
      exact hh.mid hb.out
  have HW := Lib.hid hW
  obtain ⟨o, ho, hob⟩ : ∃ o, lordI (nv a) (nv b) = o ∧ o < 0 ∧ -1 ≤ o := ⟨_, rfl, by unfold lordI; (repeat' split) <;> omega⟩
  rw [ho] at Ca
  clear hW hWb hx hy hz ho hab ta tb
  go_enter Try.func54, Try.ntmps54
  obtain ⟨c1, c2, c3, c4, -⟩ := B0.out
  go_wp2_with fail
  rw [HW.out]
  refine (Ca.out 0).mono ?_
  rintro e w1 ⟨rfl, hw1⟩
  have hw1 : W = w1 := hw1
  subst hw1
  go_wp2
  go_region_held3 (fun w' => w'.cell? ⟨w.heap.size, 0, none⟩ = some (.bool neg) ∧ w'.cell? ⟨w.heap.size, 1, none⟩ = some (.slice xa a.length xc) ∧ w'.cell? ⟨w.heap.size + 1, 0, none⟩ = some (.bool neg2) ∧ w'.cell? ⟨w.heap.size + 1, 1, none⟩ = some (.slice ya b.length yc))
    (first | exact ⟨c1', c2', c3', c4'⟩ | exact ⟨set2_far c1' (by first | (simp; done) | (simp; omega)), set2_far c2' (by first | (simp; done) | (simp; omega)), set2_far c3' (by first | (simp; done) | (simp; omega)), set2_far c4' (by first | (simp; done) | (simp; omega))⟩ | go_keep)
    (first | (go_at_call 77; refine (Cp.out 1).mono ?_; rintro e w2 ⟨c, cap, d, rfl, hl, hl1, hl2, hB⟩; obtain ⟨c1', c2', c3', c4', -⟩ := hB.out) | (go_at_call 74; refine (Cm.out _ _ _ _ hl hl1 hl2 hB).mono ?_; rintro e w3 ⟨neg', c', cap', n', rfl, hnum, hB3⟩; obtain ⟨c1', c2', c3', c4', b5, b6, b7, b8, -⟩ := hB3.out))
  all_goals
    obtain ⟨r1, r2⟩ := box2_stored b5 b6 (.bool neg') (.slice c' n' cap')
    go_wp2
    refine bodyPost_ret (v := .agg #[.bool neg', .slice c' n' cap']) (by simp [results, Try.results54, go_sem, r1, r2]) rfl ?_
    exact add_end hnum.out hB3.out
/-- a number of at most a hundred limbs -/
def Hund (z : Int) : Prop := -(pw 100) < z ∧ z < pw 100
theorem hund_len {d : List Int} {neg : Bool} (hd : Dig d) (ht : Top d) (h : Hund (sg (nv d) neg)) : d.length ≤ 100 := by
  rw [← nv_len d hd ht]
  unfold Hund sg at h
  cases neg <;> simp at h <;> omega
theorem num_add (x y : Value) (a b : Int) (w : World) (hx : NumAt w x a) (hy : NumAt w y b) (ha : Hund a) (hb : Hund b) :
    Calls Try.prog 54 #[x, y] w fun e w' => NumOut (a + b) w e w' := by
  obtain ⟨na, la, da, rfl, ⟨xa, xc, rfl, hrx, hx1, hx2, hx3, hdx⟩, htx, hnx, rfl⟩ := hx
  obtain ⟨nb, lb, db, rfl, ⟨ya, yc, rfl, hry, hy1, hy2, hy3, hdy⟩, hty, hny, rfl⟩ := hy
  have l1 := hund_len hdx htx ha
  have l2 := hund_len hdy hty hb
  by_cases hs : na = nb
  · subst hs
    exact add_num_same na xa ya xc yc da db _ w hrx hry hdx hdy (by omega) (by omega) (by unfold sg; cases na <;> simp <;> omega)
  · have hne : (na == nb) = false := by simpa using hs
    by_cases hg : nv db ≤ nv da
    · exact add_num_ge na nb hne xa ya xc yc da db _ w hrx hry hdx hdy htx hty (by omega) (by omega) hg (by unfold sg; cases na <;> cases nb <;> simp at hs ⊢ <;> omega)
    · exact add_num_lt na nb hne xa ya xc yc da db _ w hrx hry hdx hdy htx hty (by omega) (by omega) (by omega) (by unfold sg; cases na <;> cases nb <;> simp at hs ⊢ <;> omega)
end Go.Proofs.Ytflplliiamodhaa

/- noonmarkref01: Neg; where Cmp, Total and Mul are wanting (Div stands on this one). -/
namespace Go.Proofs.Ytflplliiamodhaa
open Go.RowKit
set_option linter.unusedVariables false

theorem hund_of {z : Int} (h : -(18446744073709551616 * 65536) < z ∧ z < 18446744073709551616 * 65536) : Hund z := by
  have := pw_le 5 100 (by omega)
  have e : pw 5 = 18446744073709551616 * 65536 := by decide
  unfold Hund
  omega
theorem numat_nil (w : World) : NumAt w (.agg #[.bool false, .slice none 0 0]) 0 :=
  ⟨false, _, [], rfl, ⟨none, 0, rfl, fun j hj => by simp at hj, by simp, by omega, fun _ => rfl, dig_nil⟩, .inl rfl, by simp, rfl⟩
set_option maxHeartbeats 2000000 in
theorem num_neg (x : Value) (a : Int) (w : World) (hx : NumAt w x a) :
    Calls Try.prog 95 #[x] w fun e w' => NumOut (-a) w e w' := by
  obtain ⟨na, la, da, rfl, ⟨xa, xc, rfl, hrx, hx1, hx2, hx3, hdx⟩, htx, hnx, rfl⟩ := hx
  have hz : sg (nv da) (!na) = -(sg (nv da) na) := by unfold sg; cases na <;> simp
  have Cm : Hid (∀ W, Below w.heap.size w W → Calls Try.prog 74 #[.bool (!na), .slice xa da.length xc] W (NumOut (-(sg (nv da) na)) W)) := Lib.hid (fun W hW => by
    rw [← hz]
    exact made_any (!na) xa xc da W (hrx.below hW) hdx hx1 hx2 hx3)
  have K0 : Hid (Kept ((w.alloc (.cells #[.bool na, .slice xa da.length xc] 93)).alloc (.cells #[.bool false, .slice none 0 0] 93)) (w.heap.size + 1) #[.bool false, .slice none 0 0] 93) := Lib.hid (Kept.new (by simp))
  have B0 : Hid (Below w.heap.size w ((w.alloc (.cells #[.bool na, .slice xa da.length xc] 93)).alloc (.cells #[.bool false, .slice none 0 0] 93))) := Lib.hid ((one_alloc w _).alloc (by simp) _)
  clear hrx hx1 hx2 hx3 hdx htx hnx hz
  go_enter Try.func95, Try.ntmps95
  go_wp2_with fail
  refine (Cm.out _ B0.out).mono ?_
  rintro _ w2 ⟨v2, rfl, hn2, hb2⟩
  have Hn := Lib.hid hn2
  obtain ⟨ng, l', d', rfl, ⟨la', lc', rfl, -⟩, -⟩ := hn2
  have R2 := Lib.hid (K0.out.next hb2)
  have B2 := Lib.hid (B0.out.trans (hb2.mono B0.out.size))
  obtain ⟨t1, t2, t3, t4, t5⟩ := R2.out.two
  clear hb2
  go_wp2
  obtain ⟨s1, s2⟩ := R2.out.read2 (.bool ng) (.slice la' d'.length lc')
  refine bodyPost_ret (v := .agg #[.bool ng, .slice la' d'.length lc']) (by simp [results, Try.results95, go_sem, s1, s2]) rfl ?_
  exact num_stored_at B2.out Hn.out R2.out.two.1 R2.out.two.2.1 (by simp) (by simp) (by omega)
theorem hund_neg {a : Int} (h : Hund a) : Hund (-a) := by unfold Hund at *; omega
end Go.Proofs.Ytflplliiamodhaa

/- noonmarkref01: Mul: for all numbers that lie in memory. -/
namespace Go.Proofs.Ytflplliiamodhaa
open Go.RowKit
set_option linter.unusedVariables false

theorem pw_add (i : Nat) : ∀ j, pw (i + j) = pw i * pw j
  | 0 => by simp [pw]
  | j + 1 => by show pw (i + j) * 65536 = pw i * (pw j * 65536); rw [pw_add i j, Int.mul_assoc]
theorem getD_set (d : List Int) (j : Nat) (v : Int) (i : Nat) (hj : j < d.length) : (d.set j v).getD i 0 = if i = j then v else d.getD i 0 := by
  rw [List.getD_eq_getElem?_getD, List.getElem?_set]
  by_cases h : j = i
  · subst h; simp [hj]
  · rw [if_neg h, if_neg (fun e => h e.symm), List.getD_eq_getElem?_getD]
theorem dig_set (d : List Int) (j : Nat) (v : Int) (hd : Dig d) (hj : j < d.length) (hv : 0 ≤ v ∧ v ≤ 65535) : Dig (d.set j v) := fun i => by
  rw [getD_set d j v i hj]; split
  · exact hv
  · exact hd i
theorem pv_set (d : List Int) (j : Nat) (v : Int) (hj : j < d.length) : ∀ n, pv (d.set j v) n = pv d n + if j < n then (v - d.getD j 0) * pw j else 0
  | 0 => by simp [pv]
  | n + 1 => by
    rw [pv_succ, pv_succ, pv_set d j v hj n]
    by_cases h : j < n
    · have e1 : (d.set j v).getD n 0 = d.getD n 0 := by rw [getD_set d j v n hj, if_neg (by omega)]
      have e2 : j < n + 1 := by omega
      rw [if_pos h, if_pos e2, e1]; omega
    · rw [if_neg h]
      by_cases e : j = n
      · subst e
        have e1 : (d.set j v).getD j 0 = v := by rw [getD_set d j v j hj, if_pos rfl]
        have e2 : j < j + 1 := by omega
        rw [if_pos e2, e1, Int.sub_mul]; omega
      · have e1 : (d.set j v).getD n 0 = d.getD n 0 := by rw [getD_set d j v n hj, if_neg (by omega)]
        have e2 : ¬ j < n + 1 := by omega
        rw [if_neg e2, e1]; omega
theorem pv_zeros (n : Nat) : ∀ k, pv (List.replicate n 0) k = 0
  | 0 => rfl
  | k + 1 => by
    rw [pv_succ, pv_zeros n k, List.getD_eq_getElem?_getD, List.getElem?_replicate]
    split <;> simp
theorem dig_zeros (n : Nat) : Dig (List.replicate n 0) := fun j => by
  rw [List.getD_eq_getElem?_getD, List.getElem?_replicate]
  split <;> simp
/-- one limb of a product -/
theorem mul_step (P V x u B W s o I J : Int) (h : P + s * W = V + x * B * I) (hW : W = I * J) (t : Int) (ht : t = s + (o + x * u)) :
    (P + (t % 65536 - o) * W) + t / 65536 * (W * 65536) = V + x * (B + u * J) * I := by
  have e := Int.mul_ediv_add_emod t 65536
  have e1 : t / 65536 * (W * 65536) = 65536 * (t / 65536) * W := by rw [Int.mul_comm W 65536, ← Int.mul_assoc, Int.mul_comm (t / 65536) 65536]
  have e2 : (t % 65536 - o) * W + 65536 * (t / 65536) * W = (t - o) * W := by rw [← Int.add_mul]; congr 1; omega
  have e3 : (t - o) * W = s * W + x * u * W := by rw [ht, ← Int.add_mul]; congr 1; omega
  have e4 : x * (B + u * J) * I = x * B * I + x * u * W := by
    rw [hW, Int.mul_add, Int.add_mul, Int.mul_comm I J, ← Int.mul_assoc (x * u) J I, ← Int.mul_assoc x u J]
  rw [e1, e4]
  omega
/-- behind the last limb of the second number nothing is carried more than once -/
theorem mul_room (a b : List Int) (ha : Dig a) (hb : Dig b) (i j : Nat) (P s : Int) (hP : 0 ≤ P) (hs : 1 ≤ s) (hj : b.length ≤ j) (h : P + s * pw (i + j) = pv a i * nv b + a.getD i 0 * pv b j * pw i) : j = b.length := by
  rw [pv_past b j hj] at h
  have h1 := pv_bd a ha (i + 1)
  have h2 := nv_bd b hb
  have e : pv a i * nv b + a.getD i 0 * nv b * pw i = pv a (i + 1) * nv b := by
    rw [pv_succ, Int.add_mul, Int.mul_right_comm]
  rw [e] at h
  have h3 : pv a (i + 1) * nv b ≤ pw (i + 1) * pw b.length := by
    have h5 : pv a (i + 1) * nv b ≤ pv a (i + 1) * pw b.length := Int.mul_le_mul_of_nonneg_left (by omega) h1.1
    have h6 : pv a (i + 1) * pw b.length ≤ pw (i + 1) * pw b.length := Int.mul_le_mul_of_nonneg_right (by omega) (by have := pw_pos b.length; omega)
    omega
  have h4 : pv a (i + 1) * nv b < pw (i + 1) * pw b.length := by
    by_cases hz : nv b = 0
    · rw [hz, Int.mul_zero]; exact Int.mul_pos (pw_pos _) (pw_pos _)
    · have h5 : pv a (i + 1) * nv b < pw (i + 1) * nv b := Int.mul_lt_mul_of_pos_right h1.2 (by omega)
      have h6 : pw (i + 1) * nv b ≤ pw (i + 1) * pw b.length := Int.mul_le_mul_of_nonneg_left (by omega) (by have := pw_pos (i + 1); omega)
      omega
  rw [← pw_add] at h4
  refine Nat.le_antisymm (Nat.le_of_not_lt fun hc => ?_) hj
  have h5 := pw_le (i + 1 + b.length) (i + j) (by omega)
  have h6 := pw_pos (i + j)
  have h7 : 1 * pw (i + j) ≤ s * pw (i + j) := Int.mul_le_mul_of_nonneg_right hs (by omega)
  omega
theorem made_zeros (n : Nat) : madeCells (Value.int .i64 0).cells n = ((List.replicate n (0 : Int)).map (Value.int .i64)).toArray := by
  rw [List.map_replicate]
  apply Array.ext
  · simp [size_madeCells]
  · intro i h1 h2
    have : i % 1 = 0 := Nat.mod_one i
    simp [madeCells, Value.cells, this]
theorem info_intG : (Try.prog.info? 3).map (fun i => (i.zero, i.size, i.bytes)) = some (some (.int .i64 0), 1, 8) := by kernel_rfl
theorem makeN (n : Nat) (hn : n ≤ 100000) (W : World) : (Instr.makeSlice 91 (.int .i64 (n : Int)) (.int .i64 (n : Int))).run Try.prog W = .ok (.slice (some ⟨W.heap.size, 0, none⟩) n n) (W.alloc (.cells ((List.replicate n (0 : Int)).map (Value.int .i64)).toArray 3)) := by
  obtain ⟨i0, hi, hz0, hz1, hz2⟩ := info_parts info_intG
  have h := run_makeSlice (P := Try.prog) W 91 3 i0 (.int .i64 0) Try.underlying91 hi hz0 .i64 .i64 n n (by omega) (by omega) (by rw [hz1]; omega) (by rw [hz2]; omega) (by omega)
  rw [hz1, Nat.mul_one, Int.toNat_natCast, made_zeros] at h
  exact h
/-- where the outer loop of Mul stands -/
def MulO (neg neg2 : Bool) (x y : Value) (a b : List Int) (w : World) (i : Nat) (O : List Int) (wr : World) : Prop :=
  Hid (Kept wr w.heap.size #[.bool neg, x] 93) ∧ Hid (Kept wr (w.heap.size + 1) #[.bool neg2, y] 93) ∧ Hid (Kept wr (w.heap.size + 2) #[.bool false, .slice none 0 0] 93) ∧
  Hid (Kept wr (w.heap.size + 3) (O.map (Value.int .i64)).toArray 3) ∧ Hid (Below w.heap.size w wr) ∧ O.length = a.length + b.length + 1 ∧ Hid (Dig O)
def MulRel (neg neg2 : Bool) (x y : Value) (a b : List Int) (w : World) (i : Value) (wr : World) : Prop :=
  ∃ (k : Nat) (O : List Int), k ≤ a.length ∧ i = .int .i64 k ∧ MulO neg neg2 x y a b w k O wr ∧ Hid (pv O (a.length + b.length + 1) = pv a k * nv b)
def MulIn (neg neg2 : Bool) (x y : Value) (a b : List Int) (w : World) (i : Nat) (c k : Value) (wr : World) : Prop :=
  ∃ (j : Nat) (O : List Int) (s : Int), c = .int .i64 s ∧ k = .int .i64 j ∧ 0 ≤ s ∧ s ≤ 65535 ∧ j ≤ b.length + 1 ∧ (b.length < j → s = 0) ∧ MulO neg neg2 x y a b w i O wr ∧ Hid (pv O (a.length + b.length + 1) + s * pw (i + j) = pv a i * nv b + a.getD i 0 * pv b j * pw i)
theorem lim_at (ds : List Int) (b : Nat) (h : b < ds.length) : (ds.map (Value.int .i64)).toArray[b]? = some (.int .i64 (ds.getD b 0)) := by simp [h]
set_option maxHeartbeats 8000000 in
theorem mul_pieces (neg neg2 : Bool) (xa ya : Option Addr) (xc yc : Nat) (a b : List Int) (w : World) (hx : IntRow w xa .i64 a) (hy : IntRow w ya .i64 b) (da : Dig a) (db : Dig b) (la : a.length ≤ 200) (lb : b.length ≤ 200) :
    Calls Try.prog 108 #[.agg #[.bool neg, .slice xa a.length xc], .agg #[.bool neg2, .slice ya b.length yc]] w (NumOut (sg (nv a * nv b) (neg != neg2)) w) := by
  have HX := Lib.hid hx
  have HY := Lib.hid hy
  have DA := Lib.hid da
  have DB := Lib.hid db
  obtain ⟨N, hN⟩ : ∃ N : Nat, a.length + b.length + 1 = N := ⟨_, rfl⟩
  have hmk := fun W => makeN N (by omega) W
  obtain ⟨A, hA⟩ : ∃ A : Int, (a.length : Int) = A := ⟨_, rfl⟩
  obtain ⟨B, hB⟩ : ∃ A : Int, (b.length : Int) = A := ⟨_, rfl⟩
  obtain ⟨Ni, hNi⟩ : ∃ A : Int, (N : Int) = A := ⟨_, rfl⟩
  have hABN : A + B + 1 = Ni := by omega
  have hAb : 0 ≤ A ∧ A ≤ 200 := by omega
  have hBb : 0 ≤ B ∧ B ≤ 200 := by omega
  rw [hNi] at hmk
  have hstart : MulRel neg neg2 (.slice xa a.length xc) (.slice ya b.length yc) a b w (.int .i64 0) ((((w.alloc (.cells #[.bool neg, .slice xa a.length xc] 93)).alloc (.cells #[.bool neg2, .slice ya b.length yc] 93)).alloc (.cells #[.bool false, .slice none 0 0] 93)).alloc (.cells ((List.replicate N (0 : Int)).map (Value.int .i64)).toArray 3)) := by
    refine ⟨0, List.replicate N 0, Nat.zero_le _, rfl, ⟨Lib.hid ((((Kept.new rfl).alloc _).alloc _).alloc _), Lib.hid (((Kept.new (by simp)).alloc _).alloc _), Lib.hid ((Kept.new (by simp)).alloc _), Lib.hid (Kept.new (by simp)), Lib.hid ((((one_alloc w _).alloc (by simp) _).alloc (by simp; omega) _).alloc (by simp; omega) _), by simp; omega, Lib.hid (dig_zeros N)⟩, Lib.hid ?_⟩
    rw [pv_zeros]
    simp [pv]
  have HS := Lib.hid hstart
  have LA := Lib.hid la
  have LB := Lib.hid lb
  have HN := Lib.hid hN
  have HNI := Lib.hid hNi
  clear hx hy da db hstart hN la lb hNi
  go_enter Try.func108, Try.ntmps108
  go_wp2
  have e0 : ((List.replicate N (0 : Int)).map (Value.int .i64)).toArray = Array.replicate N (.int .i64 0) := by simp
  rw [e0] at HS
  clear hmk e0
  go_loopw [6] (fun i wr => MulRel neg neg2 (.slice xa a.length xc) (.slice ya b.length yc) a b w i wr) (fun i _ => a.length - (intOf i).toNat)
  case atStart => exact HS.out
  case round =>
    obtain ⟨k, O, hk, rfl, ⟨K0, K1, R, D, Bl, hOl, hDO⟩, hpv⟩ := hrel
    obtain ⟨Kc, hKc⟩ : ∃ K : Int, (k : Int) = K := ⟨_, rfl⟩
    have HKC := Lib.hid hKc
    rw [hKc]
    obtain ⟨p1, p2, -, -, p5⟩ := K0.out.two
    obtain ⟨q1, q2, -, -, q5⟩ := K1.out.two
    have hKc0 : 0 ≤ Kc ∧ Kc ≤ 200 := by omega
    by_cases hlt : k < a.length
    · have hd : decide (Kc < A) = true := decide_eq_true (by omega)
      have HLT := Lib.hid hlt
      have HOL := Lib.hid hOl
      have HK := Lib.hid hk
      obtain ⟨wx, hwx⟩ : ∃ x, x = wr := ⟨_, rfl⟩
      subst hwx
      have hin : MulIn neg neg2 (.slice xa a.length xc) (.slice ya b.length yc) a b w k (.int .i64 0) (.int .i64 0) wx := ⟨0, O, 0, rfl, rfl, by omega, by omega, by omega, fun _ => rfl, ⟨K0, K1, R, D, Bl, hOl, hDO⟩, Lib.hid (by rw [hpv.out]; simp [pv])⟩
      have HIN := Lib.hid hin
      clear hin hOl hk hlt hKc
      go_wp2
      go_loopw [7, 8] (fun c j wr => MulIn neg neg2 (.slice xa a.length xc) (.slice ya b.length yc) a b w k c j wr) (fun _ j _ => b.length + 2 - (intOf j).toNat)
      case atStart => exact HIN.out
      case round =>
        obtain ⟨j, O, s, rfl, rfl, hs0, hs1, hj, hjb, ⟨K0, K1, R, D, Bl, hOl, hDO⟩, hpv⟩ := hrel
        obtain ⟨J, hJ⟩ : ∃ K : Int, (j : Int) = K := ⟨_, rfl⟩
        have HJ := Lib.hid hJ
        rw [hJ]
        obtain ⟨m1, m2, -, -, m5⟩ := K0.out.two
        obtain ⟨n1, n2, -, -, n5⟩ := K1.out.two
        have hA' := HKC.out
        have hlt := HLT.out
        have hlb := LB.out
        have hla := LA.out
        have hNN := HN.out
        have hJ0 : 0 ≤ J ∧ J ≤ 201 := by omega
        by_cases hgo : j < b.length ∨ 1 ≤ s
        · have hjl : j ≤ b.length := by
            rcases hgo with h | h
            · omega
            · refine Nat.le_of_not_lt fun hc => ?_
              have := hjb hc
              omega
          have hkj : k + j < O.length := by omega
          have hcond : decide (J < B) = true ∨ (decide (J < B) = false ∧ decide (0 < s) = true) := by
            by_cases h : j < b.length
            · exact .inl (decide_eq_true (by omega))
            · exact .inr ⟨decide_eq_false (by omega), decide_eq_true (by omega)⟩
          obtain ⟨ab, ao, rfl, hax⟩ := (HX.out.below (hb := Bl.out)) k hlt
          have hxb := DA.out k
          have hub := DB.out j
          have hob := hDO.out (k + j)
          have CL : Hid (∀ n, Calls Try.prog 97 #[.slice ya b.length yc, .int .i64 J] (wr.drewN n) fun e w' => e = .returned (.int .i64 (b.getD j 0)) ∧ w' = wr.drewN n) := Lib.hid (fun n => by
            rw [← hJ]
            exact (limb_nat ya yc b j (wr.drewN n) (show IntRow (wr.drewN n) ya .i64 b from (show IntRow wr ya .i64 b from HY.out.below Bl.out)) (by omega)).mono (fun e w' ⟨h1, h2⟩ => ⟨h1, h2.symm⟩))
          obtain ⟨d1, d2⟩ := D.out.at_ (k + j)
          rw [lim_at O (k + j) hkj] at d1
          have hstep := mul_step _ _ (a.getD k 0) (b.getD j 0) _ _ _ (O.getD (k + j) 0) _ (pw j) hpv.out (pw_add k j) _ rfl
          have hxu : 0 ≤ a.getD k 0 * b.getD j 0 ∧ a.getD k 0 * b.getD j 0 ≤ 65535 * 65535 := ⟨Int.mul_nonneg hxb.1 hub.1, by
            have h1 : a.getD k 0 * b.getD j 0 ≤ a.getD k 0 * 65535 := Int.mul_le_mul_of_nonneg_left hub.2 hxb.1
            have h2 : a.getD k 0 * 65535 ≤ 65535 * 65535 := Int.mul_le_mul_of_nonneg_right hxb.2 (by omega)
            omega⟩
          obtain ⟨m, hm⟩ : ∃ m, a.getD k 0 * b.getD j 0 = m := ⟨_, rfl⟩
          obtain ⟨Y, hY⟩ : ∃ Y, O.getD (k + j) 0 + m = Y := ⟨_, rfl⟩
          obtain ⟨t, ht⟩ : ∃ t, s + Y = t := ⟨_, rfl⟩
          rw [hm] at hxu
          rw [hm, hY, ht] at hstep
          have fin : ∀ n, MulIn neg neg2 (.slice (some ⟨ab, ao, none⟩) a.length xc) (.slice ya b.length yc) a b w k (.int .i64 (t / 65536)) (.int .i64 (J + 1)) ((wr.drewN n).setCell ⟨w.heap.size + 3, k + j, none⟩ (.int .i64 (t % 65536))) := fun n => by
            refine ⟨j + 1, O.set (k + j) (t % 65536), t / 65536, rfl, by congr 1; omega, by omega, by omega, by omega, ?_, ⟨Lib.hid ((K0.out.drewN n).far (by simp) _), Lib.hid ((K1.out.drewN n).far (by simp) _), Lib.hid ((R.out.drewN n).far (by simp) _), Lib.hid ?_, Lib.hid ((below_drewN Bl.out n).setCell (by simp) _), by rw [List.length_set]; exact hOl, Lib.hid (dig_set O (k + j) _ hDO.out hkj (by omega))⟩, Lib.hid ?_⟩
            · intro hc
              have hjb2 : j = b.length := by omega
              refine Classical.byContradiction fun hne => ?_
              have hpos : 1 ≤ t / 65536 := by omega
              have h5 := mul_room a b DA.out DB.out k (j + 1) (pv O (a.length + b.length + 1) + (t % 65536 - O.getD (k + j) 0) * pw (k + j)) (t / 65536) (by
                have h6 := pv_set O (k + j) (t % 65536) hkj (a.length + b.length + 1)
                rw [if_pos (by omega)] at h6
                rw [← h6]
                exact (pv_bd _ (dig_set O (k + j) _ hDO.out hkj (by omega)) _).1) hpos (by omega) hstep
              omega
            · have q := (D.out.drewN n).set (k + j) (.int .i64 (t % 65536))
              rw [List.map_set]
              simpa using q
            · have h6 := pv_set O (k + j) (t % 65536) hkj (a.length + b.length + 1)
              rw [if_pos (by omega)] at h6
              rw [h6]
              exact hstep
          have Fin := Lib.hid fin
          obtain ⟨KJ, hKJ⟩ : ∃ q, Kc + J = q := ⟨_, rfl⟩
          have hKJt : KJ.toNat = k + j := by omega
          have hKJ0 : 0 ≤ KJ := by omega
          have hKJN : KJ < (N : Int) := by omega
          have hKct : Kc.toNat = k := by omega
          have hKcA : Kc < A := by omega
          have hKc00 : 0 ≤ Kc := by omega
          have ht0 : 0 ≤ t ∧ t ≤ 4294967295 := by omega
          have hmeas : b.length + 2 - (J + 1).toNat < b.length + 2 - J.toNat := by omega
          have HM := Lib.hid hmeas
          have hax2 := hax
          generalize a.getD k 0 = x at *
          generalize b.getD j 0 = u at *
          generalize O.getD (k + j) 0 = o at *
          have hY2 : 0 ≤ Y ∧ Y ≤ 4294967295 := by omega
          have wr1 : IntKind.i64.wrap KJ = KJ := by simp only [IntKind.wrap_i64]; omega
          have wr2 : IntKind.i64.wrap m = m := by simp only [IntKind.wrap_i64]; omega
          have wr3 : IntKind.i64.wrap Y = Y := by simp only [IntKind.wrap_i64]; omega
          have wr4 : IntKind.i64.wrap t = t := by simp only [IntKind.wrap_i64]; omega
          clear fin hstep hmeas hax2 hpv hjb hj hgo hjl hkj hA' hlt hlb hla hNN hJ hOl
          rcases hcond with c1 | ⟨c1, c2⟩
          all_goals
            go_wp2
            go_quiet ((exact Calls.quiet_of_same (CL.out _)))
            go_wp2
            go_roundw
            case rel => exact Fin.out _
            case measure => exact HM.out
        · have c1 : decide (J < B) = false := decide_eq_false (by omega)
          have c2 : decide (0 < s) = false := decide_eq_false (by omega)
          have hs : s = 0 := by omega
          have fin : MulRel neg neg2 (.slice xa a.length xc) (.slice ya b.length yc) a b w (.int .i64 (Kc + 1)) wr := by
            refine ⟨k + 1, O, by omega, by congr 1; omega, ⟨K0, K1, R, D, Bl, hOl, hDO⟩, Lib.hid ?_⟩
            have h1 := hpv.out
            rw [hs, Int.zero_mul, Int.add_zero, pv_past b j (by omega)] at h1
            rw [h1, pv_succ, Int.add_mul, Int.mul_right_comm]
          have Fin := Lib.hid fin
          have hmeas : a.length - (Kc + 1).toNat < a.length - Kc.toNat := by omega
          have HM := Lib.hid hmeas
          clear fin hmeas hs hgo hA' hlt hlb hla hNN hJ hj hjb hOl hpv
          go_wp2
          go_roundw
          case rel => exact Fin.out
          case measure => exact HM.out
    · have hd : decide (Kc < A) = false := decide_eq_false (by omega)
      obtain rfl : k = a.length := by omega
      have hnv : nv O = nv a * nv b := by
        have h1 := hpv.out
        rw [pv_past O _ (by omega)] at h1
        exact h1
      obtain ⟨gd, hgd⟩ : ∃ g, w.heap.size + 3 = g := ⟨_, rfl⟩
      have hrow : IntRow wr (some ⟨w.heap.size + 3, 0, none⟩) .i64 O := fun j hj => ⟨w.heap.size + 3, 0, rfl, by rw [(D.out.at_ (0 + j)).1, Nat.zero_add]; exact lim_at O j hj⟩
      have cm := made_any (neg != neg2) (some ⟨w.heap.size + 3, 0, none⟩) N O wr hrow hDO.out (by have := HN.out; omega) (by have := HN.out; have := LA.out; have := LB.out; omega) (by simp)
      rw [hnv, show O.length = N by have := HN.out; omega] at cm
      have Cm := Lib.hid cm
      obtain ⟨r1, r2, r3, r4, r5⟩ := R.out.two
      clear cm hrow hnv hpv hOl hk hlt hKc hgd
      go_wp2_with fail
      refine Cm.out.mono ?_
      rintro e w2 ⟨v, rfl, hn, hb2⟩
      have Hn := Lib.hid hn
      obtain ⟨ng, l', d', rfl, ⟨la', lc', rfl, -⟩, -⟩ := hn
      have R2 := Lib.hid (R.out.next hb2)
      have B2 := Lib.hid (Bl.out.trans (hb2.mono Bl.out.size))
      obtain ⟨t1, t2, t3, t4, t5⟩ := R2.out.two
      clear hb2
      go_wp2
      obtain ⟨s1, s2⟩ := R2.out.read2 (.bool ng) (.slice la' d'.length lc')
      refine bodyPost_ret (v := .agg #[.bool ng, .slice la' d'.length lc']) (by simp [results, Try.results108, go_sem, s1, s2]) rfl ?_
      exact num_stored_at B2.out Hn.out R2.out.two.1 R2.out.two.2.1 (by simp) (by simp) (by omega)
theorem num_mul (x y : Value) (a b : Int) (w : World) (hx : NumAt w x a) (hy : NumAt w y b) (ha : Hund a) (hb : Hund b) :
    Calls Try.prog 108 #[x, y] w fun e w' => NumOut (a * b) w e w' := by
  obtain ⟨na, la, da, rfl, ⟨xa, xc, rfl, hrx, hx1, hx2, hx3, hdx⟩, htx, hnx, rfl⟩ := hx
  obtain ⟨nb, lb, db, rfl, ⟨ya, yc, rfl, hry, hy1, hy2, hy3, hdy⟩, hty, hny, rfl⟩ := hy
  have l1 := hund_len hdx htx ha
  have l2 := hund_len hdy hty hb
  have h := mul_pieces na nb xa ya xc yc da db w hrx hry hdx hdy (by omega) (by omega)
  rw [show sg (nv da * nv db) (na != nb) = sg (nv da) na * sg (nv db) nb by unfold sg; cases na <;> cases nb <;> simp [Int.mul_neg, Int.neg_mul]] at h
  exact h
end Go.Proofs.Ytflplliiamodhaa

/- noonmarkref01: Div: the arithmetic; nothing of any program. -/
namespace Go.Proofs.Ytflplliiamodhaa
set_option linter.unusedVariables false

/-- two to the k-th -/
def p2 : Nat → Int
  | 0 => 1
  | k + 1 => p2 k * 2
theorem p2_pos : ∀ k, 0 < p2 k
  | 0 => by decide
  | k + 1 => by have := p2_pos k; unfold p2; omega
theorem p2_add (i : Nat) : ∀ j, p2 (i + j) = p2 i * p2 j
  | 0 => by simp [p2]
  | j + 1 => by show p2 (i + j) * 2 = p2 i * (p2 j * 2); rw [p2_add i j, Int.mul_assoc]
theorem p2_pw : ∀ j, p2 (16 * j) = pw j
  | 0 => rfl
  | j + 1 => by
    have e : p2 16 = 65536 := by decide +kernel
    rw [show 16 * (j + 1) = 16 * j + 16 by omega, p2_add, p2_pw j, e]; rfl
theorem half (A : Int) (k : Nat) : A / p2 k = 2 * (A / p2 (k + 1)) + A / p2 k % 2 := by
  have e : A / p2 (k + 1) = A / p2 k / 2 := by
    show A / (p2 k * 2) = _
    rw [Int.ediv_ediv_of_nonneg (by have := p2_pos k; omega)]
  omega
/-- the value of the limbs from the j-th on -/
theorem pv_top (d : List Int) (hd : Dig d) (j : Nat) : nv d / pw j = d.getD j 0 + 65536 * (nv d / pw (j + 1)) := by
  have h1 := pv_bd d hd j
  have hp := pw_pos j
  have hx := hd j
  -- nv d = pv d (j+1) + R * pw (j+1)
  have hR : ∀ m, ∃ R, pv d (j + 1 + m) = pv d (j + 1) + R * pw (j + 1) := by
    intro m
    induction m with
    | zero => exact ⟨0, by simp⟩
    | succ m ih =>
      obtain ⟨R, hR⟩ := ih
      have hw : pw (j + 1 + m) = pw m * pw (j + 1) := by
        clear hR
        induction m with
        | zero => simp [pw]
        | succ m ih => show pw (j + 1 + m) * 65536 = pw m * 65536 * pw (j + 1); rw [ih, Int.mul_right_comm]
      refine ⟨R + d.getD (j + 1 + m) 0 * pw m, ?_⟩
      show pv d (j + 1 + m) + d.getD (j + 1 + m) 0 * pw (j + 1 + m) = _
      rw [hR, hw, Int.add_mul, Int.mul_assoc]
      omega
  obtain ⟨R, hR⟩ := hR d.length
  rw [pv_past d _ (by omega), pv_succ] at hR
  have e1 : nv d = pv d j + (d.getD j 0 + 65536 * R) * pw j := by
    rw [hR, pw_succ, Int.add_mul, Int.mul_comm (pw j) 65536, ← Int.mul_assoc, Int.mul_comm R 65536]
    omega
  have e2 : nv d / pw j = d.getD j 0 + 65536 * R := by
    rw [e1, Int.add_mul_ediv_right _ _ (by omega), Int.ediv_eq_zero_of_lt h1.1 h1.2]
    omega
  have e3 : nv d / pw (j + 1) = nv d / pw j / 65536 := by
    show nv d / (pw j * 65536) = _
    rw [Int.ediv_ediv_of_nonneg (by omega)]
  rw [e3, e2]
  omega
/-- a bit of the limbs -/
theorem bit_at (d : List Int) (hd : Dig d) (j t : Nat) (ht : t < 16) : nv d / p2 (16 * j + t) % 2 = d.getD j 0 / 2 ^ t % 2 := by
  have e : nv d / p2 (16 * j + t) = nv d / pw j / p2 t := by
    rw [p2_add, p2_pw, Int.ediv_ediv_of_nonneg (by have := pw_pos j; omega)]
  rw [e, pv_top d hd j]
  generalize nv d / pw (j + 1) = R
  generalize d.getD j 0 = x
  have h : t = 0 ∨ t = 1 ∨ t = 2 ∨ t = 3 ∨ t = 4 ∨ t = 5 ∨ t = 6 ∨ t = 7 ∨ t = 8 ∨ t = 9 ∨ t = 10 ∨ t = 11 ∨ t = 12 ∨ t = 13 ∨ t = 14 ∨ t = 15 := by omega
  rcases h with h | h | h | h | h | h | h | h | h | h | h | h | h | h | h | h <;> subst h <;> simp only [p2] <;> omega
theorem nv_small (d : List Int) (hd : Dig d) : nv d / p2 (16 * d.length) = 0 := by
  rw [p2_pw]
  have := nv_bd d hd
  exact Int.ediv_eq_zero_of_lt this.1 this.2
/-- a number divided by one above 0, down, or up -/
def divZ (z c : Int) (up : Bool) : Int := if up then -((-z) / c) else z / c
theorem neg_div (A C : Int) (hC : 0 < C) : (-A) / C = -(A / C) - (if A % C = 0 then 0 else 1) := by
  have h1 := Int.mul_ediv_add_emod A C
  have h2 := Int.emod_nonneg A (by omega : C ≠ 0)
  have h3 := Int.emod_lt_of_pos A hC
  by_cases h : A % C = 0
  · rw [if_pos h]
    have := (Int.ediv_emod_unique (a := -A) (b := C) (r := 0) (q := -(A / C)) hC).2 ⟨by rw [Int.mul_neg]; omega, by omega, by omega⟩
    omega
  · rw [if_neg h]
    have := (Int.ediv_emod_unique (a := -A) (b := C) (r := C - A % C) (q := -(A / C) - 1) hC).2 ⟨by rw [Int.mul_sub, Int.mul_neg]; omega, by omega, by omega⟩
    omega
theorem div_end (A C q r : Int) (neg up : Bool) (hC : 0 < C) (h : q * C + r = A) (hr : 0 ≤ r ∧ r < C) : sg (q + if 0 < r ∧ up ≠ neg then 1 else 0) neg = divZ (sg A neg) C up := by
  have hq : A / C = q ∧ A % C = r := (Int.ediv_emod_unique hC).2 ⟨by rw [Int.mul_comm]; omega, hr.1, hr.2⟩
  have hn := neg_div A C hC
  rw [hq.1, hq.2] at hn
  unfold sg divZ
  cases neg <;> cases up <;> simp
  · exact hq.1.symm
  · rw [hn]; split <;> split <;> omega
  · rw [hn]; split <;> split <;> omega
  · exact hq.1.symm
/-- one bit of a quotient -/
theorem div_bit (A C q r : Int) (m : Nat) (h : q * C + r = A / p2 (m + 1)) : 2 * q * C + (2 * r + A / p2 m % 2) = A / p2 m ∧ (2 * q + 1) * C + (2 * r + A / p2 m % 2 - C) = A / p2 m := by
  have h1 := half A m
  have e1 : 2 * q * C = 2 * (q * C) := Int.mul_assoc 2 q C
  have e2 : (2 * q + 1) * C = 2 * (q * C) + C := by rw [Int.add_mul, e1]; omega
  constructor <;> omega
end Go.Proofs.Ytflplliiamodhaa
