/- noonmarkref01: Add: for all numbers that lie in memory. -/
import Derived.Test.YtldgdedfioigiaaLimD
namespace Go.Proofs.Ytldgdedfioigiaa
open Go.RowKit
set_option linter.unusedVariables false

theorem box6 {w w2 : World} {x0 x1 y0 y1 r0 r1 : Value} {T : TypeId} (hb : Below (((w.alloc (.cells #[x0, x1] T)).alloc (.cells #[y0, y1] T)).alloc (.cells #[r0, r1] T)).heap.size (((w.alloc (.cells #[x0, x1] T)).alloc (.cells #[y0, y1] T)).alloc (.cells #[r0, r1] T)) w2) :
    w2.cell? ⟨w.heap.size, 0, none⟩ = some x0 ∧ w2.cell? ⟨w.heap.size, 1, none⟩ = some x1 ∧ w2.cell? ⟨w.heap.size + 1, 0, none⟩ = some y0 ∧ w2.cell? ⟨w.heap.size + 1, 1, none⟩ = some y1 ∧
    w2.cell? ⟨w.heap.size + 2, 0, none⟩ = some r0 ∧ w2.cell? ⟨w.heap.size + 2, 1, none⟩ = some r1 ∧ w2.frozen? ⟨w.heap.size + 2, 0, none⟩ = false ∧ w2.frozen? ⟨w.heap.size + 2, 1, none⟩ = false ∧ w.heap.size + 3 ≤ w2.heap.size ∧ Below w.heap.size w w2 := by
  refine ⟨?_, ?_, ?_, ?_, ?_, ?_, ?_, ?_, by have := hb.size; simp at this; omega, Below.unalloc (Below.unalloc (Below.unalloc hb))⟩
  · rw [hb.cell (p := ⟨w.heap.size, 0, none⟩) (by simp; omega), World.cell?_alloc_past _ _ _ (by simp; omega), World.cell?_alloc_past _ _ _ (by simp), World.cell?_alloc_at _ _ _ _ rfl]; rfl
  · rw [hb.cell (p := ⟨w.heap.size, 1, none⟩) (by simp; omega), World.cell?_alloc_past _ _ _ (by simp; omega), World.cell?_alloc_past _ _ _ (by simp), World.cell?_alloc_at _ _ _ _ rfl]; rfl
  · rw [hb.cell (p := ⟨w.heap.size + 1, 0, none⟩) (by simp), World.cell?_alloc_past _ _ _ (by simp), World.cell?_alloc_at _ _ _ _ (by simp)]; rfl
  · rw [hb.cell (p := ⟨w.heap.size + 1, 1, none⟩) (by simp), World.cell?_alloc_past _ _ _ (by simp), World.cell?_alloc_at _ _ _ _ (by simp)]; rfl
  · rw [hb.cell (p := ⟨w.heap.size + 2, 0, none⟩) (by simp), World.cell?_alloc_at _ _ _ _ (by simp)]; rfl
  · rw [hb.cell (p := ⟨w.heap.size + 2, 1, none⟩) (by simp), World.cell?_alloc_at _ _ _ _ (by simp)]; rfl
  · rw [hb.frozen (p := ⟨w.heap.size + 2, 0, none⟩) (by simp)]; exact World.frozen?_alloc_at _ _ _ _ (by simp)
  · rw [hb.frozen (p := ⟨w.heap.size + 2, 1, none⟩) (by simp)]; exact World.frozen?_alloc_at _ _ _ _ (by simp)
/-- a number is stored into the two cells that were laid for it -/
theorem num_stored_at {w w2 : World} {v : Value} {z : Int} {x y p q : Value} {b : Nat} (hb : Below w.heap.size w w2) (hn : NumAt w2 v z) (b1 : w2.cell? ⟨b, 0, none⟩ = some x) (b2 : w2.cell? ⟨b, 1, none⟩ = some y) (hx : ∀ z, x ≠ .int .i64 z) (hy : ∀ z, y ≠ .int .i64 z) (hlt : w.heap.size ≤ b) :
    NumOut z w (.returned v) ((w2.setCell ⟨b, 0, none⟩ p).setCell ⟨b, 1, none⟩ q) :=
  ⟨v, rfl, (hn.setCell b1 hx p).setCell ((World.cell?_setCell_other _ _ _ _ (by simp)).trans b2) hy q, (hb.setCell hlt _).setCell hlt _⟩
/-- what lies in the three boxes of a call of Add, in a world behind them -/
structure Boxes (w W w2 : World) (x0 x1 y0 y1 : Value) : Prop where
  c1 : w2.cell? ⟨w.heap.size, 0, none⟩ = some x0
  c2 : w2.cell? ⟨w.heap.size, 1, none⟩ = some x1
  c3 : w2.cell? ⟨w.heap.size + 1, 0, none⟩ = some y0
  c4 : w2.cell? ⟨w.heap.size + 1, 1, none⟩ = some y1
  c5 : w2.cell? ⟨w.heap.size + 2, 0, none⟩ = some (.bool false)
  c6 : w2.cell? ⟨w.heap.size + 2, 1, none⟩ = some (.slice none 0 0)
  c7 : w2.frozen? ⟨w.heap.size + 2, 0, none⟩ = false
  c8 : w2.frozen? ⟨w.heap.size + 2, 1, none⟩ = false
  lt : w.heap.size + 3 ≤ w2.heap.size
  low : Below w.heap.size w w2
  below : Below W.heap.size W w2
theorem boxes_of {w w2 : World} {x0 x1 y0 y1 : Value} {T : TypeId} (hb : Below (((w.alloc (.cells #[x0, x1] T)).alloc (.cells #[y0, y1] T)).alloc (.cells #[.bool false, .slice none 0 0] T)).heap.size (((w.alloc (.cells #[x0, x1] T)).alloc (.cells #[y0, y1] T)).alloc (.cells #[.bool false, .slice none 0 0] T)) w2) :
    Boxes w (((w.alloc (.cells #[x0, x1] T)).alloc (.cells #[y0, y1] T)).alloc (.cells #[.bool false, .slice none 0 0] T)) w2 x0 x1 y0 y1 := by
  obtain ⟨a1, a2, a3, a4, a5, a6, a7, a8, a9, a10⟩ := box6 hb
  exact ⟨a1, a2, a3, a4, a5, a6, a7, a8, a9, a10, hb⟩
theorem Boxes.next {w W w2 w3 : World} {x0 x1 y0 y1 : Value} (h : Boxes w W w2 x0 x1 y0 y1) (hb : Below w2.heap.size w2 w3) : Boxes w W w3 x0 x1 y0 y1 := by
  have l := h.lt
  exact ⟨(hb.cell (by simp; omega)).trans h.c1, (hb.cell (by simp; omega)).trans h.c2, (hb.cell (by simp; omega)).trans h.c3, (hb.cell (by simp; omega)).trans h.c4, (hb.cell (by simp; omega)).trans h.c5, (hb.cell (by simp; omega)).trans h.c6,
    (hb.frozen (by simp; omega)).trans h.c7, (hb.frozen (by simp; omega)).trans h.c8, Nat.le_trans l hb.size, h.low.trans (hb.mono (by omega)), h.below.trans (hb.mono h.below.size)⟩
theorem Boxes.drewN {w W w2 : World} {x0 x1 y0 y1 : Value} (h : Boxes w W w2 x0 x1 y0 y1) (n : Nat) : Boxes w W (w2.drewN n) x0 x1 y0 y1 :=
  ⟨h.c1, h.c2, h.c3, h.c4, h.c5, h.c6, h.c7, h.c8, h.lt, below_drewN h.low n, below_drewN h.below n⟩
def LimbsMid (z : Int) (w W : World) (x0 x1 y0 y1 : Value) (e : Ending) (w' : World) : Prop := ∃ a cap d, e = .returned (.slice a (d : List Int).length cap) ∧ Hid (IntRow w' a .i64 d ∧ Dig d ∧ nv d = z ∧ (a = none → cap = 0)) ∧ d.length ≤ cap ∧ cap ≤ 9223372036854775807 ∧ Hid (Boxes w W w' x0 x1 y0 y1)
def NumMid (z : Int) (w W : World) (x0 x1 y0 y1 : Value) (e : Ending) (w' : World) : Prop := ∃ neg a cap n, e = .returned (.agg #[.bool neg, .slice a n cap]) ∧ Hid (NumAt w' (.agg #[.bool neg, .slice a n cap]) z) ∧ Hid (Boxes w W w' x0 x1 y0 y1)
theorem LimbsOut.mid {z : Int} {w W w2 w3 : World} {x0 x1 y0 y1 : Value} {e : Ending} (h : LimbsOut z w2 e w3) (hb : Boxes w W w2 x0 x1 y0 y1) : LimbsMid z w W x0 x1 y0 y1 e w3 := by
  obtain ⟨v, d, rfl, ⟨a, cap, rfl, hr, h1, h2, h3, h4⟩, ht, hn, hB⟩ := h
  exact ⟨a, cap, d, rfl, Lib.hid ⟨hr, h4, hn, h3⟩, h1, h2, Lib.hid (hb.next hB)⟩
theorem NumOut.mid {z : Int} {w W w2 w3 : World} {x0 x1 y0 y1 : Value} {e : Ending} (h : NumOut z w2 e w3) (hb : Boxes w W w2 x0 x1 y0 y1) : NumMid z w W x0 x1 y0 y1 e w3 := by
  obtain ⟨v, rfl, hn, hB⟩ := h
  have hn' := hn
  obtain ⟨neg, l, d, rfl, ⟨a, cap, rfl, -⟩, -⟩ := hn
  exact ⟨neg, a, cap, _, rfl, Lib.hid hn', Lib.hid (hb.next hB)⟩
def AddRes (z : Int) (w : World) (e : Ending) (w' : World) : Prop := NumOut z w e w'
theorem add_end {z : Int} {w W w2 : World} {x0 x1 y0 y1 p q : Value} {v : Value} (hn : NumAt w2 v z) (hb : Boxes w W w2 x0 x1 y0 y1) :
    AddRes z w (.returned v) ((w2.setCell ⟨w.heap.size + 2, 0, none⟩ p).setCell ⟨w.heap.size + 2, 1, none⟩ q) :=
  num_stored_at hb.low hn hb.c5 hb.c6 (by simp) (by simp) (by omega)
set_option maxHeartbeats 2000000 in
theorem add_num_same (neg : Bool) (xa ya : Option Addr) (xc yc : Nat) (a b : List Int) (z : Int) (w : World) (hx : IntRow w xa .i64 a) (hy : IntRow w ya .i64 b) (da : Dig a) (db : Dig b) (la : a.length ≤ 100000) (lb : b.length ≤ 100000)
    (hz : sg (nv a + nv b) neg = z) :
    Calls Try.prog 20 #[.agg #[.bool neg, .slice xa a.length xc], .agg #[.bool neg, .slice ya b.length yc]] w fun e w' => AddRes z w e w' := by
  obtain ⟨W, hW⟩ : ∃ W, ((w.alloc (.cells #[.bool neg, .slice xa a.length xc] 50)).alloc (.cells #[.bool neg, .slice ya b.length yc] 50)).alloc (.cells #[.bool false, .slice none 0 0] 50) = W := ⟨_, rfl⟩
  have hWb : Below w.heap.size w W := by rw [← hW]; exact (((Below.refl _ _).alloc (Nat.le_refl _) _).alloc (by simp) _).alloc (by simp; omega) _
  have B0 : Hid (Boxes w W W (.bool neg) (.slice xa a.length xc) (.bool neg) (.slice ya b.length yc)) := Lib.hid (by have := boxes_of (w := w) (x0 := .bool neg) (x1 := .slice xa a.length xc) (y0 := .bool neg) (y1 := .slice ya b.length yc) (T := 50) (Below.refl _ _); rw [hW] at this; exact this)
  have Cp : Hid (∀ n, Calls Try.prog 33 #[.slice xa a.length xc, .slice ya b.length yc] (W.drewN n) (LimbsMid (nv a + nv b) w W (.bool neg) (.slice xa a.length xc) (.bool neg) (.slice ya b.length yc))) :=
    Lib.hid fun n => (plus_any xa ya xc yc a b (W.drewN n) (hx.below (below_drewN hWb n)) (hy.below (below_drewN hWb n)) da db (by omega) (by omega)).mono fun e w' h => h.mid (B0.out.drewN n)
  have Cm : Hid (∀ (c : Option Addr) (cap : Nat) (d : List Int) (w2 : World), Hid (IntRow w2 c .i64 d ∧ Dig d ∧ nv d = nv a + nv b ∧ (c = none → cap = 0)) → d.length ≤ cap → cap ≤ 9223372036854775807 → Hid (Boxes w W w2 (.bool neg) (.slice xa a.length xc) (.bool neg) (.slice ya b.length yc)) →
      Calls Try.prog 32 #[.bool neg, .slice c d.length cap] w2 (NumMid z w W (.bool neg) (.slice xa a.length xc) (.bool neg) (.slice ya b.length yc))) :=
    Lib.hid fun c cap d w2 h h1 h2 hb => (made_any neg c cap d w2 h.out.1 h.out.2.1 h1 h2 h.out.2.2.2).mono fun e w' hh => by
      rw [h.out.2.2.1, hz] at hh
      exact hh.mid hb.out
  have HW := Lib.hid hW
  clear hW hWb hx hy hz
  go_enter Try.func20, Try.ntmps20
  go_wp2
  rw [HW.out]
  obtain ⟨c1, c2, c3, c4, -⟩ := B0.out
  go_region_held3 (fun w' => w'.cell? ⟨w.heap.size, 0, none⟩ = some (.bool neg) ∧ w'.cell? ⟨w.heap.size, 1, none⟩ = some (.slice xa a.length xc) ∧ w'.cell? ⟨w.heap.size + 1, 0, none⟩ = some (.bool neg) ∧ w'.cell? ⟨w.heap.size + 1, 1, none⟩ = some (.slice ya b.length yc))
    (first | exact ⟨c1', c2', c3', c4'⟩ | exact ⟨set2_far c1' (by first | (simp; done) | (simp; omega)), set2_far c2' (by first | (simp; done) | (simp; omega)), set2_far c3' (by first | (simp; done) | (simp; omega)), set2_far c4' (by first | (simp; done) | (simp; omega))⟩ | go_keep)
    (first | (go_at_call 33; refine (Cp.out 1).mono ?_; rintro e w2 ⟨c, cap, d, rfl, hl, hl1, hl2, hB⟩; obtain ⟨c1', c2', c3', c4', -⟩ := hB.out) | (go_at_call 32; refine (Cm.out _ _ _ _ hl hl1 hl2 hB).mono ?_; rintro e w3 ⟨neg', c', cap', n', rfl, hnum, hB3⟩; obtain ⟨c1', c2', c3', c4', b5, b6, b7, b8, -⟩ := hB3.out))
  all_goals
    obtain ⟨r1, r2⟩ := box2_stored b5 b6 (.bool neg') (.slice c' n' cap')
    go_wp2
    refine bodyPost_ret (v := .agg #[.bool neg', .slice c' n' cap']) (by simp [results, Try.results20, go_sem, r1, r2]) rfl ?_
    exact add_end hnum.out hB3.out
set_option maxHeartbeats 2000000 in
theorem add_num_ge (neg neg2 : Bool) (hne : (neg == neg2) = false) (xa ya : Option Addr) (xc yc : Nat) (a b : List Int) (z : Int) (w : World) (hx : IntRow w xa .i64 a) (hy : IntRow w ya .i64 b) (da : Dig a) (db : Dig b) (ta : Top a) (tb : Top b) (la : a.length ≤ 100000) (lb : b.length ≤ 100000)
    (hab : nv b ≤ nv a) (hz : sg (nv a - nv b) neg = z) :
    Calls Try.prog 20 #[.agg #[.bool neg, .slice xa a.length xc], .agg #[.bool neg2, .slice ya b.length yc]] w fun e w' => AddRes z w e w' := by
  obtain ⟨W, hW⟩ : ∃ W, ((w.alloc (.cells #[.bool neg, .slice xa a.length xc] 50)).alloc (.cells #[.bool neg2, .slice ya b.length yc] 50)).alloc (.cells #[.bool false, .slice none 0 0] 50) = W := ⟨_, rfl⟩
  have hWb : Below w.heap.size w W := by rw [← hW]; exact (((Below.refl _ _).alloc (Nat.le_refl _) _).alloc (by simp) _).alloc (by simp; omega) _
  have B0 : Hid (Boxes w W W (.bool neg) (.slice xa a.length xc) (.bool neg2) (.slice ya b.length yc)) := Lib.hid (by have := boxes_of (w := w) (x0 := .bool neg) (x1 := .slice xa a.length xc) (y0 := .bool neg2) (y1 := .slice ya b.length yc) (T := 50) (Below.refl _ _); rw [hW] at this; exact this)
  have Ca : Hid (∀ n, Calls Try.prog 34 #[.slice xa a.length xc, .slice ya b.length yc] (W.drewN n) fun e w' => e = .returned (.int .i64 (lordI (nv a) (nv b))) ∧ W.drewN n = w') :=
    Lib.hid fun n => above_any xa ya xc yc a b (W.drewN n) (hx.below (below_drewN hWb n)) (hy.below (below_drewN hWb n)) da db (by omega) (by omega)
  have Cp : Hid (∀ n, Calls Try.prog 35 #[.slice xa a.length xc, .slice ya b.length yc] (W.drewN n) (LimbsMid (nv a - nv b) w W (.bool neg) (.slice xa a.length xc) (.bool neg2) (.slice ya b.length yc))) :=
    Lib.hid fun n => (minus_any xa ya xc yc a b (W.drewN n) (hx.below (below_drewN hWb n)) (hy.below (below_drewN hWb n)) da db tb (by omega) (by omega)).mono fun e w' h => h.mid (B0.out.drewN n)
  have Cm : Hid (∀ (c : Option Addr) (cap : Nat) (d : List Int) (w2 : World), Hid (IntRow w2 c .i64 d ∧ Dig d ∧ nv d = nv a - nv b ∧ (c = none → cap = 0)) → d.length ≤ cap → cap ≤ 9223372036854775807 → Hid (Boxes w W w2 (.bool neg) (.slice xa a.length xc) (.bool neg2) (.slice ya b.length yc)) →
      Calls Try.prog 32 #[.bool neg, .slice c d.length cap] w2 (NumMid z w W (.bool neg) (.slice xa a.length xc) (.bool neg2) (.slice ya b.length yc))) :=
    Lib.hid fun c cap d w2 h h1 h2 hb => (made_any neg c cap d w2 h.out.1 h.out.2.1 h1 h2 h.out.2.2.2).mono fun e w' hh => by
      rw [h.out.2.2.1, hz] at hh
      exact hh.mid hb.out
  have HW := Lib.hid hW
  obtain ⟨o, ho, hob⟩ : ∃ o, lordI (nv a) (nv b) = o ∧ 0 ≤ o ∧ o ≤ 1 := ⟨_, rfl, by unfold lordI; (repeat' split) <;> omega⟩
  rw [ho] at Ca
  clear hW hWb hx hy hz ho hab ta tb
  go_enter Try.func20, Try.ntmps20
  obtain ⟨c1, c2, c3, c4, -⟩ := B0.out
  go_wp2_with fail
  rw [HW.out]
  refine (Ca.out 0).mono ?_
  rintro e w1 ⟨rfl, hw1⟩
  have hw1 : W = w1 := hw1
  subst hw1
  go_wp2
  go_region_held3 (fun w' => w'.cell? ⟨w.heap.size, 0, none⟩ = some (.bool neg) ∧ w'.cell? ⟨w.heap.size, 1, none⟩ = some (.slice xa a.length xc) ∧ w'.cell? ⟨w.heap.size + 1, 0, none⟩ = some (.bool neg2) ∧ w'.cell? ⟨w.heap.size + 1, 1, none⟩ = some (.slice ya b.length yc))
    (first | exact ⟨c1', c2', c3', c4'⟩ | exact ⟨set2_far c1' (by first | (simp; done) | (simp; omega)), set2_far c2' (by first | (simp; done) | (simp; omega)), set2_far c3' (by first | (simp; done) | (simp; omega)), set2_far c4' (by first | (simp; done) | (simp; omega))⟩ | go_keep)
    (first | (go_at_call 35; refine (Cp.out 1).mono ?_; rintro e w2 ⟨c, cap, d, rfl, hl, hl1, hl2, hB⟩; obtain ⟨c1', c2', c3', c4', -⟩ := hB.out) | (go_at_call 32; refine (Cm.out _ _ _ _ hl hl1 hl2 hB).mono ?_; rintro e w3 ⟨neg', c', cap', n', rfl, hnum, hB3⟩; obtain ⟨c1', c2', c3', c4', b5, b6, b7, b8, -⟩ := hB3.out))
  all_goals
    obtain ⟨r1, r2⟩ := box2_stored b5 b6 (.bool neg') (.slice c' n' cap')
    go_wp2
    refine bodyPost_ret (v := .agg #[.bool neg', .slice c' n' cap']) (by simp [results, Try.results20, go_sem, r1, r2]) rfl ?_
    exact add_end hnum.out hB3.out
set_option maxHeartbeats 2000000 in
theorem add_num_lt (neg neg2 : Bool) (hne : (neg == neg2) = false) (xa ya : Option Addr) (xc yc : Nat) (a b : List Int) (z : Int) (w : World) (hx : IntRow w xa .i64 a) (hy : IntRow w ya .i64 b) (da : Dig a) (db : Dig b) (ta : Top a) (tb : Top b) (la : a.length ≤ 100000) (lb : b.length ≤ 100000)
    (hab : nv a < nv b) (hz : sg (nv b - nv a) neg2 = z) :
    Calls Try.prog 20 #[.agg #[.bool neg, .slice xa a.length xc], .agg #[.bool neg2, .slice ya b.length yc]] w fun e w' => AddRes z w e w' := by
  obtain ⟨W, hW⟩ : ∃ W, ((w.alloc (.cells #[.bool neg, .slice xa a.length xc] 50)).alloc (.cells #[.bool neg2, .slice ya b.length yc] 50)).alloc (.cells #[.bool false, .slice none 0 0] 50) = W := ⟨_, rfl⟩
  have hWb : Below w.heap.size w W := by rw [← hW]; exact (((Below.refl _ _).alloc (Nat.le_refl _) _).alloc (by simp) _).alloc (by simp; omega) _
  have B0 : Hid (Boxes w W W (.bool neg) (.slice xa a.length xc) (.bool neg2) (.slice ya b.length yc)) := Lib.hid (by have := boxes_of (w := w) (x0 := .bool neg) (x1 := .slice xa a.length xc) (y0 := .bool neg2) (y1 := .slice ya b.length yc) (T := 50) (Below.refl _ _); rw [hW] at this; exact this)
  have Ca : Hid (∀ n, Calls Try.prog 34 #[.slice xa a.length xc, .slice ya b.length yc] (W.drewN n) fun e w' => e = .returned (.int .i64 (lordI (nv a) (nv b))) ∧ W.drewN n = w') :=
    Lib.hid fun n => above_any xa ya xc yc a b (W.drewN n) (hx.below (below_drewN hWb n)) (hy.below (below_drewN hWb n)) da db (by omega) (by omega)
  have Cp : Hid (∀ n, Calls Try.prog 35 #[.slice ya b.length yc, .slice xa a.length xc] (W.drewN n) (LimbsMid (nv b - nv a) w W (.bool neg) (.slice xa a.length xc) (.bool neg2) (.slice ya b.length yc))) :=
    Lib.hid fun n => (minus_any ya xa yc xc b a (W.drewN n) (hy.below (below_drewN hWb n)) (hx.below (below_drewN hWb n)) db da ta (by omega) (by omega)).mono fun e w' h => h.mid (B0.out.drewN n)
  have Cm : Hid (∀ (c : Option Addr) (cap : Nat) (d : List Int) (w2 : World), Hid (IntRow w2 c .i64 d ∧ Dig d ∧ nv d = nv b - nv a ∧ (c = none → cap = 0)) → d.length ≤ cap → cap ≤ 9223372036854775807 → Hid (Boxes w W w2 (.bool neg) (.slice xa a.length xc) (.bool neg2) (.slice ya b.length yc)) →
      Calls Try.prog 32 #[.bool neg2, .slice c d.length cap] w2 (NumMid z w W (.bool neg) (.slice xa a.length xc) (.bool neg2) (.slice ya b.length yc))) :=
    Lib.hid fun c cap d w2 h h1 h2 hb => (made_any neg2 c cap d w2 h.out.1 h.out.2.1 h1 h2 h.out.2.2.2).mono fun e w' hh => by
      rw [h.out.2.2.1, hz] at hh
      exact hh.mid hb.out
  have HW := Lib.hid hW
  obtain ⟨o, ho, hob⟩ : ∃ o, lordI (nv a) (nv b) = o ∧ o < 0 ∧ -1 ≤ o := ⟨_, rfl, by unfold lordI; (repeat' split) <;> omega⟩
  rw [ho] at Ca
  clear hW hWb hx hy hz ho hab ta tb
  go_enter Try.func20, Try.ntmps20
  obtain ⟨c1, c2, c3, c4, -⟩ := B0.out
  go_wp2_with fail
  rw [HW.out]
  refine (Ca.out 0).mono ?_
  rintro e w1 ⟨rfl, hw1⟩
  have hw1 : W = w1 := hw1
  subst hw1
  go_wp2
  go_region_held3 (fun w' => w'.cell? ⟨w.heap.size, 0, none⟩ = some (.bool neg) ∧ w'.cell? ⟨w.heap.size, 1, none⟩ = some (.slice xa a.length xc) ∧ w'.cell? ⟨w.heap.size + 1, 0, none⟩ = some (.bool neg2) ∧ w'.cell? ⟨w.heap.size + 1, 1, none⟩ = some (.slice ya b.length yc))
    (first | exact ⟨c1', c2', c3', c4'⟩ | exact ⟨set2_far c1' (by first | (simp; done) | (simp; omega)), set2_far c2' (by first | (simp; done) | (simp; omega)), set2_far c3' (by first | (simp; done) | (simp; omega)), set2_far c4' (by first | (simp; done) | (simp; omega))⟩ | go_keep)
    (first | (go_at_call 35; refine (Cp.out 1).mono ?_; rintro e w2 ⟨c, cap, d, rfl, hl, hl1, hl2, hB⟩; obtain ⟨c1', c2', c3', c4', -⟩ := hB.out) | (go_at_call 32; refine (Cm.out _ _ _ _ hl hl1 hl2 hB).mono ?_; rintro e w3 ⟨neg', c', cap', n', rfl, hnum, hB3⟩; obtain ⟨c1', c2', c3', c4', b5, b6, b7, b8, -⟩ := hB3.out))
  all_goals
    obtain ⟨r1, r2⟩ := box2_stored b5 b6 (.bool neg') (.slice c' n' cap')
    go_wp2
    refine bodyPost_ret (v := .agg #[.bool neg', .slice c' n' cap']) (by simp [results, Try.results20, go_sem, r1, r2]) rfl ?_
    exact add_end hnum.out hB3.out
/-- a number of at most a hundred limbs -/
def Hund (z : Int) : Prop := -(pw 100) < z ∧ z < pw 100
theorem hund_len {d : List Int} {neg : Bool} (hd : Dig d) (ht : Top d) (h : Hund (sg (nv d) neg)) : d.length ≤ 100 := by
  rw [← nv_len d hd ht]
  unfold Hund sg at h
  cases neg <;> simp at h <;> omega
theorem num_add (x y : Value) (a b : Int) (w : World) (hx : NumAt w x a) (hy : NumAt w y b) (ha : Hund a) (hb : Hund b) :
    Calls Try.prog 20 #[x, y] w fun e w' => NumOut (a + b) w e w' := by
  obtain ⟨na, la, da, rfl, ⟨xa, xc, rfl, hrx, hx1, hx2, hx3, hdx⟩, htx, hnx, rfl⟩ := hx
  obtain ⟨nb, lb, db, rfl, ⟨ya, yc, rfl, hry, hy1, hy2, hy3, hdy⟩, hty, hny, rfl⟩ := hy
  have l1 := hund_len hdx htx ha
  have l2 := hund_len hdy hty hb
  by_cases hs : na = nb
  · subst hs
    exact add_num_same na xa ya xc yc da db _ w hrx hry hdx hdy (by omega) (by omega) (by unfold sg; cases na <;> simp <;> omega)
  · have hne : (na == nb) = false := by simpa using hs
    by_cases hg : nv db ≤ nv da
    · exact add_num_ge na nb hne xa ya xc yc da db _ w hrx hry hdx hdy htx hty (by omega) (by omega) hg (by unfold sg; cases na <;> cases nb <;> simp at hs ⊢ <;> omega)
    · exact add_num_lt na nb hne xa ya xc yc da db _ w hrx hry hdx hdy htx hty (by omega) (by omega) (by omega) (by unfold sg; cases na <;> cases nb <;> simp at hs ⊢ <;> omega)
end Go.Proofs.Ytldgdedfioigiaa
