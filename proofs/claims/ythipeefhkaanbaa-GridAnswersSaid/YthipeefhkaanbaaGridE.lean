/- grid: Meets in one, Certain, Pick: for every input. -/
import Derived.Test.YthipeefhkaanbaaGridD
namespace Go.Proofs.Ythipeefhkaanbaa
open Go.RowKit
set_option linter.unusedVariables false

def mtE (w p m a b : Int) : Int := if rgB w p m then (if a ≤ b then 0 else 10) else 21
def mtA (w p m a b : Int) : Int := if mtE w p m a b = 0 then a / w else 0
def mtB (w p m a b : Int) : Int := if mtE w p m a b = 0 then b / w else 0
theorem mt_ok {w p m a b : Int} (h : rgB w p m = true) (h1 : a ≤ b) : mtE w p m a b = 0 ∧ mtA w p m a b = a / w ∧ mtB w p m a b = b / w := by
  have e : mtE w p m a b = 0 := by unfold mtE; rw [h, if_pos rfl, if_pos h1]
  exact ⟨e, if_pos e, if_pos e⟩
theorem mt_form {w p m a b : Int} (h : rgB w p m = true) (h1 : ¬ a ≤ b) : mtE w p m a b = 10 ∧ mtA w p m a b = 0 ∧ mtB w p m a b = 0 := by
  have e : mtE w p m a b = 10 := by unfold mtE; rw [h, if_pos rfl, if_neg h1]
  exact ⟨e, if_neg (by rw [e]; decide), if_neg (by rw [e]; decide)⟩
theorem mt_state {w p m a b : Int} (h : rgB w p m = false) : mtE w p m a b = 21 ∧ mtA w p m a b = 0 ∧ mtB w p m a b = 0 := by
  have e : mtE w p m a b = 21 := by unfold mtE; rw [h]; rfl
  exact ⟨e, if_neg (by rw [e]; decide), if_neg (by rw [e]; decide)⟩
theorem meets_any (w p m a b : Int) (W : World) (ha : InI a) (hb : InI b) : Calls Try.prog 15 #[.agg #[.int .i64 w, .int .i64 p, .int .i64 m], .agg #[.int .i64 a, .int .i64 b]] W (MeetRes (mtA w p m a b) (mtB w p m a b) (mtE w p m a b) W) := by
  cases hr : rgB w p m
  · obtain ⟨e1, e2, e3⟩ := mt_state (a := a) (b := b) hr
    rw [e1, e2, e3]; exact meets_state w p m a b W hr
  · by_cases h : a ≤ b
    · obtain ⟨e1, e2, e3⟩ := mt_ok hr h
      rw [e1, e2, e3]; exact meets_ok w p m a b W hr ha hb h
    · obtain ⟨e1, e2, e3⟩ := mt_form hr h
      rw [e1, e2, e3]; exact meets_form w p m a b W hr h
theorem certain_no (w p m a b x y e : Int) (W : World) (he : (e == 0) = false) (CM : Hid (∀ W, Calls Try.prog 15 #[.agg #[.int .i64 w, .int .i64 p, .int .i64 m], .agg #[.int .i64 a, .int .i64 b]] W (MeetRes x y e W))) : Calls Try.prog 18 #[.agg #[.int .i64 w, .int .i64 p, .int .i64 m], .agg #[.int .i64 a, .int .i64 b]] W (Gives (.bool false) W) := by
  go_enter Try.func18, Try.ntmps18
  go_wp2_with fail
  refine (CM.out _).mono ?_
  rintro e1 w1 ⟨rfl, hb1⟩
  have B1 := Lib.hid (((one_alloc W _).alloc (by simp) _).trans (hb1.mono (by simp; omega)))
  clear hb1
  go_wp2
  go_ret
  exact gives_bool rfl B1.out
theorem certain_yes (w p m a b x y : Int) (r : Bool) (W : World) (hr : (x == y) = r) (CM : Hid (∀ W, Calls Try.prog 15 #[.agg #[.int .i64 w, .int .i64 p, .int .i64 m], .agg #[.int .i64 a, .int .i64 b]] W (MeetRes x y 0 W))) : Calls Try.prog 18 #[.agg #[.int .i64 w, .int .i64 p, .int .i64 m], .agg #[.int .i64 a, .int .i64 b]] W (Gives (.bool r) W) := by
  go_enter Try.func18, Try.ntmps18
  go_wp2_with fail
  refine (CM.out _).mono ?_
  rintro e1 w1 ⟨rfl, hb1⟩
  have B1 := Lib.hid (((one_alloc W _).alloc (by simp) _).trans (hb1.mono (by simp; omega)))
  clear hb1
  go_wp2
  go_ret
  exact gives_bool rfl B1.out
theorem certain_any (w p m a b : Int) (r : Bool) (W : World) (ha : InI a) (hb : InI b) (hr : (decide (mtE w p m a b = 0) && (mtA w p m a b == mtB w p m a b)) = r) : Calls Try.prog 18 #[.agg #[.int .i64 w, .int .i64 p, .int .i64 m], .agg #[.int .i64 a, .int .i64 b]] W (Gives (.bool r) W) := by
  have CM := Lib.hid (fun W => meets_any w p m a b W ha hb)
  by_cases h : mtE w p m a b = 0
  · rw [h] at CM hr
    exact certain_yes w p m a b _ _ r W (by simpa using hr) CM
  · rw [decide_eq_false h] at hr
    subst hr
    exact certain_no w p m a b _ _ _ W (by simpa using h) CM
theorem pick_err (w p m a b x y e : Int) (W : World) (he : (e != 0) = true) (CM : Hid (∀ W, Calls Try.prog 15 #[.agg #[.int .i64 w, .int .i64 p, .int .i64 m], .agg #[.int .i64 a, .int .i64 b]] W (MeetRes x y e W))) : Calls Try.prog 13 #[.agg #[.int .i64 w, .int .i64 p, .int .i64 m], .agg #[.int .i64 a, .int .i64 b]] W (Gives (.tuple #[.int .i64 0, .int .i64 e]) W) := by
  go_enter Try.func13, Try.ntmps13
  go_wp2_with fail
  refine (CM.out _).mono ?_
  rintro e1 w1 ⟨rfl, hb1⟩
  have B1 := Lib.hid (((one_alloc W _).alloc (by simp) _).trans (hb1.mono (by simp; omega)))
  clear hb1
  go_wp2
  go_ret2
  exact ⟨rfl, B1.out⟩
set_option maxHeartbeats 1000000 in
theorem pick_long (w p m a b x y z : Int) (W : World) (h0 : 0 ≤ m) (h1 : m ≤ 4611686018427387903) (hz : m < z) (CM : Hid (∀ W, Calls Try.prog 15 #[.agg #[.int .i64 w, .int .i64 p, .int .i64 m], .agg #[.int .i64 a, .int .i64 b]] W (MeetRes x y 0 W))) (Cw : Hid (∀ W, Calls Try.prog 21 #[.agg #[.int .i64 a, .int .i64 b]] W (Gives (.int .u64 z) W))) : Calls Try.prog 13 #[.agg #[.int .i64 w, .int .i64 p, .int .i64 m], .agg #[.int .i64 a, .int .i64 b]] W (Gives (.tuple #[.int .i64 0, .int .i64 17]) W) := by
  go_enter Try.func13, Try.ntmps13
  go_wp2_with fail
  refine (CM.out _).mono ?_
  rintro e1 w1 ⟨rfl, hb1⟩
  have B1 := Lib.hid (((one_alloc W _).alloc (by simp) _).trans (hb1.mono (by simp; omega)))
  have K1 := (((Kept.new (w := W) (cs := #[.int .i64 w, .int .i64 p, .int .i64 m]) (t := 23) rfl).alloc (.cells #[.int .i64 a, .int .i64 b] 25))).next hb1
  have K2 := (Kept.new (w := W.alloc (.cells #[.int .i64 w, .int .i64 p, .int .i64 m] 23)) (g := W.heap.size + 1) (cs := #[.int .i64 a, .int .i64 b]) (t := 25) (by simp)).next hb1
  obtain ⟨c1, c2, c3, -, -, -, l1⟩ := K1.three
  obtain ⟨d1, d2, -, -, l2⟩ := K2.two
  clear K1 K2
  clear hb1
  go_wp2
  have wm : IntKind.u64.wrap m = m := by simp only [IntKind.wrap_u64]; omega
  go_region_held3 (fun w' => Hid (Below W.heap.size W w') ∧ w'.cell? ⟨W.heap.size, 0, none⟩ = some (.int .i64 w) ∧ w'.cell? ⟨W.heap.size, 1, none⟩ = some (.int .i64 p) ∧ w'.cell? ⟨W.heap.size, 2, none⟩ = some (.int .i64 m) ∧ w'.cell? ⟨W.heap.size + 1, 0, none⟩ = some (.int .i64 a) ∧ w'.cell? ⟨W.heap.size + 1, 1, none⟩ = some (.int .i64 b))
    (first | exact keepB5 hb3 (by assumption) | exact ⟨Lib.hid ⟨B1.out.os, B1.out.tape, B1.out.output, B1.out.size, B1.out.block⟩, c1, c2, c3, d1, d2⟩)
    (first | (go_at_call 21; (with_reducible refine (Cw.out _).mono ?_); rintro e w3 ⟨rfl, hb3⟩))
  rename_i HH
  clear c1 c2 c3 d1 d2
  obtain ⟨B2, c1, c2, c3, d1, d2⟩ := HH
  go_wp2
  go_ret2
  exact ⟨rfl, B2.out⟩
set_option maxHeartbeats 1000000 in
theorem pick_first (w m a b x y z : Int) (W : World) (h0 : 0 ≤ m) (h1 : m ≤ 4611686018427387903) (hz : z ≤ m) (CM : Hid (∀ W, Calls Try.prog 15 #[.agg #[.int .i64 w, .int .i64 0, .int .i64 m], .agg #[.int .i64 a, .int .i64 b]] W (MeetRes x y 0 W))) (Cw : Hid (∀ W, Calls Try.prog 21 #[.agg #[.int .i64 a, .int .i64 b]] W (Gives (.int .u64 z) W))) : Calls Try.prog 13 #[.agg #[.int .i64 w, .int .i64 0, .int .i64 m], .agg #[.int .i64 a, .int .i64 b]] W (Gives (.tuple #[.int .i64 x, .int .i64 0]) W) := by
  go_enter Try.func13, Try.ntmps13
  go_wp2_with fail
  refine (CM.out _).mono ?_
  rintro e1 w1 ⟨rfl, hb1⟩
  have B1 := Lib.hid (((one_alloc W _).alloc (by simp) _).trans (hb1.mono (by simp; omega)))
  have K1 := (((Kept.new (w := W) (cs := #[.int .i64 w, .int .i64 0, .int .i64 m]) (t := 23) rfl).alloc (.cells #[.int .i64 a, .int .i64 b] 25))).next hb1
  have K2 := (Kept.new (w := W.alloc (.cells #[.int .i64 w, .int .i64 0, .int .i64 m] 23)) (g := W.heap.size + 1) (cs := #[.int .i64 a, .int .i64 b]) (t := 25) (by simp)).next hb1
  obtain ⟨c1, c2, c3, -, -, -, l1⟩ := K1.three
  obtain ⟨d1, d2, -, -, l2⟩ := K2.two
  clear K1 K2
  clear hb1
  go_wp2
  have wm : IntKind.u64.wrap m = m := by simp only [IntKind.wrap_u64]; omega
  go_region_held3 (fun w' => Hid (Below W.heap.size W w') ∧ w'.cell? ⟨W.heap.size, 0, none⟩ = some (.int .i64 w) ∧ w'.cell? ⟨W.heap.size, 1, none⟩ = some (.int .i64 0) ∧ w'.cell? ⟨W.heap.size, 2, none⟩ = some (.int .i64 m) ∧ w'.cell? ⟨W.heap.size + 1, 0, none⟩ = some (.int .i64 a) ∧ w'.cell? ⟨W.heap.size + 1, 1, none⟩ = some (.int .i64 b))
    (first | exact keepB5 hb3 (by assumption) | exact ⟨Lib.hid ⟨B1.out.os, B1.out.tape, B1.out.output, B1.out.size, B1.out.block⟩, c1, c2, c3, d1, d2⟩)
    (first | (go_at_call 21; (with_reducible refine (Cw.out _).mono ?_); rintro e w3 ⟨rfl, hb3⟩))
  rename_i HH
  clear c1 c2 c3 d1 d2
  obtain ⟨B2, c1, c2, c3, d1, d2⟩ := HH
  go_wp2
  go_ret2
  exact ⟨rfl, B2.out⟩
set_option maxHeartbeats 1000000 in
theorem pick_last (w m a b x y z : Int) (W : World) (h0 : 0 ≤ m) (h1 : m ≤ 4611686018427387903) (hz : z ≤ m) (CM : Hid (∀ W, Calls Try.prog 15 #[.agg #[.int .i64 w, .int .i64 1, .int .i64 m], .agg #[.int .i64 a, .int .i64 b]] W (MeetRes x y 0 W))) (Cw : Hid (∀ W, Calls Try.prog 21 #[.agg #[.int .i64 a, .int .i64 b]] W (Gives (.int .u64 z) W))) : Calls Try.prog 13 #[.agg #[.int .i64 w, .int .i64 1, .int .i64 m], .agg #[.int .i64 a, .int .i64 b]] W (Gives (.tuple #[.int .i64 y, .int .i64 0]) W) := by
  go_enter Try.func13, Try.ntmps13
  go_wp2_with fail
  refine (CM.out _).mono ?_
  rintro e1 w1 ⟨rfl, hb1⟩
  have B1 := Lib.hid (((one_alloc W _).alloc (by simp) _).trans (hb1.mono (by simp; omega)))
  have K1 := (((Kept.new (w := W) (cs := #[.int .i64 w, .int .i64 1, .int .i64 m]) (t := 23) rfl).alloc (.cells #[.int .i64 a, .int .i64 b] 25))).next hb1
  have K2 := (Kept.new (w := W.alloc (.cells #[.int .i64 w, .int .i64 1, .int .i64 m] 23)) (g := W.heap.size + 1) (cs := #[.int .i64 a, .int .i64 b]) (t := 25) (by simp)).next hb1
  obtain ⟨c1, c2, c3, -, -, -, l1⟩ := K1.three
  obtain ⟨d1, d2, -, -, l2⟩ := K2.two
  clear K1 K2
  clear hb1
  go_wp2
  have wm : IntKind.u64.wrap m = m := by simp only [IntKind.wrap_u64]; omega
  go_region_held3 (fun w' => Hid (Below W.heap.size W w') ∧ w'.cell? ⟨W.heap.size, 0, none⟩ = some (.int .i64 w) ∧ w'.cell? ⟨W.heap.size, 1, none⟩ = some (.int .i64 1) ∧ w'.cell? ⟨W.heap.size, 2, none⟩ = some (.int .i64 m) ∧ w'.cell? ⟨W.heap.size + 1, 0, none⟩ = some (.int .i64 a) ∧ w'.cell? ⟨W.heap.size + 1, 1, none⟩ = some (.int .i64 b))
    (first | exact keepB5 hb3 (by assumption) | exact ⟨Lib.hid ⟨B1.out.os, B1.out.tape, B1.out.output, B1.out.size, B1.out.block⟩, c1, c2, c3, d1, d2⟩)
    (first | (go_at_call 21; (with_reducible refine (Cw.out _).mono ?_); rintro e w3 ⟨rfl, hb3⟩))
  rename_i HH
  clear c1 c2 c3 d1 d2
  obtain ⟨B2, c1, c2, c3, d1, d2⟩ := HH
  go_wp2
  go_ret2
  exact ⟨rfl, B2.out⟩
set_option maxHeartbeats 1000000 in
theorem pick_mid (w m a b x y z : Int) (W : World) (h0 : 0 ≤ m) (h1 : m ≤ 4611686018427387903) (hz : z ≤ m) (c v : Int) (Cd : Hid (∀ W, Calls Try.prog 30 #[.agg #[.int .i64 a, .int .i64 b]] W (Gives (.int .i64 c) W))) (Cv : Hid (∀ W, Calls Try.prog 16 #[.agg #[.int .i64 w, .int .i64 2, .int .i64 m], .int .i64 c] W (Gives (.int .i64 v) W))) (CM : Hid (∀ W, Calls Try.prog 15 #[.agg #[.int .i64 w, .int .i64 2, .int .i64 m], .agg #[.int .i64 a, .int .i64 b]] W (MeetRes x y 0 W))) (Cw : Hid (∀ W, Calls Try.prog 21 #[.agg #[.int .i64 a, .int .i64 b]] W (Gives (.int .u64 z) W))) : Calls Try.prog 13 #[.agg #[.int .i64 w, .int .i64 2, .int .i64 m], .agg #[.int .i64 a, .int .i64 b]] W (Gives (.tuple #[.int .i64 v, .int .i64 0]) W) := by
  go_enter Try.func13, Try.ntmps13
  go_wp2_with fail
  refine (CM.out _).mono ?_
  rintro e1 w1 ⟨rfl, hb1⟩
  have B1 := Lib.hid (((one_alloc W _).alloc (by simp) _).trans (hb1.mono (by simp; omega)))
  have K1 := (((Kept.new (w := W) (cs := #[.int .i64 w, .int .i64 2, .int .i64 m]) (t := 23) rfl).alloc (.cells #[.int .i64 a, .int .i64 b] 25))).next hb1
  have K2 := (Kept.new (w := W.alloc (.cells #[.int .i64 w, .int .i64 2, .int .i64 m] 23)) (g := W.heap.size + 1) (cs := #[.int .i64 a, .int .i64 b]) (t := 25) (by simp)).next hb1
  obtain ⟨c1, c2, c3, -, -, -, l1⟩ := K1.three
  obtain ⟨d1, d2, -, -, l2⟩ := K2.two
  clear K1 K2
  clear hb1
  go_wp2
  have wm : IntKind.u64.wrap m = m := by simp only [IntKind.wrap_u64]; omega
  go_region_held3 (fun w' => Hid (Below W.heap.size W w') ∧ w'.cell? ⟨W.heap.size, 0, none⟩ = some (.int .i64 w) ∧ w'.cell? ⟨W.heap.size, 1, none⟩ = some (.int .i64 2) ∧ w'.cell? ⟨W.heap.size, 2, none⟩ = some (.int .i64 m) ∧ w'.cell? ⟨W.heap.size + 1, 0, none⟩ = some (.int .i64 a) ∧ w'.cell? ⟨W.heap.size + 1, 1, none⟩ = some (.int .i64 b))
    (first | exact keepB5 hb3 (by assumption) | exact ⟨Lib.hid ⟨B1.out.os, B1.out.tape, B1.out.output, B1.out.size, B1.out.block⟩, c1, c2, c3, d1, d2⟩)
    (first | (go_at_call 21; (with_reducible refine (Cw.out _).mono ?_); rintro e w3 ⟨rfl, hb3⟩))
  rename_i HH
  clear c1 c2 c3 d1 d2
  obtain ⟨B2, c1, c2, c3, d1, d2⟩ := HH
  go_wp2
  have B3 := B2
  clear B2
  go_region_held3 (fun w' => Hid (Below W.heap.size W w') ∧ w'.cell? ⟨W.heap.size, 0, none⟩ = some (.int .i64 w) ∧ w'.cell? ⟨W.heap.size, 1, none⟩ = some (.int .i64 2) ∧ w'.cell? ⟨W.heap.size, 2, none⟩ = some (.int .i64 m) ∧ w'.cell? ⟨W.heap.size + 1, 0, none⟩ = some (.int .i64 a) ∧ w'.cell? ⟨W.heap.size + 1, 1, none⟩ = some (.int .i64 b))
    (first | exact keepB5 hb3 (by assumption) | exact ⟨Lib.hid ⟨B3.out.os, B3.out.tape, B3.out.output, B3.out.size, B3.out.block⟩, c1, c2, c3, d1, d2⟩)
    (first | (go_at_call 30; (with_reducible refine (Cd.out _).mono ?_); rintro e w3 ⟨rfl, hb3⟩) | (go_at_call 16; (with_reducible refine (Cv.out _).mono ?_); rintro e w3 ⟨rfl, hb3⟩))
  rename_i HH
  clear c1 c2 c3 d1 d2
  obtain ⟨B2, c1, c2, c3, d1, d2⟩ := HH
  go_wp2
  go_ret2
  exact ⟨rfl, B2.out⟩
set_option maxHeartbeats 1000000 in
theorem pick_two (w m a b x y z : Int) (W : World) (h0 : 0 ≤ m) (h1 : m ≤ 4611686018427387903) (hz : z ≤ m) (hxy : (x != y) = true) (CM : Hid (∀ W, Calls Try.prog 15 #[.agg #[.int .i64 w, .int .i64 3, .int .i64 m], .agg #[.int .i64 a, .int .i64 b]] W (MeetRes x y 0 W))) (Cw : Hid (∀ W, Calls Try.prog 21 #[.agg #[.int .i64 a, .int .i64 b]] W (Gives (.int .u64 z) W))) : Calls Try.prog 13 #[.agg #[.int .i64 w, .int .i64 3, .int .i64 m], .agg #[.int .i64 a, .int .i64 b]] W (Gives (.tuple #[.int .i64 0, .int .i64 17]) W) := by
  go_enter Try.func13, Try.ntmps13
  go_wp2_with fail
  refine (CM.out _).mono ?_
  rintro e1 w1 ⟨rfl, hb1⟩
  have B1 := Lib.hid (((one_alloc W _).alloc (by simp) _).trans (hb1.mono (by simp; omega)))
  have K1 := (((Kept.new (w := W) (cs := #[.int .i64 w, .int .i64 3, .int .i64 m]) (t := 23) rfl).alloc (.cells #[.int .i64 a, .int .i64 b] 25))).next hb1
  have K2 := (Kept.new (w := W.alloc (.cells #[.int .i64 w, .int .i64 3, .int .i64 m] 23)) (g := W.heap.size + 1) (cs := #[.int .i64 a, .int .i64 b]) (t := 25) (by simp)).next hb1
  obtain ⟨c1, c2, c3, -, -, -, l1⟩ := K1.three
  obtain ⟨d1, d2, -, -, l2⟩ := K2.two
  clear K1 K2
  clear hb1
  go_wp2
  have wm : IntKind.u64.wrap m = m := by simp only [IntKind.wrap_u64]; omega
  go_region_held3 (fun w' => Hid (Below W.heap.size W w') ∧ w'.cell? ⟨W.heap.size, 0, none⟩ = some (.int .i64 w) ∧ w'.cell? ⟨W.heap.size, 1, none⟩ = some (.int .i64 3) ∧ w'.cell? ⟨W.heap.size, 2, none⟩ = some (.int .i64 m) ∧ w'.cell? ⟨W.heap.size + 1, 0, none⟩ = some (.int .i64 a) ∧ w'.cell? ⟨W.heap.size + 1, 1, none⟩ = some (.int .i64 b))
    (first | exact keepB5 hb3 (by assumption) | exact ⟨Lib.hid ⟨B1.out.os, B1.out.tape, B1.out.output, B1.out.size, B1.out.block⟩, c1, c2, c3, d1, d2⟩)
    (first | (go_at_call 21; (with_reducible refine (Cw.out _).mono ?_); rintro e w3 ⟨rfl, hb3⟩))
  rename_i HH
  clear c1 c2 c3 d1 d2
  obtain ⟨B2, c1, c2, c3, d1, d2⟩ := HH
  go_wp2
  go_ret2
  exact ⟨rfl, B2.out⟩
set_option maxHeartbeats 1000000 in
theorem pick_one (w m a b x y z : Int) (W : World) (h0 : 0 ≤ m) (h1 : m ≤ 4611686018427387903) (hz : z ≤ m) (hxy : (x != y) = false) (CM : Hid (∀ W, Calls Try.prog 15 #[.agg #[.int .i64 w, .int .i64 3, .int .i64 m], .agg #[.int .i64 a, .int .i64 b]] W (MeetRes x y 0 W))) (Cw : Hid (∀ W, Calls Try.prog 21 #[.agg #[.int .i64 a, .int .i64 b]] W (Gives (.int .u64 z) W))) : Calls Try.prog 13 #[.agg #[.int .i64 w, .int .i64 3, .int .i64 m], .agg #[.int .i64 a, .int .i64 b]] W (Gives (.tuple #[.int .i64 x, .int .i64 0]) W) := by
  go_enter Try.func13, Try.ntmps13
  go_wp2_with fail
  refine (CM.out _).mono ?_
  rintro e1 w1 ⟨rfl, hb1⟩
  have B1 := Lib.hid (((one_alloc W _).alloc (by simp) _).trans (hb1.mono (by simp; omega)))
  have K1 := (((Kept.new (w := W) (cs := #[.int .i64 w, .int .i64 3, .int .i64 m]) (t := 23) rfl).alloc (.cells #[.int .i64 a, .int .i64 b] 25))).next hb1
  have K2 := (Kept.new (w := W.alloc (.cells #[.int .i64 w, .int .i64 3, .int .i64 m] 23)) (g := W.heap.size + 1) (cs := #[.int .i64 a, .int .i64 b]) (t := 25) (by simp)).next hb1
  obtain ⟨c1, c2, c3, -, -, -, l1⟩ := K1.three
  obtain ⟨d1, d2, -, -, l2⟩ := K2.two
  clear K1 K2
  clear hb1
  go_wp2
  have wm : IntKind.u64.wrap m = m := by simp only [IntKind.wrap_u64]; omega
  go_region_held3 (fun w' => Hid (Below W.heap.size W w') ∧ w'.cell? ⟨W.heap.size, 0, none⟩ = some (.int .i64 w) ∧ w'.cell? ⟨W.heap.size, 1, none⟩ = some (.int .i64 3) ∧ w'.cell? ⟨W.heap.size, 2, none⟩ = some (.int .i64 m) ∧ w'.cell? ⟨W.heap.size + 1, 0, none⟩ = some (.int .i64 a) ∧ w'.cell? ⟨W.heap.size + 1, 1, none⟩ = some (.int .i64 b))
    (first | exact keepB5 hb3 (by assumption) | exact ⟨Lib.hid ⟨B1.out.os, B1.out.tape, B1.out.output, B1.out.size, B1.out.block⟩, c1, c2, c3, d1, d2⟩)
    (first | (go_at_call 21; (with_reducible refine (Cw.out _).mono ?_); rintro e w3 ⟨rfl, hb3⟩))
  rename_i HH
  clear c1 c2 c3 d1 d2
  obtain ⟨B2, c1, c2, c3, d1, d2⟩ := HH
  go_wp2
  go_ret2
  exact ⟨rfl, B2.out⟩
theorem pick_any (w p m a b : Int) (W : World) (ha : InI a) (hb : InI b) : Calls Try.prog 13 #[.agg #[.int .i64 w, .int .i64 p, .int .i64 m], .agg #[.int .i64 a, .int .i64 b]] W (Gives (.tuple #[.int .i64 (pkV w p m a b), .int .i64 (pkE w p m a b)]) W) := by
  have CM := Lib.hid (fun W => meets_any w p m a b W ha hb)
  cases hr : rgB w p m
  · obtain ⟨e1, e2, e3⟩ := mt_state (a := a) (b := b) hr
    obtain ⟨k1, k2⟩ := pk_state (a := a) (b := b) hr
    rw [k1, k2]
    rw [e1] at CM
    exact pick_err w p m a b _ _ _ W (by decide) CM
  obtain ⟨r1, r2, r3, r4, r5, r6⟩ := rgB_yes hr
  by_cases h : a ≤ b
  · obtain ⟨e1, e2, e3⟩ := mt_ok hr h
    have Cw := Lib.hid (fun W => width_any a b W ha hb)
    have hw : widI a b = b - a := if_pos h
    rw [hw] at Cw
    rw [e1, e2, e3] at CM
    by_cases hz : b - a ≤ m
    · have hp : p = 0 ∨ p = 1 ∨ p = 2 ∨ p = 3 := by omega
      rcases hp with rfl | rfl | rfl | rfl
      · obtain ⟨k1, k2⟩ := pk_ok hr h hz (by omega)
        rw [k1, k2]
        exact pick_first w m a b _ _ _ W r5 r6 hz CM Cw
      · obtain ⟨k1, k2⟩ := pk_ok hr h hz (by omega)
        rw [k1, k2]
        exact pick_last w m a b _ _ _ W r5 r6 hz CM Cw
      · obtain ⟨k1, k2⟩ := pk_ok hr h hz (by omega)
        rw [k1, k2]
        have hm : InI (midI a b) := by have := mid_in h; unfold InI at *; omega
        exact pick_mid w m a b _ _ _ W r5 r6 hz _ _ (Lib.hid fun W => mid_any a b W ha hb) (Lib.hid fun W => window_yes w 2 m _ W hr hm) CM Cw
      · by_cases hxy : a / w = b / w
        · obtain ⟨k1, k2⟩ := pk_ok hr h hz (by omega)
          rw [k1, k2]
          exact pick_one w m a b _ _ _ W r5 r6 hz (by simpa using hxy) CM Cw
        · obtain ⟨k1, k2⟩ := pk_two hr h hz rfl hxy
          rw [k1, k2]
          exact pick_two w m a b _ _ _ W r5 r6 hz (by simpa using hxy) CM Cw
    · obtain ⟨k1, k2⟩ := pk_long hr h hz
      rw [k1, k2]
      exact pick_long w p m a b _ _ _ W r5 r6 (by omega) CM Cw
  · obtain ⟨e1, e2, e3⟩ := mt_form hr h
    obtain ⟨k1, k2⟩ := pk_form hr h
    rw [k1, k2]
    rw [e1] at CM
    exact pick_err w p m a b _ _ _ W (by decide) CM
end Go.Proofs.Ythipeefhkaanbaa
