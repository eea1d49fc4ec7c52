/- grid: Meets, Certain, Pick: for every input. -/
import Derived.Test.YthipeefhkaanbaaGridC
namespace Go.Proofs.Ythipeefhkaanbaa
open Go.RowKit
set_option linter.unusedVariables false

def MeetRes (a b e : Int) (w : World) (x : Ending) (w' : World) : Prop := x = .returned (.tuple #[.int .i64 a, .int .i64 b, .int .i64 e]) ∧ Below w.heap.size w w'
theorem meets_state (w p m a b : Int) (W : World) (hr : rgB w p m = false) : Calls Try.prog 15 #[.agg #[.int .i64 w, .int .i64 p, .int .i64 m], .agg #[.int .i64 a, .int .i64 b]] W (MeetRes 0 0 21 W) := by
  have C := Lib.hid (fun W => gright_any w p m false hr W)
  have fin : ∀ w', Below W.heap.size W w' → MeetRes 0 0 21 W (.returned (.tuple #[.int .i64 0, .int .i64 0, .int .i64 21])) w' := fun w' h => ⟨rfl, h⟩
  have Fin := Lib.hid fin
  clear hr fin
  go_enter Try.func15, Try.ntmps15
  go_wp2_with fail
  refine (C.out _).mono ?_
  rintro e w1 ⟨rfl, hb1⟩
  have B1 := Lib.hid (((one_alloc W _).alloc (by simp) _).trans (hb1.mono (by simp; omega)))
  clear hb1
  go_wp2
  go_ret3
  exact Fin.out _ B1.out
theorem meets_form (w p m a b : Int) (W : World) (hr : rgB w p m = true) (h : ¬ a ≤ b) : Calls Try.prog 15 #[.agg #[.int .i64 w, .int .i64 p, .int .i64 m], .agg #[.int .i64 a, .int .i64 b]] W (MeetRes 0 0 10 W) := by
  have C := Lib.hid (fun W => gright_any w p m true hr W)
  have fin : ∀ w', Below W.heap.size W w' → MeetRes 0 0 10 W (.returned (.tuple #[.int .i64 0, .int .i64 0, .int .i64 10])) w' := fun w' h => ⟨rfl, h⟩
  have Fin := Lib.hid fin
  have hd : decide (a ≤ b) = false := decide_eq_false h
  clear hr fin h
  go_enter Try.func15, Try.ntmps15
  go_wp2_with fail
  refine (C.out _).mono ?_
  rintro e w1 ⟨rfl, hb1⟩
  have K2 := (Kept.new (w := W.alloc (.cells #[.int .i64 w, .int .i64 p, .int .i64 m] 23)) (g := W.heap.size + 1) (cs := #[.int .i64 a, .int .i64 b]) (t := 25) (by simp)).next hb1
  obtain ⟨c1, c2, -, -, -⟩ := K2.two
  have B1 := Lib.hid (((one_alloc W _).alloc (by simp) _).trans (hb1.mono (by simp; omega)))
  clear hb1 K2
  go_wp2_with fail
  refine (right_any a b _).mono ?_
  rintro e w2 ⟨rfl, hb2⟩
  rw [hd]
  have B2 := Lib.hid (bnext B1.out B1.out.size hb2)
  clear hb2 hd c1 c2
  go_wp2
  go_ret3
  exact Fin.out _ B2.out
set_option maxHeartbeats 1000000 in
theorem meets_ok (w p m a b : Int) (W : World) (hr : rgB w p m = true) (ha : InI a) (hb : InI b) (h : a ≤ b) : Calls Try.prog 15 #[.agg #[.int .i64 w, .int .i64 p, .int .i64 m], .agg #[.int .i64 a, .int .i64 b]] W (MeetRes (a / w) (b / w) 0 W) := by
  have C := Lib.hid (fun W => gright_any w p m true hr W)
  have C1 := Lib.hid (fun W => window_yes w p m a W hr ha)
  have C2 := Lib.hid (fun W => window_yes w p m b W hr hb)
  have fin : ∀ w', Below W.heap.size W w' → MeetRes (a / w) (b / w) 0 W (.returned (.tuple #[.int .i64 (a / w), .int .i64 (b / w), .int .i64 0])) w' := fun w' h => ⟨rfl, h⟩
  have Fin := Lib.hid fin
  have hd : decide (a ≤ b) = true := decide_eq_true h
  generalize a / w = x at *
  generalize b / w = y at *
  clear hr fin h ha hb
  go_enter Try.func15, Try.ntmps15
  go_wp2_with fail
  refine (C.out _).mono ?_
  rintro e w1 ⟨rfl, hb1⟩
  have K1 := (((Kept.new (w := W) (cs := #[.int .i64 w, .int .i64 p, .int .i64 m]) (t := 23) rfl).alloc (.cells #[.int .i64 a, .int .i64 b] 25))).next hb1
  have K2 := (Kept.new (w := W.alloc (.cells #[.int .i64 w, .int .i64 p, .int .i64 m] 23)) (g := W.heap.size + 1) (cs := #[.int .i64 a, .int .i64 b]) (t := 25) (by simp)).next hb1
  obtain ⟨c1, c2, -, -, -⟩ := K2.two
  have B1 := Lib.hid (((one_alloc W _).alloc (by simp) _).trans (hb1.mono (by simp; omega)))
  have J1 := Lib.hid K1
  have J2 := Lib.hid K2
  clear hb1 K1 K2
  go_wp2_with fail
  refine (right_any a b _).mono ?_
  rintro e w2 ⟨rfl, hb2⟩
  rw [hd]
  have B2 := Lib.hid (bnext B1.out B1.out.size hb2)
  have M1 := Lib.hid (J1.out.next hb2)
  have M2 := Lib.hid (J2.out.next hb2)
  clear hb2 hd c1 c2 J1 J2 B1
  obtain ⟨c1, c2, c3, -, -, -, l1⟩ := M1.out.three
  obtain ⟨d1, d2, -, -, l2⟩ := M2.out.two
  clear M1 M2
  go_wp2
  go_region_held3 (fun w' => Hid (Below W.heap.size W w') ∧ w'.cell? ⟨W.heap.size, 0, none⟩ = some (.int .i64 w) ∧ w'.cell? ⟨W.heap.size, 1, none⟩ = some (.int .i64 p) ∧ w'.cell? ⟨W.heap.size, 2, none⟩ = some (.int .i64 m) ∧ w'.cell? ⟨W.heap.size + 1, 0, none⟩ = some (.int .i64 a) ∧ w'.cell? ⟨W.heap.size + 1, 1, none⟩ = some (.int .i64 b))
    (first | exact keepB5 hb3 (by assumption) | exact ⟨Lib.hid ⟨B2.out.os, B2.out.tape, B2.out.output, B2.out.size, B2.out.block⟩, c1, c2, c3, d1, d2⟩)
    (first | (go_at_call 16; first | (with_reducible refine (C1.out _).mono ?_) | (with_reducible refine (C2.out _).mono ?_)); rintro e w3 ⟨rfl, hb3⟩)
  rename_i HH
  have B3 := HH.1
  clear HH
  go_wp2
  go_ret3
  exact Fin.out _ B3.out
end Go.Proofs.Ythipeefhkaanbaa
