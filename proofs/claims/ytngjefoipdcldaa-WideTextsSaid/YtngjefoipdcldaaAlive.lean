/- noonmarklaw02.alive returns true. -/
import Derived.Test.YtngjefoipdcldaaWideD
import Derived.Test.YtngjefoipdcldaaWideE
import Derived.Test.YtngjefoipdcldaaWideG
import Derived.Test.YtngjefoipdcldaaWideK
import Derived.Test.YtngjefoipdcldaaWideM
import Derived.Test.YtngjefoipdcldaaWideN
namespace Go.Proofs.Ytngjefoipdcldaa
open Go.RowKit
set_option linter.unusedVariables false

theorem wI_lit (z h l : Int) (hh : hiW z = h) (hl : loW z = l) : wI z = .agg #[.int .i64 h, .int .u64 l] := by subst hh hl; rfl
theorem par_yes {s : ByteArray} {w w' : World} {e : Ending} (z : Int) (hz : InW z) (h : textL z = bl s) (hp : ParOut s w e w') : e = .returned (.tuple #[wI z, .bool true]) ∧ Below w.heap.size w w' := by
  obtain ⟨y, ok, rfl, hs, hb⟩ := hp
  rcases hs with ⟨rfl, hy, ht⟩ | ⟨_, _, hn⟩
  · rw [textL_inj hy hz (ht.trans h.symm)]
    exact ⟨rfl, hb⟩
  · exact absurd h (hn z hz)
theorem par_no {s : ByteArray} {w w' : World} {e : Ending} (h : textL (parA (bl s)) ≠ bl s) (hp : ParOut s w e w') : e = .returned (.tuple #[wI 0, .bool false]) ∧ Below w.heap.size w w' := by
  obtain ⟨y, ok, rfl, hs, hb⟩ := hp
  rcases hs with ⟨rfl, hy, ht⟩ | ⟨rfl, rfl, hn⟩
  · exact absurd (by rw [← ht, (textL_facts y hy).1]) h
  · exact ⟨rfl, hb⟩
theorem back_byL (z : Int) (a : Option Addr) (c n : Nat) (w : World) (hn : n = 16) (hr : IntRow w a .u8 (byL z)) : Calls Try.prog 32 #[.slice a n c] w (Gives (.tuple #[wI z, .bool true]) w) := by
  subst hn
  refine (wback_any a c (byL z) w hr (byL_byte z) (by rw [byL_len]; omega)).mono ?_
  rintro e w' ⟨rfl, hb⟩
  refine ⟨?_, hb⟩
  rw [if_pos (byL_len z), decide_eq_true (byL_len z), bv_byL, wI_congr (b := z) (by omega)]
theorem al_of_one (w : World) : Calls Try.prog 21 #[.int .i64 1] w (Gives (.agg #[.int .i64 0, .int .u64 1]) w) := by
  rw [← (wI_lit (1) (0) 1 (by decide +kernel) (by decide +kernel))]
  exact wof_any (1) w (by decide +kernel)
theorem al_of_m1 (w : World) : Calls Try.prog 21 #[.int .i64 (-1)] w (Gives (.agg #[.int .i64 (-1), .int .u64 18446744073709551615]) w) := by
  rw [← (wI_lit (-1) (-1) 18446744073709551615 (by decide +kernel) (by decide +kernel))]
  exact wof_any (-1) w (by decide +kernel)
theorem al_of_m7 (w : World) : Calls Try.prog 21 #[.int .i64 (-7)] w (Gives (.agg #[.int .i64 (-1), .int .u64 18446744073709551609]) w) := by
  rw [← (wI_lit (-7) (-1) 18446744073709551609 (by decide +kernel) (by decide +kernel))]
  exact wof_any (-7) w (by decide +kernel)
theorem al_of_m2 (w : World) : Calls Try.prog 21 #[.int .i64 (-2)] w (Gives (.agg #[.int .i64 (-1), .int .u64 18446744073709551614]) w) := by
  rw [← (wI_lit (-2) (-1) 18446744073709551614 (by decide +kernel) (by decide +kernel))]
  exact wof_any (-2) w (by decide +kernel)
theorem al_add (w : World) : Calls Try.prog 9 #[.agg #[.int .i64 0, .int .u64 18446744073709551615], .agg #[.int .i64 0, .int .u64 1]] w (Gives (.tuple #[.agg #[.int .i64 1, .int .u64 0], .int .i64 0]) w) := by
  have h := wadd_any 18446744073709551615 1 w (by decide +kernel) (by decide +kernel)
  rw [vW_in (by decide +kernel), eW_in (by decide +kernel), show (18446744073709551615 : Int) + 1 = 18446744073709551616 from rfl] at h
  rw [← (wI_lit (18446744073709551615) (0) 18446744073709551615 (by decide +kernel) (by decide +kernel)), ← (wI_lit (1) (0) 1 (by decide +kernel) (by decide +kernel)), ← (wI_lit (18446744073709551616) (1) 0 (by decide +kernel) (by decide +kernel))]
  exact h
theorem al_sub (w : World) : Calls Try.prog 10 #[.agg #[.int .i64 (-1), .int .u64 18446744073709551615], .agg #[.int .i64 0, .int .u64 1]] w (Gives (.tuple #[.agg #[.int .i64 (-1), .int .u64 18446744073709551614], .int .i64 0]) w) := by
  have h := wsub_any (-1) 1 w (by decide +kernel) (by decide +kernel)
  rw [vW_in (by decide +kernel), eW_in (by decide +kernel), show (-1 : Int) - 1 = -2 from rfl] at h
  rw [← (wI_lit (-1) (-1) 18446744073709551615 (by decide +kernel) (by decide +kernel)), ← (wI_lit (1) (0) 1 (by decide +kernel) (by decide +kernel)), ← (wI_lit (-2) (-1) 18446744073709551614 (by decide +kernel) (by decide +kernel))]
  exact h
theorem al_parse (w : World) : Calls Try.prog 27 #[.string (⟨#[45, 49, 56, 52, 52, 54, 55, 52, 52, 48, 55, 51, 55, 48, 57, 53, 53, 49, 54, 49, 55]⟩ : ByteArray)] w (Gives (.tuple #[.agg #[.int .i64 (-2), .int .u64 18446744073709551615], .bool true]) w) := by
  rw [← (wI_lit (-18446744073709551617) (-2) 18446744073709551615 (by decide +kernel) (by decide +kernel))]
  exact (wparse_any _ w (by decide +kernel)).mono fun e w' h => par_yes (-18446744073709551617) (by decide +kernel) (by decide +kernel) h
theorem al_parse0 (w : World) : Calls Try.prog 27 #[.string (⟨#[45, 48]⟩ : ByteArray)] w (Gives (.tuple #[.agg #[.int .i64 0, .int .u64 0], .bool false]) w) := by
  rw [← (wI_lit (0) (0) 0 (by decide +kernel) (by decide +kernel))]
  exact (wparse_any _ w (by decide +kernel)).mono fun e w' h => par_no (by decide +kernel) h
theorem al_bytes (w : World) : Calls Try.prog 31 #[.agg #[.int .i64 (-2), .int .u64 18446744073709551615]] w (ByOut (byL (-18446744073709551617)) w) := by
  rw [← (wI_lit (-18446744073709551617) (-2) 18446744073709551615 (by decide +kernel) (by decide +kernel))]
  exact wbytes_any (-18446744073709551617) w
theorem al_back (a : Option Addr) (c n : Nat) (hn : n = 16) (w : World) (hr : IntRow w a .u8 (byL (-18446744073709551617))) : Calls Try.prog 32 #[.slice a n c] w (Gives (.tuple #[.agg #[.int .i64 (-2), .int .u64 18446744073709551615], .bool true]) w) := by
  rw [← (wI_lit (-18446744073709551617) (-2) 18446744073709551615 (by decide +kernel) (by decide +kernel))]
  exact back_byL (-18446744073709551617) a c n w hn hr
theorem al_long (w : World) : Calls Try.prog 11 #[.agg #[.int .i64 (-1), .int .u64 18446744073709551609]] w (Gives (.tuple #[.int .i64 (-7), .bool true]) w) := by
  have h := wlong_any (-7) w (by decide +kernel)
  rw [vI_in (by decide +kernel), decide_eq_true (by decide +kernel)] at h
  rw [← (wI_lit (-7) (-1) 18446744073709551609 (by decide +kernel) (by decide +kernel))]
  exact h
theorem al_cmp (w : World) : Calls Try.prog 17 #[.agg #[.int .i64 1, .int .u64 0], .agg #[.int .i64 (-1), .int .u64 18446744073709551614]] w (Gives (.int .i64 1) w) := by
  have h := wcmp_any 18446744073709551616 (-2) w (by decide +kernel) (by decide +kernel)
  rw [show ordI 18446744073709551616 (-2) = 1 by decide +kernel] at h
  rw [← (wI_lit (18446744073709551616) (1) 0 (by decide +kernel) (by decide +kernel)), ← (wI_lit (-2) (-1) 18446744073709551614 (by decide +kernel) (by decide +kernel))]
  exact h
theorem al_text (w : World) : Calls Try.prog 26 #[.agg #[.int .i64 1, .int .u64 0]] w (Gives (.string (⟨#[49, 56, 52, 52, 54, 55, 52, 52, 48, 55, 51, 55, 48, 57, 53, 53, 49, 54, 49, 54]⟩ : ByteArray)) w) := by
  have h := wtext_any 18446744073709551616 w (by decide +kernel)
  rw [show strOfNums (textL 18446744073709551616) = (⟨#[49, 56, 52, 52, 54, 55, 52, 52, 48, 55, 51, 55, 48, 57, 53, 53, 49, 54, 49, 54]⟩ : ByteArray) by decide +kernel] at h
  rw [← (wI_lit (18446744073709551616) (1) 0 (by decide +kernel) (by decide +kernel))]
  exact h
theorem al_times (w : World) : Calls Try.prog 22 #[.int .i64 4611686018427387904, .int .i64 (-4)] w (Gives (.agg #[.int .i64 (-1), .int .u64 0]) w) := by
  have h := wtimes_any 4611686018427387904 (-4) w (by decide +kernel) (by decide +kernel)
  rw [show (4611686018427387904 : Int) * (-4) = -18446744073709551616 from rfl] at h
  rw [← (wI_lit (-18446744073709551616) (-1) 0 (by decide +kernel) (by decide +kernel))]
  exact h
theorem al_sum (g : Nat) (w : World) (hk : Kept w g #[.int .i64 1, .int .i64 2, .int .i64 (-5)] 2) : Calls Try.prog 23 #[.slice (some ⟨g, 0, none⟩) 3 3] w (Gives (.agg #[.int .i64 (-1), .int .u64 18446744073709551614]) w) := by
  have h := wsum_any (some ⟨g, 0, none⟩) 3 [1, 2, -5] w (fun j hj => ⟨g, 0, rfl, by
    rw [(hk.at_ (0 + j)).1]
    have : j = 0 ∨ j = 1 ∨ j = 2 := by simp at hj; omega
    rcases this with rfl | rfl | rfl <;> rfl⟩) (by decide) (by simp)
  rw [show isum [1, 2, -5] = -2 from rfl] at h
  rw [← (wI_lit (-2) (-1) 18446744073709551614 (by decide +kernel) (by decide +kernel))]
  exact h
set_option maxHeartbeats 4000000 in
set_option maxRecDepth 100000 in
theorem alive_any (w : World) : Calls Try.prog 8 #[] w fun e w' => e = .returned (.bool true) ∧ Below w.heap.size w w' := by
  go_enter Try.func8, Try.ntmps8
  have B0 : Hid (Below w.heap.size w w) := Lib.hid (Below.refl w.heap.size w)
  go_wp2_with fail
  refine (al_of_one _).mono ?_
  rintro e1 w1 ⟨rfl, hb1⟩
  have B1 : Hid (Below w.heap.size w w1) := Lib.hid (bnext (B0.out) (by have := B0.out.size; first | omega | (simp <;> omega)) hb1)
  clear hb1
  go_wp2_with fail
  refine (al_add _).mono ?_
  rintro e2 w2 ⟨rfl, hb2⟩
  have B2 : Hid (Below w.heap.size w w2) := Lib.hid (bnext (B1.out) (by have := B1.out.size; first | omega | (simp <;> omega)) hb2)
  clear hb2
  go_wp2_with fail
  refine (al_of_m1 _).mono ?_
  rintro e3 w3 ⟨rfl, hb3⟩
  have Ka : Hid (Kept w3 _ #[.int .i64 1, .int .u64 0] 24) := Lib.hid ((Kept.new (w := w2) (cs := #[.int .i64 1, .int .u64 0]) (t := 24) rfl).next hb3)
  have B3 : Hid (Below w.heap.size w w3) := Lib.hid (bnext (((B2.out).alloc (by have := B2.out.size; first | omega | (simp <;> omega)) _)) (by have := B2.out.size; first | omega | (simp <;> omega)) hb3)
  clear hb3
  go_wp2_with fail
  refine (al_of_one _).mono ?_
  rintro e4 w4 ⟨rfl, hb4⟩
  have Ka : Hid (Kept w4 _ _ _) := Lib.hid (Ka.out.next hb4)
  have B4 : Hid (Below w.heap.size w w4) := Lib.hid (bnext (B3.out) (by have := B3.out.size; first | omega | (simp <;> omega)) hb4)
  clear hb4
  go_wp2_with fail
  refine (al_sub _).mono ?_
  rintro e5 w5 ⟨rfl, hb5⟩
  have Ka : Hid (Kept w5 _ _ _) := Lib.hid (Ka.out.next hb5)
  have B5 : Hid (Below w.heap.size w w5) := Lib.hid (bnext (B4.out) (by have := B4.out.size; first | omega | (simp <;> omega)) hb5)
  clear hb5
  go_wp2_with fail
  refine (al_parse _).mono ?_
  rintro e6 w6 ⟨rfl, hb6⟩
  have Ka : Hid (Kept w6 _ _ _) := Lib.hid ((Ka.out.alloc _).next hb6)
  have Kb : Hid (Kept w6 _ #[.int .i64 (-1), .int .u64 18446744073709551614] 24) := Lib.hid ((Kept.new (w := w5) (cs := #[.int .i64 (-1), .int .u64 18446744073709551614]) (t := 24) rfl).next hb6)
  have B6 : Hid (Below w.heap.size w w6) := Lib.hid (bnext (((B5.out).alloc (by have := B5.out.size; first | omega | (simp <;> omega)) _)) (by have := B5.out.size; first | omega | (simp <;> omega)) hb6)
  clear hb6
  go_wp2_with fail
  refine (al_bytes _).mono ?_
  rintro e7 w7 ⟨v7, rfl, hv7, hb7⟩
  have Ka : Hid (Kept w7 _ _ _) := Lib.hid ((Ka.out.alloc _).next hb7)
  have Kb : Hid (Kept w7 _ _ _) := Lib.hid ((Kb.out.alloc _).next hb7)
  have Kc : Hid (Kept w7 _ #[.int .i64 (-2), .int .u64 18446744073709551615] 24) := Lib.hid ((Kept.new (w := w6) (cs := #[.int .i64 (-2), .int .u64 18446744073709551615]) (t := 24) rfl).next hb7)
  have B7 : Hid (Below w.heap.size w w7) := Lib.hid (bnext (((B6.out).alloc (by have := B6.out.size; first | omega | (simp <;> omega)) _)) (by have := B6.out.size; first | omega | (simp <;> omega)) hb7)
  clear hb7
  obtain ⟨va, vc, rfl, -, -, -, vr⟩ := hv7
  have VR := Lib.hid vr
  clear vr
  go_wp2_with fail
  refine (al_back va vc _ (by rfl) _ VR.out).mono ?_
  rintro e8 w8 ⟨rfl, hb8⟩
  have Ka : Hid (Kept w8 _ _ _) := Lib.hid (Ka.out.next hb8)
  have Kb : Hid (Kept w8 _ _ _) := Lib.hid (Kb.out.next hb8)
  have Kc : Hid (Kept w8 _ _ _) := Lib.hid (Kc.out.next hb8)
  have B8 : Hid (Below w.heap.size w w8) := Lib.hid (bnext (B7.out) (by have := B7.out.size; first | omega | (simp <;> omega)) hb8)
  clear hb8
  go_wp2_with fail
  refine (al_of_m7 _).mono ?_
  rintro e9 w9 ⟨rfl, hb9⟩
  have Ka : Hid (Kept w9 _ _ _) := Lib.hid ((Ka.out.alloc _).next hb9)
  have Kb : Hid (Kept w9 _ _ _) := Lib.hid ((Kb.out.alloc _).next hb9)
  have Kc : Hid (Kept w9 _ _ _) := Lib.hid ((Kc.out.alloc _).next hb9)
  have Kd : Hid (Kept w9 _ #[.int .i64 (-2), .int .u64 18446744073709551615] 24) := Lib.hid ((Kept.new (w := w8) (cs := #[.int .i64 (-2), .int .u64 18446744073709551615]) (t := 24) rfl).next hb9)
  have B9 : Hid (Below w.heap.size w w9) := Lib.hid (bnext (((B8.out).alloc (by have := B8.out.size; first | omega | (simp <;> omega)) _)) (by have := B8.out.size; first | omega | (simp <;> omega)) hb9)
  clear hb9
  go_wp2_with fail
  refine (al_long _).mono ?_
  rintro e10 w10 ⟨rfl, hb10⟩
  have Ka : Hid (Kept w10 _ _ _) := Lib.hid (Ka.out.next hb10)
  have Kb : Hid (Kept w10 _ _ _) := Lib.hid (Kb.out.next hb10)
  have Kc : Hid (Kept w10 _ _ _) := Lib.hid (Kc.out.next hb10)
  have Kd : Hid (Kept w10 _ _ _) := Lib.hid (Kd.out.next hb10)
  have B10 : Hid (Below w.heap.size w w10) := Lib.hid (bnext (B9.out) (by have := B9.out.size; first | omega | (simp <;> omega)) hb10)
  clear hb10
  go_wp2_with fail
  refine (al_parse0 _).mono ?_
  rintro e11 w11 ⟨rfl, hb11⟩
  have Ka : Hid (Kept w11 _ _ _) := Lib.hid (Ka.out.next hb11)
  have Kb : Hid (Kept w11 _ _ _) := Lib.hid (Kb.out.next hb11)
  have Kc : Hid (Kept w11 _ _ _) := Lib.hid (Kc.out.next hb11)
  have Kd : Hid (Kept w11 _ _ _) := Lib.hid (Kd.out.next hb11)
  have B11 : Hid (Below w.heap.size w w11) := Lib.hid (bnext (B10.out) (by have := B10.out.size; first | omega | (simp <;> omega)) hb11)
  clear hb11
  obtain ⟨a1, a2, -, -, al⟩ := Ka.out.two
  obtain ⟨b1, b2, -, -, bl⟩ := Kb.out.two
  obtain ⟨c1, c2, -, -, cl⟩ := Kc.out.two
  obtain ⟨d1, d2, -, -, dl⟩ := Kd.out.two
  go_wp2_with fail
  refine (al_cmp _).mono ?_
  rintro e12 w12 ⟨rfl, hb12⟩
  clear a1 a2 al
  clear b1 b2 bl
  clear c1 c2 cl
  clear d1 d2 dl
  have Ka : Hid (Kept w12 _ _ _) := Lib.hid ((Ka.out.alloc _).next hb12)
  have Kb : Hid (Kept w12 _ _ _) := Lib.hid ((Kb.out.alloc _).next hb12)
  have Kc : Hid (Kept w12 _ _ _) := Lib.hid ((Kc.out.alloc _).next hb12)
  have Kd : Hid (Kept w12 _ _ _) := Lib.hid ((Kd.out.alloc _).next hb12)
  have Kp : Hid (Kept w12 _ #[.int .i64 0, .int .u64 0] 24) := Lib.hid ((Kept.new (w := w11) (cs := #[.int .i64 0, .int .u64 0]) (t := 24) rfl).next hb12)
  have B12 : Hid (Below w.heap.size w w12) := Lib.hid (bnext (((B11.out).alloc (by have := B11.out.size; first | omega | (simp <;> omega)) _)) (by have := B11.out.size; first | omega | (simp <;> omega)) hb12)
  clear hb12
  obtain ⟨a1, a2, -, -, al⟩ := Ka.out.two
  go_wp2_with fail
  refine (al_text _).mono ?_
  rintro e13 w13 ⟨rfl, hb13⟩
  clear a1 a2 al
  have Ka : Hid (Kept w13 _ _ _) := Lib.hid (Ka.out.next hb13)
  have Kb : Hid (Kept w13 _ _ _) := Lib.hid (Kb.out.next hb13)
  have Kc : Hid (Kept w13 _ _ _) := Lib.hid (Kc.out.next hb13)
  have Kd : Hid (Kept w13 _ _ _) := Lib.hid (Kd.out.next hb13)
  have Kp : Hid (Kept w13 _ _ _) := Lib.hid (Kp.out.next hb13)
  have B13 : Hid (Below w.heap.size w w13) := Lib.hid (bnext (B12.out) (by have := B12.out.size; first | omega | (simp <;> omega)) hb13)
  clear hb13
  go_wp2_with fail
  refine (al_times _).mono ?_
  rintro e14 w14 ⟨rfl, hb14⟩
  have Ka : Hid (Kept w14 _ _ _) := Lib.hid (Ka.out.next hb14)
  have Kb : Hid (Kept w14 _ _ _) := Lib.hid (Kb.out.next hb14)
  have Kc : Hid (Kept w14 _ _ _) := Lib.hid (Kc.out.next hb14)
  have Kd : Hid (Kept w14 _ _ _) := Lib.hid (Kd.out.next hb14)
  have Kp : Hid (Kept w14 _ _ _) := Lib.hid (Kp.out.next hb14)
  have B14 : Hid (Below w.heap.size w w14) := Lib.hid (bnext (B13.out) (by have := B13.out.size; first | omega | (simp <;> omega)) hb14)
  clear hb14
  go_wp2_with fail
  refine (al_sum _ _ (Kept.new rfl)).mono ?_
  rintro e15 w15 ⟨rfl, hb15⟩
  have Ka : Hid (Kept w15 _ _ _) := Lib.hid ((Ka.out.alloc _).next hb15)
  have Kb : Hid (Kept w15 _ _ _) := Lib.hid ((Kb.out.alloc _).next hb15)
  have Kc : Hid (Kept w15 _ _ _) := Lib.hid ((Kc.out.alloc _).next hb15)
  have Kd : Hid (Kept w15 _ _ _) := Lib.hid ((Kd.out.alloc _).next hb15)
  have Kp : Hid (Kept w15 _ _ _) := Lib.hid ((Kp.out.alloc _).next hb15)
  have Ks : Hid (Kept w15 _ #[.int .i64 1, .int .i64 2, .int .i64 (-5)] 2) := Lib.hid ((Kept.new (w := w14) (cs := #[.int .i64 1, .int .i64 2, .int .i64 (-5)]) (t := 2) rfl).next hb15)
  have B15 : Hid (Below w.heap.size w w15) := Lib.hid (bnext (((B14.out).alloc (by have := B14.out.size; first | omega | (simp <;> omega)) _)) (by have := B14.out.size; first | omega | (simp <;> omega)) hb15)
  clear hb15
  go_wp2_with fail
  refine (al_of_m2 _).mono ?_
  rintro e16 w16 ⟨rfl, hb16⟩
  have Ka : Hid (Kept w16 _ _ _) := Lib.hid (Ka.out.next hb16)
  have Kb : Hid (Kept w16 _ _ _) := Lib.hid (Kb.out.next hb16)
  have Kc : Hid (Kept w16 _ _ _) := Lib.hid (Kc.out.next hb16)
  have Kd : Hid (Kept w16 _ _ _) := Lib.hid (Kd.out.next hb16)
  have Kp : Hid (Kept w16 _ _ _) := Lib.hid (Kp.out.next hb16)
  have Ks : Hid (Kept w16 _ _ _) := Lib.hid (Ks.out.next hb16)
  have B16 : Hid (Below w.heap.size w w16) := Lib.hid (bnext (B15.out) (by have := B15.out.size; first | omega | (simp <;> omega)) hb16)
  clear hb16
  go_wp2
  go_ret
  exact ⟨rfl, B16.out⟩
end Go.Proofs.Ytngjefoipdcldaa
