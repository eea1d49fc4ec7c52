import Derived.Test.YtflplliiamodhaaZLimH
import Derived.Test.YtflplliiamodhaaZDriftM
import Derived.Test.YtflplliiamodhaaZLimD
/- noonmarkref01: Div: for all numbers that lie in memory. -/
namespace Go.Proofs.Ytflplliiamodhaa
open Go.RowKit
set_option linter.unusedVariables false

theorem plus_limbs (x y : Value) (a b : List Int) (w : World) (hx : Limbs w x a) (hy : Limbs w y b) (la : a.length ≤ 100000) (lb : b.length ≤ 100000) : Calls Try.prog 75 #[x, y] w (LimbsOut (nv a + nv b) w) := by
  obtain ⟨xa, xc, rfl, hr1, h1, h2, h3, h4⟩ := hx
  obtain ⟨ya, yc, rfl, hr2, k1, k2, k3, k4⟩ := hy
  exact plus_any xa ya xc yc a b w hr1 hr2 h4 k4 (by omega) (by omega)
theorem minus_limbs (x y : Value) (a b : List Int) (w : World) (hx : Limbs w x a) (hy : Limbs w y b) (tb : Top b) (hab : nv b ≤ nv a) (la : a.length ≤ 100000) : Calls Try.prog 77 #[x, y] w (LimbsOut (nv a - nv b) w) := by
  obtain ⟨xa, xc, rfl, hr1, h1, h2, h3, h4⟩ := hx
  obtain ⟨ya, yc, rfl, hr2, k1, k2, k3, k4⟩ := hy
  exact minus_any xa ya xc yc a b w hr1 hr2 h4 k4 tb hab (by omega)
theorem above_limbs (x y : Value) (a b : List Int) (w : World) (hx : Limbs w x a) (hy : Limbs w y b) (la : a.length ≤ 100000) (lb : b.length ≤ 100000) : Calls Try.prog 76 #[x, y] w fun e w' => e = .returned (.int .i64 (lordI (nv a) (nv b))) ∧ w = w' := by
  obtain ⟨xa, xc, rfl, hr1, h1, h2, h3, h4⟩ := hx
  obtain ⟨ya, yc, rfl, hr2, k1, k2, k3, k4⟩ := hy
  exact above_any xa ya xc yc a b w hr1 hr2 h4 k4 (by omega) (by omega)
theorem limbs_one {w : World} {g : Nat} {t : TypeId} (hk : Kept w g #[.int .i64 1] t) : Limbs w (.slice (some ⟨g, 0, none⟩) 1 1) [1] :=
  ⟨_, 1, rfl, fun j hj => ⟨g, 0, rfl, by have : j = 0 := by simp at hj; omega
                                         subst this; exact hk.one.1⟩, by simp, by omega, by simp, dig_snoc [] 1 dig_nil (by omega)⟩
theorem limbs_none (w : World) (a : Option Addr) (ha : a ≠ none) : Limbs w (.slice a 0 0) [] := ⟨a, 0, rfl, fun j hj => by simp at hj, by simp, by omega, fun e => absurd e ha, dig_nil⟩
def LDivRel (neg neg2 : Bool) (x y : Value) (a c : List Int) (w : World) (q r i : Value) (wr : World) : Prop :=
  ∃ (k : Nat) (I : Int) (dq dr : List Int), k ≤ 16 * a.length ∧ i = .int .i64 I ∧ I = (k : Int) - 1 ∧ Hid (Limbs wr q dq ∧ Top dq) ∧ Hid (Limbs wr r dr ∧ Top dr) ∧ Hid (nv dq * nv c + nv dr = nv a / p2 k ∧ nv dr < nv c) ∧
  Hid (Kept wr w.heap.size #[.bool neg, x] 93) ∧ Hid (Kept wr (w.heap.size + 1) #[.bool neg2, y] 93) ∧ Hid (Kept wr (w.heap.size + 2) #[.bool false, .slice none 0 0] 93) ∧ Hid (Below w.heap.size w wr)
theorem len_of (d a : List Int) (hd : Dig d) (td : Top d) (ha : Dig a) (h : nv d ≤ nv a) : d.length ≤ a.length := by
  rw [← nv_len d hd td]
  have := nv_bd a ha
  omega
theorem len_of2 (d a : List Int) (hd : Dig d) (td : Top d) (ha : Dig a) (h : nv d ≤ 2 * nv a + 1) : d.length ≤ a.length + 1 := by
  rw [← nv_len d hd td]
  have h1 := nv_bd a ha
  show nv d < pw a.length * 65536
  omega
set_option maxHeartbeats 4000000 in
theorem div_pieces (neg neg2 up : Bool) (xa ya : Option Addr) (xc yc : Nat) (a c : List Int) (w : World) (hx : IntRow w xa .i64 a) (hy : Limbs w (.slice ya c.length yc) c) (da : Dig a) (tc : Top c) (hC : 1 ≤ nv c) (la : a.length ≤ 200) (lc : c.length ≤ 200) :
    Calls Try.prog 53 #[.agg #[.bool neg, .slice xa a.length xc], .agg #[.bool neg2, .slice ya c.length yc], .bool up] w (NumOut (divZ (sg (nv a) neg) (nv c) up) w) := by
  have HX := Lib.hid hx
  have HY := Lib.hid hy
  have DA := Lib.hid da
  have TC := Lib.hid tc
  have HC := Lib.hid hC
  have DC : Hid (Dig c) := Lib.hid (by obtain ⟨_, _, _, _, _, _, _, h⟩ := hy; exact h)
  obtain ⟨A, hA⟩ : ∃ A : Int, (a.length : Int) = A := ⟨_, rfl⟩
  have hAb : 0 ≤ A ∧ A ≤ 200 := by omega
  obtain ⟨S, hS⟩ : ∃ S : Int, 16 * A = S := ⟨_, rfl⟩
  have hSb : 0 ≤ S ∧ S ≤ 3200 := by omega
  obtain ⟨S1, hS1⟩ : ∃ S1 : Int, S - 1 = S1 := ⟨_, rfl⟩
  have hstart : ∀ p r : Addr, LDivRel neg neg2 (.slice xa a.length xc) (.slice ya c.length yc) a c w (.slice (some p) 0 0) (.slice (some r) 0 0) (.int .i64 S1) (((((w.alloc (.cells #[.bool neg, .slice xa a.length xc] 93)).alloc (.cells #[.bool neg2, .slice ya c.length yc] 93)).alloc (.cells #[.bool false, .slice none 0 0] 93)).alloc (.cells #[] 3)).alloc (.cells #[] 3)) := fun p r =>
    ⟨16 * a.length, S1, [], [], Nat.le_refl _, rfl, by omega, Lib.hid ⟨limbs_none _ _ (by simp), .inl rfl⟩, Lib.hid ⟨limbs_none _ _ (by simp), .inl rfl⟩, Lib.hid ⟨by rw [nv_small a da]; simp [nv, pv], by show (0 : Int) < nv c; omega⟩,
      Lib.hid (((((Kept.new rfl).alloc _).alloc _).alloc _).alloc _), Lib.hid ((((Kept.new (by simp)).alloc _).alloc _).alloc _), Lib.hid (((Kept.new (by simp)).alloc _).alloc _), Lib.hid (((((one_alloc w _).alloc (by simp) _).alloc (by simp; omega) _).alloc (by simp; omega) _).alloc (by simp; omega) _)⟩
  have HS := Lib.hid hstart
  have LA := Lib.hid la
  have LC := Lib.hid lc
  have HS1 := Lib.hid hS1
  have HSS := Lib.hid hS
  have HAA := Lib.hid hA
  clear hx hy da tc hC hstart la lc
  go_enter Try.func53, Try.ntmps53
  go_wp2
  clear hA hS hS1
  go_loopw [7, 8, 9] (fun q r i wr => LDivRel neg neg2 (.slice xa a.length xc) (.slice ya c.length yc) a c w q r i wr) (fun _ _ i _ => (intOf i + 1).toNat)
  case atStart => exact HS.out _ _
  case round =>
    obtain ⟨k, I, dq, dr, hk, rfl, hI, Q, R0, V, K0, K1, R, Bl⟩ := hrel
    have HI := Lib.hid hI
    have hIb : -1 ≤ I ∧ I ≤ 3200 := by have := LA.out; omega
    obtain ⟨k1, k2, -, -, k5⟩ := K0.out.two
    obtain ⟨m1, m2, -, -, m5⟩ := K1.out.two
    by_cases hlt : 0 < k
    · have hge : decide (0 ≤ I) = true := decide_eq_true (by omega)
      obtain ⟨m, rfl⟩ : ∃ m, k = m + 1 := ⟨k - 1, by omega⟩
      have hIm : I = (m : Int) := by omega
      have hbit := bit_at a DA.out (m / 16) (m % 16) (Nat.mod_lt _ (by omega))
      rw [show 16 * (m / 16) + m % 16 = m by omega] at hbit
      have hml : m / 16 < a.length := by omega
      obtain ⟨ab, ao, rfl, hax⟩ := (HX.out.below (hb := Bl.out)) (m / 16) hml
      have hxb := DA.out (m / 16)
      have hV := V.out
      have hstep := div_bit (nv a) (nv c) (nv dq) (nv dr) m hV.1
      obtain ⟨β, hβ⟩ : ∃ β, nv a / p2 m % 2 = β := ⟨_, rfl⟩
      have hβ01 : β = 0 ∨ β = 1 := by omega
      rw [hβ] at hbit hstep
      have HSTEP := Lib.hid hstep
      generalize a.getD (m / 16) 0 = x at *
      obtain ⟨jI, hjI⟩ : ∃ q, I / 16 = q := ⟨_, rfl⟩
      obtain ⟨tI, htI⟩ : ∃ q, I % 16 = q := ⟨_, rfl⟩
      have hjt : jI.toNat = m / 16 := by omega
      have htt : tI.toNat = m % 16 := by omega
      have hj0 : 0 ≤ jI := by omega
      have hjA : jI < A := by have := HAA.out; omega
      have ht0 : 0 ≤ tI ∧ tI < 16 := by omega
      have htw : IntKind.u64.wrap tI = tI := by rw [IntKind.wrap_u64]; omega
      rw [← hjt] at hax
      have hjL : jI < (a.length : Int) := by omega
      obtain ⟨X, hX⟩ : ∃ X, x / 2 ^ (m % 16) = X := ⟨_, rfl⟩
      have hX0 : 0 ≤ X := by rw [← hX]; exact Int.ediv_nonneg hxb.1 (Int.le_of_lt (Int.pow_pos (by omega)))
      have hXm : X.tmod 2 = X % 2 := Int.tmod_eq_emod_of_nonneg hX0
      rw [hX] at hbit
      have hdr0 := nv_bd dr (by obtain ⟨_, _, _, _, _, _, _, h⟩ := R0.out.1; exact h)
      have hdq0 := nv_bd dq (by obtain ⟨_, _, _, _, _, _, _, h⟩ := Q.out.1; exact h)
      have lr := len_of dr c (by obtain ⟨_, _, _, _, _, _, _, h⟩ := R0.out.1; exact h) R0.out.2 DC.out (by omega)
      have hqA : nv dq ≤ nv a / p2 m := by
        have h1 : nv dq * 1 ≤ nv dq * nv c := Int.mul_le_mul_of_nonneg_left HC.out hdq0.1
        have h2 := half (nv a) m
        have h3 := hV.1
        omega
      have hAm : nv a / p2 m ≤ nv a := by
        have h1 := nv_bd a DA.out
        have h2 := p2_pos m
        exact Int.ediv_le_self _ h1.1
      have lq := len_of dq a (by obtain ⟨_, _, _, _, _, _, _, h⟩ := Q.out.1; exact h) Q.out.2 DA.out (by omega)
      have HQA := Lib.hid hqA
      have HAM := Lib.hid hAm
      have LR := Lib.hid lr
      have LQ := Lib.hid lq
      have HV := Lib.hid hV
      have HD0 := Lib.hid hdr0
      have HQ0 := Lib.hid hdq0
      have HIM := Lib.hid hIm
      have HMK := Lib.hid hk
      have HJ1 := Lib.hid hjI
      clear hk hI hlt hIm hV hstep hdr0 hdq0 lr lq hqA hAm hml hβ hjt
      have hβc : (Hid (β = 0) ∧ (X.tmod 2 == 1) = false ∧ (X % 2 == 1) = false) ∨ (Hid (β = 1) ∧ (X.tmod 2 == 1) = true ∧ (X % 2 == 1) = true) := by
        rcases hβ01 with h | h
        · exact .inl ⟨Lib.hid h, by rw [hXm, ← hbit, h]; rfl, by rw [← hbit, h]; rfl⟩
        · exact .inr ⟨Lib.hid h, by rw [hXm, ← hbit, h]; rfl, by rw [← hbit, h]; rfl⟩
      clear hβ01 hXm hX0 hbit
      rcases hβc with ⟨HB, hb01, hb02⟩ | ⟨HB, hb01, hb02⟩
      · by_cases hcmp : nv c ≤ 2 * nv dr + β
        · go_wp2_with fail
          refine (plus_limbs _ _ dr dr _ R0.out.1 R0.out.1 (by have := LR.out; have := LC.out; omega) (by have := LR.out; have := LC.out; omega)).mono ?_
          rintro _ w1 ⟨v1, d1, rfl, hl1, ht1, hn1, hb1⟩
          have R1 := Lib.hid (And.intro hl1 (And.intro ht1 hn1))
          have K0 := Lib.hid (K0.out.next hb1)
          have K1 := Lib.hid (K1.out.next hb1)
          have R := Lib.hid (R.out.next hb1)
          have Bl := Lib.hid (Bl.out.trans (hb1.mono Bl.out.size))
          have Q := Lib.hid (And.intro (Q.out.1.below hb1) Q.out.2)
          have hax := keep1 hb1 hax
          have LD1 := Lib.hid (len_of2 d1 c (by obtain ⟨_, _, _, _, _, _, _, h⟩ := hl1; exact h) ht1 DC.out (by have := HV.out.2; omega))
          clear hl1 ht1 hn1 hb1
          obtain ⟨k1', k2', -, -, k5'⟩ := K0.out.two
          go_wp2_with fail
          refine (plus_limbs _ _ dq dq _ Q.out.1 Q.out.1 (by have := LQ.out; have := LA.out; omega) (by have := LQ.out; have := LA.out; omega)).mono ?_
          rintro _ w3 ⟨v3, d3, rfl, hl3, ht3, hn3, hb3⟩
          have Q3 := Lib.hid (And.intro hl3 (And.intro ht3 hn3))
          have K0 := Lib.hid (K0.out.next hb3)
          have K1 := Lib.hid (K1.out.next hb3)
          have R := Lib.hid (R.out.next hb3)
          have Bl := Lib.hid (Bl.out.trans (hb3.mono Bl.out.size))
          have R1 := Lib.hid (And.intro (R1.out.1.below hb3) R1.out.2)
          clear hl3 ht3 hn3 hb3
          obtain ⟨m1', m2', -, -, m5'⟩ := K1.out.two
          have YL := Lib.hid (HY.out.below Bl.out)
          have hrv : nv d1 = 2 * nv dr + β := by have := R1.out.2.2; have := HB.out; omega
          have hge2 : decide (0 ≤ lordI (nv d1) (nv c)) = true := by
            refine decide_eq_true ?_
            unfold lordI; (repeat' split) <;> omega
          have HRV := Lib.hid hrv
          have HCM := Lib.hid hcmp
          clear hrv hcmp
          go_wp2_with fail
          refine (above_limbs _ _ d1 c _ R1.out.1 YL.out (by have := LD1.out; have := LC.out; omega) (by have := LC.out; omega)).mono ?_
          rintro _ _ ⟨rfl, rfl⟩
          go_wp2_with fail
          refine (minus_limbs _ _ d1 c _ R1.out.1 YL.out TC.out (by have := HRV.out; have := HCM.out; omega) (by have := LD1.out; have := LC.out; omega)).mono ?_
          rintro _ w4 ⟨v4, d4, rfl, hl4, ht4, hn4, hb4⟩
          have R4 := Lib.hid (And.intro hl4 (And.intro ht4 hn4))
          have K0 := Lib.hid (K0.out.next hb4)
          have K1 := Lib.hid (K1.out.next hb4)
          have R := Lib.hid (R.out.next hb4)
          have Bl := Lib.hid (Bl.out.trans (hb4.mono Bl.out.size))
          have Q3 := Lib.hid (And.intro (Q3.out.1.below hb4) Q3.out.2)
          clear hl4 ht4 hn4 hb4
          have hq2 : nv d3 ≤ nv a := by
            have h1 := Q3.out.2.2
            have h2 := HSTEP.out.2
            have h3 := HV.out.2
            have h4 : (2 * nv dq + 1) * 1 ≤ (2 * nv dq + 1) * nv c := Int.mul_le_mul_of_nonneg_left HC.out (by have := HQ0.out.1; omega)
            have h5 := HAM.out
            have h6 := HCM.out
            omega
          have LD3 := Lib.hid (len_of d3 a (by obtain ⟨_, _, _, _, _, _, _, h⟩ := Q3.out.1; exact h) Q3.out.2.1 DA.out hq2)
          clear hq2
          go_wp2_with fail
          have K0 := Lib.hid (K0.out.alloc (.cells #[.int .i64 1] 3))
          have K1 := Lib.hid (K1.out.alloc (.cells #[.int .i64 1] 3))
          have R := Lib.hid (R.out.alloc (.cells #[.int .i64 1] 3))
          have hal := one_alloc w4 (.cells #[.int .i64 1] 3)
          have Bl := Lib.hid (Bl.out.trans (hal.mono Bl.out.size))
          have Q3 := Lib.hid (And.intro (Q3.out.1.below hal) Q3.out.2)
          have R4 := Lib.hid (And.intro (R4.out.1.below hal) R4.out.2)
          have ONE := Lib.hid (limbs_one (w := w4.alloc (.cells #[.int .i64 1] 3)) (g := w4.heap.size) (t := 3) (Kept.new rfl))
          clear hal
          refine (plus_limbs _ _ d3 [1] _ Q3.out.1 ONE.out (by have := LD3.out; have := LA.out; omega) (by simp)).mono ?_
          rintro _ w5 ⟨v5, d5, rfl, hl5, ht5, hn5, hb5⟩
          have e1 : nv [1] = 1 := rfl
          rw [e1, Q3.out.2.2] at hn5
          have K0 := Lib.hid (K0.out.next hb5)
          have K1 := Lib.hid (K1.out.next hb5)
          have R := Lib.hid (R.out.next hb5)
          have Bl := Lib.hid (Bl.out.trans (hb5.mono Bl.out.size))
          have R4 := Lib.hid (And.intro (R4.out.1.below hb5) R4.out.2)
          have fin : LDivRel neg neg2 (.slice (some ⟨ab, ao, none⟩) a.length xc) (.slice ya c.length yc) a c w v5 v4 (.int .i64 (I - 1)) w5 := by
            refine ⟨m, I - 1, d5, d4, by have := HMK.out; omega, rfl, by have := HIM.out; omega, Lib.hid ⟨hl5, ht5⟩, Lib.hid ⟨R4.out.1, R4.out.2.1⟩, Lib.hid ⟨?_, ?_⟩, K0, K1, R, Bl⟩
            · have h2 := HSTEP.out.2
              rw [hn5, R4.out.2.2, HRV.out, show nv dq + nv dq + 1 = 2 * nv dq + 1 by omega]; exact h2
            · have := R4.out.2.2; have := HV.out.2; have := HB.out; have := HRV.out; omega
          have Fin := Lib.hid fin
          clear fin hl5 ht5 hn5 hb5 e1
          go_wp2
          go_roundw
          case rel => exact Fin.out
          case measure => simp only [intOf]; omega
        · go_wp2_with fail
          refine (plus_limbs _ _ dr dr _ R0.out.1 R0.out.1 (by have := LR.out; have := LC.out; omega) (by have := LR.out; have := LC.out; omega)).mono ?_
          rintro _ w1 ⟨v1, d1, rfl, hl1, ht1, hn1, hb1⟩
          have R1 := Lib.hid (And.intro hl1 (And.intro ht1 hn1))
          have K0 := Lib.hid (K0.out.next hb1)
          have K1 := Lib.hid (K1.out.next hb1)
          have R := Lib.hid (R.out.next hb1)
          have Bl := Lib.hid (Bl.out.trans (hb1.mono Bl.out.size))
          have Q := Lib.hid (And.intro (Q.out.1.below hb1) Q.out.2)
          have hax := keep1 hb1 hax
          have LD1 := Lib.hid (len_of2 d1 c (by obtain ⟨_, _, _, _, _, _, _, h⟩ := hl1; exact h) ht1 DC.out (by have := HV.out.2; omega))
          clear hl1 ht1 hn1 hb1
          obtain ⟨k1', k2', -, -, k5'⟩ := K0.out.two
          go_wp2_with fail
          refine (plus_limbs _ _ dq dq _ Q.out.1 Q.out.1 (by have := LQ.out; have := LA.out; omega) (by have := LQ.out; have := LA.out; omega)).mono ?_
          rintro _ w3 ⟨v3, d3, rfl, hl3, ht3, hn3, hb3⟩
          have Q3 := Lib.hid (And.intro hl3 (And.intro ht3 hn3))
          have K0 := Lib.hid (K0.out.next hb3)
          have K1 := Lib.hid (K1.out.next hb3)
          have R := Lib.hid (R.out.next hb3)
          have Bl := Lib.hid (Bl.out.trans (hb3.mono Bl.out.size))
          have R1 := Lib.hid (And.intro (R1.out.1.below hb3) R1.out.2)
          clear hl3 ht3 hn3 hb3
          obtain ⟨m1', m2', -, -, m5'⟩ := K1.out.two
          have YL := Lib.hid (HY.out.below Bl.out)
          have hrv : nv d1 = 2 * nv dr + β := by have := R1.out.2.2; have := HB.out; omega
          have hge2 : decide (0 ≤ lordI (nv d1) (nv c)) = false := by
            refine decide_eq_false ?_
            unfold lordI; (repeat' split) <;> omega
          have HRV := Lib.hid hrv
          have HCM := Lib.hid hcmp
          clear hrv hcmp
          go_wp2_with fail
          refine (above_limbs _ _ d1 c _ R1.out.1 YL.out (by have := LD1.out; have := LC.out; omega) (by have := LC.out; omega)).mono ?_
          rintro _ _ ⟨rfl, rfl⟩
          have fin : LDivRel neg neg2 (.slice (some ⟨ab, ao, none⟩) a.length xc) (.slice ya c.length yc) a c w v3 v1 (.int .i64 (I - 1)) w3 := by
            refine ⟨m, I - 1, d3, d1, by have := HMK.out; omega, rfl, by have := HIM.out; omega, Lib.hid ⟨Q3.out.1, Q3.out.2.1⟩, Lib.hid ⟨R1.out.1, R1.out.2.1⟩, Lib.hid ⟨?_, ?_⟩, K0, K1, R, Bl⟩
            · have h2 := HSTEP.out.1
              rw [Q3.out.2.2, HRV.out, show nv dq + nv dq = 2 * nv dq by omega]; exact h2
            · have := HRV.out; have := HCM.out; omega
          have Fin := Lib.hid fin
          clear fin
          go_wp2
          go_roundw
          case rel => exact Fin.out
          case measure => simp only [intOf]; omega
      · by_cases hcmp : nv c ≤ 2 * nv dr + β
        · go_wp2_with fail
          refine (plus_limbs _ _ dr dr _ R0.out.1 R0.out.1 (by have := LR.out; have := LC.out; omega) (by have := LR.out; have := LC.out; omega)).mono ?_
          rintro _ w1 ⟨v1, d1, rfl, hl1, ht1, hn1, hb1⟩
          have R1 := Lib.hid (And.intro hl1 (And.intro ht1 hn1))
          have K0 := Lib.hid (K0.out.next hb1)
          have K1 := Lib.hid (K1.out.next hb1)
          have R := Lib.hid (R.out.next hb1)
          have Bl := Lib.hid (Bl.out.trans (hb1.mono Bl.out.size))
          have Q := Lib.hid (And.intro (Q.out.1.below hb1) Q.out.2)
          have hax := keep1 hb1 hax
          have LD1 := Lib.hid (len_of2 d1 c (by obtain ⟨_, _, _, _, _, _, _, h⟩ := hl1; exact h) ht1 DC.out (by have := HV.out.2; omega))
          clear hl1 ht1 hn1 hb1
          obtain ⟨k1', k2', -, -, k5'⟩ := K0.out.two
          go_wp2_with fail
          have K0 := Lib.hid (K0.out.alloc (.cells #[.int .i64 1] 3))
          have K1 := Lib.hid (K1.out.alloc (.cells #[.int .i64 1] 3))
          have R := Lib.hid (R.out.alloc (.cells #[.int .i64 1] 3))
          have hal := one_alloc w1 (.cells #[.int .i64 1] 3)
          have Bl := Lib.hid (Bl.out.trans (hal.mono Bl.out.size))
          have Q := Lib.hid (And.intro (Q.out.1.below hal) Q.out.2)
          have R1 := Lib.hid (And.intro (R1.out.1.below hal) R1.out.2)
          have ONE := Lib.hid (limbs_one (w := w1.alloc (.cells #[.int .i64 1] 3)) (g := w1.heap.size) (t := 3) (Kept.new rfl))
          clear hal
          refine (plus_limbs _ _ d1 [1] _ R1.out.1 ONE.out (by have := LD1.out; have := LC.out; omega) (by simp)).mono ?_
          rintro _ w2 ⟨v2, d2, rfl, hl2, ht2, hn2, hb2⟩
          have e1 : nv [1] = 1 := rfl
          rw [e1, R1.out.2.2] at hn2
          have R2 := Lib.hid (And.intro hl2 (And.intro ht2 hn2))
          have K0 := Lib.hid (K0.out.next hb2)
          have K1 := Lib.hid (K1.out.next hb2)
          have R := Lib.hid (R.out.next hb2)
          have Bl := Lib.hid (Bl.out.trans (hb2.mono Bl.out.size))
          have Q := Lib.hid (And.intro (Q.out.1.below hb2) Q.out.2)
          have LD2 := Lib.hid (len_of2 d2 c (by obtain ⟨_, _, _, _, _, _, _, h⟩ := hl2; exact h) ht2 DC.out (by have := HV.out.2; omega))
          clear hl2 ht2 hn2 hb2 e1 R1 ONE
          go_wp2_with fail
          refine (plus_limbs _ _ dq dq _ Q.out.1 Q.out.1 (by have := LQ.out; have := LA.out; omega) (by have := LQ.out; have := LA.out; omega)).mono ?_
          rintro _ w3 ⟨v3, d3, rfl, hl3, ht3, hn3, hb3⟩
          have Q3 := Lib.hid (And.intro hl3 (And.intro ht3 hn3))
          have K0 := Lib.hid (K0.out.next hb3)
          have K1 := Lib.hid (K1.out.next hb3)
          have R := Lib.hid (R.out.next hb3)
          have Bl := Lib.hid (Bl.out.trans (hb3.mono Bl.out.size))
          have R2 := Lib.hid (And.intro (R2.out.1.below hb3) R2.out.2)
          clear hl3 ht3 hn3 hb3
          obtain ⟨m1', m2', -, -, m5'⟩ := K1.out.two
          have YL := Lib.hid (HY.out.below Bl.out)
          have hrv : nv d2 = 2 * nv dr + β := by have := R2.out.2.2; have := HB.out; omega
          have hge2 : decide (0 ≤ lordI (nv d2) (nv c)) = true := by
            refine decide_eq_true ?_
            unfold lordI; (repeat' split) <;> omega
          have HRV := Lib.hid hrv
          have HCM := Lib.hid hcmp
          clear hrv hcmp
          go_wp2_with fail
          refine (above_limbs _ _ d2 c _ R2.out.1 YL.out (by have := LD2.out; have := LC.out; omega) (by have := LC.out; omega)).mono ?_
          rintro _ _ ⟨rfl, rfl⟩
          go_wp2_with fail
          refine (minus_limbs _ _ d2 c _ R2.out.1 YL.out TC.out (by have := HRV.out; have := HCM.out; omega) (by have := LD2.out; have := LC.out; omega)).mono ?_
          rintro _ w4 ⟨v4, d4, rfl, hl4, ht4, hn4, hb4⟩
          have R4 := Lib.hid (And.intro hl4 (And.intro ht4 hn4))
          have K0 := Lib.hid (K0.out.next hb4)
          have K1 := Lib.hid (K1.out.next hb4)
          have R := Lib.hid (R.out.next hb4)
          have Bl := Lib.hid (Bl.out.trans (hb4.mono Bl.out.size))
          have Q3 := Lib.hid (And.intro (Q3.out.1.below hb4) Q3.out.2)
          clear hl4 ht4 hn4 hb4
          have hq2 : nv d3 ≤ nv a := by
            have h1 := Q3.out.2.2
            have h2 := HSTEP.out.2
            have h3 := HV.out.2
            have h4 : (2 * nv dq + 1) * 1 ≤ (2 * nv dq + 1) * nv c := Int.mul_le_mul_of_nonneg_left HC.out (by have := HQ0.out.1; omega)
            have h5 := HAM.out
            have h6 := HCM.out
            omega
          have LD3 := Lib.hid (len_of d3 a (by obtain ⟨_, _, _, _, _, _, _, h⟩ := Q3.out.1; exact h) Q3.out.2.1 DA.out hq2)
          clear hq2
          go_wp2_with fail
          have K0 := Lib.hid (K0.out.alloc (.cells #[.int .i64 1] 3))
          have K1 := Lib.hid (K1.out.alloc (.cells #[.int .i64 1] 3))
          have R := Lib.hid (R.out.alloc (.cells #[.int .i64 1] 3))
          have hal := one_alloc w4 (.cells #[.int .i64 1] 3)
          have Bl := Lib.hid (Bl.out.trans (hal.mono Bl.out.size))
          have Q3 := Lib.hid (And.intro (Q3.out.1.below hal) Q3.out.2)
          have R4 := Lib.hid (And.intro (R4.out.1.below hal) R4.out.2)
          have ONE := Lib.hid (limbs_one (w := w4.alloc (.cells #[.int .i64 1] 3)) (g := w4.heap.size) (t := 3) (Kept.new rfl))
          clear hal
          refine (plus_limbs _ _ d3 [1] _ Q3.out.1 ONE.out (by have := LD3.out; have := LA.out; omega) (by simp)).mono ?_
          rintro _ w5 ⟨v5, d5, rfl, hl5, ht5, hn5, hb5⟩
          have e1 : nv [1] = 1 := rfl
          rw [e1, Q3.out.2.2] at hn5
          have K0 := Lib.hid (K0.out.next hb5)
          have K1 := Lib.hid (K1.out.next hb5)
          have R := Lib.hid (R.out.next hb5)
          have Bl := Lib.hid (Bl.out.trans (hb5.mono Bl.out.size))
          have R4 := Lib.hid (And.intro (R4.out.1.below hb5) R4.out.2)
          have fin : LDivRel neg neg2 (.slice (some ⟨ab, ao, none⟩) a.length xc) (.slice ya c.length yc) a c w v5 v4 (.int .i64 (I - 1)) w5 := by
            refine ⟨m, I - 1, d5, d4, by have := HMK.out; omega, rfl, by have := HIM.out; omega, Lib.hid ⟨hl5, ht5⟩, Lib.hid ⟨R4.out.1, R4.out.2.1⟩, Lib.hid ⟨?_, ?_⟩, K0, K1, R, Bl⟩
            · have h2 := HSTEP.out.2
              rw [hn5, R4.out.2.2, HRV.out, show nv dq + nv dq + 1 = 2 * nv dq + 1 by omega]; exact h2
            · have := R4.out.2.2; have := HV.out.2; have := HB.out; have := HRV.out; omega
          have Fin := Lib.hid fin
          clear fin hl5 ht5 hn5 hb5 e1
          go_wp2
          go_roundw
          case rel => exact Fin.out
          case measure => simp only [intOf]; omega
        · go_wp2_with fail
          refine (plus_limbs _ _ dr dr _ R0.out.1 R0.out.1 (by have := LR.out; have := LC.out; omega) (by have := LR.out; have := LC.out; omega)).mono ?_
          rintro _ w1 ⟨v1, d1, rfl, hl1, ht1, hn1, hb1⟩
          have R1 := Lib.hid (And.intro hl1 (And.intro ht1 hn1))
          have K0 := Lib.hid (K0.out.next hb1)
          have K1 := Lib.hid (K1.out.next hb1)
          have R := Lib.hid (R.out.next hb1)
          have Bl := Lib.hid (Bl.out.trans (hb1.mono Bl.out.size))
          have Q := Lib.hid (And.intro (Q.out.1.below hb1) Q.out.2)
          have hax := keep1 hb1 hax
          have LD1 := Lib.hid (len_of2 d1 c (by obtain ⟨_, _, _, _, _, _, _, h⟩ := hl1; exact h) ht1 DC.out (by have := HV.out.2; omega))
          clear hl1 ht1 hn1 hb1
          obtain ⟨k1', k2', -, -, k5'⟩ := K0.out.two
          go_wp2_with fail
          have K0 := Lib.hid (K0.out.alloc (.cells #[.int .i64 1] 3))
          have K1 := Lib.hid (K1.out.alloc (.cells #[.int .i64 1] 3))
          have R := Lib.hid (R.out.alloc (.cells #[.int .i64 1] 3))
          have hal := one_alloc w1 (.cells #[.int .i64 1] 3)
          have Bl := Lib.hid (Bl.out.trans (hal.mono Bl.out.size))
          have Q := Lib.hid (And.intro (Q.out.1.below hal) Q.out.2)
          have R1 := Lib.hid (And.intro (R1.out.1.below hal) R1.out.2)
          have ONE := Lib.hid (limbs_one (w := w1.alloc (.cells #[.int .i64 1] 3)) (g := w1.heap.size) (t := 3) (Kept.new rfl))
          clear hal
          refine (plus_limbs _ _ d1 [1] _ R1.out.1 ONE.out (by have := LD1.out; have := LC.out; omega) (by simp)).mono ?_
          rintro _ w2 ⟨v2, d2, rfl, hl2, ht2, hn2, hb2⟩
          have e1 : nv [1] = 1 := rfl
          rw [e1, R1.out.2.2] at hn2
          have R2 := Lib.hid (And.intro hl2 (And.intro ht2 hn2))
          have K0 := Lib.hid (K0.out.next hb2)
          have K1 := Lib.hid (K1.out.next hb2)
          have R := Lib.hid (R.out.next hb2)
          have Bl := Lib.hid (Bl.out.trans (hb2.mono Bl.out.size))
          have Q := Lib.hid (And.intro (Q.out.1.below hb2) Q.out.2)
          have LD2 := Lib.hid (len_of2 d2 c (by obtain ⟨_, _, _, _, _, _, _, h⟩ := hl2; exact h) ht2 DC.out (by have := HV.out.2; omega))
          clear hl2 ht2 hn2 hb2 e1 R1 ONE
          go_wp2_with fail
          refine (plus_limbs _ _ dq dq _ Q.out.1 Q.out.1 (by have := LQ.out; have := LA.out; omega) (by have := LQ.out; have := LA.out; omega)).mono ?_
          rintro _ w3 ⟨v3, d3, rfl, hl3, ht3, hn3, hb3⟩
          have Q3 := Lib.hid (And.intro hl3 (And.intro ht3 hn3))
          have K0 := Lib.hid (K0.out.next hb3)
          have K1 := Lib.hid (K1.out.next hb3)
          have R := Lib.hid (R.out.next hb3)
          have Bl := Lib.hid (Bl.out.trans (hb3.mono Bl.out.size))
          have R2 := Lib.hid (And.intro (R2.out.1.below hb3) R2.out.2)
          clear hl3 ht3 hn3 hb3
          obtain ⟨m1', m2', -, -, m5'⟩ := K1.out.two
          have YL := Lib.hid (HY.out.below Bl.out)
          have hrv : nv d2 = 2 * nv dr + β := by have := R2.out.2.2; have := HB.out; omega
          have hge2 : decide (0 ≤ lordI (nv d2) (nv c)) = false := by
            refine decide_eq_false ?_
            unfold lordI; (repeat' split) <;> omega
          have HRV := Lib.hid hrv
          have HCM := Lib.hid hcmp
          clear hrv hcmp
          go_wp2_with fail
          refine (above_limbs _ _ d2 c _ R2.out.1 YL.out (by have := LD2.out; have := LC.out; omega) (by have := LC.out; omega)).mono ?_
          rintro _ _ ⟨rfl, rfl⟩
          have fin : LDivRel neg neg2 (.slice (some ⟨ab, ao, none⟩) a.length xc) (.slice ya c.length yc) a c w v3 v2 (.int .i64 (I - 1)) w3 := by
            refine ⟨m, I - 1, d3, d2, by have := HMK.out; omega, rfl, by have := HIM.out; omega, Lib.hid ⟨Q3.out.1, Q3.out.2.1⟩, Lib.hid ⟨R2.out.1, R2.out.2.1⟩, Lib.hid ⟨?_, ?_⟩, K0, K1, R, Bl⟩
            · have h2 := HSTEP.out.1
              rw [Q3.out.2.2, HRV.out, show nv dq + nv dq = 2 * nv dq by omega]; exact h2
            · have := HRV.out; have := HCM.out; omega
          have Fin := Lib.hid fin
          clear fin
          go_wp2
          go_roundw
          case rel => exact Fin.out
          case measure => simp only [intOf]; omega
    · have hge : decide (0 ≤ I) = false := decide_eq_false (by omega)
      obtain rfl : k = 0 := by omega
      have hV := V.out
      have hp0 : p2 0 = 1 := rfl
      rw [hp0, Int.ediv_one] at hV
      have hr0 := (nv_bd dr (by obtain ⟨_, _, _, _, _, _, _, h⟩ := R0.out.1; exact h)).1
      have hend := div_end (nv a) (nv c) (nv dq) (nv dr) neg up (by have := HC.out; omega) hV.1 ⟨hr0, hV.2⟩
      have hz := nv_zero dr (by obtain ⟨_, _, _, _, _, _, _, h⟩ := R0.out.1; exact h) R0.out.2
      obtain ⟨L1, T1⟩ := R0.out
      obtain ⟨ra, rc, rfl, hrr, hr1, hr2, hr3, hrd⟩ := L1
      have hqn := (nv_bd dq (by obtain ⟨_, _, _, _, _, _, _, h⟩ := Q.out.1; exact h)).1
      have lq := len_of dq a (by obtain ⟨_, _, _, _, _, _, _, h⟩ := Q.out.1; exact h) Q.out.2 DA.out (by
        have h1 : nv dq * 1 ≤ nv dq * nv c := Int.mul_le_mul_of_nonneg_left HC.out hqn
        omega)
      have LQ := Lib.hid lq
      have hcase : (decide (0 < (dr.length : Int)) = true ∧ (up == neg) = false ∧ Hid (divZ (sg (nv a) neg) (nv c) up = sg (nv dq + 1) neg)) ∨ (decide (0 < (dr.length : Int)) = true ∧ (up == neg) = true ∧ Hid (divZ (sg (nv a) neg) (nv c) up = sg (nv dq) neg)) ∨ (decide (0 < (dr.length : Int)) = false ∧ Hid (divZ (sg (nv a) neg) (nv c) up = sg (nv dq) neg)) := by
        by_cases h1 : dr.length = 0
        · refine .inr (.inr ⟨decide_eq_false (by omega), Lib.hid ?_⟩)
          rw [← hend, if_neg (by have := hz.2 h1; omega), Int.add_zero]
        · have h2 : 0 < nv dr := by have : nv dr ≠ 0 := fun e => h1 (hz.1 e); omega
          by_cases h3 : up = neg
          · refine .inr (.inl ⟨decide_eq_true (by omega), by rw [h3]; simp, Lib.hid ?_⟩)
            rw [← hend, if_neg (fun h => h.2 h3), Int.add_zero]
          · refine .inl ⟨decide_eq_true (by omega), by simpa using h3, Lib.hid ?_⟩
            rw [← hend, if_pos ⟨h2, h3⟩]
      obtain ⟨DL, hDL⟩ : ∃ D : Int, (dr.length : Int) = D := ⟨_, rfl⟩
      rw [hDL] at hcase
      clear hV hend hz hr0 lq hrr hr1 hr2 hr3 hrd T1 hk hI hp0 hqn
      have made_limbs : ∀ (b : Bool) (v : Value) (d : List Int) (W : World), Limbs W v d → Calls Try.prog 74 #[.bool b, v] W (NumOut (sg (nv d) b) W) := fun b v d W h => by
        obtain ⟨xa, xc, rfl, hr1, h1, h2, h3, h4⟩ := h
        exact made_any b xa xc d W hr1 h4 h1 h2 h3
      have ML := Lib.hid made_limbs
      clear made_limbs
      rcases hcase with ⟨c1, c2, c3⟩ | ⟨c1, c2, c3⟩ | ⟨c1, c3⟩
      · go_wp2_with fail
        have ONE := Lib.hid (limbs_one (w := wr.alloc (.cells #[.int .i64 1] 3)) (g := wr.heap.size) (t := 3) (Kept.new rfl))
        have hal := one_alloc wr (.cells #[.int .i64 1] 3)
        have Q2 := Lib.hid (Q.out.1.below hal)
        refine (plus_limbs _ _ dq [1] _ Q2.out ONE.out (by have := LQ.out; have := LA.out; omega) (by simp)).mono ?_
        rintro _ w1 ⟨v1, d1, rfl, hl1, ht1, hn1, hb1⟩
        have e1 : nv [1] = 1 := rfl
        rw [e1] at hn1
        have hb1' := hal.trans (hb1.mono hal.size)
        have K0 := Lib.hid (K0.out.next hb1')
        have R := Lib.hid (R.out.next hb1')
        have Bl := Lib.hid (Bl.out.trans (hb1'.mono Bl.out.size))
        have L1 := Lib.hid hl1
        have E1 : Hid (divZ (sg (nv a) neg) (nv c) up = sg (nv d1) neg) := Lib.hid (c3.out.trans (by rw [hn1]))
        obtain ⟨k1', k2', -, -, k5'⟩ := K0.out.two
        clear hl1 ht1 hn1 hb1 hb1' hal e1
        go_wp2_with fail
        refine (ML.out neg v1 d1 _ L1.out).mono ?_
        rintro _ w2 ⟨v2, rfl, hn2, hb2⟩
        have Hn := Lib.hid hn2
        obtain ⟨ng, l', d', rfl, ⟨la', lc', rfl, -⟩, -⟩ := hn2
        have R2 := Lib.hid (R.out.next hb2)
        have B2 := Lib.hid (Bl.out.trans (hb2.mono Bl.out.size))
        obtain ⟨t1, t2, t3, t4, t5⟩ := R2.out.two
        clear hb2
        go_wp2
        obtain ⟨s1, s2⟩ := R2.out.read2 (.bool ng) (.slice la' d'.length lc')
        refine bodyPost_ret (v := .agg #[.bool ng, .slice la' d'.length lc']) (by simp [results, Try.results53, go_sem, s1, s2]) rfl ?_
        rw [E1.out]
        exact num_stored_at B2.out Hn.out R2.out.two.1 R2.out.two.2.1 (by simp) (by simp) (by omega)
      · go_wp2_with fail
        have E1 := c3
        refine (ML.out neg _ dq _ Q.out.1).mono ?_
        rintro _ w2 ⟨v2, rfl, hn2, hb2⟩
        have Hn := Lib.hid hn2
        obtain ⟨ng, l', d', rfl, ⟨la', lc', rfl, -⟩, -⟩ := hn2
        have R2 := Lib.hid (R.out.next hb2)
        have B2 := Lib.hid (Bl.out.trans (hb2.mono Bl.out.size))
        obtain ⟨t1, t2, t3, t4, t5⟩ := R2.out.two
        clear hb2
        go_wp2
        obtain ⟨s1, s2⟩ := R2.out.read2 (.bool ng) (.slice la' d'.length lc')
        refine bodyPost_ret (v := .agg #[.bool ng, .slice la' d'.length lc']) (by simp [results, Try.results53, go_sem, s1, s2]) rfl ?_
        rw [E1.out]
        exact num_stored_at B2.out Hn.out R2.out.two.1 R2.out.two.2.1 (by simp) (by simp) (by omega)
      · go_wp2_with fail
        have E1 := c3
        refine (ML.out neg _ dq _ Q.out.1).mono ?_
        rintro _ w2 ⟨v2, rfl, hn2, hb2⟩
        have Hn := Lib.hid hn2
        obtain ⟨ng, l', d', rfl, ⟨la', lc', rfl, -⟩, -⟩ := hn2
        have R2 := Lib.hid (R.out.next hb2)
        have B2 := Lib.hid (Bl.out.trans (hb2.mono Bl.out.size))
        obtain ⟨t1, t2, t3, t4, t5⟩ := R2.out.two
        clear hb2
        go_wp2
        obtain ⟨s1, s2⟩ := R2.out.read2 (.bool ng) (.slice la' d'.length lc')
        refine bodyPost_ret (v := .agg #[.bool ng, .slice la' d'.length lc']) (by simp [results, Try.results53, go_sem, s1, s2]) rfl ?_
        rw [E1.out]
        exact num_stored_at B2.out Hn.out R2.out.two.1 R2.out.two.2.1 (by simp) (by simp) (by omega)
theorem num_div (x y : Value) (a c : Int) (up : Bool) (w : World) (hx : NumAt w x a) (hy : NumAt w y c) (ha : Hund a) (hc : Hund c) (hC : 1 ≤ c) :
    Calls Try.prog 53 #[x, y, .bool up] w fun e w' => NumOut (divZ a c up) w e w' := by
  obtain ⟨na, la, da, rfl, ⟨xa, xc, rfl, hrx, hx1, hx2, hx3, hdx⟩, htx, hnx, rfl⟩ := hx
  obtain ⟨nb, lb, db, rfl, hly, hty, hny, hcz⟩ := hy
  have hly' := hly
  obtain ⟨ya, yc, rfl, hry, hy1, hy2, hy3, hdy⟩ := hly
  have l1 := hund_len hdx htx ha
  have hnb : nb = false := by
    cases nb
    · rfl
    · have := nv_bd db hdy
      unfold sg at hcz
      simp at hcz
      omega
  subst hnb
  have hcz' : c = nv db := hcz
  subst hcz'
  have l2 := hund_len (neg := false) hdy hty hc
  exact div_pieces na false up xa ya xc yc da db w hrx hly' hdx hty hC (by omega) (by omega)
end Go.Proofs.Ytflplliiamodhaa

/- noonmarkref01: Cmp (Neg lies in LimN): for all numbers that lie in memory. -/
namespace Go.Proofs.Ytflplliiamodhaa
open Go.RowKit
set_option linter.unusedVariables false

set_option maxHeartbeats 4000000 in
theorem num_cmp (x y : Value) (a b : Int) (w : World) (hx : NumAt w x a) (hy : NumAt w y b) (ha : Hund a) (hb : Hund b) :
    Calls Try.prog 70 #[x, y] w (Gives (.int .i64 (lordI a b)) w) := by
  have Cn : Hid (∀ W, Below w.heap.size w W → Calls Try.prog 95 #[y] W (NumOut (-b) W)) := Lib.hid (fun W h => num_neg y b W (hy.below h))
  have Ca : Hid (∀ W v, Below w.heap.size w W → NumAt W v (-b) → Calls Try.prog 54 #[x, v] W (NumOut (a - b) W)) := Lib.hid (fun W v h hv => by
    have := num_add x v a (-b) W (hx.below h) hv ha (hund_neg hb)
    rwa [← Int.sub_eq_add_neg] at this)
  obtain ⟨na, la, da, rfl, ⟨xa, xc, rfl, -⟩, -⟩ := hx
  obtain ⟨nb, lb, db, rfl, ⟨ya, yc, rfl, -⟩, -⟩ := hy
  obtain ⟨W, hW⟩ : ∃ W, (w.alloc (.cells #[.bool na, .slice xa da.length xc] 93)).alloc (.cells #[.bool nb, .slice ya db.length yc] 93) = W := ⟨_, rfl⟩
  have K0 : Hid (Kept W.drew w.heap.size #[.bool na, .slice xa da.length xc] 93) := Lib.hid (by
    have h : Kept W w.heap.size #[.bool na, .slice xa da.length xc] 93 := by rw [← hW]; exact (Kept.new rfl).alloc _
    exact h)
  have K1 : Hid (Kept W.drew (w.heap.size + 1) #[.bool nb, .slice ya db.length yc] 93) := Lib.hid (by
    have h : Kept W (w.heap.size + 1) #[.bool nb, .slice ya db.length yc] 93 := by rw [← hW]; exact Kept.new (by simp)
    exact h)
  have B0 : Hid (Below w.heap.size w W.drew) := Lib.hid (by
    have h : Below w.heap.size w W := by rw [← hW]; exact (one_alloc w _).alloc (by simp) _
    exact below_drewN h 1)
  have HW := Lib.hid hW
  clear hW ha hb
  go_enter Try.func70, Try.ntmps70
  go_wp2
  rw [HW.out]
  obtain ⟨k1, k2, -, -, k5⟩ := K0.out.two
  obtain ⟨m1, m2, -, -, m5⟩ := K1.out.two
  have hw1 : w.heap.size + 1 < W.heap.size := m5
  go_region_held3 (fun w' => Hid (Below w.heap.size w w') ∧ w'.cell? ⟨w.heap.size, 0, none⟩ = some (.bool na) ∧ w'.cell? ⟨w.heap.size, 1, none⟩ = some (.slice xa da.length xc) ∧ w'.cell? ⟨w.heap.size + 1, 0, none⟩ = some (.bool nb) ∧ w'.cell? ⟨w.heap.size + 1, 1, none⟩ = some (.slice ya db.length yc))
    (first | exact keepB4 (one_alloc _ _) S3 | exact S3 | exact keepB4 (one_alloc _ _) S2 | exact S2 | exact ⟨B0, k1, k2, m1, m2⟩ | exact keepB4 (one_alloc _ _) ⟨B0, k1, k2, m1, m2⟩ | exact ⟨Lib.hid (bset2 S3.1.out (by omega) _ _), set2_far S3.2.1 (by simp; omega), set2_far S3.2.2.1 (by simp; omega), set2_far S3.2.2.2.1 (by simp; omega), set2_far S3.2.2.2.2 (by simp; omega)⟩ | go_keep)
    (first | (go_at_call 95; refine (Cn.out _ (by first | exact B0.out | exact B0.out.alloc B0.out.size _)).mono ?_; rintro _ w2 ⟨v2, rfl, hn2, hb2⟩; have S2 := keepB4 (a := w) hb2 (by first | exact ⟨B0, k1, k2, m1, m2⟩ | exact keepB4 (one_alloc _ _) ⟨B0, k1, k2, m1, m2⟩); have hw2 := World.block_lt_of_cell? w2 _ S2.2.2.2.1; (try have NB := Lib.hid ((Kept.new (w := W.drew) (g := W.heap.size) (cs := #[.bool false, .slice none 0 0]) (t := 93) rfl).next hb2))) | (go_at_call 54; refine (Ca.out _ v2 (by first | exact S2.1.out | exact S2.1.out.alloc S2.1.out.size _) (by first | exact hn2 | exact hn2.below (one_alloc _ _))).mono ?_; rintro _ w3 ⟨v3, rfl, hn3, hb3⟩; have S3 := keepB4 (a := w) hb3 (by first | exact S2 | exact keepB4 (one_alloc _ _) S2); obtain ⟨ng, l', d', rfl, ⟨la', lc', rfl, hl'⟩, ht', hn', hz'⟩ := hn3; (first | have NC := Lib.hid (NB.out.next hb3) | have NC := Lib.hid ((Kept.new (w := w2) (cs := #[.bool false, .slice none 0 0]) (t := 93) rfl).next hb3) | skip); (try obtain ⟨c1, c2, c3, c4, c5⟩ := NC.out.two)))
  all_goals
    have B3 := S3.1
    have hdd := hl'.2.2.2.2
    have hzz := nv_zero d' hdd ht'
    have hbb := (nv_bd d' hdd).1
    have hcase : (d'.length = 0 ∧ Hid (lordI a b = 0)) ∨ (d'.length ≠ 0 ∧ ng = true ∧ Hid (lordI a b = -1)) ∨ (d'.length ≠ 0 ∧ ng = false ∧ Hid (lordI a b = 1)) := by
      by_cases h0 : d'.length = 0
      · refine .inl ⟨h0, Lib.hid ?_⟩
        have h1 := hzz.2 h0
        rw [h1, sg_zero] at hz'
        unfold lordI; rw [if_neg (by omega), if_neg (by omega)]
      · have h1 : nv d' ≠ 0 := fun e => h0 (hzz.1 e)
        refine .inr ?_
        cases ng
        · refine .inr ⟨h0, rfl, Lib.hid ?_⟩
          unfold sg at hz'; simp at hz'
          unfold lordI; rw [if_neg (by omega), if_pos (by omega)]
        · refine .inl ⟨h0, rfl, Lib.hid ?_⟩
          unfold sg at hz'; simp at hz'
          unfold lordI; rw [if_pos (by omega)]
    clear S2 S3 hdd hzz hbb hl' ht' hn' hz' hn2 hb2 hb3
    rcases hcase with ⟨h0, h1⟩ | ⟨h0, rfl, h1⟩ | ⟨h0, rfl, h1⟩
    · have hd : ((d'.length : Int) == 0) = true := by rw [h0]; rfl
      obtain ⟨DL, hDL⟩ : ∃ D : Int, (d'.length : Int) = D := ⟨_, rfl⟩
      rw [hDL] at hd
      clear h0
      go_wp2
      go_ret
      first | exact ⟨ret_int h1.out.symm, B3.out.alloc B3.out.size _⟩ | exact ⟨ret_int h1.out.symm, bset2 B3.out (by omega) _ _⟩
    all_goals
      have hd : ((d'.length : Int) == 0) = false := by rw [beq_eq_false_iff_ne]; omega
      obtain ⟨DL, hDL⟩ : ∃ D : Int, (d'.length : Int) = D := ⟨_, rfl⟩
      rw [hDL] at hd
      clear h0
      go_wp2
      go_ret
      first | exact ⟨ret_int h1.out.symm, B3.out.alloc B3.out.size _⟩ | exact ⟨ret_int h1.out.symm, bset2 B3.out (by omega) _ _⟩
end Go.Proofs.Ytflplliiamodhaa

/- noonmarkref01: told. -/
namespace Go.Proofs.Ytflplliiamodhaa
open Go.RowKit
set_option linter.unusedVariables false

theorem told_any (v : Value) (z : Int) (w : World) (hn : NumAt w v z) :
    Calls Try.prog 107 #[v] w fun e w' => e = .returned (.tuple #[.int .i64 (vI z), .int .i64 (eI z)]) ∧ Below w.heap.size w w' := by
  have Cl := Lib.hid (fun w hn => long_any v z w hn)
  have HN := Lib.hid hn
  obtain ⟨neg, l, d, rfl, ⟨la, lcap, rfl, -⟩, -⟩ := hn
  by_cases hz : InI z
  · have HZ := Lib.hid hz
    go_enter Try.func107, Try.ntmps107
    go_wp2_with fail
    refine (Cl.out _ (HN.out.below ((Below.refl _ _).alloc (Nat.le_refl _) _))).mono ?_
    rintro e w2 ⟨⟨u, rfl, hu⟩, hB⟩
    obtain rfl := hu HZ.out
    have HB := Lib.hid (Below.unalloc hB)
    rw [decide_eq_true HZ.out]
    clear hB hz
    go_wp2
    go_ret2
    exact ⟨ret2 (vI_in HZ.out).symm (eI_in HZ.out).symm, HB.out⟩
  · have HZ := Lib.hid hz
    go_enter Try.func107, Try.ntmps107
    go_wp2_with fail
    refine (Cl.out _ (HN.out.below ((Below.refl _ _).alloc (Nat.le_refl _) _))).mono ?_
    rintro e w2 ⟨⟨u, rfl, hu⟩, hB⟩
    have HB := Lib.hid (Below.unalloc hB)
    rw [decide_eq_false HZ.out]
    clear hB hz hu
    go_wp2
    go_ret2
    exact ⟨ret2 (vI_out HZ.out).symm (eI_out HZ.out).symm, HB.out⟩
end Go.Proofs.Ytflplliiamodhaa

/- noonmarkref03: Right, Mid; noonmarkref01: Ratio; noonmarkref04: Low, High. -/
namespace Go.Proofs.Ytflplliiamodhaa
open Go.RowKit
set_option linter.unusedVariables false

theorem hund_long {a : Int} (h : InI a) : Hund a := hund_of (by unfold InI at h; omega)
theorem hund_mul {a b : Int} (ha : InI a) (hb : InI b) : Hund (a * b) := by
  have h1 : (a * b).natAbs ≤ 9223372036854775808 * 9223372036854775808 := by
    rw [Int.natAbs_mul]
    unfold InI at ha hb
    exact Nat.mul_le_mul (by omega) (by omega)
  have := pw_le 12 100 (by omega)
  have e : pw 12 = 18446744073709551616 * 18446744073709551616 * 18446744073709551616 := by decide +kernel
  unfold Hund
  omega
theorem r3right_any (a b : Int) (w : World) : Calls Try.prog 50 #[.agg #[.int .i64 a, .int .i64 b]] w (Gives (.bool (decide (a ≤ b))) w) := by
  go_enter Try.func50, Try.ntmps50
  go_wp2
  go_ret
  exact gives_bool rfl (one_alloc _ _)
set_option maxHeartbeats 2000000 in
theorem rratio_any (a b c : Int) (up : Bool) (w : World) (ha : InI a) (hb : InI b) (hc : InI c) (h1 : 1 ≤ c) :
    Calls Try.prog 94 #[.int .i64 a, .int .i64 b, .int .i64 c, .bool up] w (Gives (.tuple #[.int .i64 (vI (divZ (a * b) c up)), .int .i64 (eI (divZ (a * b) c up))]) w) := by
  have C1 := Lib.hid (fun W => of_any a W ha)
  have C2 := Lib.hid (fun W => of_any b W hb)
  have C3 := Lib.hid (fun W => of_any c W hc)
  have Cm : Hid (∀ W u v, NumAt W u a → NumAt W v b → Calls Try.prog 108 #[u, v] W (NumOut (a * b) W)) := Lib.hid (fun W u v h1 h2 => num_mul u v a b W h1 h2 (hund_long ha) (hund_long hb))
  have Cd : Hid (∀ W u v, NumAt W u (a * b) → NumAt W v c → Calls Try.prog 53 #[u, v, .bool up] W (NumOut (divZ (a * b) c up) W)) := Lib.hid (fun W u v k1 k2 => num_div u v (a * b) c up W k1 k2 (hund_mul ha hb) (hund_long hc) h1)
  have C4 := Lib.hid (fun v W h => told_any v (divZ (a * b) c up) W h)
  generalize vI (divZ (a * b) c up) = V at *
  generalize eI (divZ (a * b) c up) = E at *
  have d0 : decide (c < 1) = false := decide_eq_false (by omega)
  clear ha hb hc h1
  go_enter Try.func94, Try.ntmps94
  go_wp2_with fail
  refine (C1.out _).mono ?_
  rintro _ w1 ⟨v1, rfl, hn1, hb1⟩
  go_wp2_with fail
  refine (C2.out _).mono ?_
  rintro _ w2 ⟨v2, rfl, hn2, hb2⟩
  go_wp2_with fail
  refine (Cm.out _ _ _ (hn1.below hb2) hn2).mono ?_
  rintro _ w3 ⟨v3, rfl, hn3, hb3⟩
  have B3 : Hid (Below w.heap.size w w3) := Lib.hid (bnext (bnext hb1 hb1.size hb2) (Nat.le_trans hb1.size hb2.size) hb3)
  go_wp2_with fail
  refine (C3.out _).mono ?_
  rintro _ w4 ⟨v4, rfl, hn4, hb4⟩
  have hn3 := hn3.below hb4
  have B4 := Lib.hid (bnext B3.out B3.out.size hb4)
  go_wp2_with fail
  refine (Cd.out _ _ _ hn3 hn4).mono ?_
  rintro _ w5 ⟨v5, rfl, hn5, hb5⟩
  have B5 := Lib.hid (bnext B4.out B4.out.size hb5)
  go_wp2_with fail
  refine (C4.out _ _ hn5).mono ?_
  rintro _ w6 ⟨rfl, hb6⟩
  have B6 := Lib.hid (bnext B5.out B5.out.size hb6)
  clear hn1 hn2 hn3 hn4 hn5 hb1 hb2 hb3 hb4 hb5 hb6 B3 B4 B5
  go_wp2
  go_ret2
  exact ⟨ret2 rfl rfl, B6.out⟩
set_option maxHeartbeats 8000000 in
theorem rmid_any (a b : Int) (w : World) (ha : InI a) (hb : InI b) :
    Calls Try.prog 20 #[.agg #[.int .i64 a, .int .i64 b]] w (Gives (.int .i64 (midI a b)) w) := by
  have B0 : Hid (Below w.heap.size w (w.alloc (.cells #[.int .i64 a, .int .i64 b] 42))) := Lib.hid (one_alloc w _)
  have K0 : Hid (Kept (w.alloc (.cells #[.int .i64 a, .int .i64 b] 42)) w.heap.size #[.int .i64 a, .int .i64 b] 42) := Lib.hid (Kept.new rfl)
  by_cases hab : a ≤ b
  · obtain ⟨M, hM⟩ : ∃ M, midI a b = M := ⟨_, rfl⟩
    have hM2 : divZ (a + b) 2 false = M := by
      rw [← hM]
      unfold divZ midI InI at *
      rw [if_pos hab]
      simp
      omega
    have hMI : InI M := by
      rw [← hM]
      unfold midI InI at *
      rw [if_pos hab]
      omega
    rw [hM]
    have C1 := Lib.hid (fun W => of_any a W ha)
    have C2 := Lib.hid (fun W => of_any b W hb)
    have CT := Lib.hid (fun W => of_any 2 W (by unfold InI; omega))
    have C3 : Hid (∀ W u v, NumAt W u a → NumAt W v b → Calls Try.prog 54 #[u, v] W (NumOut (a + b) W)) := Lib.hid (fun W u v h1 h2 => num_add u v a b W h1 h2 (hund_long ha) (hund_long hb))
    have C4 : Hid (∀ W u v, NumAt W u (a + b) → NumAt W v 2 → Calls Try.prog 53 #[u, v, .bool false] W (NumOut M W)) := Lib.hid (fun W u v h1 h2 => by
      have h := num_div u v (a + b) 2 false W h1 h2 (hund_of (by unfold InI at *; omega)) (hund_of (by omega)) (by omega)
      rw [hM2] at h
      exact h)
    have C5 : Hid (∀ W v, NumAt W v M → Calls Try.prog 52 #[v] W (Gives (.tuple #[.int .i64 M, .bool true]) W)) := Lib.hid (fun W v h => (long_any v M W h).mono fun e w' hh => by
      obtain ⟨⟨u, h1, h2⟩, h3⟩ := hh
      rw [h2 hMI, decide_eq_true hMI] at h1
      exact ⟨h1, h3⟩)
    have d0 := decide_eq_true hab
    clear hM hM2 hMI ha hb hab
    go_enter Try.func20, Try.ntmps20
    go_wp2_with fail
    refine (r3right_any a b _).mono ?_
    rintro _ w1 ⟨rfl, hb1⟩
    rw [d0]
    have K1 := Lib.hid (K0.out.next hb1)
    have B1 := Lib.hid (bnext B0.out B0.out.size hb1)
    clear hb1 K0 B0 d0
    go_wp2_with fail
    refine (CT.out _).mono ?_
    rintro _ w2 ⟨v2, rfl, hn2, hb2⟩
    have K2 := Lib.hid (K1.out.next hb2)
    have B2 := Lib.hid (bnext B1.out B1.out.size hb2)
    have hn2' := hn2
    obtain ⟨ng, l2, d2, rfl, ⟨xa, xc, rfl, -⟩, -⟩ := hn2'
    have HN2 := Lib.hid hn2
    clear hb2 K1 B1 hn2
    obtain ⟨W, hW⟩ : ∃ W, w2.alloc (.cells #[.bool ng, .slice xa d2.length xc] 93) = W := ⟨_, rfl⟩
    have K3 : Hid (Kept W.drew w.heap.size #[.int .i64 a, .int .i64 b] 42) := Lib.hid (by
      have h : Kept W w.heap.size #[.int .i64 a, .int .i64 b] 42 := by rw [← hW]; exact K2.out.alloc _
      exact h)
    have T3 : Hid (Kept W.drew w2.heap.size #[.bool ng, .slice xa d2.length xc] 93) := Lib.hid (by
      have h : Kept W w2.heap.size #[.bool ng, .slice xa d2.length xc] 93 := by rw [← hW]; exact Kept.new rfl
      exact h)
    have B3 : Hid (Below w.heap.size w W.drew) := Lib.hid (by
      have h : Below w.heap.size w W := by rw [← hW]; exact B2.out.alloc B2.out.size _
      exact below_drewN h 1)
    have HT : Hid (NumAt W.drew (.agg #[.bool ng, .slice xa d2.length xc]) 2) := Lib.hid (by
      have h : NumAt W (.agg #[.bool ng, .slice xa d2.length xc]) 2 := by rw [← hW]; exact HN2.out.below ((Below.refl _ _).alloc (Nat.le_refl _) _)
      exact h)
    have SS : Hid (Below w.heap.size w W.drew) ∧ W.drew.cell? ⟨w.heap.size, 0, none⟩ = some (.int .i64 a) ∧ W.drew.cell? ⟨w.heap.size, 1, none⟩ = some (.int .i64 b) ∧ W.drew.cell? ⟨w2.heap.size, 0, none⟩ = some (.bool ng) ∧ W.drew.cell? ⟨w2.heap.size, 1, none⟩ = some (.slice xa d2.length xc) := ⟨B3, K3.out.two.1, K3.out.two.2.1, T3.out.two.1, T3.out.two.2.1⟩
    have HW := Lib.hid hW
    clear hW K2 B2 HN2 K3 T3 B3
    obtain ⟨q0, q1, q2, q3, q4⟩ := SS
    go_wp2
    rw [HW.out]
    have SS : Hid (Below w.heap.size w W.drew) ∧ W.drew.cell? ⟨w.heap.size, 0, none⟩ = some (.int .i64 a) ∧ W.drew.cell? ⟨w.heap.size, 1, none⟩ = some (.int .i64 b) ∧ W.drew.cell? ⟨w2.heap.size, 0, none⟩ = some (.bool ng) ∧ W.drew.cell? ⟨w2.heap.size, 1, none⟩ = some (.slice xa d2.length xc) := ⟨q0, q1, q2, q3, q4⟩
    clear q0 q1 q2 q3 q4
    go_region_held3 (fun w' => Hid (Below w.heap.size w w') ∧ w'.cell? ⟨w.heap.size, 0, none⟩ = some (.int .i64 a) ∧ w'.cell? ⟨w.heap.size, 1, none⟩ = some (.int .i64 b) ∧ w'.cell? ⟨w2.heap.size, 0, none⟩ = some (.bool ng) ∧ w'.cell? ⟨w2.heap.size, 1, none⟩ = some (.slice xa d2.length xc))
      (first | exact SS | go_keep)
      (first
        | (go_at_call_of 51 (Value.int IntKind.i64 a); refine (C1.out _).mono ?_; rintro _ wa ⟨va, rfl, hna, hba⟩; have SS := keepB4 (a := w) hba SS; have HT := Lib.hid (NumAt.below HT.out hba); (try have hnb := NumAt.below hnb hba))
        | (go_at_call_of 51 (Value.int IntKind.i64 b); refine (C2.out _).mono ?_; rintro _ wb ⟨vb, rfl, hnb, hbb⟩; have SS := keepB4 (a := w) hbb SS; have HT := Lib.hid (NumAt.below HT.out hbb); (try have hna := NumAt.below hna hbb))
        | (go_at_call 54; refine (C3.out _ va vb hna hnb).mono ?_; rintro _ ws ⟨vs, rfl, hns, hbs⟩; have SS := keepB4 (a := w) hbs SS; have HT := Lib.hid (NumAt.below HT.out hbs))
        | (go_at_call 53; refine (C4.out _ vs _ hns HT.out).mono ?_; rintro _ wd ⟨vd, rfl, hnd, hbd⟩; have SS := keepB4 (a := w) hbd SS)
        | (go_at_call 52; refine (C5.out _ vd hnd).mono ?_; rintro _ wl ⟨rfl, hbl⟩; have SS := keepB4 (a := w) hbl SS))
    all_goals
      go_wp2
      go_ret
      exact ⟨rfl, SS.1.out⟩
  · have hM : midI a b = 0 := by unfold midI; rw [if_neg hab]
    rw [hM]
    have d0 := decide_eq_false hab
    clear hM hab ha hb
    go_enter Try.func20, Try.ntmps20
    go_wp2_with fail
    refine (r3right_any a b _).mono ?_
    rintro _ w1 ⟨rfl, hb1⟩
    rw [d0]
    have B1 := Lib.hid (bnext B0.out B0.out.size hb1)
    clear hb1 K0 B0 d0
    go_wp2
    go_ret
    exact ⟨rfl, B1.out⟩
end Go.Proofs.Ytflplliiamodhaa
