import Derived.Test.YtflplliiamodhaaZDriftM
/- The arithmetic of numbers in limbs of 16 bits; nothing of any program. -/
namespace Go.Proofs.Ytflplliiamodhaa
open Go.RowKit
set_option linter.unusedVariables false

/-- 65536 to the i-th -/
def pw : Nat → Int
  | 0 => 1
  | i + 1 => pw i * 65536
theorem pw_pos : ∀ i, 0 < pw i
  | 0 => by decide
  | i + 1 => by have := pw_pos i; unfold pw; omega
theorem pw_le : ∀ i j, i ≤ j → pw i ≤ pw j
  | i, 0, h => by rw [Nat.le_zero.1 h]; exact Int.le_refl _
  | i, j + 1, h => by
    by_cases e : i = j + 1
    · rw [e]; exact Int.le_refl _
    · have := pw_le i j (by omega)
      have := pw_pos j
      show pw i ≤ pw j * 65536
      omega
/-- the value of the first i limbs -/
def pv (d : List Int) : Nat → Int
  | 0 => 0
  | i + 1 => pv d i + d.getD i 0 * pw i
theorem pw_succ (i : Nat) : pw (i + 1) = pw i * 65536 := rfl
theorem pv_succ (d : List Int) (i : Nat) : pv d (i + 1) = pv d i + d.getD i 0 * pw i := rfl
theorem pv_zero (d : List Int) : pv d 0 = 0 := rfl
/-- limbs of 16 bits -/
def Dig (d : List Int) : Prop := ∀ j, 0 ≤ d.getD j 0 ∧ d.getD j 0 ≤ 65535
/-- no nought at the top -/
def Top (d : List Int) : Prop := d.length = 0 ∨ d.getD (d.length - 1) 0 ≠ 0
def nv (d : List Int) : Int := pv d d.length
theorem pv_past (d : List Int) : ∀ i, d.length ≤ i → pv d i = nv d
  | 0, h => by unfold nv; rw [Nat.le_zero.1 h]
  | i + 1, h => by
    by_cases e : d.length = i + 1
    · unfold nv; rw [e]
    · have := pv_past d i (by omega)
      rw [pv_succ, getD_past d i (by omega), this]; omega
theorem pv_bd (d : List Int) (h : Dig d) : ∀ i, 0 ≤ pv d i ∧ pv d i < pw i
  | 0 => by simp [pv, pw]
  | i + 1 => by
    have := pv_bd d h i
    have hd := h i
    have hp := pw_pos i
    rw [pv_succ, pw_succ]
    have h1 : d.getD i 0 * pw i ≤ 65535 * pw i := Int.mul_le_mul_of_nonneg_right hd.2 (by omega)
    have h0 : 0 ≤ d.getD i 0 * pw i := Int.mul_nonneg hd.1 (by omega)
    omega
theorem pv_mono (d : List Int) (h : Dig d) (i j : Nat) (hij : i ≤ j) : pv d i ≤ pv d j := by
  induction j with
  | zero => rw [Nat.le_zero.1 hij]; exact Int.le_refl _
  | succ j ih =>
    by_cases e : i = j + 1
    · rw [e]; exact Int.le_refl _
    · have := ih (by omega)
      have h0 : 0 ≤ d.getD j 0 * pw j := Int.mul_nonneg (h j).1 (by have := pw_pos j; omega)
      rw [pv_succ]; omega
theorem nv_bd (d : List Int) (h : Dig d) : 0 ≤ nv d ∧ nv d < pw d.length := pv_bd d h _
theorem nv_ge (d : List Int) (h : Dig d) (t : Top d) (n : Nat) (e : d.length = n + 1) : pw n ≤ nv d := by
  rcases t with t | t
  · omega
  · rw [e, Nat.add_sub_cancel] at t
    have hb := pv_bd d h n
    have hd := h n
    have hp := pw_pos n
    unfold nv
    rw [e, pv_succ]
    have h1 : 1 * pw n ≤ d.getD n 0 * pw n := Int.mul_le_mul_of_nonneg_right (by omega) (by omega)
    omega
theorem nv_zero (d : List Int) (h : Dig d) (t : Top d) : nv d = 0 ↔ d.length = 0 := by
  constructor
  · intro hz
    rcases hn : d.length with _ | n
    · rfl
    · have := nv_ge d h t n hn; have := pw_pos n; omega
  · intro hz; unfold nv; rw [hz]; rfl
theorem nv_len (d : List Int) (h : Dig d) (t : Top d) (k : Nat) : nv d < pw k ↔ d.length ≤ k := by
  constructor
  · intro hz
    rcases hn : d.length with _ | n
    · omega
    · have := nv_ge d h t n hn
      refine Nat.le_of_not_lt fun hc => ?_
      have := pw_le k n (by omega)
      omega
  · intro hz
    have := nv_bd d h
    have := pw_le d.length k hz
    omega
theorem pv_snoc (d : List Int) (x : Int) : ∀ i, i ≤ d.length → pv (d ++ [x]) i = pv d i
  | 0, _ => rfl
  | i + 1, h => by rw [pv_succ, pv_succ, pv_snoc d x i (by omega), getD_snoc, if_neg (by omega)]
theorem pv_snoc_top (d : List Int) (x : Int) : pv (d ++ [x]) (d.length + 1) = pv d d.length + x * pw d.length := by
  show pv (d ++ [x]) d.length + (d ++ [x]).getD d.length 0 * pw d.length = _
  rw [pv_snoc d x _ (Nat.le_refl _), getD_snoc, if_pos rfl]
theorem dig_snoc (d : List Int) (x : Int) (h : Dig d) (hx : 0 ≤ x ∧ x ≤ 65535) : Dig (d ++ [x]) := fun j => by
  rw [getD_snoc]; split
  · exact hx
  · exact h j
theorem dig_nil : Dig [] := fun j => by simp
theorem dig_take (d : List Int) (n : Nat) (h : Dig d) : Dig (d.take n) := fun j => by
  rw [getD_take]; split
  · exact h j
  · omega
theorem pv_take (d : List Int) (n : Nat) : ∀ i, i ≤ n → pv (d.take n) i = pv d i
  | 0, _ => rfl
  | i + 1, h => by rw [pv_succ, pv_succ, pv_take d n i (by omega), getD_take, if_pos (by omega)]
theorem pv_flat (d : List Int) (n : Nat) (h : ∀ j, n ≤ j → d.getD j 0 = 0) : ∀ i, n ≤ i → pv d i = pv d n
  | 0, hi => by rw [Nat.le_zero.1 hi]
  | i + 1, hi => by
    by_cases e : n = i + 1
    · rw [e]
    · rw [pv_succ, pv_flat d n h i (by omega), h i (by omega)]; omega
/-- limbs without noughts at the top -/
theorem nv_take (d : List Int) (n : Nat) (hn : n ≤ d.length) (h : ∀ j, n ≤ j → d.getD j 0 = 0) : nv (d.take n) = nv d := by
  unfold nv
  rw [List.length_take, Nat.min_eq_left hn, pv_take d n n (Nat.le_refl _), pv_flat d n h _ hn]
theorem top_take (d : List Int) (n : Nat) (hn : n ≤ d.length) (h : n = 0 ∨ d.getD (n - 1) 0 ≠ 0) : Top (d.take n) := by
  unfold Top
  rw [List.length_take, Nat.min_eq_left hn, getD_take]
  rcases h with h | h
  · exact .inl h
  · by_cases e : n = 0
    · exact .inl e
    · exact .inr (by rw [if_pos (by omega)]; exact h)
/-- one limb of a sum -/
theorem plus_step (o a b P c s : Int) (h : o + c * P = a + b) (x y : Int) (e : s = c + (x + y)) : o + s % 65536 * P + s / 65536 * (P * 65536) = a + x * P + (b + y * P) := by
  have e2 := Int.mul_ediv_add_emod s 65536
  have : s / 65536 * (P * 65536) = (65536 * (s / 65536)) * P := by rw [Int.mul_comm P 65536, ← Int.mul_assoc, Int.mul_comm (s / 65536) 65536]
  rw [this]
  have e3 : s % 65536 * P + 65536 * (s / 65536) * P = s * P := by rw [← Int.add_mul]; congr 1; omega
  have e4 : s * P = c * P + (x * P + y * P) := by rw [e, Int.add_mul, Int.add_mul]
  omega
theorem plus_end (a b : List Int) (ha : Dig a) (hb : Dig b) (m : Nat) (hm : a.length ≤ m ∧ b.length ≤ m) (o c : Int) (ho : 0 ≤ o) (hc : 0 ≤ c) (h : o + c * pw (m + 1) = pv a (m + 1) + pv b (m + 1)) : c = 0 ∧ o = nv a + nv b := by
  rw [pv_past a _ (by omega), pv_past b _ (by omega)] at h
  have h1 := pv_bd a ha m
  have h2 := pv_bd b hb m
  rw [pv_past a _ hm.1] at h1
  rw [pv_past b _ hm.2] at h2
  have hp := pw_pos m
  have e : pw (m + 1) = pw m * 65536 := rfl
  have : c = 0 := by
    refine Int.le_antisymm (Int.le_of_lt_add_one (Int.lt_of_not_ge fun hc1 => ?_)) hc
    have h3 : 1 * pw (m + 1) ≤ c * pw (m + 1) := Int.mul_le_mul_of_nonneg_right (by omega) (by omega)
    omega
  subst this
  omega
/-- one limb of a difference -/
theorem minus_step (o a b P c : Int) (h : o + b = a + c * P) (x y v : Int) (e : v = x - y - c) : (o + v * P + (b + y * P) = a + x * P + 0 * (P * 65536)) ∧ (o + (v + 65536) * P + (b + y * P) = a + x * P + 1 * (P * 65536)) := by
  have e4 : v * P = x * P - y * P - c * P := by rw [e, Int.sub_mul, Int.sub_mul]
  have e5 : (v + 65536) * P = v * P + 65536 * P := Int.add_mul _ _ _
  constructor <;> omega
theorem minus_end (a b : List Int) (ha : Dig a) (hb : Dig b) (hl : nv b ≤ nv a) (tb : b.length ≤ a.length) (o c : Int) (ho : 0 ≤ o ∧ o < pw a.length) (hc : 0 ≤ c ∧ c ≤ 1) (h : o + pv b a.length = pv a a.length + c * pw a.length) : c = 0 ∧ o = nv a - nv b := by
  rw [pv_past b _ tb, pv_past a _ (Nat.le_refl _)] at h
  have : c = 0 ∨ c = 1 := by omega
  rcases this with rfl | rfl <;> omega
theorem len_le (a b : List Int) (ha : Dig a) (hb : Dig b) (tb : Top b) (hl : nv b ≤ nv a) : b.length ≤ a.length := by
  rw [← nv_len b hb tb]
  have := nv_bd a ha
  omega
/-- the highest limb in which two differ decides -/
theorem pv_diff (a b : List Int) (i : Nat) (h : ∀ j, i ≤ j → a.getD j 0 = b.getD j 0) : ∀ m, i ≤ m → pv a m - pv b m = pv a i - pv b i
  | 0, hm => by rw [Nat.le_zero.1 hm]
  | m + 1, hm => by
    by_cases e : i = m + 1
    · rw [e]
    · have := pv_diff a b i h m (by omega)
      rw [pv_succ, pv_succ, h m (by omega)]; omega
theorem nv_diff (a b : List Int) (i : Nat) (h : ∀ j, i ≤ j → a.getD j 0 = b.getD j 0) : nv a - nv b = pv a i - pv b i := by
  have h1 := pv_diff a b i h (i + (a.length + b.length)) (by omega)
  rw [pv_past a _ (by omega), pv_past b _ (by omega)] at h1
  exact h1
theorem above_gt (a b : List Int) (ha : Dig a) (hb : Dig b) (i : Nat) (h : ∀ j, i + 1 ≤ j → a.getD j 0 = b.getD j 0) (hgt : b.getD i 0 < a.getD i 0) : nv b < nv a := by
  have h1 := nv_diff a b (i + 1) h
  have h2 := pv_bd a ha i
  have h3 := pv_bd b hb i
  have h4 : (b.getD i 0 + 1) * pw i ≤ a.getD i 0 * pw i := Int.mul_le_mul_of_nonneg_right (by omega) (by have := pw_pos i; omega)
  rw [Int.add_mul] at h4
  rw [pv_succ, pv_succ] at h1
  omega
theorem above_eq (a b : List Int) (h : ∀ j, a.getD j 0 = b.getD j 0) : nv a = nv b := by
  have := nv_diff a b 0 (fun j _ => h j)
  rw [pv_zero, pv_zero] at this
  omega
/-- limbs read from the top -/
theorem horner (d : List Int) (i : Nat) (v N : Int) (h : v * pw (i + 1) + pv d (i + 1) = N) : (v * 65536 + d.getD i 0) * pw i + pv d i = N := by
  have e : pw (i + 1) = pw i * 65536 := rfl
  have e2 : pv d (i + 1) = pv d i + d.getD i 0 * pw i := rfl
  rw [e, e2, ← Int.mul_assoc, Int.mul_right_comm] at h
  rw [Int.add_mul]
  omega
theorem horner_le (d : List Int) (hd : Dig d) (i : Nat) (v N : Int) (hv : 0 ≤ v) (h : v * pw i + pv d i = N) : v ≤ N := by
  have h1 := pw_pos i
  have h2 := pv_bd d hd i
  have h3 : v * 1 ≤ v * pw i := Int.mul_le_mul_of_nonneg_left (by omega) hv
  omega
end Go.Proofs.Ytflplliiamodhaa

/- noonmarkref01: limb, trim: for all limbs that lie in memory. -/
namespace Go.Proofs.Ytflplliiamodhaa
open Go.RowKit
set_option linter.unusedVariables false

set_option maxHeartbeats 400000 in
theorem limb_any (a : Option Addr) (cap : Nat) (d : List Int) (i : Int) (w : World) (hr : IntRow w a .i64 d) (hi : 0 ≤ i) (hl : d.length ≤ 9223372036854775807) :
    Calls Try.prog 97 #[.slice a d.length cap, .int .i64 i] w fun e w' => e = .returned (.int .i64 (d.getD i.toNat 0)) ∧ w = w' := by
  obtain ⟨n, rfl⟩ := Int.eq_ofNat_of_zero_le hi
  rw [Int.toNat_natCast]
  by_cases h : n < d.length
  · obtain ⟨b, off, rfl, hc⟩ := hr n h
    have HR := Lib.hid hr
    clear hr
    generalize d.getD n 0 = x at *
    go_enter Try.func97, Try.ntmps97
    go_wp2
    go_ret
    exact ⟨rfl, rfl⟩
  · have e := getD_past d n (by omega)
    have E := Lib.hid e
    have HR := Lib.hid hr
    clear e hr
    go_enter Try.func97, Try.ntmps97
    go_wp2
    go_ret
    exact ⟨ret_int E.out.symm, rfl⟩
def TrimRel (d : List Int) (u : Value) : Prop := ∃ n : Nat, n ≤ d.length ∧ u = .int .i64 n ∧ (∀ j, n ≤ j → d.getD j 0 = 0)
def TrimPost (a : Option Addr) (cap : Nat) (d : List Int) (w : World) (e : Ending) (w' : World) : Prop :=
  ∃ n : Nat, n ≤ d.length ∧ e = .returned (.slice a n cap) ∧ (∀ j, n ≤ j → d.getD j 0 = 0) ∧ (n = 0 ∨ d.getD (n - 1) 0 ≠ 0) ∧ w = w'
set_option maxHeartbeats 400000 in
theorem trim_any (a : Option Addr) (cap : Nat) (d : List Int) (w : World) (hr : IntRow w a .i64 d) (hl : d.length ≤ cap) (hc : cap ≤ 9223372036854775807) (hn : a = none → cap = 0) :
    Calls Try.prog 96 #[.slice a d.length cap] w fun e w' => TrimPost a cap d w e w' := by
  have HR := Lib.hid hr
  have HN := Lib.hid hn
  clear hr hn
  go_enter Try.func96, Try.ntmps96
  go_wp2
  go_loop [3] (fun u => TrimRel d u) (fun u => (intOf u).toNat)
  case atStart => exact ⟨d.length, Nat.le_refl _, rfl, fun j hj => getD_past d j hj⟩
  case round =>
    obtain ⟨n, hn, rfl, hz⟩ := hrel
    have HZ := Lib.hid hz
    clear hz
    by_cases h0 : 0 < n
    · obtain ⟨b, off, rfl, hcell⟩ := HR.out (n - 1) (by omega)
      obtain ⟨x, hx⟩ : ∃ x, d.getD (n - 1) 0 = x := ⟨_, rfl⟩
      rw [hx] at hcell
      have fin1 : (x == 0) = true → TrimRel d (.int .i64 ((n : Int) - 1)) := fun h => by
        refine ⟨n - 1, by omega, by congr 1; omega, fun j hj => ?_⟩
        by_cases e : j = n - 1
        · rw [e, hx]; exact WalkArith.int_eq h
        · exact HZ.out j (by omega)
      have fin2 : (x == 0) = false → TrimPost (some ⟨b, off, none⟩) cap d w (.returned (.slice (some ⟨b, off, none⟩) n cap)) w := fun h =>
        ⟨n, hn, rfl, HZ.out, .inr (by rw [hx]; exact WalkArith.int_ne h), rfl⟩
      have F1 := Lib.hid fin1
      have F2 := Lib.hid fin2
      have HX := Lib.hid hx
      obtain ⟨m, rfl⟩ : ∃ m, n = m + 1 := ⟨n - 1, by omega⟩
      simp only [Nat.add_sub_cancel] at hcell
      clear fin1 fin2 hx
      go_wp2
      · have hx : (x == 0) = true := by assumption
        go_round
        case rel => exact (by have h := F1.out hx; rwa [show (((m + 1 : Nat) : Int) - 1) = m from by omega] at h)
        case measure => simp [intOf]
      · have hx : (x == 0) = false := by assumption
        go_ret
        exact F2.out hx
    · obtain rfl : n = 0 := by omega
      go_wp2
      rcases Classical.em (a = none) with h | h
      · obtain rfl := h
        obtain rfl : cap = 0 := HN.out rfl
        go_ret
        exact ⟨0, hn, rfl, HZ.out, .inl rfl, rfl⟩
      · go_ret
        exact ⟨0, hn, rfl, HZ.out, .inl rfl, rfl⟩
end Go.Proofs.Ytflplliiamodhaa

/- noonmarkref01: made, plus: for all limbs that lie in memory. -/
namespace Go.Proofs.Ytflplliiamodhaa
open Go.RowKit
set_option linter.unusedVariables false

/-- a slice of limbs, as it lies in memory -/
def Limbs (w : World) (v : Value) (d : List Int) : Prop :=
  ∃ a cap, v = .slice a d.length cap ∧ IntRow w a .i64 d ∧ d.length ≤ cap ∧ cap ≤ 9223372036854775807 ∧ (a = none → cap = 0) ∧ Dig d
theorem Limbs.below {w w' : World} {v : Value} {d : List Int} (h : Limbs w v d) (hb : Below w.heap.size w w') : Limbs w' v d := by
  obtain ⟨a, cap, e, hr, h1, h2, h3, h4⟩ := h
  exact ⟨a, cap, e, hr.below hb, h1, h2, h3, h4⟩
/-- a number, as it lies in memory -/
def NumAt (w : World) (v : Value) (z : Int) : Prop := ∃ neg l d, v = .agg #[.bool neg, l] ∧ Limbs w l d ∧ Top d ∧ (neg = true → d.length ≠ 0) ∧ z = sg (nv d) neg
theorem NumAt.below {w w' : World} {v : Value} {z : Int} (h : NumAt w v z) (hb : Below w.heap.size w w') : NumAt w' v z := by
  obtain ⟨neg, l, d, e, hl, h1, h2, h3⟩ := h
  exact ⟨neg, l, d, e, hl.below hb, h1, h2, h3⟩
/-- what a call that answers a number leaves -/
def NumOut (z : Int) (w : World) (e : Ending) (w' : World) : Prop := ∃ v, e = .returned v ∧ NumAt w' v z ∧ Below w.heap.size w w'
/-- what a call that answers limbs leaves -/
def LimbsOut (z : Int) (w : World) (e : Ending) (w' : World) : Prop := ∃ v d, e = .returned v ∧ Limbs w' v d ∧ Top d ∧ nv d = z ∧ Below w.heap.size w w'
theorem sg_zero (neg : Bool) : sg 0 neg = 0 := by unfold sg; cases neg <;> rfl
theorem trim_made {a : Option Addr} {cap n : Nat} {d : List Int} {w : World} (hr : IntRow w a .i64 d) (hd : Dig d) (hl : d.length ≤ cap) (hc : cap ≤ 9223372036854775807) (ha : a = none → cap = 0)
    (hn : n ≤ d.length) (hz : ∀ j, n ≤ j → d.getD j 0 = 0) (ht : n = 0 ∨ d.getD (n - 1) 0 ≠ 0) (neg : Bool) : NumAt w (.agg #[.bool (neg && decide (0 < n)), .slice a n cap]) (sg (nv d) neg) := by
  have hlen : (d.take n).length = n := by rw [List.length_take]; omega
  refine ⟨_, _, d.take n, rfl, ⟨a, cap, by rw [hlen], hr.take n, by omega, hc, ha, dig_take d n hd⟩, top_take d n hn ht, ?_, ?_⟩
  · intro h
    simp at h
    omega
  · rw [nv_take d n hn hz]
    by_cases h : 0 < n
    · rw [decide_eq_true h, Bool.and_true]
    · have e0 : nv d = 0 := by rw [← nv_take d n hn hz]; unfold nv; rw [hlen, show n = 0 by omega]; rfl
      rw [e0, sg_zero, sg_zero]
set_option maxHeartbeats 400000 in
theorem made_any (neg : Bool) (a : Option Addr) (cap : Nat) (d : List Int) (w : World) (hr : IntRow w a .i64 d) (hd : Dig d) (hl : d.length ≤ cap) (hc : cap ≤ 9223372036854775807) (ha : a = none → cap = 0) :
    Calls Try.prog 74 #[.bool neg, .slice a d.length cap] w fun e w' => NumOut (sg (nv d) neg) w e w' := by
  have ct := fun w => fun hr => trim_any a cap d w hr hl hc ha
  have Ct := Lib.hid ct
  have HR := Lib.hid hr
  have fin : ∀ n w', n ≤ d.length → (∀ j, n ≤ j → d.getD j 0 = 0) → (n = 0 ∨ d.getD (n - 1) 0 ≠ 0) → Below w.heap.size w w' → NumOut (sg (nv d) neg) w (.returned (.agg #[.bool (neg && decide (0 < n)), .slice a n cap])) w' :=
    fun n w' h1 h2 h3 hb => ⟨_, rfl, (trim_made hr hd hl hc ha h1 h2 h3 neg).below hb, hb⟩
  have Fin := Lib.hid fin
  clear ct hr fin ha
  cases neg
  all_goals
    simp only [Bool.false_and, Bool.true_and] at Fin
    go_enter Try.func74, Try.ntmps74
    go_wp2_with fail
    refine (Ct.out _ (HR.out.alloc _)).mono ?_
    rintro e w1 ⟨n, hn, rfl, h1, h2, rfl⟩
    have H1 := Lib.hid h1
    have H2 := Lib.hid h2
    clear h1 h2
    go_wp2
    go_returns
    exact Fin.out _ _ hn H1.out H2.out (((Below.refl _ _).alloc (Nat.le_refl _) _))
theorem info_int : (Try.prog.info? 3).map (fun i => (i.zero, i.size, i.bytes)) = some (some (.int .i64 0), 1, 8) := by kernel_rfl
theorem limb_nat (a : Option Addr) (cap : Nat) (d : List Int) (i : Nat) (w : World) (hr : IntRow w a .i64 d) (hl : d.length ≤ 9223372036854775807) :
    Calls Try.prog 97 #[.slice a d.length cap, .int .i64 (i : Int)] w fun e w' => e = .returned (.int .i64 (d.getD i 0)) ∧ w = w' := by
  have h := limb_any a cap d i w hr (by omega) hl
  rwa [Int.toNat_natCast] at h
def PlusRel (a b : List Int) (w : World) (o c i : Value) (wr : World) : Prop := ∃ (k : Nat) (q : List Int) (s : Int), k ≤ max a.length b.length + 1 ∧ i = .int .i64 k ∧ c = .int .i64 s ∧ 0 ≤ s ∧ s ≤ 131072 ∧ q.length = k ∧ Dig q ∧ pv q k + s * pw k = pv a k + pv b k ∧
  wr.ownsRow w.heap.size 3 1 o k (q.map (Value.int .i64)) ∧ Below w.heap.size w wr
set_option maxHeartbeats 1000000 in
theorem plus_any (x y : Option Addr) (cx cy : Nat) (a b : List Int) (w : World) (hx : IntRow w x .i64 a) (hy : IntRow w y .i64 b) (ha : Dig a) (hb : Dig b) (la : a.length ≤ 1000000) (lb : b.length ≤ 1000000) :
    Calls Try.prog 75 #[.slice x a.length cx, .slice y b.length cy] w fun e w' => LimbsOut (nv a + nv b) w e w' := by
  have HX := Lib.hid hx
  have HY := Lib.hid hy
  have HA := Lib.hid ha
  have HB := Lib.hid hb
  clear hx hy ha hb
  go_enter Try.func75, Try.ntmps75
  go_wp2
  go_loopw [5, 6, 7] (fun o c i wr => PlusRel a b w o c i wr) (fun _ _ i _ => max a.length b.length + 1 - (intOf i).toNat)
  case atStart => exact ⟨0, [], 0, by omega, rfl, rfl, by omega, by omega, rfl, dig_nil, rfl, World.ownsRow_made _ _ _ (Nat.le_refl _) (by unfold maxLen; omega) rfl, (Below.refl _ _).alloc (Nat.le_refl _) _⟩
  case round =>
    obtain ⟨k, q, s, hk, rfl, rfl, hs0, hs1, hql, hqd, hqv, hown, hbel⟩ := hrel
    obtain ⟨i0, hi, hz0, hz1, hz2⟩ := info_parts info_int
    have hva := HA.out k
    have hvb := HB.out k
    have ca := fun W hW => limb_nat x cx a k W hW (by omega)
    have cb := fun W hW => limb_nat y cy b k W hW (by omega)
    have hxr := HX.out.below hbel
    have hyr := HY.out.below hbel
    have ca := ca wr hxr
    have cb := cb wr hyr
    generalize hu : a.getD k 0 = u at *
    generalize hv : b.getD k 0 = v at *
    have hc1 : k + 1 ≤ maxLen := by unfold maxLen; omega
    have hc2 : (k + 1) * 8 ≤ 140737488355328 := by omega
    by_cases hlt : k ≤ max a.length b.length
    · have hstep := plus_step _ _ _ _ _ (s + (u + v)) hqv u v rfl
      have fin : ∀ o' w', w'.ownsRow w.heap.size 3 1 o' (k + 1) (q.map (Value.int .i64) ++ [.int .i64 ((s + (u + v)) % 65536)]) → Below w.heap.size w w' → PlusRel a b w o' (.int .i64 ((s + (u + v)) / 65536)) (.int .i64 ((k : Int) + 1)) w' := fun o' w' h1 h2 => by
        refine ⟨k + 1, q ++ [(s + (u + v)) % 65536], _, by omega, rfl, rfl, by omega, by omega, by simp [hql], dig_snoc q _ hqd (by omega), ?_, by rw [List.map_append]; exact h1, h2⟩
        rw [← hql, pv_snoc_top, hql, pw_succ, pv_succ, pv_succ, hu, hv]
        exact hstep
      have Fin := Lib.hid fin
      have Ca := Lib.hid ca
      have Cb := Lib.hid cb
      have Hown := Lib.hid hown
      have Hbel := Lib.hid hbel
      have LA := Lib.hid la
      have LB := Lib.hid lb
      clear la lb fin ca cb hown hbel hqv hqd hql hstep hu hv hxr hyr
      have Hc1 := Lib.hid hc1
      have Hc2 := Lib.hid hc2
      clear hc1 hc2
      have hd : (a.length < b.length ∧ decide (k ≤ b.length) = true) ∨ (¬ a.length < b.length ∧ decide (k ≤ a.length) = true) := by
        rcases Nat.lt_or_ge a.length b.length with hm | hm
        · exact .inl ⟨hm, decide_eq_true (by omega)⟩
        · exact .inr ⟨by omega, decide_eq_true (by omega)⟩
      have hkb : k ≤ 1000000 := by have := LA.out; have := LB.out; omega
      have HLT := Lib.hid hlt
      have HK := Lib.hid hk
      clear hlt hk
      rcases hd with ⟨hm, hd⟩ | ⟨hm, hd⟩
      all_goals
        go_wp2_with fail
        refine Ca.out.mono ?_
        rintro e w1 ⟨rfl, rfl⟩
        go_wp2_with fail
        refine Cb.out.mono ?_
        rintro e w1 ⟨rfl, rfl⟩
        go_wp2_with (at_builtin; refine wpList_append1 rfl _ _ 91 rfl w 3 i0 (.int .i64 0) 8 Try.underlying91 hi hz0 hz1 hz2 rfl _ _ _ _ rfl Hown.out (.int .i64 ((s + (u + v)) % 65536)) rfl rfl Hc1.out Hc2.out Hbel.out ?_)
        intro v' w1 hown' hbel'
        have Hown' := Lib.hid hown'
        have Hbel' := Lib.hid hbel'
        clear hown' hbel'
        go_wp2
        go_roundw
        case rel => exact Fin.out _ _ Hown'.out Hbel'.out
        case measure => have hmz := HLT.out; generalize max a.length b.length = M at hmz ⊢; simp only [intOf]; omega
    · obtain rfl : k = max a.length b.length + 1 := by omega
      obtain ⟨oa, ocap, rfl, hqn, h1, h2, h3, hrow⟩ := IntRow.own hown
      have hend := plus_end a b HA.out HB.out (max a.length b.length) (by omega) _ _ (pv_bd q hqd _).1 hs0 hqv
      have hnv : nv q = nv a + nv b := by rw [← hend.2, ← hql]; rfl
      have ct := trim_any oa ocap q wr hrow (by omega) h2 h3
      rw [hqn] at ct
      have fin : ∀ n w', n ≤ q.length → (∀ j, n ≤ j → q.getD j 0 = 0) → (n = 0 ∨ q.getD (n - 1) 0 ≠ 0) → wr = w' → LimbsOut (nv a + nv b) w (.returned (.slice oa n ocap)) w' := fun n w' g1 g2 g3 g4 => by
        subst g4
        have hlen : (q.take n).length = n := by rw [List.length_take]; omega
        exact ⟨_, q.take n, rfl, ⟨oa, ocap, by rw [hlen], hrow.take n, by omega, h2, h3, dig_take q n hqd⟩, top_take q n g1 g3, by rw [nv_take q n g1 g2, hnv], hbel⟩
      have Fin := Lib.hid fin
      have Ct := Lib.hid ct
      clear la lb hlt hk hc1 hc2 fin ct hend hnv hrow hown hqv hqd hql h3 hu hv hxr hyr
      have hd : (a.length < b.length ∧ decide (max a.length b.length + 1 ≤ b.length) = false) ∨ (¬ a.length < b.length ∧ decide (max a.length b.length + 1 ≤ a.length) = false) := by
        rcases Nat.lt_or_ge a.length b.length with hm | hm
        · exact .inl ⟨hm, decide_eq_false (by omega)⟩
        · exact .inr ⟨by omega, decide_eq_false (by omega)⟩
      generalize max a.length b.length + 1 = M at *
      rcases hd with ⟨hm, hd⟩ | ⟨hm, hd⟩
      all_goals
        go_wp2_with fail
        refine Ct.out.mono ?_
        rintro e w1 ⟨n, g1, rfl, g2, g3, g4⟩
        have G2 := Lib.hid g2
        have G3 := Lib.hid g3
        have G4 := Lib.hid g4
        clear g2 g3 g4
        go_wp2
        go_ret
        exact Fin.out n _ g1 G2.out G3.out G4.out
end Go.Proofs.Ytflplliiamodhaa

/- noonmarkref01: minus, above, Whole: for all limbs that lie in memory. -/
namespace Go.Proofs.Ytflplliiamodhaa
open Go.RowKit
set_option linter.unusedVariables false

def MinusRel (a b : List Int) (w : World) (o c i : Value) (wr : World) : Prop := ∃ (k : Nat) (q : List Int) (s : Int), k ≤ a.length ∧ i = .int .i64 k ∧ c = .int .i64 s ∧ 0 ≤ s ∧ s ≤ 1 ∧ q.length = k ∧ Dig q ∧ pv q k + pv b k = pv a k + s * pw k ∧
  wr.ownsRow w.heap.size 3 1 o k (q.map (Value.int .i64)) ∧ Below w.heap.size w wr
set_option maxHeartbeats 1000000 in
theorem minus_any (x y : Option Addr) (cx cy : Nat) (a b : List Int) (w : World) (hx : IntRow w x .i64 a) (hy : IntRow w y .i64 b) (ha : Dig a) (hb : Dig b) (tb : Top b) (hab : nv b ≤ nv a) (la : a.length ≤ 1000000) :
    Calls Try.prog 77 #[.slice x a.length cx, .slice y b.length cy] w fun e w' => LimbsOut (nv a - nv b) w e w' := by
  have HL := Lib.hid (len_le a b ha hb tb hab)
  have HX := Lib.hid hx
  have HY := Lib.hid hy
  have HA := Lib.hid ha
  have HB := Lib.hid hb
  have HAB := Lib.hid hab
  clear hx hy ha hb tb hab
  go_enter Try.func77, Try.ntmps77
  go_wp2
  go_loopw [5, 6, 7] (fun o c i wr => MinusRel a b w o c i wr) (fun _ _ i _ => a.length - (intOf i).toNat)
  case atStart => exact ⟨0, [], 0, by omega, rfl, rfl, by omega, by omega, rfl, dig_nil, rfl, World.ownsRow_made _ _ _ (Nat.le_refl _) (by unfold maxLen; omega) rfl, (Below.refl _ _).alloc (Nat.le_refl _) _⟩
  case round =>
    obtain ⟨k, q, s, hk, rfl, rfl, hs0, hs1, hql, hqd, hqv, hown, hbel⟩ := hrel
    obtain ⟨i0, hi, hz0, hz1, hz2⟩ := info_parts info_int
    have hva := HA.out k
    have hvb := HB.out k
    have lb := HL.out
    have ca := limb_nat x cx a k wr (HX.out.below hbel) (by omega)
    have cb := limb_nat y cy b k wr (HY.out.below hbel) (by omega)
    generalize hu : a.getD k 0 = u at *
    generalize hv : b.getD k 0 = v at *
    have hc1 : k + 1 ≤ maxLen := by unfold maxLen; omega
    have hc2 : (k + 1) * 8 ≤ 140737488355328 := by omega
    by_cases hlt : k < a.length
    · have hstep := minus_step _ _ _ _ _ hqv u v (u - v - s) rfl
      have fin : ∀ d o' w' (c : Int), (u - v - s < 0 ∧ d = u - v - s + 65536 ∧ c = 1 ∨ ¬ u - v - s < 0 ∧ d = u - v - s ∧ c = 0) → w'.ownsRow w.heap.size 3 1 o' (k + 1) (q.map (Value.int .i64) ++ [.int .i64 d]) → Below w.heap.size w w' → MinusRel a b w o' (.int .i64 c) (.int .i64 ((k : Int) + 1)) w' := fun d o' w' c hd h1 h2 => by
        refine ⟨k + 1, q ++ [d], c, by omega, rfl, rfl, by omega, by omega, by simp [hql], dig_snoc q _ hqd (by omega), ?_, by rw [List.map_append]; exact h1, h2⟩
        rw [← hql, pv_snoc_top, hql, pw_succ, pv_succ, pv_succ, hu, hv]
        rcases hd with ⟨_, rfl, rfl⟩ | ⟨_, rfl, rfl⟩
        · exact hstep.2
        · exact hstep.1
      have Fin := Lib.hid fin
      have Ca := Lib.hid ca
      have Cb := Lib.hid cb
      have Hown := Lib.hid hown
      have Hbel := Lib.hid hbel
      clear fin ca cb hown hbel hqv hqd hql hstep hu hv
      have hd : (Hid (u - v - s < 0) ∧ decide (u - v - s < 0) = true) ∨ (Hid (¬ u - v - s < 0) ∧ decide (u - v - s < 0) = false) := by
        by_cases hneg : u - v - s < 0
        · exact .inl ⟨Lib.hid hneg, decide_eq_true hneg⟩
        · exact .inr ⟨Lib.hid hneg, decide_eq_false hneg⟩
      rcases hd with ⟨hneg, hd⟩ | ⟨hneg, hd⟩
      all_goals
        go_wp2_with fail
        refine Ca.out.mono ?_
        rintro e w1 ⟨rfl, rfl⟩
        go_wp2_with fail
        refine Cb.out.mono ?_
        rintro e w1 ⟨rfl, rfl⟩
      · go_wp2_with (at_builtin; refine wpList_append1 rfl _ _ 91 rfl w 3 i0 (.int .i64 0) 8 Try.underlying91 hi hz0 hz1 hz2 rfl _ _ _ _ rfl Hown.out (.int .i64 (u - v - s + 65536)) rfl rfl hc1 hc2 Hbel.out ?_)
        intro v' w1 hown' hbel'
        have Hown' := Lib.hid hown'
        have Hbel' := Lib.hid hbel'
        clear hown' hbel'
        go_wp2
        go_roundw
        case rel => exact Fin.out _ _ _ 1 (.inl ⟨hneg.out, rfl, rfl⟩) Hown'.out Hbel'.out
        case measure => simp [intOf]; omega
      · go_wp2_with (at_builtin; refine wpList_append1 rfl _ _ 91 rfl w 3 i0 (.int .i64 0) 8 Try.underlying91 hi hz0 hz1 hz2 rfl _ _ _ _ rfl Hown.out (.int .i64 (u - v - s)) rfl rfl hc1 hc2 Hbel.out ?_)
        intro v' w1 hown' hbel'
        have Hown' := Lib.hid hown'
        have Hbel' := Lib.hid hbel'
        clear hown' hbel'
        go_wp2
        go_roundw
        case rel => exact Fin.out _ _ _ 0 (.inr ⟨hneg.out, rfl, rfl⟩) Hown'.out Hbel'.out
        case measure => simp [intOf]; omega
    · obtain rfl : k = a.length := by omega
      obtain ⟨oa, ocap, rfl, hqn, h1, h2, h3, hrow⟩ := IntRow.own hown
      have hend := minus_end a b HA.out HB.out HAB.out HL.out _ _ (by have := pv_bd q hqd a.length; omega) ⟨hs0, hs1⟩ hqv
      have hnv : nv q = nv a - nv b := by rw [← hend.2, ← hql]; rfl
      have ct := trim_any oa ocap q wr hrow (by omega) h2 h3
      rw [hqn] at ct
      have fin : ∀ n w', n ≤ q.length → (∀ j, n ≤ j → q.getD j 0 = 0) → (n = 0 ∨ q.getD (n - 1) 0 ≠ 0) → wr = w' → LimbsOut (nv a - nv b) w (.returned (.slice oa n ocap)) w' := fun n w' g1 g2 g3 g4 => by
        subst g4
        have hlen : (q.take n).length = n := by rw [List.length_take]; omega
        exact ⟨_, q.take n, rfl, ⟨oa, ocap, by rw [hlen], hrow.take n, by omega, h2, h3, dig_take q n hqd⟩, top_take q n g1 g3, by rw [nv_take q n g1 g2, hnv], hbel⟩
      have Fin := Lib.hid fin
      have Ct := Lib.hid ct
      clear fin ct hend hnv hrow hown hqv hqd hql h3 hu hv ca cb
      go_wp2_with fail
      refine Ct.out.mono ?_
      rintro e w1 ⟨n, g1, rfl, g2, g3, g4⟩
      have G2 := Lib.hid g2
      have G3 := Lib.hid g3
      have G4 := Lib.hid g4
      clear g2 g3 g4
      go_wp2
      go_ret
      exact Fin.out n _ g1 G2.out G3.out G4.out
/-- which of two is the greater -/
def lordI (x y : Int) : Int := if x < y then -1 else if y < x then 1 else 0
def AboveRel (a b : List Int) (u : Value) : Prop := ∃ k : Int, -1 ≤ k ∧ u = .int .i64 k ∧ k < 2000000 ∧ (∀ j : Nat, k < j → a.getD j 0 = b.getD j 0)
set_option maxHeartbeats 1000000 in
theorem above_any (x y : Option Addr) (cx cy : Nat) (a b : List Int) (w : World) (hx : IntRow w x .i64 a) (hy : IntRow w y .i64 b) (ha : Dig a) (hb : Dig b) (la : a.length ≤ 1000000) (lb : b.length ≤ 1000000) :
    Calls Try.prog 76 #[.slice x a.length cx, .slice y b.length cy] w fun e w' => e = .returned (.int .i64 (lordI (nv a) (nv b))) ∧ w = w' := by
  have fin0 : (∀ j, a.getD j 0 = b.getD j 0) → lordI (nv a) (nv b) = 0 := fun h => by have := above_eq a b h; unfold lordI; rw [if_neg (by omega), if_neg (by omega)]
  have fin1 : ∀ k : Nat, (∀ j, k + 1 ≤ j → a.getD j 0 = b.getD j 0) → b.getD k 0 < a.getD k 0 → lordI (nv a) (nv b) = 1 := fun k h hg => by have := above_gt a b ha hb k h hg; unfold lordI; rw [if_neg (by omega), if_pos (by omega)]
  have fin2 : ∀ k : Nat, (∀ j, k + 1 ≤ j → a.getD j 0 = b.getD j 0) → a.getD k 0 < b.getD k 0 → lordI (nv a) (nv b) = -1 := fun k h hg => by have := above_gt b a hb ha k (fun j hj => (h j hj).symm) hg; unfold lordI; rw [if_pos (by omega)]
  have past : ∀ j : Nat, max a.length b.length ≤ j → a.getD j 0 = b.getD j 0 := fun j hj => by rw [getD_past a j (by omega), getD_past b j (by omega)]
  have F0 := Lib.hid fin0
  have F1 := Lib.hid fin1
  have F2 := Lib.hid fin2
  have HP := Lib.hid past
  have HX := Lib.hid hx
  have HY := Lib.hid hy
  generalize lordI (nv a) (nv b) = r at *
  clear fin0 fin1 fin2 past hx hy ha hb
  rcases Nat.lt_or_ge a.length b.length with hm | hm
  all_goals
    go_enter Try.func76, Try.ntmps76
    go_wp2
    go_loop [5] (fun u => AboveRel a b u) (fun u => (intOf u + 1).toNat)
    case atStart => exact ⟨_, by omega, rfl, by omega, fun j hj => HP.out j (by omega)⟩
    case round =>
      obtain ⟨k, hk1, rfl, hk2, hall⟩ := hrel
      have HALL := Lib.hid hall
      clear hall
      by_cases h0 : k < 0
      · have hz := F0.out (fun j => HALL.out j (by omega))
        have HZ := Lib.hid hz
        clear hz
        go_wp2
        go_ret
        exact ⟨ret_int HZ.out.symm, rfl⟩
      · obtain ⟨n, rfl⟩ := Int.eq_ofNat_of_zero_le (show 0 ≤ k by omega)
        have ca := limb_nat x cx a n w HX.out (by omega)
        have cb := limb_nat y cy b n w HY.out (by omega)
        have g1 := F1.out n (fun j hj => HALL.out j (by omega))
        have g2 := F2.out n (fun j hj => HALL.out j (by omega))
        have fin : a.getD n 0 = b.getD n 0 → AboveRel a b (.int .i64 ((n : Int) - 1)) := fun he => ⟨_, by omega, rfl, by omega, fun j hj => by
          by_cases e : j = n
          · rw [e]; exact he
          · exact HALL.out j (by omega)⟩
        generalize a.getD n 0 = u at *
        generalize b.getD n 0 = v at *
        have Fin := Lib.hid fin
        have G1 := Lib.hid g1
        have G2 := Lib.hid g2
        have Ca := Lib.hid ca
        have Cb := Lib.hid cb
        clear fin g1 g2 ca cb
        have h3 : v < u ∨ u < v ∨ u = v := by omega
        rcases h3 with h3 | h3 | rfl
        · go_wp2_with (first | (go_at_call_of 97 (Value.slice x a.length cx); refine Ca.out.mono ?_; rintro e w1 ⟨rfl, rfl⟩) | (go_at_call_of 97 (Value.slice y b.length cy); refine Cb.out.mono ?_; rintro e w1 ⟨rfl, rfl⟩))
          go_ret
          exact ⟨ret_int (G1.out h3).symm, rfl⟩
        · have h4 : decide (v < u) = false := by rw [decide_eq_false_iff_not]; omega
          have h5 : decide (u < v) = true := by rw [decide_eq_true_eq]; omega
          have h6 := G2.out h3
          have H6 := Lib.hid h6
          clear h3 h6
          go_wp2_with (first | (go_at_call_of 97 (Value.slice x a.length cx); refine Ca.out.mono ?_; rintro e w1 ⟨rfl, rfl⟩) | (go_at_call_of 97 (Value.slice y b.length cy); refine Cb.out.mono ?_; rintro e w1 ⟨rfl, rfl⟩))
          go_ret
          exact ⟨ret_int H6.out.symm, rfl⟩
        · go_wp2_with (first | (go_at_call_of 97 (Value.slice x a.length cx); refine Ca.out.mono ?_; rintro e w1 ⟨rfl, rfl⟩) | (go_at_call_of 97 (Value.slice y b.length cy); refine Cb.out.mono ?_; rintro e w1 ⟨rfl, rfl⟩))
          go_round
          case rel => exact Fin.out trivial
          case measure => simp [intOf]
theorem NumAt.setCell {w : World} {v : Value} {z : Int} (h : NumAt w v z) {p : Addr} {u : Value} (hp : w.cell? p = some u) (hu : ∀ z, u ≠ .int .i64 z) (x : Value) : NumAt (w.setCell p x) v z := by
  obtain ⟨neg, l, d, e, ⟨a, cap, e2, hr, h1⟩, h2⟩ := h
  exact ⟨neg, l, d, e, ⟨a, cap, e2, hr.setCell hp hu x, h1⟩, h2⟩
/-- a number is stored into the two cells that were laid for it -/
theorem num_stored {w w2 : World} {v : Value} {z : Int} {x y p q : Value} (hb : Below w.heap.size w w2) (hn : NumAt w2 v z) (b1 : w2.cell? ⟨w.heap.size, 0, none⟩ = some x) (b2 : w2.cell? ⟨w.heap.size, 1, none⟩ = some y) (hx : ∀ z, x ≠ .int .i64 z) (hy : ∀ z, y ≠ .int .i64 z) :
    NumOut z w (.returned v) ((w2.setCell ⟨w.heap.size, 0, none⟩ p).setCell ⟨w.heap.size, 1, none⟩ q) :=
  ⟨v, rfl, (hn.setCell b1 hx p).setCell ((World.cell?_setCell_other _ _ _ _ (by simp)).trans b2) hy q, (hb.setCell (Nat.le_refl _) _).setCell (Nat.le_refl _) _⟩
def WholeRel (v : Int) (w : World) (u o i : Value) (wr : World) : Prop := ∃ (k : Nat) (q : List Int) (r : Int), k ≤ 4 ∧ i = .int .i64 k ∧ u = .int .u64 r ∧ 0 ≤ r ∧ r < pw (4 - k) ∧ q.length = k ∧ Dig q ∧ pv q k + r * pw k = v ∧
  wr.ownsRow w.heap.size 3 1 o k (q.map (Value.int .i64)) ∧ Below w.heap.size w wr
set_option maxHeartbeats 1000000 in
theorem whole_any (v : Int) (w : World) (hv : 0 ≤ v ∧ v ≤ 18446744073709551615) :
    Calls Try.prog 73 #[.int .u64 v] w fun e w' => NumOut v w e w' := by
  go_enter Try.func73, Try.ntmps73
  go_wp2
  generalize hW : w.alloc (Obj.cells #[Value.bool false, Value.slice none 0 0] 93) = W
  have hsz : W.heap.size = w.heap.size + 1 := by rw [← hW]; simp
  rw [← hsz]
  have HW := Lib.hid hW
  have HS := Lib.hid hsz
  clear hW hsz
  go_loopw [0, 3, 4] (fun u o i wr => WholeRel v W u o i wr) (fun _ _ i _ => 4 - (intOf i).toNat)
  case atStart => exact ⟨0, [], v, by omega, rfl, rfl, hv.1, by simp only [pw]; omega, rfl, dig_nil, by simp only [pv, pw]; omega, World.ownsRow_made _ #[] 0 (Nat.le_refl _) (by unfold maxLen; omega) rfl, (Below.refl _ _).alloc (Nat.le_refl _) _⟩
  case round =>
    obtain ⟨k, q, r, hk, rfl, rfl, hr0, hr1, hql, hqd, hqv, hown, hbel⟩ := hrel
    obtain ⟨i0, hi, hz0, hz1, hz2⟩ := info_parts info_int
    have hc1 : k + 1 ≤ maxLen := by unfold maxLen; omega
    have hc2 : (k + 1) * 8 ≤ 140737488355328 := by omega
    have hrb : r ≤ 18446744073709551615 := by
      have := pw_le (4 - k) 4 (by omega)
      have e4 : pw 4 = 18446744073709551616 := by decide
      omega
    by_cases hlt : k < 4
    · have fin : ∀ o' w', w'.ownsRow W.heap.size 3 1 o' (k + 1) (q.map (Value.int .i64) ++ [.int .i64 (r % 65536)]) → Below W.heap.size W w' → WholeRel v W (.int .u64 (r / 65536)) o' (.int .i64 ((k : Int) + 1)) w' := fun o' w' h1 h2 => by
        refine ⟨k + 1, q ++ [r % 65536], _, by omega, rfl, rfl, by omega, ?_, by simp [hql], dig_snoc q _ hqd (by omega), ?_, by rw [List.map_append]; exact h1, h2⟩
        · rw [show 4 - k = (4 - (k + 1)) + 1 from by omega, pw_succ] at hr1
          omega
        · have hs := plus_step (pv q k) v 0 (pw k) r r (by omega) 0 0 (by omega)
          rw [← hql, pv_snoc_top, hql, pw_succ]
          have e3 := Int.mul_ediv_add_emod r 65536
          have e4 : r * pw k = (65536 * (r / 65536)) * pw k + r % 65536 * pw k := by rw [← Int.add_mul, e3]
          have e5 : r / 65536 * (pw k * 65536) = (65536 * (r / 65536)) * pw k := by rw [Int.mul_comm (pw k) 65536, ← Int.mul_assoc, Int.mul_comm (r / 65536) 65536]
          omega
      have Fin := Lib.hid fin
      have Hown := Lib.hid hown
      have Hbel := Lib.hid hbel
      have Hc1 := Lib.hid hc1
      have Hc2 := Lib.hid hc2
      obtain ⟨K, hK⟩ : ∃ K : Int, (k : Int) = K := ⟨_, rfl⟩
      have HK := Lib.hid hK
      have hK0 : 0 ≤ K := by omega
      have hK4 : K < 4 := by omega
      have HL := Lib.hid hlt
      rw [hK]
      rw [hK] at Fin
      clear fin hown hbel hqv hqd hql hr1 hc1 hc2 hlt hk hK
      go_wp2_with (at_builtin; refine wpList_append1 rfl _ _ 91 rfl W 3 i0 (.int .i64 0) 8 Try.underlying91 hi hz0 hz1 hz2 rfl _ _ _ _ rfl Hown.out (.int .i64 (r % 65536)) rfl rfl Hc1.out Hc2.out Hbel.out ?_)
      intro v' w1 hown' hbel'
      have Hown' := Lib.hid hown'
      have Hbel' := Lib.hid hbel'
      clear hown' hbel'
      go_wp2
      go_roundw
      case rel => exact Fin.out _ _ Hown'.out Hbel'.out
      case measure => have hk := HK.out; have hl := HL.out; simp only [intOf]; omega
    · obtain rfl : k = 4 := by omega
      have hr : r = 0 := by simp only [pw, Nat.sub_self] at hr1; omega
      obtain ⟨oa, ocap, rfl, hqn, h1, h2, h3, hrow⟩ := IntRow.own hown
      have hnv : nv q = v := by unfold nv; rw [hqn, ← hqv, hr]; omega
      have cm := made_any false oa ocap q wr hrow hqd (by omega) h2 h3
      rw [hnv, hqn] at cm
      have hsv : sg v false = v := rfl
      rw [hsv] at cm
      have Cm := Lib.hid cm
      have Hbel := Lib.hid hbel
      clear cm hnv hrow hown hqv hqd hql h3 hr hr1 hsv hbel
      go_wp2_with fail
      refine Cm.out.mono ?_
      rintro e w2 ⟨v', rfl, hnum, hbel2⟩
      have hB := Hbel.out.trans (hbel2.mono Hbel.out.size)
      have Hnum := Lib.hid hnum
      obtain ⟨neg, l, d, rfl, hlimbs, _⟩ := hnum
      obtain ⟨la, lcap, rfl, _⟩ := hlimbs
      have HB := Lib.hid hB
      rw [← HW.out] at hB
      obtain ⟨b1, b2, b3, b4, b5⟩ := box2 hB
      have HU := Lib.hid (Below.unalloc hB)
      clear hB hbel2
      obtain ⟨r1, r2⟩ := box2_stored b1 b2 (.bool neg) (.slice la d.length lcap)
      go_wp2
      refine bodyPost_ret (v := .agg #[.bool neg, .slice la d.length lcap]) (by simp [results, Try.results73, go_sem, r1, r2]) rfl ?_
      exact num_stored HU.out Hnum.out b1 b2 (by simp) (by simp)
end Go.Proofs.Ytflplliiamodhaa

/- noonmarkref01: Of, Long: for all numbers that lie in memory. -/
namespace Go.Proofs.Ytflplliiamodhaa
open Go.RowKit
set_option linter.unusedVariables false

theorem lsg_out {n : Int} {neg : Bool} (h : 18446744073709551616 ≤ n) : ¬ InI (sg n neg) := by unfold InI sg; cases neg <;> simp <;> omega
theorem num_field1 (x y : Value) (w : World) : (Instr.field 93 (.agg #[x, y]) 1).run Try.prog w = .ok y w := by kernel_rfl
set_option maxHeartbeats 1000000 in
theorem of_any (v : Int) (w : World) (hv : InI v) :
    Calls Try.prog 51 #[.int .i64 v] w fun e w' => NumOut v w e w' := by
  have hv' : -9223372036854775808 ≤ v ∧ v ≤ 9223372036854775807 := hv
  clear hv
  by_cases h0 : 0 ≤ v
  · have Cw := Lib.hid (fun w => whole_any v w (by omega))
    go_enter Try.func51, Try.ntmps51
    go_wp2_with fail
    refine (Cw.out _).mono ?_
    rintro e w2 ⟨v', rfl, hnum, hB⟩
    have Hnum := Lib.hid hnum
    obtain ⟨neg, l, d, rfl, ⟨la, lcap, rfl, _⟩, _⟩ := hnum
    obtain ⟨b1, b2, b3, b4, b5⟩ := box2 hB
    have HU := Lib.hid (Below.unalloc hB)
    obtain ⟨r1, r2⟩ := box2_stored b1 b2 (.bool neg) (.slice la d.length lcap)
    clear hB
    go_wp2
    refine bodyPost_ret (v := .agg #[.bool neg, .slice la d.length lcap]) (by simp [results, Try.results51, go_sem, r1, r2]) rfl ?_
    exact num_stored HU.out Hnum.out b1 b2 (by simp) (by simp)
  · have Cw := Lib.hid (fun w => whole_any (-v) w (by omega))
    have e1 : IntKind.u64.wrap (-(v + 1)) = -(v + 1) := by rw [IntKind.wrap_u64]; omega
    have e2 : -(v + 1) + 1 = -v := by omega
    go_enter Try.func51, Try.ntmps51
    go_wp2_with fail
    refine (Cw.out _).mono ?_
    rintro e w2 ⟨v', rfl, hnum, hB⟩
    obtain ⟨neg, l, d, rfl, ⟨la, lcap, rfl, hrow, hl1, hl2, hl3, hdig⟩, htop, hne, hz⟩ := hnum
    have hnv : sg (nv d) true = v := by
      have := (nv_bd d hdig).1
      unfold sg at hz ⊢
      cases neg <;> simp at hz ⊢ <;> omega
    have cm := made_any true la lcap d w2 hrow hdig hl1 hl2 hl3
    rw [hnv] at cm
    have Cm := Lib.hid cm
    have HB := Lib.hid hB
    clear hB cm hrow hl3 hdig htop hne hz hnv
    have hfld := num_field1
    go_wp2_with fail
    refine Cm.out.mono ?_
    rintro e w3 ⟨v', rfl, hnum, hB3⟩
    have hB := HB.out.trans (hB3.mono HB.out.size)
    have Hnum := Lib.hid hnum
    obtain ⟨neg, l, d, rfl, ⟨la, lcap, rfl, _⟩, _⟩ := hnum
    obtain ⟨b1, b2, b3, b4, b5⟩ := box2 hB
    have HU := Lib.hid (Below.unalloc hB)
    obtain ⟨r1, r2⟩ := box2_stored b1 b2 (.bool neg) (.slice la d.length lcap)
    clear hB hB3
    go_wp2
    refine bodyPost_ret (v := .agg #[.bool neg, .slice la d.length lcap]) (by simp [results, Try.results51, go_sem, r1, r2]) rfl ?_
    exact num_stored HU.out Hnum.out b1 b2 (by simp) (by simp)
def LongRel (d : List Int) (v i : Value) : Prop := ∃ (k : Nat) (x : Int), k ≤ d.length ∧ i = .int .i64 ((k : Int) - 1) ∧ v = .int .u64 x ∧ 0 ≤ x ∧ x * pw k + pv d k = nv d
def LongPost (z : Int) (w : World) (e : Ending) (w' : World) : Prop := (∃ u, e = .returned (.tuple #[.int .i64 u, .bool (decide (InI z))]) ∧ (InI z → u = z)) ∧ Below w.heap.size w w'
set_option maxHeartbeats 1000000 in
theorem long_any (v : Value) (z : Int) (w : World) (hn : NumAt w v z) :
    Calls Try.prog 52 #[v] w fun e w' => LongPost z w e w' := by
  obtain ⟨neg, l, d, rfl, ⟨la, lcap, rfl, hrow, hl1, hl2, hl3, hdig⟩, htop, hne, hz⟩ := hn
  have e4 : pw 4 = 18446744073709551616 := by decide
  have h4 := nv_len d hdig htop 4
  rw [e4] at h4
  have hb := nv_bd d hdig
  have HROW := Lib.hid (hrow.alloc (Obj.cells #[.bool neg, .slice la d.length lcap] 93))
  have HDIG := Lib.hid hdig
  by_cases hlen : 4 < d.length
  · have fin : ∀ w', Below w.heap.size w w' → LongPost z w (.returned (.tuple #[.int .i64 0, .bool false])) w' := fun w' hw => by
      have ho : ¬ InI z := by
        have : 18446744073709551616 ≤ nv d := by
          refine Int.le_of_not_gt fun hc => ?_
          have := h4.1 hc
          omega
        rw [hz]
        exact lsg_out this
      exact ⟨⟨0, by rw [decide_eq_false ho], fun h => absurd h ho⟩, hw⟩
    have Fin := Lib.hid fin
    clear fin hrow hdig htop hne hz hl3 h4
    go_enter Try.func52, Try.ntmps52
    go_wp2
    go_ret2
    exact Fin.out _ ((Below.refl _ _).alloc (Nat.le_refl _) _)
  · have hnv : nv d < 18446744073709551616 := h4.2 (by omega)
    have hpast : pv d d.length = nv d := rfl
    have fin0 : neg = true → 9223372036854775808 < nv d → ∀ w', Below w.heap.size w w' → LongPost z w (.returned (.tuple #[.int .i64 0, .bool false])) w' := fun h1 h2 w' hw => by
      have ho : ¬ InI z := by rw [hz, h1]; unfold InI sg; simp; omega
      exact ⟨⟨0, by rw [decide_eq_false ho], fun h => absurd h ho⟩, hw⟩
    have fin1 : neg = true → ¬ 9223372036854775808 < nv d → ∀ u, u = -(nv d) → ∀ w', Below w.heap.size w w' → LongPost z w (.returned (.tuple #[.int .i64 u, .bool true])) w' := fun h1 h2 u hu w' hw => by
      have ho : InI z := by rw [hz, h1]; unfold InI sg; simp; omega
      exact ⟨⟨u, by rw [decide_eq_true ho], fun h => by rw [hu, hz, h1]; rfl⟩, hw⟩
    have fin2 : neg = false → ∀ w', Below w.heap.size w w' → LongPost z w (.returned (.tuple #[.int .i64 (wrap64 (nv d)), .bool (decide (nv d < 9223372036854775808))])) w' := fun h1 w' hw => by
      have ho : InI z ↔ nv d < 9223372036854775808 := by rw [hz, h1]; unfold InI sg; simp; omega
      exact ⟨⟨_, by rw [show decide (nv d < 9223372036854775808) = decide (InI z) from decide_eq_decide.2 ho.symm], fun h => by rw [IntWalk.wrap64_in _ (by have := ho.1 h; omega), hz, h1]; rfl⟩, hw⟩
    have hnz : neg = true → 1 ≤ nv d := fun h => by
      have := nv_zero d hdig htop
      have := hne h
      omega
    have F0 := Lib.hid fin0
    have F1 := Lib.hid fin1
    have F2 := Lib.hid fin2
    have FZ := Lib.hid hnz
    have HT := Lib.hid (horner_le d hdig)
    clear fin0 fin1 fin2 hnz htop hl3 h4 hz hne
    go_enter Try.func52, Try.ntmps52
    go_wp2
    go_loop [4, 5] (fun v i => LongRel d v i) (fun _ i => (intOf i + 1).toNat)
    case atStart => exact ⟨d.length, 0, Nat.le_refl _, rfl, rfl, by omega, by rw [hpast]; omega⟩
    case round =>
      obtain ⟨k, x, hk, rfl, rfl, hx0, hx⟩ := hrel
      have hxn := HT.out k x _ hx0 hx
      by_cases h0 : 0 < k
      · obtain ⟨m, rfl⟩ : ∃ m, k = m + 1 := ⟨k - 1, by omega⟩
        have hst := horner d m x _ hx
        obtain ⟨b, off, rfl, hcell⟩ := HROW.out m (by omega)
        have hu := HDIG.out m
        generalize d.getD m 0 = u at *
        have hx2 := HT.out m (x * 65536 + u) _ (by omega) hst
        have fin : LongRel d (.int .u64 (x * 65536 + u)) (.int .i64 ((m : Int) - 1)) := ⟨m, _, by omega, rfl, rfl, by omega, hst⟩
        have Fin := Lib.hid fin
        have e1 : ((m + 1 : Nat) : Int) - 1 = m := by omega
        rw [e1]
        have hsz : d.length ≤ 4 := by omega
        generalize nv d = N at *
        clear fin e1 hx hst hrow hdig hpast
        go_wp2
        go_round
        case rel => exact Fin.out
        case measure => simp [intOf]
      · obtain rfl : k = 0 := by omega
        have e : x = nv d := by unfold pw pv at hx; omega
        subst e
        have FZ' := FZ.out
        cases neg
        · have F2' := F2.out rfl
          have G2 := Lib.hid F2'
          clear F2' FZ' hx hrow hdig hpast
          go_wp2
          go_ret2
          exact G2.out _ ((Below.refl _ _).alloc (Nat.le_refl _) _)
        · have hz1 := FZ' rfl
          have G0 := Lib.hid (F0.out rfl)
          have G1 := Lib.hid (F1.out rfl)
          clear FZ' hx hrow hdig hpast
          by_cases hbig : 9223372036854775808 < nv d
          · go_wp2
            go_ret2
            exact G0.out hbig _ ((Below.refl _ _).alloc (Nat.le_refl _) _)
          · go_wp2
            go_ret2
            exact G1.out hbig _ (by omega) _ ((Below.refl _ _).alloc (Nat.le_refl _) _)
end Go.Proofs.Ytflplliiamodhaa
