import Derived.Test.YtflplliiamodhaaZDriftM
import Derived.Laws.Externs
import Derived.Shelf.Spec.BitsCarry
import Derived.Test.YtflplliiamodhaaZDivMath
/- wide.Of, plus, minus, size, Long: for every input. -/
namespace Go.Proofs.Ytflplliiamodhaa
open Go.RowKit
set_option linter.unusedVariables false

theorem run_Add64 (x y c : Int) (hx : 0 ≤ x) (hy : 0 ≤ y) (hc0 : 0 ≤ c) (hc : c ≤ 1) (w : World) :
    (callFunc 122 #[.int .u64 x, .int .u64 y, .int .u64 c]).run Try.prog w =
      .ok (.value (.tuple #[.int .u64 ((x + y + c) % 18446744073709551616), .int .u64 ((x + y + c) / 18446744073709551616)])) w := by
  rw [run_callFunc_extern Try.func122 (by kernel_rfl) (by kernel_rfl) (by kernel_rfl) (e := add64Entry) (by kernel_rfl), run_add64 x y c hx hy hc0 hc w]
  rfl
theorem run_Sub64 (x y b : Int) (hx : 0 ≤ x ∧ x ≤ 18446744073709551615) (hy : 0 ≤ y ∧ y ≤ 18446744073709551615) (hb : 0 ≤ b ∧ b ≤ 1) (w : World) :
    (callFunc 111 #[.int .u64 x, .int .u64 y, .int .u64 b]).run Try.prog w =
      .ok (.value (.tuple #[.int .u64 ((x - y - b) % 18446744073709551616), .int .u64 (-((x - y - b) / 18446744073709551616))])) w := by
  obtain ⟨x, rfl⟩ := Int.eq_ofNat_of_zero_le hx.1
  obtain ⟨y, rfl⟩ := Int.eq_ofNat_of_zero_le hy.1
  obtain ⟨b, rfl⟩ := Int.eq_ofNat_of_zero_le hb.1
  rw [run_callFunc_extern Try.func111 (by kernel_rfl) (by kernel_rfl) (by kernel_rfl) (e := sub64Entry) (by kernel_rfl), run_sub64 x y b (by omega)]
  have e1 : (((x + 18446744073709551616 - y - b) % 18446744073709551616 : Nat) : Int) = ((x : Int) - y - b) % 18446744073709551616 := by omega
  have e2 : ((if x < y + b then 1 else 0 : Nat) : Int) = -(((x : Int) - y - b) / 18446744073709551616) := by split <;> omega
  rw [e1, e2]
  rfl
/-- the two words of a number, wrapped round -/
def hiW (z : Int) : Int := wrap64 (z / 18446744073709551616)
def loW (z : Int) : Int := z % 18446744073709551616
def wI (z : Int) : Value := .agg #[.int .i64 (hiW z), .int .u64 (loW z)]
theorem hiW_in (z : Int) : -9223372036854775808 ≤ hiW z ∧ hiW z ≤ 9223372036854775807 := by unfold hiW wrap64; omega
theorem loW_in (z : Int) : 0 ≤ loW z ∧ loW z ≤ 18446744073709551615 := by unfold loW; omega
/-- the number of two words -/
def wz (h l : Int) : Int := h * 18446744073709551616 + l
theorem wI_wz {h l : Int} (hh : -9223372036854775808 ≤ h ∧ h ≤ 9223372036854775807) (hl : 0 ≤ l ∧ l ≤ 18446744073709551615) : wI (wz h l) = .agg #[.int .i64 h, .int .u64 l] := by
  have e1 : hiW (wz h l) = h := by unfold hiW wz wrap64; omega
  have e2 : loW (wz h l) = l := by unfold loW wz; omega
  unfold wI
  rw [e1, e2]
theorem wI_eq {z h l : Int} (hh : h = hiW z) (hl : l = loW z) : Value.agg #[.int .i64 h, .int .u64 l] = wI z := by rw [hh, hl]; rfl
theorem gives_wI {z h l : Int} {w w' : World} (hh : h = hiW z) (hl : l = loW z) (hb : Below w.heap.size w w') : Gives (wI z) w (.returned (.agg #[.int .i64 h, .int .u64 l])) w' := ⟨by rw [wI_eq hh hl], hb⟩

theorem wof_any (v : Int) (w : World) (hv : InI v) : Calls Try.prog 102 #[.int .i64 v] w (Gives (wI v) w) := by
  have hv' : -9223372036854775808 ≤ v ∧ v ≤ 9223372036854775807 := hv
  have fin : ∀ w', Below w.heap.size w w' → Gives (wI v) w (.returned (.agg #[.int .i64 (v / 9223372036854775808), .int .u64 (IntKind.u64.wrap v)])) w' := fun w' hb => gives_wI (by unfold hiW wrap64; omega) (by rw [IntKind.wrap_u64]; rfl) hb
  have Fin := Lib.hid fin
  obtain ⟨W, hW⟩ : ∃ W, w.alloc (.cells #[.int .i64 0, .int .u64 0] 121) = W := ⟨_, rfl⟩
  have R0 : Hid (Kept W w.heap.size #[.int .i64 0, .int .u64 0] 121) := Lib.hid (by rw [← hW]; exact Kept.new (by simp))
  have B0 : Hid (Below w.heap.size w W) := Lib.hid (by rw [← hW]; exact one_alloc _ _)
  clear fin hv
  go_enter Try.func102, Try.ntmps102
  obtain ⟨c1, c2, c3, c4, c5⟩ := R0.out.two
  go_wp2
  all_goals
    try rw [hW]
    obtain ⟨s1, s2⟩ := R0.out.read2 (.int .i64 (v / 9223372036854775808)) (.int .u64 (IntKind.u64.wrap v))
    refine bodyPost_ret (v := .agg #[.int .i64 (v / 9223372036854775808), .int .u64 (IntKind.u64.wrap v)]) (by simp [results, Try.results102, go_sem, s1, s2]) rfl ?_
    exact Fin.out _ (bset2 B0.out (Nat.le_refl _) _ _)

set_option maxHeartbeats 1000000 in
theorem wplus_raw (h l g m : Int) (w : World) (hh : -9223372036854775808 ≤ h ∧ h ≤ 9223372036854775807) (hl : 0 ≤ l ∧ l ≤ 18446744073709551615) (hg : -9223372036854775808 ≤ g ∧ g ≤ 9223372036854775807) (hm : 0 ≤ m ∧ m ≤ 18446744073709551615) :
    Calls Try.prog 109 #[.agg #[.int .i64 h, .int .u64 l], .agg #[.int .i64 g, .int .u64 m]] w (Gives (wI (wz h l + wz g m)) w) := by
  obtain ⟨U, eU⟩ : ∃ U, IntKind.u64.wrap h = U := ⟨_, rfl⟩
  obtain ⟨T, eT⟩ : ∃ T, IntKind.u64.wrap g = T := ⟨_, rfl⟩
  have bU : 0 ≤ U ∧ U < 18446744073709551616 ∧ (U = h ∨ U = h + 18446744073709551616) := by rw [IntKind.wrap_u64] at eU; omega
  have bT : 0 ≤ T ∧ T < 18446744073709551616 ∧ (T = g ∨ T = g + 18446744073709551616) := by rw [IntKind.wrap_u64] at eT; omega
  obtain ⟨c, ec⟩ : ∃ c, (l + m) / 18446744073709551616 = c := ⟨_, rfl⟩
  obtain ⟨L, eL⟩ : ∃ c, (l + m) % 18446744073709551616 = c := ⟨_, rfl⟩
  obtain ⟨H, eH⟩ : ∃ d, (U + T + c) % 18446744073709551616 = d := ⟨_, rfl⟩
  obtain ⟨G, eG⟩ : ∃ d, (U + T + c) / 18446744073709551616 = d := ⟨_, rfl⟩
  have r1 := fun w => run_Add64 l m 0 hl.1 hm.1 (by omega) (by omega) w
  have r2 := fun w => run_Add64 U T c bU.1 bT.1 (by omega) (by omega) w
  simp only [Int.add_zero, ec, eL] at r1
  rw [eH, eG] at r2
  have fin : ∀ w', Below w.heap.size w w' → Gives (wI (wz h l + wz g m)) w (.returned (.agg #[.int .i64 (wrap64 H), .int .u64 L])) w' := fun w' hb => gives_wI (by unfold hiW wz wrap64; omega) (by unfold loW wz; omega) hb
  have Fin := Lib.hid fin
  obtain ⟨W, hW⟩ : ∃ W, ((w.alloc (.cells #[.int .i64 h, .int .u64 l] 121)).alloc (.cells #[.int .i64 g, .int .u64 m] 121)).alloc (.cells #[.int .i64 0, .int .u64 0] 121) = W := ⟨_, rfl⟩
  have K0 : Hid (Kept W w.heap.size #[.int .i64 h, .int .u64 l] 121) := Lib.hid (by rw [← hW]; exact ((Kept.new (by simp)).alloc _).alloc _)
  have K1 : Hid (Kept W (w.heap.size + 1) #[.int .i64 g, .int .u64 m] 121) := Lib.hid (by rw [← hW]; exact (Kept.new (by simp)).alloc _)
  have R0 : Hid (Kept W (w.heap.size + 2) #[.int .i64 0, .int .u64 0] 121) := Lib.hid (by rw [← hW]; exact Kept.new (by simp))
  have B0 : Hid (Below w.heap.size w W) := Lib.hid (by rw [← hW]; exact (((Below.refl _ _).alloc (Nat.le_refl _) _).alloc (by simp) _).alloc (by simp; omega) _)
  clear fin eH eG ec eL bU bT hh hl hg hm
  go_enter Try.func109, Try.ntmps109
  obtain ⟨a1, a2, -, -, a5⟩ := K0.out.two
  obtain ⟨b1, b2, -, -, b5⟩ := K1.out.two
  obtain ⟨c1, c2, c3, c4, c5⟩ := R0.out.two
  go_wp2
  all_goals
    try rw [hW]
    obtain ⟨s1, s2⟩ := R0.out.read2 (.int .i64 (wrap64 H)) (.int .u64 L)
    refine bodyPost_ret (v := .agg #[.int .i64 (wrap64 H), .int .u64 L]) (by simp [results, Try.results109, go_sem, s1, s2]) rfl ?_
    exact Fin.out _ (bset2 B0.out (by omega) _ _)
theorem wI_letters (z : Int) : ∃ h l : Int, wI z = .agg #[.int .i64 h, .int .u64 l] ∧ (-9223372036854775808 ≤ h ∧ h ≤ 9223372036854775807) ∧ (0 ≤ l ∧ l ≤ 18446744073709551615) ∧ h = hiW z ∧ l = loW z := ⟨_, _, rfl, hiW_in z, loW_in z, rfl, rfl⟩
theorem wI_congr {a b : Int} (h : (a - b) % 340282366920938463463374607431768211456 = 0) : wI a = wI b := by
  have e1 : hiW a = hiW b := by unfold hiW wrap64; omega
  have e2 : loW a = loW b := by unfold loW; omega
  unfold wI
  rw [e1, e2]
theorem wz_self (z : Int) : (wz (hiW z) (loW z) - z) % 340282366920938463463374607431768211456 = 0 := by unfold wz hiW loW wrap64; omega
theorem wplus_any (a b : Int) (w : World) : Calls Try.prog 109 #[wI a, wI b] w (Gives (wI (a + b)) w) := by
  have h := wplus_raw (hiW a) (loW a) (hiW b) (loW b) w (hiW_in a) (loW_in a) (hiW_in b) (loW_in b)
  rwa [wI_congr (b := a + b) (by have := wz_self a; have := wz_self b; omega)] at h

/-- a number that two words hold -/
def InW (z : Int) : Prop := -170141183460469231731687303715884105728 ≤ z ∧ z ≤ 170141183460469231731687303715884105727
instance (x : Int) : Decidable (InW x) := by unfold InW; exact inferInstance
theorem hiW_neg {z : Int} (h : InW z) : hiW z < 0 ↔ z < 0 := by unfold InW at h; unfold hiW wrap64; omega
theorem wz_in {z : Int} (h : InW z) : wz (hiW z) (loW z) = z := by unfold InW at h; unfold wz hiW loW wrap64; omega
theorem wz_inW {h l : Int} (hh : -9223372036854775808 ≤ h ∧ h ≤ 9223372036854775807) (hl : 0 ≤ l ∧ l ≤ 18446744073709551615) : InW (wz h l) := by unfold InW wz; omega
theorem wI_inj {a b : Int} (ha : InW a) (hb : InW b) : wI a = wI b ↔ a = b := by
  constructor
  · intro h
    injection h with h
    have h1 : hiW a = hiW b := by
      have := congrArg (fun (x : Array Value) => x[0]!) h
      simpa using this
    have h2 : loW a = loW b := by
      have := congrArg (fun (x : Array Value) => x[1]!) h
      simpa using this
    rw [← wz_in ha, ← wz_in hb, h1, h2]
  · intro h; rw [h]
end Go.Proofs.Ytflplliiamodhaa

/- wide.size, Long, Add, Sub: for every input. -/
namespace Go.Proofs.Ytflplliiamodhaa
open Go.RowKit
set_option linter.unusedVariables false

theorem wI_zero : wI 0 = .agg #[.int .i64 0, .int .u64 0] := by
  have e1 : hiW 0 = 0 := by unfold hiW wrap64; omega
  have e2 : loW 0 = 0 := by unfold loW; omega
  unfold wI
  rw [e1, e2]
def vW (z : Int) : Int := if InW z then z else 0
def eW (z : Int) : Int := if InW z then 0 else 12
theorem vW_in {z : Int} (h : InW z) : vW z = z := if_pos h
theorem eW_in {z : Int} (h : InW z) : eW z = 0 := if_pos h
theorem vW_out {z : Int} (h : ¬ InW z) : vW z = 0 := if_neg h
theorem eW_out {z : Int} (h : ¬ InW z) : eW z = 12 := if_neg h
theorem over_add {a b : Int} (ha : InW a) (hb : InW b) : ((decide (hiW a < 0) == decide (hiW b < 0)) && (decide (hiW (a + b) < 0) != decide (hiW a < 0))) = decide (¬ InW (a + b)) := by
  have h1 := hiW_neg ha
  have h2 := hiW_neg hb
  rw [show decide (hiW a < 0) = decide (a < 0) from decide_eq_decide.2 h1, show decide (hiW b < 0) = decide (b < 0) from decide_eq_decide.2 h2]
  unfold InW at *
  rw [Bool.eq_iff_iff]
  simp only [Bool.and_eq_true, beq_iff_eq, bne_iff_ne, ne_eq, decide_eq_true_eq, decide_eq_decide]
  unfold hiW wrap64
  omega
theorem over_sub {a b : Int} (ha : InW a) (hb : InW b) : ((decide (hiW a < 0) != decide (hiW b < 0)) && (decide (hiW (a - b) < 0) != decide (hiW a < 0))) = decide (¬ InW (a - b)) := by
  have h1 := hiW_neg ha
  have h2 := hiW_neg hb
  rw [show decide (hiW a < 0) = decide (a < 0) from decide_eq_decide.2 h1, show decide (hiW b < 0) = decide (b < 0) from decide_eq_decide.2 h2]
  unfold InW at *
  rw [Bool.eq_iff_iff]
  simp only [Bool.and_eq_true, bne_iff_ne, ne_eq, decide_eq_true_eq, decide_eq_decide]
  unfold hiW wrap64
  omega
end Go.Proofs.Ytflplliiamodhaa

/- wide.Add: for every input. -/
namespace Go.Proofs.Ytflplliiamodhaa
open Go.RowKit
set_option linter.unusedVariables false

set_option maxHeartbeats 4000000 in
theorem wadd_any (a b : Int) (w : World) (ha : InW a) (hb : InW b) : Calls Try.prog 98 #[wI a, wI b] w (Gives (.tuple #[wI (vW (a + b)), .int .i64 (eW (a + b))]) w) := by
  have ho := over_add ha hb
  have Cp := Lib.hid (fun w => wplus_any a b w)
  obtain ⟨h, l, e1, hh, hl, eh, -⟩ := wI_letters a
  obtain ⟨g, m, e2, hg, hm, eg, -⟩ := wI_letters b
  obtain ⟨H, L, e3, hH, hL, eH, -⟩ := wI_letters (a + b)
  rw [← eh, ← eg, ← eH] at ho
  rw [e1, e2, e3] at Cp
  have f1 : decide (¬ InW (a + b)) = true → ∀ w', Below w.heap.size w w' → Gives (.tuple #[wI (vW (a + b)), .int .i64 (eW (a + b))]) w (.returned (.tuple #[.agg #[.int .i64 0, .int .u64 0], .int .i64 12])) w' := fun hd w' hw => by
    have hd := of_decide_eq_true hd
    rw [vW_out hd, eW_out hd, wI_zero]
    exact ⟨rfl, hw⟩
  have f2 : decide (¬ InW (a + b)) = false → ∀ w', Below w.heap.size w w' → Gives (.tuple #[wI (vW (a + b)), .int .i64 (eW (a + b))]) w (.returned (.tuple #[.agg #[.int .i64 H, .int .u64 L], .int .i64 0])) w' := fun hd w' hw => by
    have hd := of_decide_eq_false hd
    rw [vW_in (by simpa using hd), eW_in (by simpa using hd), e3]
    exact ⟨rfl, hw⟩
  rw [← ho] at f1 f2
  rw [e1, e2]
  have F1 := Lib.hid f1
  have F2 := Lib.hid f2
  obtain ⟨W, hW⟩ : ∃ W, ((w.alloc (.cells #[.int .i64 h, .int .u64 l] 121)).alloc (.cells #[.int .i64 g, .int .u64 m] 121)).alloc (.cells #[.int .i64 0, .int .u64 0] 121) = W := ⟨_, rfl⟩
  have K0 : Hid (Kept W w.heap.size #[.int .i64 h, .int .u64 l] 121) := Lib.hid (by rw [← hW]; exact ((Kept.new (by simp)).alloc _).alloc _)
  have K1 : Hid (Kept W (w.heap.size + 1) #[.int .i64 g, .int .u64 m] 121) := Lib.hid (by rw [← hW]; exact (Kept.new (by simp)).alloc _)
  have R0 : Hid (Kept W (w.heap.size + 2) #[.int .i64 0, .int .u64 0] 121) := Lib.hid (by rw [← hW]; exact Kept.new (by simp))
  have B0 : Hid (Below w.heap.size w W) := Lib.hid (by rw [← hW]; exact (((Below.refl _ _).alloc (Nat.le_refl _) _).alloc (by simp) _).alloc (by simp; omega) _)
  have HW := Lib.hid hW
  clear f1 f2 ho eh eg eH e1 e2 e3 hh hl hg hm hH hL hW ha hb
  rcases hd1 : decide (h < 0) with _ | _ <;> rcases hd2 : decide (g < 0) with _ | _ <;> rcases hd3 : decide (H < 0) with _ | _
  all_goals
    rw [hd1, hd2, hd3] at F1 F2
    go_enter Try.func98, Try.ntmps98
    obtain ⟨a1, a2, -, -, a5⟩ := K0.out.two
    obtain ⟨b1, b2, -, -, b5⟩ := K1.out.two
    obtain ⟨c1, c2, c3, c4, c5⟩ := R0.out.two
    go_wp2_with fail
    rw [HW.out]
    refine (Cp.out _).mono ?_
    rintro _ w1 ⟨rfl, hb1⟩
    have N1 := Lib.hid (Kept.new (w := w1) (cs := #[.int .i64 H, .int .u64 L]) (t := 121) (g := w1.heap.size) rfl)
    have K2 := Lib.hid ((K0.out.next hb1).alloc (.cells #[.int .i64 H, .int .u64 L] 121))
    have K3 := Lib.hid ((K1.out.next hb1).alloc (.cells #[.int .i64 H, .int .u64 L] 121))
    have R1 := Lib.hid ((R0.out.next hb1).alloc (.cells #[.int .i64 H, .int .u64 L] 121))
    have B1 := Lib.hid ((B0.out.trans (hb1.mono B0.out.size)).trans ((one_alloc w1 (.cells #[.int .i64 H, .int .u64 L] 121)).mono (B0.out.trans (hb1.mono B0.out.size)).size))
    obtain ⟨n1, n2, -, -, n5⟩ := N1.out.two
    obtain ⟨p1, p2, -, -, p5⟩ := K2.out.two
    obtain ⟨q1, q2, -, -, q5⟩ := K3.out.two
    obtain ⟨r1, r2, r3, r4, r5⟩ := R1.out.two
    clear hb1
    go_wp2
    all_goals first
      | (obtain ⟨s1, s2⟩ := R1.out.read2 (.int .i64 0) (.int .u64 0); refine bodyPost_ret (v := .tuple #[.agg #[.int .i64 0, .int .u64 0], .int .i64 12]) (by simp [results, Try.results98, go_sem, s1, s2]) rfl ?_; exact F1.out rfl _ (bset2 B1.out (by omega) _ _))
      | (obtain ⟨s1, s2⟩ := R1.out.read2 (.int .i64 H) (.int .u64 L); refine bodyPost_ret (v := .tuple #[.agg #[.int .i64 H, .int .u64 L], .int .i64 0]) (by simp [results, Try.results98, go_sem, s1, s2]) rfl ?_; exact F2.out rfl _ (bset2 B1.out (by omega) _ _))
end Go.Proofs.Ytflplliiamodhaa

/- wide.Times: for every input. -/
namespace Go.Proofs.Ytflplliiamodhaa
open Go.RowKit
set_option linter.unusedVariables false

theorem wz_mul (a b U V X : Int) (ha : U = a ∨ U = a + 18446744073709551616 ∧ a < 0) (hX : X = U * V) (hb : V = b ∨ V = b + 18446744073709551616 ∧ b < 0) (d e : Int) (hd : d = if a < 0 then V else 0) (he : e = if b < 0 then U else 0) (ha2 : U = a → 0 ≤ a) (hb2 : V = b → 0 ≤ b) :
    (X - (d + e) * 18446744073709551616 - a * b) % 340282366920938463463374607431768211456 = 0 := by
  subst hX hd he
  rcases ha with rfl | ⟨rfl, ha⟩ <;> rcases hb with rfl | ⟨rfl, hb⟩
  · rw [if_neg (by have := ha2 rfl; omega), if_neg (by have := hb2 rfl; omega)]; omega
  · rw [if_neg (by have := ha2 rfl; omega), if_pos hb, Int.mul_add]; generalize U * b = z; omega
  · rw [if_pos ha, if_neg (by have := hb2 rfl; omega), Int.add_mul]; generalize a * V = z; omega
  · rw [if_pos ha, if_pos hb, Int.add_mul, Int.mul_add, Int.mul_add]; generalize a * b = z; omega
set_option maxHeartbeats 2000000 in
theorem wtimes_any (a b : Int) (w : World) (ha : InI a) (hb : InI b) : Calls Try.prog 99 #[.int .i64 a, .int .i64 b] w (Gives (wI (a * b)) w) := by
  have ha' : -9223372036854775808 ≤ a ∧ a ≤ 9223372036854775807 := ha
  have hb' : -9223372036854775808 ≤ b ∧ b ≤ 9223372036854775807 := hb
  obtain ⟨U, eU⟩ : ∃ U, IntKind.u64.wrap a = U := ⟨_, rfl⟩
  obtain ⟨V, eV⟩ : ∃ T, IntKind.u64.wrap b = T := ⟨_, rfl⟩
  have bU : 0 ≤ U ∧ U < 18446744073709551616 ∧ (U = a ∧ 0 ≤ a ∨ U = a + 18446744073709551616 ∧ a < 0) := by rw [IntKind.wrap_u64] at eU; omega
  have bV : 0 ≤ V ∧ V < 18446744073709551616 ∧ (V = b ∧ 0 ≤ b ∨ V = b + 18446744073709551616 ∧ b < 0) := by rw [IntKind.wrap_u64] at eV; omega
  obtain ⟨x, hx⟩ := Int.eq_ofNat_of_zero_le bU.1
  obtain ⟨y, hy⟩ := Int.eq_ofNat_of_zero_le bV.1
  have cm := fun w => Try.bits_Mul64 x y (by omega) (by omega) w
  rw [← hx, ← hy] at cm
  obtain ⟨X, hX⟩ : ∃ X : Nat, x * y = X := ⟨_, rfl⟩
  have hXi : (X : Int) = U * V := by rw [hx, hy, ← hX]; simp
  have hXb : X < 340282366920938463463374607431768211456 := by
    rw [← hX]
    have : x * y < 18446744073709551616 * 18446744073709551616 := Nat.mul_lt_mul_of_lt_of_lt (by omega) (by omega)
    omega
  rw [hX] at cm
  obtain ⟨P, hP⟩ : ∃ P : Int, ((X / 18446744073709551616 : Nat) : Int) = P := ⟨_, rfl⟩
  obtain ⟨L, hL⟩ : ∃ P : Int, ((X % 18446744073709551616 : Nat) : Int) = P := ⟨_, rfl⟩
  rw [hP, hL] at cm
  have bP : 0 ≤ P ∧ P < 18446744073709551616 := by omega
  have bL : 0 ≤ L ∧ L < 18446744073709551616 := by omega
  have hm := wz_mul a b U V X (by omega) hXi (by omega) _ _ rfl rfl (by omega) (by omega)
  have hPX : P * 18446744073709551616 + L = X := by omega
  have fin : ∀ w' H, H = wrap64 (P - ((if a < 0 then V else 0) + (if b < 0 then U else 0))) → Below w.heap.size w w' → Gives (wI (a * b)) w (.returned (.agg #[.int .i64 H, .int .u64 L])) w' := fun w' H hH hw => by
    generalize (if a < 0 then V else 0) + (if b < 0 then U else 0) = d at *
    generalize a * b = z at *
    exact gives_wI (by rw [hH]; unfold hiW wrap64; omega) (by unfold loW; omega) hw
  have Fin := Lib.hid fin
  have Cm := Lib.hid cm
  have e0 : ∀ (p : Int), IntKind.u64.wrap p = p % 18446744073709551616 := fun p => by rw [IntKind.wrap_u64]
  obtain ⟨W, hW⟩ : ∃ W, w.alloc (.cells #[.int .i64 0, .int .u64 0] 121) = W := ⟨_, rfl⟩
  have R0 : Hid (Kept W w.heap.size #[.int .i64 0, .int .u64 0] 121) := Lib.hid (by rw [← hW]; exact Kept.new (by simp))
  have B0 : Hid (Below w.heap.size w W) := Lib.hid (by rw [← hW]; exact one_alloc _ _)
  have E0 := Lib.hid e0
  have HW := Lib.hid hW
  clear fin cm hx hy hX hXi hXb hP hL hm hPX ha hb e0 bU bV hW
  by_cases h1 : a < 0 <;> by_cases h2 : b < 0
  · rw [if_pos h1, if_pos h2] at Fin
    have d1 : decide (a < 0) = true := decide_eq_true h1
    have d2 : decide (b < 0) = true := decide_eq_true h2
    clear h1 h2
    go_enter Try.func99, Try.ntmps99
    obtain ⟨c1, c2, c3, c4, c5⟩ := R0.out.two
    go_wp2_with fail
    try rw [HW.out]
    refine (Cm.out _).mono ?_
    rintro _ w1 ⟨rfl, hw⟩
    cases hw
    go_wp2
    obtain ⟨s1, s2⟩ := R0.out.read2 (.int .i64 (wrap64 (IntKind.u64.wrap (IntKind.u64.wrap (P - V) - U)))) (.int .u64 L)
    refine bodyPost_ret (v := .agg #[.int .i64 (wrap64 (IntKind.u64.wrap (IntKind.u64.wrap (P - V) - U))), .int .u64 L]) (by simp [results, Try.results99, go_sem, s1, s2]) rfl ?_
    exact Fin.out _ _ (by (try simp only [IntKind.wrap_u64]); unfold wrap64; omega) (bset2 B0.out (Nat.le_refl _) _ _)
  · rw [if_pos h1, if_neg h2] at Fin
    have d1 : decide (a < 0) = true := decide_eq_true h1
    have d2 : decide (b < 0) = false := decide_eq_false h2
    clear h1 h2
    go_enter Try.func99, Try.ntmps99
    obtain ⟨c1, c2, c3, c4, c5⟩ := R0.out.two
    go_wp2_with fail
    try rw [HW.out]
    refine (Cm.out _).mono ?_
    rintro _ w1 ⟨rfl, hw⟩
    cases hw
    go_wp2
    obtain ⟨s1, s2⟩ := R0.out.read2 (.int .i64 (wrap64 (IntKind.u64.wrap (P - V)))) (.int .u64 L)
    refine bodyPost_ret (v := .agg #[.int .i64 (wrap64 (IntKind.u64.wrap (P - V))), .int .u64 L]) (by simp [results, Try.results99, go_sem, s1, s2]) rfl ?_
    exact Fin.out _ _ (by (try simp only [IntKind.wrap_u64]); unfold wrap64; omega) (bset2 B0.out (Nat.le_refl _) _ _)
  · rw [if_neg h1, if_pos h2] at Fin
    have d1 : decide (a < 0) = false := decide_eq_false h1
    have d2 : decide (b < 0) = true := decide_eq_true h2
    clear h1 h2
    go_enter Try.func99, Try.ntmps99
    obtain ⟨c1, c2, c3, c4, c5⟩ := R0.out.two
    go_wp2_with fail
    try rw [HW.out]
    refine (Cm.out _).mono ?_
    rintro _ w1 ⟨rfl, hw⟩
    cases hw
    go_wp2
    obtain ⟨s1, s2⟩ := R0.out.read2 (.int .i64 (wrap64 (IntKind.u64.wrap (P - U)))) (.int .u64 L)
    refine bodyPost_ret (v := .agg #[.int .i64 (wrap64 (IntKind.u64.wrap (P - U))), .int .u64 L]) (by simp [results, Try.results99, go_sem, s1, s2]) rfl ?_
    exact Fin.out _ _ (by (try simp only [IntKind.wrap_u64]); unfold wrap64; omega) (bset2 B0.out (Nat.le_refl _) _ _)
  · rw [if_neg h1, if_neg h2] at Fin
    have d1 : decide (a < 0) = false := decide_eq_false h1
    have d2 : decide (b < 0) = false := decide_eq_false h2
    clear h1 h2
    go_enter Try.func99, Try.ntmps99
    obtain ⟨c1, c2, c3, c4, c5⟩ := R0.out.two
    go_wp2_with fail
    try rw [HW.out]
    refine (Cm.out _).mono ?_
    rintro _ w1 ⟨rfl, hw⟩
    cases hw
    go_wp2
    obtain ⟨s1, s2⟩ := R0.out.read2 (.int .i64 (wrap64 P)) (.int .u64 L)
    refine bodyPost_ret (v := .agg #[.int .i64 (wrap64 P), .int .u64 L]) (by simp [results, Try.results99, go_sem, s1, s2]) rfl ?_
    exact Fin.out _ _ (by (try simp only [IntKind.wrap_u64]); unfold wrap64; omega) (bset2 B0.out (Nat.le_refl _) _ _)
end Go.Proofs.Ytflplliiamodhaa
