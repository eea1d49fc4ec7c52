/- wide.Of, plus, minus, size, Long: for every input. -/
import Derived.Test.YtpmoidpncpfnlaaKeep
import Derived.Laws.Externs
import Derived.Shelf.Spec.BitsCarry
namespace Go.Proofs.Ytpmoidpncpfnlaa
open Go.RowKit
set_option linter.unusedVariables false

theorem run_Add64 (x y c : Int) (hx : 0 ≤ x) (hy : 0 ≤ y) (hc0 : 0 ≤ c) (hc : c ≤ 1) (w : World) :
    (callFunc 84 #[.int .u64 x, .int .u64 y, .int .u64 c]).run Try.prog w =
      .ok (.value (.tuple #[.int .u64 ((x + y + c) % 18446744073709551616), .int .u64 ((x + y + c) / 18446744073709551616)])) w := by
  rw [run_callFunc_extern Try.func84 (by kernel_rfl) (by kernel_rfl) (by kernel_rfl) (e := add64Entry) (by kernel_rfl), run_add64 x y c hx hy hc0 hc w]
  rfl
/-- the two words of a number, wrapped round -/
def hiW (z : Int) : Int := wrap64 (z / 18446744073709551616)
def loW (z : Int) : Int := z % 18446744073709551616
def wI (z : Int) : Value := .agg #[.int .i64 (hiW z), .int .u64 (loW z)]
theorem hiW_in (z : Int) : -9223372036854775808 ≤ hiW z ∧ hiW z ≤ 9223372036854775807 := by unfold hiW wrap64; omega
theorem loW_in (z : Int) : 0 ≤ loW z ∧ loW z ≤ 18446744073709551615 := by unfold loW; omega
/-- the number of two words -/
def wz (h l : Int) : Int := h * 18446744073709551616 + l
theorem wI_wz {h l : Int} (hh : -9223372036854775808 ≤ h ∧ h ≤ 9223372036854775807) (hl : 0 ≤ l ∧ l ≤ 18446744073709551615) : wI (wz h l) = .agg #[.int .i64 h, .int .u64 l] := by
  have e1 : hiW (wz h l) = h := by unfold hiW wz wrap64; omega
  have e2 : loW (wz h l) = l := by unfold loW wz; omega
  unfold wI
  rw [e1, e2]
theorem wI_eq {z h l : Int} (hh : h = hiW z) (hl : l = loW z) : Value.agg #[.int .i64 h, .int .u64 l] = wI z := by rw [hh, hl]; rfl
theorem gives_wI {z h l : Int} {w w' : World} (hh : h = hiW z) (hl : l = loW z) (hb : Below w.heap.size w w') : Gives (wI z) w (.returned (.agg #[.int .i64 h, .int .u64 l])) w' := ⟨by rw [wI_eq hh hl], hb⟩

theorem wof_any (v : Int) (w : World) (hv : InI v) : Calls Try.prog 21 #[.int .i64 v] w (Gives (wI v) w) := by
  have hv' : -9223372036854775808 ≤ v ∧ v ≤ 9223372036854775807 := hv
  have fin : ∀ w', Below w.heap.size w w' → Gives (wI v) w (.returned (.agg #[.int .i64 (v / 9223372036854775808), .int .u64 (IntKind.u64.wrap v)])) w' := fun w' hb => gives_wI (by unfold hiW wrap64; omega) (by rw [IntKind.wrap_u64]; rfl) hb
  have Fin := Lib.hid fin
  obtain ⟨W, hW⟩ : ∃ W, w.alloc (.cells #[.int .i64 0, .int .u64 0] 25) = W := ⟨_, rfl⟩
  have R0 : Hid (Kept W w.heap.size #[.int .i64 0, .int .u64 0] 25) := Lib.hid (by rw [← hW]; exact Kept.new (by simp))
  have B0 : Hid (Below w.heap.size w W) := Lib.hid (by rw [← hW]; exact one_alloc _ _)
  clear fin hv
  go_enter Try.func21, Try.ntmps21
  obtain ⟨c1, c2, c3, c4, c5⟩ := R0.out.two
  go_wp2
  all_goals
    try rw [hW]
    obtain ⟨s1, s2⟩ := R0.out.read2 (.int .i64 (v / 9223372036854775808)) (.int .u64 (IntKind.u64.wrap v))
    refine bodyPost_ret (v := .agg #[.int .i64 (v / 9223372036854775808), .int .u64 (IntKind.u64.wrap v)]) (by simp [results, Try.results21, go_sem, s1, s2]) rfl ?_
    exact Fin.out _ (bset2 B0.out (Nat.le_refl _) _ _)

set_option maxHeartbeats 1000000 in
theorem wplus_raw (h l g m : Int) (w : World) (hh : -9223372036854775808 ≤ h ∧ h ≤ 9223372036854775807) (hl : 0 ≤ l ∧ l ≤ 18446744073709551615) (hg : -9223372036854775808 ≤ g ∧ g ≤ 9223372036854775807) (hm : 0 ≤ m ∧ m ≤ 18446744073709551615) :
    Calls Try.prog 58 #[.agg #[.int .i64 h, .int .u64 l], .agg #[.int .i64 g, .int .u64 m]] w (Gives (wI (wz h l + wz g m)) w) := by
  obtain ⟨U, eU⟩ : ∃ U, IntKind.u64.wrap h = U := ⟨_, rfl⟩
  obtain ⟨T, eT⟩ : ∃ T, IntKind.u64.wrap g = T := ⟨_, rfl⟩
  have bU : 0 ≤ U ∧ U < 18446744073709551616 ∧ (U = h ∨ U = h + 18446744073709551616) := by rw [IntKind.wrap_u64] at eU; omega
  have bT : 0 ≤ T ∧ T < 18446744073709551616 ∧ (T = g ∨ T = g + 18446744073709551616) := by rw [IntKind.wrap_u64] at eT; omega
  obtain ⟨c, ec⟩ : ∃ c, (l + m) / 18446744073709551616 = c := ⟨_, rfl⟩
  obtain ⟨L, eL⟩ : ∃ c, (l + m) % 18446744073709551616 = c := ⟨_, rfl⟩
  obtain ⟨H, eH⟩ : ∃ d, (U + T + c) % 18446744073709551616 = d := ⟨_, rfl⟩
  obtain ⟨G, eG⟩ : ∃ d, (U + T + c) / 18446744073709551616 = d := ⟨_, rfl⟩
  have r1 := fun w => run_Add64 l m 0 hl.1 hm.1 (by omega) (by omega) w
  have r2 := fun w => run_Add64 U T c bU.1 bT.1 (by omega) (by omega) w
  simp only [Int.add_zero, ec, eL] at r1
  rw [eH, eG] at r2
  have fin : ∀ w', Below w.heap.size w w' → Gives (wI (wz h l + wz g m)) w (.returned (.agg #[.int .i64 (wrap64 H), .int .u64 L])) w' := fun w' hb => gives_wI (by unfold hiW wz wrap64; omega) (by unfold loW wz; omega) hb
  have Fin := Lib.hid fin
  obtain ⟨W, hW⟩ : ∃ W, ((w.alloc (.cells #[.int .i64 h, .int .u64 l] 25)).alloc (.cells #[.int .i64 g, .int .u64 m] 25)).alloc (.cells #[.int .i64 0, .int .u64 0] 25) = W := ⟨_, rfl⟩
  have K0 : Hid (Kept W w.heap.size #[.int .i64 h, .int .u64 l] 25) := Lib.hid (by rw [← hW]; exact ((Kept.new (by simp)).alloc _).alloc _)
  have K1 : Hid (Kept W (w.heap.size + 1) #[.int .i64 g, .int .u64 m] 25) := Lib.hid (by rw [← hW]; exact (Kept.new (by simp)).alloc _)
  have R0 : Hid (Kept W (w.heap.size + 2) #[.int .i64 0, .int .u64 0] 25) := Lib.hid (by rw [← hW]; exact Kept.new (by simp))
  have B0 : Hid (Below w.heap.size w W) := Lib.hid (by rw [← hW]; exact (((Below.refl _ _).alloc (Nat.le_refl _) _).alloc (by simp) _).alloc (by simp; omega) _)
  clear fin eH eG ec eL bU bT hh hl hg hm
  go_enter Try.func58, Try.ntmps58
  obtain ⟨a1, a2, -, -, a5⟩ := K0.out.two
  obtain ⟨b1, b2, -, -, b5⟩ := K1.out.two
  obtain ⟨c1, c2, c3, c4, c5⟩ := R0.out.two
  go_wp2
  all_goals
    try rw [hW]
    obtain ⟨s1, s2⟩ := R0.out.read2 (.int .i64 (wrap64 H)) (.int .u64 L)
    refine bodyPost_ret (v := .agg #[.int .i64 (wrap64 H), .int .u64 L]) (by simp [results, Try.results58, go_sem, s1, s2]) rfl ?_
    exact Fin.out _ (bset2 B0.out (by omega) _ _)
theorem wI_letters (z : Int) : ∃ h l : Int, wI z = .agg #[.int .i64 h, .int .u64 l] ∧ (-9223372036854775808 ≤ h ∧ h ≤ 9223372036854775807) ∧ (0 ≤ l ∧ l ≤ 18446744073709551615) ∧ h = hiW z ∧ l = loW z := ⟨_, _, rfl, hiW_in z, loW_in z, rfl, rfl⟩
theorem wI_congr {a b : Int} (h : (a - b) % 340282366920938463463374607431768211456 = 0) : wI a = wI b := by
  have e1 : hiW a = hiW b := by unfold hiW wrap64; omega
  have e2 : loW a = loW b := by unfold loW; omega
  unfold wI
  rw [e1, e2]
theorem wz_self (z : Int) : (wz (hiW z) (loW z) - z) % 340282366920938463463374607431768211456 = 0 := by unfold wz hiW loW wrap64; omega
theorem wplus_any (a b : Int) (w : World) : Calls Try.prog 58 #[wI a, wI b] w (Gives (wI (a + b)) w) := by
  have h := wplus_raw (hiW a) (loW a) (hiW b) (loW b) w (hiW_in a) (loW_in a) (hiW_in b) (loW_in b)
  rwa [wI_congr (b := a + b) (by have := wz_self a; have := wz_self b; omega)] at h

/-- a number that two words hold -/
def InW (z : Int) : Prop := -170141183460469231731687303715884105728 ≤ z ∧ z ≤ 170141183460469231731687303715884105727
instance (x : Int) : Decidable (InW x) := by unfold InW; exact inferInstance
theorem hiW_neg {z : Int} (h : InW z) : hiW z < 0 ↔ z < 0 := by unfold InW at h; unfold hiW wrap64; omega
theorem wz_in {z : Int} (h : InW z) : wz (hiW z) (loW z) = z := by unfold InW at h; unfold wz hiW loW wrap64; omega
theorem wz_inW {h l : Int} (hh : -9223372036854775808 ≤ h ∧ h ≤ 9223372036854775807) (hl : 0 ≤ l ∧ l ≤ 18446744073709551615) : InW (wz h l) := by unfold InW wz; omega
theorem wI_inj {a b : Int} (ha : InW a) (hb : InW b) : wI a = wI b ↔ a = b := by
  constructor
  · intro h
    injection h with h
    have h1 : hiW a = hiW b := by
      have := congrArg (fun (x : Array Value) => x[0]!) h
      simpa using this
    have h2 : loW a = loW b := by
      have := congrArg (fun (x : Array Value) => x[1]!) h
      simpa using this
    rw [← wz_in ha, ← wz_in hb, h1, h2]
  · intro h; rw [h]
end Go.Proofs.Ytpmoidpncpfnlaa
