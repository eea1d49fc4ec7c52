import Derived.Test.YtflplliiamodhaaZWideE
/- wide.Sub: for every input. -/
namespace Go.Proofs.Ytflplliiamodhaa
open Go.RowKit
set_option linter.unusedVariables false

set_option maxHeartbeats 4000000 in
theorem wsub_any (a b : Int) (w : World) (ha : InW a) (hb : InW b) : Calls Try.prog 101 #[wI a, wI b] w (Gives (.tuple #[wI (vW (a - b)), .int .i64 (eW (a - b))]) w) := by
  have ho := over_sub ha hb
  obtain ⟨h, l, e1, hh, hl, eh, el⟩ := wI_letters a
  obtain ⟨g, m, e2, hg, hm, eg, em⟩ := wI_letters b
  obtain ⟨H, L, e3, hH, hL, eH, eL⟩ := wI_letters (a - b)
  rw [← eh, ← eg, ← eH] at ho
  have vL : (l - m) % 18446744073709551616 = L := by rw [el, em, eL]; unfold loW; omega
  obtain ⟨U, eU⟩ : ∃ U, IntKind.u64.wrap h = U := ⟨_, rfl⟩
  obtain ⟨T, eT⟩ : ∃ T, IntKind.u64.wrap g = T := ⟨_, rfl⟩
  have bU : 0 ≤ U ∧ U ≤ 18446744073709551615 ∧ (U = h ∨ U = h + 18446744073709551616) := by rw [IntKind.wrap_u64] at eU; omega
  have bT : 0 ≤ T ∧ T ≤ 18446744073709551615 ∧ (T = g ∨ T = g + 18446744073709551616) := by rw [IntKind.wrap_u64] at eT; omega
  obtain ⟨c, ec⟩ : ∃ c, -((l - m) / 18446744073709551616) = c := ⟨_, rfl⟩
  obtain ⟨D, eD⟩ : ∃ d, (U - T - c) % 18446744073709551616 = d := ⟨_, rfl⟩
  obtain ⟨G, eG⟩ : ∃ d, -((U - T - c) / 18446744073709551616) = d := ⟨_, rfl⟩
  have vH : wrap64 D = H := by
    have h1 : wz h l = a := by rw [eh, el]; exact wz_in ha
    have h2 : wz g m = b := by rw [eg, em]; exact wz_in hb
    rw [eH, ← h1, ← h2]
    unfold wz hiW wrap64
    omega
  have r1 := fun w => run_Sub64 l m 0 hl hm (by omega) w
  have r2 := fun w => run_Sub64 U T c ⟨bU.1, bU.2.1⟩ ⟨bT.1, bT.2.1⟩ (by omega) w
  simp only [Int.sub_zero, ec, vL] at r1
  rw [eD, eG] at r2
  have f1 : decide (¬ InW (a - b)) = true → ∀ w', Below w.heap.size w w' → Gives (.tuple #[wI (vW (a - b)), .int .i64 (eW (a - b))]) w (.returned (.tuple #[.agg #[.int .i64 0, .int .u64 0], .int .i64 12])) w' := fun hd w' hw => by
    have hd := of_decide_eq_true hd
    rw [vW_out hd, eW_out hd, wI_zero]
    exact ⟨rfl, hw⟩
  have f2 : decide (¬ InW (a - b)) = false → ∀ w', Below w.heap.size w w' → Gives (.tuple #[wI (vW (a - b)), .int .i64 (eW (a - b))]) w (.returned (.tuple #[.agg #[.int .i64 H, .int .u64 L], .int .i64 0])) w' := fun hd w' hw => by
    have hd := of_decide_eq_false hd
    rw [vW_in (by simpa using hd), eW_in (by simpa using hd), e3]
    exact ⟨rfl, hw⟩
  rw [← ho] at f1 f2
  rw [e1, e2]
  have F1 := Lib.hid f1
  have F2 := Lib.hid f2
  obtain ⟨W, hW⟩ : ∃ W, ((w.alloc (.cells #[.int .i64 h, .int .u64 l] 121)).alloc (.cells #[.int .i64 g, .int .u64 m] 121)).alloc (.cells #[.int .i64 0, .int .u64 0] 121) = W := ⟨_, rfl⟩
  have K0 : Hid (Kept W w.heap.size #[.int .i64 h, .int .u64 l] 121) := Lib.hid (by rw [← hW]; exact ((Kept.new (by simp)).alloc _).alloc _)
  have K1 : Hid (Kept W (w.heap.size + 1) #[.int .i64 g, .int .u64 m] 121) := Lib.hid (by rw [← hW]; exact (Kept.new (by simp)).alloc _)
  have R0 : Hid (Kept W (w.heap.size + 2) #[.int .i64 0, .int .u64 0] 121) := Lib.hid (by rw [← hW]; exact Kept.new (by simp))
  have B0 : Hid (Below w.heap.size w W) := Lib.hid (by rw [← hW]; exact (((Below.refl _ _).alloc (Nat.le_refl _) _).alloc (by simp) _).alloc (by simp; omega) _)
  have HW := Lib.hid hW
  clear f1 f2 ho eh el eg em eH eL e1 e2 e3 ec eD eG vL bU bT hh hl hg hm hH hL hW ha hb
  rcases hd1 : decide (h < 0) with _ | _ <;> rcases hd2 : decide (g < 0) with _ | _ <;> rcases hd3 : decide (H < 0) with _ | _
  all_goals
    rw [hd1, hd2, hd3] at F1 F2
    go_enter Try.func101, Try.ntmps101
    obtain ⟨a1, a2, -, -, a5⟩ := K0.out.two
    obtain ⟨b1, b2, -, -, b5⟩ := K1.out.two
    obtain ⟨c1, c2, c3, c4, c5⟩ := R0.out.two
    go_wp2
    all_goals first
      | (refine bodyPost_ret (v := .tuple #[.agg #[.int .i64 0, .int .u64 0], .int .i64 12]) (by simp [results, Try.results101, go_sem]) rfl ?_; exact F1.out rfl _ ((((((Below.refl _ _).alloc (Nat.le_refl _) _).alloc (by simp) _).alloc (by simp; omega) _).alloc (by simp; omega) _)))
      | (refine bodyPost_ret (v := .tuple #[.agg #[.int .i64 H, .int .u64 L], .int .i64 0]) (by simp [results, Try.results101, go_sem]) rfl ?_; exact F2.out rfl _ ((((((Below.refl _ _).alloc (Nat.le_refl _) _).alloc (by simp) _).alloc (by simp; omega) _).alloc (by simp; omega) _)))
end Go.Proofs.Ytflplliiamodhaa

/- cmp.Compare, cmp.Or, wide.Cmp: for every input. -/
namespace Go.Proofs.Ytflplliiamodhaa
open Go.RowKit
set_option linter.unusedVariables false

def ordI (x y : Int) : Int := if x < y then -1 else if y < x then 1 else 0

theorem cmpI_any (x y : Int) (w : World) : Calls Try.prog 87 #[.int .i64 x, .int .i64 y] w fun e w' => e = .returned (.int .i64 (ordI x y)) ∧ w = w' := by
  have h : (decide (x < y) = true ∧ ordI x y = -1) ∨ (decide (x < y) = false ∧ decide (y < x) = true ∧ ordI x y = 1) ∨ (decide (x < y) = false ∧ decide (y < x) = false ∧ ordI x y = 0) := by
    unfold ordI
    by_cases h1 : x < y <;> by_cases h2 : y < x <;> simp [h1, h2]
  rcases h with ⟨d1, e⟩ | ⟨d1, d2, e⟩ | ⟨d1, d2, e⟩
  all_goals
    rw [e]
    clear e
    go_enter Try.func87, Try.ntmps87
    go_wp2
    go_ret
    exact ⟨rfl, rfl⟩
theorem cmpU_any (x y : Int) (w : World) : Calls Try.prog 110 #[.int .u64 x, .int .u64 y] w fun e w' => e = .returned (.int .i64 (ordI x y)) ∧ w = w' := by
  have h : (decide (x < y) = true ∧ ordI x y = -1) ∨ (decide (x < y) = false ∧ decide (y < x) = true ∧ ordI x y = 1) ∨ (decide (x < y) = false ∧ decide (y < x) = false ∧ ordI x y = 0) := by
    unfold ordI
    by_cases h1 : x < y <;> by_cases h2 : y < x <;> simp [h1, h2]
  rcases h with ⟨d1, e⟩ | ⟨d1, d2, e⟩ | ⟨d1, d2, e⟩
  all_goals
    rw [e]
    clear e
    go_enter Try.func110, Try.ntmps110
    go_wp2
    go_ret
    exact ⟨rfl, rfl⟩
def OrRel (x y : Int) (i : Value) : Prop := i = .int .i64 0 ∨ (i = .int .i64 1 ∧ x = 0) ∨ (i = .int .i64 2 ∧ x = 0 ∧ y = 0)
set_option maxHeartbeats 1000000 in
theorem cmpOr_any (x y : Int) (b : Nat) (w : World) (h1 : w.cell? ⟨b, 0, none⟩ = some (.int .i64 x)) (h2 : w.cell? ⟨b, 1, none⟩ = some (.int .i64 y)) :
    Calls Try.prog 86 #[.slice (some ⟨b, 0, none⟩) 2 2] w fun e w' => e = .returned (.int .i64 (if x = 0 then y else x)) ∧ w = w' := by
  have f0 : x = 0 → (if x = 0 then y else x) = y := fun h => if_pos h
  have f1 : x ≠ 0 → (if x = 0 then y else x) = x := fun h => if_neg h
  generalize (if x = 0 then y else x) = r at *
  have F0 := Lib.hid f0
  have F1 := Lib.hid f1
  clear f0 f1
  go_enter Try.func86, Try.ntmps86
  go_wp2
  go_loop [8] (fun i => OrRel x y i) (fun i => 2 - (intOf i).toNat)
  case atStart => exact .inl rfl
  case round =>
    rcases hrel with rfl | ⟨rfl, hx⟩ | ⟨rfl, hx, hy⟩
    · by_cases hx : x = 0
      · have hd : (x != 0) = false := by simp [hx]
        have HX := Lib.hid hx
        clear hx
        go_wp2
        go_round
        case rel => exact .inr (.inl ⟨rfl, HX.out⟩)
        case measure => simp [intOf]
      · have hd : (x != 0) = true := by simp [hx]
        have E := Lib.hid (F1.out hx)
        clear hx
        go_wp2
        go_ret
        exact ⟨ret_int E.out.symm, rfl⟩
    · subst hx
      have E := Lib.hid (F0.out rfl)
      by_cases hy : y = 0
      · have hd : (y != 0) = false := by simp [hy]
        have HY := Lib.hid hy
        clear hy
        go_wp2
        go_round
        case rel => exact .inr (.inr ⟨rfl, rfl, HY.out⟩)
        case measure => simp [intOf]
      · have hd : (y != 0) = true := by simp [hy]
        clear hy
        go_wp2
        go_ret
        exact ⟨ret_int E.out.symm, rfl⟩
    · subst hx hy
      have E := Lib.hid (F0.out rfl)
      go_wp2
      go_ret
      exact ⟨ret_int E.out.symm, rfl⟩
theorem ord_words (h l g m : Int) (hl : 0 ≤ l ∧ l ≤ 18446744073709551615) (hm : 0 ≤ m ∧ m ≤ 18446744073709551615) : (if ordI h g = 0 then ordI l m else ordI h g) = ordI (wz h l) (wz g m) := by
  unfold ordI wz
  (repeat' split) <;> omega
set_option maxHeartbeats 2000000 in
theorem wcmp_any (a b : Int) (w : World) (ha : InW a) (hb : InW b) : Calls Try.prog 100 #[wI a, wI b] w (Gives (.int .i64 (ordI a b)) w) := by
  obtain ⟨h, l, e1, hh, hl, eh, el⟩ := wI_letters a
  obtain ⟨g, m, e2, hg, hm, eg, em⟩ := wI_letters b
  have ho := ord_words h l g m hl hm
  rw [show wz h l = a by rw [eh, el]; exact wz_in ha, show wz g m = b by rw [eg, em]; exact wz_in hb] at ho
  rw [e1, e2, ← ho]
  clear ho eh el eg em e1 e2 ha hb hh hl hg hm
  have C1 := Lib.hid (fun w => cmpI_any h g w)
  have C2 := Lib.hid (fun w => cmpU_any l m w)
  generalize ordI h g = x at *
  generalize ordI l m = y at *
  have C3 := Lib.hid (fun b w h1 h2 => cmpOr_any x y b w h1 h2)
  generalize (if x = 0 then y else x) = r at *
  obtain ⟨W, hW⟩ : ∃ W, (w.alloc (.cells #[.int .i64 h, .int .u64 l] 121)).alloc (.cells #[.int .i64 g, .int .u64 m] 121) = W := ⟨_, rfl⟩
  have K0 : Hid (Kept W w.heap.size #[.int .i64 h, .int .u64 l] 121) := Lib.hid (by rw [← hW]; exact (Kept.new (by simp)).alloc _)
  have K1 : Hid (Kept W (w.heap.size + 1) #[.int .i64 g, .int .u64 m] 121) := Lib.hid (by rw [← hW]; exact Kept.new (by simp))
  have B0 : Hid (Below w.heap.size w W) := Lib.hid (by rw [← hW]; exact ((Below.refl _ _).alloc (Nat.le_refl _) _).alloc (by simp) _)
  have HW := Lib.hid hW
  have D0 : Hid (Hid (Below w.heap.size w (W.alloc (.cells #[.int .i64 x, .int .i64 y] 3)).drew) ∧ (W.alloc (.cells #[.int .i64 x, .int .i64 y] 3)).drew.cell? ⟨w.heap.size, 0, none⟩ = some (.int .i64 h) ∧ (W.alloc (.cells #[.int .i64 x, .int .i64 y] 3)).drew.cell? ⟨w.heap.size, 1, none⟩ = some (.int .u64 l) ∧ (W.alloc (.cells #[.int .i64 x, .int .i64 y] 3)).drew.cell? ⟨w.heap.size + 1, 0, none⟩ = some (.int .i64 g) ∧ (W.alloc (.cells #[.int .i64 x, .int .i64 y] 3)).drew.cell? ⟨w.heap.size + 1, 1, none⟩ = some (.int .u64 m)) := by
    have k0 := (K0.out.alloc (.cells #[.int .i64 x, .int .i64 y] 3)).drewN 1
    have k1 := (K1.out.alloc (.cells #[.int .i64 x, .int .i64 y] 3)).drewN 1
    exact Lib.hid ⟨Lib.hid (below_drewN (B0.out.alloc B0.out.size _) 1), k0.two.1, k0.two.2.1, k1.two.1, k1.two.2.1⟩
  clear hW
  go_enter Try.func100, Try.ntmps100
  obtain ⟨a1, a2, -, -, a5⟩ := K0.out.two
  obtain ⟨b1, b2, -, -, b5⟩ := K1.out.two
  go_wp2
  rw [HW.out]
  go_region_held3 (fun w' => Hid (Below w.heap.size w w') ∧ w'.cell? ⟨w.heap.size, 0, none⟩ = some (.int .i64 h) ∧ w'.cell? ⟨w.heap.size, 1, none⟩ = some (.int .u64 l) ∧ w'.cell? ⟨w.heap.size + 1, 0, none⟩ = some (.int .i64 g) ∧ w'.cell? ⟨w.heap.size + 1, 1, none⟩ = some (.int .u64 m))
    (first | exact ⟨Lib.hid ⟨B0.out.os, B0.out.tape, B0.out.output, B0.out.size, B0.out.block⟩, a1, a2, b1, b2⟩ | exact D0.out | go_keep)
    (first | (go_at_call 87; refine (C1.out _).mono ?_; rintro _ _ ⟨rfl, rfl⟩) | (go_at_call 110; refine (C2.out _).mono ?_; rintro _ _ ⟨rfl, rfl⟩) | (go_at_call 86; refine (C3.out _ _ (by simp) (by simp)).mono ?_; rintro _ _ ⟨rfl, rfl⟩))
  all_goals
    go_wp2
    go_ret
    exact ⟨rfl, D0.out.1.out⟩
end Go.Proofs.Ytflplliiamodhaa
