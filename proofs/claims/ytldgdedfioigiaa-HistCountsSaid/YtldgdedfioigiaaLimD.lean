/- noonmarkref01: Of, Long: for all numbers that lie in memory. -/
import Derived.Test.YtldgdedfioigiaaLimC
namespace Go.Proofs.Ytldgdedfioigiaa
open Go.RowKit
set_option linter.unusedVariables false

theorem sg_out {n : Int} {neg : Bool} (h : 18446744073709551616 ≤ n) : ¬ InI (sg n neg) := by unfold InI sg; cases neg <;> simp <;> omega
theorem num_field1 (x y : Value) (w : World) : (Instr.field 50 (.agg #[x, y]) 1).run Try.prog w = .ok y w := by kernel_rfl
set_option maxHeartbeats 1000000 in
theorem of_any (v : Int) (w : World) (hv : InI v) :
    Calls Try.prog 21 #[.int .i64 v] w fun e w' => NumOut v w e w' := by
  have hv' : -9223372036854775808 ≤ v ∧ v ≤ 9223372036854775807 := hv
  clear hv
  by_cases h0 : 0 ≤ v
  · have Cw := Lib.hid (fun w => whole_any v w (by omega))
    go_enter Try.func21, Try.ntmps21
    go_wp2_with fail
    refine (Cw.out _).mono ?_
    rintro e w2 ⟨v', rfl, hnum, hB⟩
    have Hnum := Lib.hid hnum
    obtain ⟨neg, l, d, rfl, ⟨la, lcap, rfl, _⟩, _⟩ := hnum
    obtain ⟨b1, b2, b3, b4, b5⟩ := box2 hB
    have HU := Lib.hid (Below.unalloc hB)
    obtain ⟨r1, r2⟩ := box2_stored b1 b2 (.bool neg) (.slice la d.length lcap)
    clear hB
    go_wp2
    refine bodyPost_ret (v := .agg #[.bool neg, .slice la d.length lcap]) (by simp [results, Try.results21, go_sem, r1, r2]) rfl ?_
    exact num_stored HU.out Hnum.out b1 b2 (by simp) (by simp)
  · have Cw := Lib.hid (fun w => whole_any (-v) w (by omega))
    have e1 : IntKind.u64.wrap (-(v + 1)) = -(v + 1) := by rw [IntKind.wrap_u64]; omega
    have e2 : -(v + 1) + 1 = -v := by omega
    go_enter Try.func21, Try.ntmps21
    go_wp2_with fail
    refine (Cw.out _).mono ?_
    rintro e w2 ⟨v', rfl, hnum, hB⟩
    obtain ⟨neg, l, d, rfl, ⟨la, lcap, rfl, hrow, hl1, hl2, hl3, hdig⟩, htop, hne, hz⟩ := hnum
    have hnv : sg (nv d) true = v := by
      have := (nv_bd d hdig).1
      unfold sg at hz ⊢
      cases neg <;> simp at hz ⊢ <;> omega
    have cm := made_any true la lcap d w2 hrow hdig hl1 hl2 hl3
    rw [hnv] at cm
    have Cm := Lib.hid cm
    have HB := Lib.hid hB
    clear hB cm hrow hl3 hdig htop hne hz hnv
    have hfld := num_field1
    go_wp2_with fail
    refine Cm.out.mono ?_
    rintro e w3 ⟨v', rfl, hnum, hB3⟩
    have hB := HB.out.trans (hB3.mono HB.out.size)
    have Hnum := Lib.hid hnum
    obtain ⟨neg, l, d, rfl, ⟨la, lcap, rfl, _⟩, _⟩ := hnum
    obtain ⟨b1, b2, b3, b4, b5⟩ := box2 hB
    have HU := Lib.hid (Below.unalloc hB)
    obtain ⟨r1, r2⟩ := box2_stored b1 b2 (.bool neg) (.slice la d.length lcap)
    clear hB hB3
    go_wp2
    refine bodyPost_ret (v := .agg #[.bool neg, .slice la d.length lcap]) (by simp [results, Try.results21, go_sem, r1, r2]) rfl ?_
    exact num_stored HU.out Hnum.out b1 b2 (by simp) (by simp)
def LongRel (d : List Int) (v i : Value) : Prop := ∃ (k : Nat) (x : Int), k ≤ d.length ∧ i = .int .i64 ((k : Int) - 1) ∧ v = .int .u64 x ∧ 0 ≤ x ∧ x * pw k + pv d k = nv d
def LongPost (z : Int) (w : World) (e : Ending) (w' : World) : Prop := (∃ u, e = .returned (.tuple #[.int .i64 u, .bool (decide (InI z))]) ∧ (InI z → u = z)) ∧ Below w.heap.size w w'
set_option maxHeartbeats 1000000 in
theorem long_any (v : Value) (z : Int) (w : World) (hn : NumAt w v z) :
    Calls Try.prog 37 #[v] w fun e w' => LongPost z w e w' := by
  obtain ⟨neg, l, d, rfl, ⟨la, lcap, rfl, hrow, hl1, hl2, hl3, hdig⟩, htop, hne, hz⟩ := hn
  have e4 : pw 4 = 18446744073709551616 := by decide
  have h4 := nv_len d hdig htop 4
  rw [e4] at h4
  have hb := nv_bd d hdig
  have HROW := Lib.hid (hrow.alloc (Obj.cells #[.bool neg, .slice la d.length lcap] 50))
  have HDIG := Lib.hid hdig
  by_cases hlen : 4 < d.length
  · have fin : ∀ w', Below w.heap.size w w' → LongPost z w (.returned (.tuple #[.int .i64 0, .bool false])) w' := fun w' hw => by
      have ho : ¬ InI z := by
        have : 18446744073709551616 ≤ nv d := by
          refine Int.le_of_not_gt fun hc => ?_
          have := h4.1 hc
          omega
        rw [hz]
        exact sg_out this
      exact ⟨⟨0, by rw [decide_eq_false ho], fun h => absurd h ho⟩, hw⟩
    have Fin := Lib.hid fin
    clear fin hrow hdig htop hne hz hl3 h4
    go_enter Try.func37, Try.ntmps37
    go_wp2
    go_ret2
    exact Fin.out _ ((Below.refl _ _).alloc (Nat.le_refl _) _)
  · have hnv : nv d < 18446744073709551616 := h4.2 (by omega)
    have hpast : pv d d.length = nv d := rfl
    have fin0 : neg = true → 9223372036854775808 < nv d → ∀ w', Below w.heap.size w w' → LongPost z w (.returned (.tuple #[.int .i64 0, .bool false])) w' := fun h1 h2 w' hw => by
      have ho : ¬ InI z := by rw [hz, h1]; unfold InI sg; simp; omega
      exact ⟨⟨0, by rw [decide_eq_false ho], fun h => absurd h ho⟩, hw⟩
    have fin1 : neg = true → ¬ 9223372036854775808 < nv d → ∀ u, u = -(nv d) → ∀ w', Below w.heap.size w w' → LongPost z w (.returned (.tuple #[.int .i64 u, .bool true])) w' := fun h1 h2 u hu w' hw => by
      have ho : InI z := by rw [hz, h1]; unfold InI sg; simp; omega
      exact ⟨⟨u, by rw [decide_eq_true ho], fun h => by rw [hu, hz, h1]; rfl⟩, hw⟩
    have fin2 : neg = false → ∀ w', Below w.heap.size w w' → LongPost z w (.returned (.tuple #[.int .i64 (wrap64 (nv d)), .bool (decide (nv d < 9223372036854775808))])) w' := fun h1 w' hw => by
      have ho : InI z ↔ nv d < 9223372036854775808 := by rw [hz, h1]; unfold InI sg; simp; omega
      exact ⟨⟨_, by rw [show decide (nv d < 9223372036854775808) = decide (InI z) from decide_eq_decide.2 ho.symm], fun h => by rw [IntWalk.wrap64_in _ (by have := ho.1 h; omega), hz, h1]; rfl⟩, hw⟩
    have hnz : neg = true → 1 ≤ nv d := fun h => by
      have := nv_zero d hdig htop
      have := hne h
      omega
    have F0 := Lib.hid fin0
    have F1 := Lib.hid fin1
    have F2 := Lib.hid fin2
    have FZ := Lib.hid hnz
    have HT := Lib.hid (horner_le d hdig)
    clear fin0 fin1 fin2 hnz htop hl3 h4 hz hne
    go_enter Try.func37, Try.ntmps37
    go_wp2
    go_loop [4, 5] (fun v i => LongRel d v i) (fun _ i => (intOf i + 1).toNat)
    case atStart => exact ⟨d.length, 0, Nat.le_refl _, rfl, rfl, by omega, by rw [hpast]; omega⟩
    case round =>
      obtain ⟨k, x, hk, rfl, rfl, hx0, hx⟩ := hrel
      have hxn := HT.out k x _ hx0 hx
      by_cases h0 : 0 < k
      · obtain ⟨m, rfl⟩ : ∃ m, k = m + 1 := ⟨k - 1, by omega⟩
        have hst := horner d m x _ hx
        obtain ⟨b, off, rfl, hcell⟩ := HROW.out m (by omega)
        have hu := HDIG.out m
        generalize d.getD m 0 = u at *
        have hx2 := HT.out m (x * 65536 + u) _ (by omega) hst
        have fin : LongRel d (.int .u64 (x * 65536 + u)) (.int .i64 ((m : Int) - 1)) := ⟨m, _, by omega, rfl, rfl, by omega, hst⟩
        have Fin := Lib.hid fin
        have e1 : ((m + 1 : Nat) : Int) - 1 = m := by omega
        rw [e1]
        have hsz : d.length ≤ 4 := by omega
        generalize nv d = N at *
        clear fin e1 hx hst hrow hdig hpast
        go_wp2
        go_round
        case rel => exact Fin.out
        case measure => simp [intOf]
      · obtain rfl : k = 0 := by omega
        have e : x = nv d := by unfold pw pv at hx; omega
        subst e
        have FZ' := FZ.out
        cases neg
        · have F2' := F2.out rfl
          have G2 := Lib.hid F2'
          clear F2' FZ' hx hrow hdig hpast
          go_wp2
          go_ret2
          exact G2.out _ ((Below.refl _ _).alloc (Nat.le_refl _) _)
        · have hz1 := FZ' rfl
          have G0 := Lib.hid (F0.out rfl)
          have G1 := Lib.hid (F1.out rfl)
          clear FZ' hx hrow hdig hpast
          by_cases hbig : 9223372036854775808 < nv d
          · go_wp2
            go_ret2
            exact G0.out hbig _ ((Below.refl _ _).alloc (Nat.le_refl _) _)
          · go_wp2
            go_ret2
            exact G1.out hbig _ (by omega) _ ((Below.refl _ _).alloc (Nat.le_refl _) _)
end Go.Proofs.Ytldgdedfioigiaa
