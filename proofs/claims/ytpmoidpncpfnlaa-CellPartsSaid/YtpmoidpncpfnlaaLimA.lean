/- noonmarkref01: limb, trim: for all limbs that lie in memory. -/
import Derived.Test.YtpmoidpncpfnlaaLimM
namespace Go.Proofs.Ytpmoidpncpfnlaa
open Go.RowKit
set_option linter.unusedVariables false

set_option maxHeartbeats 400000 in
theorem limb_any (a : Option Addr) (cap : Nat) (d : List Int) (i : Int) (w : World) (hr : IntRow w a .i64 d) (hi : 0 ≤ i) (hl : d.length ≤ 9223372036854775807) :
    Calls Try.prog 85 #[.slice a d.length cap, .int .i64 i] w fun e w' => e = .returned (.int .i64 (d.getD i.toNat 0)) ∧ w = w' := by
  obtain ⟨n, rfl⟩ := Int.eq_ofNat_of_zero_le hi
  rw [Int.toNat_natCast]
  by_cases h : n < d.length
  · obtain ⟨b, off, rfl, hc⟩ := hr n h
    have HR := Lib.hid hr
    clear hr
    generalize d.getD n 0 = x at *
    go_enter Try.func85, Try.ntmps85
    go_wp2
    go_ret
    exact ⟨rfl, rfl⟩
  · have e := getD_past d n (by omega)
    have E := Lib.hid e
    have HR := Lib.hid hr
    clear e hr
    go_enter Try.func85, Try.ntmps85
    go_wp2
    go_ret
    exact ⟨ret_int E.out.symm, rfl⟩
def TrimRel (d : List Int) (u : Value) : Prop := ∃ n : Nat, n ≤ d.length ∧ u = .int .i64 n ∧ (∀ j, n ≤ j → d.getD j 0 = 0)
def TrimPost (a : Option Addr) (cap : Nat) (d : List Int) (w : World) (e : Ending) (w' : World) : Prop :=
  ∃ n : Nat, n ≤ d.length ∧ e = .returned (.slice a n cap) ∧ (∀ j, n ≤ j → d.getD j 0 = 0) ∧ (n = 0 ∨ d.getD (n - 1) 0 ≠ 0) ∧ w = w'
set_option maxHeartbeats 400000 in
theorem trim_any (a : Option Addr) (cap : Nat) (d : List Int) (w : World) (hr : IntRow w a .i64 d) (hl : d.length ≤ cap) (hc : cap ≤ 9223372036854775807) (hn : a = none → cap = 0) :
    Calls Try.prog 86 #[.slice a d.length cap] w fun e w' => TrimPost a cap d w e w' := by
  have HR := Lib.hid hr
  have HN := Lib.hid hn
  clear hr hn
  go_enter Try.func86, Try.ntmps86
  go_wp2
  go_loop [3] (fun u => TrimRel d u) (fun u => (intOf u).toNat)
  case atStart => exact ⟨d.length, Nat.le_refl _, rfl, fun j hj => getD_past d j hj⟩
  case round =>
    obtain ⟨n, hn, rfl, hz⟩ := hrel
    have HZ := Lib.hid hz
    clear hz
    by_cases h0 : 0 < n
    · obtain ⟨b, off, rfl, hcell⟩ := HR.out (n - 1) (by omega)
      obtain ⟨x, hx⟩ : ∃ x, d.getD (n - 1) 0 = x := ⟨_, rfl⟩
      rw [hx] at hcell
      have fin1 : (x == 0) = true → TrimRel d (.int .i64 ((n : Int) - 1)) := fun h => by
        refine ⟨n - 1, by omega, by congr 1; omega, fun j hj => ?_⟩
        by_cases e : j = n - 1
        · rw [e, hx]; exact WalkArith.int_eq h
        · exact HZ.out j (by omega)
      have fin2 : (x == 0) = false → TrimPost (some ⟨b, off, none⟩) cap d w (.returned (.slice (some ⟨b, off, none⟩) n cap)) w := fun h =>
        ⟨n, hn, rfl, HZ.out, .inr (by rw [hx]; exact WalkArith.int_ne h), rfl⟩
      have F1 := Lib.hid fin1
      have F2 := Lib.hid fin2
      have HX := Lib.hid hx
      obtain ⟨m, rfl⟩ : ∃ m, n = m + 1 := ⟨n - 1, by omega⟩
      simp only [Nat.add_sub_cancel] at hcell
      clear fin1 fin2 hx
      go_wp2
      · have hx : (x == 0) = true := by assumption
        go_round
        case rel => exact (by have h := F1.out hx; rwa [show (((m + 1 : Nat) : Int) - 1) = m from by omega] at h)
        case measure => simp [intOf]
      · have hx : (x == 0) = false := by assumption
        go_ret
        exact F2.out hx
    · obtain rfl : n = 0 := by omega
      go_wp2
      rcases Classical.em (a = none) with h | h
      · obtain rfl := h
        obtain rfl : cap = 0 := HN.out rfl
        go_ret
        exact ⟨0, hn, rfl, HZ.out, .inl rfl, rfl⟩
      · go_ret
        exact ⟨0, hn, rfl, HZ.out, .inl rfl, rfl⟩
end Go.Proofs.Ytpmoidpncpfnlaa
