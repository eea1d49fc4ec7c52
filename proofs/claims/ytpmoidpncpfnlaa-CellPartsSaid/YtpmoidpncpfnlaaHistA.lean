/- hist.Bucket, Bounds; noonmarkref05.Bucket: for every input. -/
import Derived.Test.YtpmoidpncpfnlaaHistM
import Derived.Test.YtpmoidpncpfnlaaGapA
namespace Go.Proofs.Ytpmoidpncpfnlaa
open Go.RowKit
set_option linter.unusedVariables false

theorem bucket_pos (v L : Int) (w : World) (d1 : decide (v < 0) = false) (d2 : (v == 0) = false) (e1 : IntKind.u64.wrap v = v) (hL : 0 ≤ L ∧ L ≤ 64)
    (C : Hid (∀ W, Calls Try.prog 63 #[.int .u64 v] W fun e w' => e = .returned (.int .i64 L) ∧ w' = W)) :
    Calls Try.prog 30 #[.int .i64 v] w fun e w' => e = .returned (.int .i64 (L + 1)) ∧ w' = w := by
  obtain ⟨l1, l2⟩ := hL
  go_enter Try.func30, Try.ntmps30
  go_wp2_with fail
  (try rw [e1])
  refine (C.out _).mono ?_
  rintro _ _ ⟨rfl, rfl⟩
  go_wp2
  go_ret
  exact ⟨ret_int (by omega), rfl⟩
theorem bucket_neg (v : Int) (w : World) (d1 : decide (v < 0) = true) :
    Calls Try.prog 30 #[.int .i64 v] w fun e w' => e = .returned (.int .i64 0) ∧ w' = w := by
  go_enter Try.func30, Try.ntmps30
  go_wp2
  go_ret
  exact ⟨rfl, rfl⟩
theorem bucket_zero (w : World) :
    Calls Try.prog 30 #[.int .i64 0] w fun e w' => e = .returned (.int .i64 1) ∧ w' = w := by
  go_enter Try.func30, Try.ntmps30
  go_wp2
  go_ret
  exact ⟨rfl, rfl⟩
theorem bucket_any (v : Int) (w : World) (hv : InI v) :
    Calls Try.prog 30 #[.int .i64 v] w fun e w' => e = .returned (.int .i64 (bkt v : Int)) ∧ w' = w := by
  by_cases h : v < 0
  · rw [show bkt v = 0 from if_pos h]
    exact bucket_neg v w (decide_eq_true h)
  · by_cases h0 : v = 0
    · subst h0
      exact bucket_zero w
    · have hb := bitLen_lt v.toNat (by unfold InI at hv; omega)
      rw [show ((bkt v : Nat) : Int) = ((Lib.bitLen v.toNat : Nat) : Int) + 1 by unfold bkt; rw [if_neg h]; omega]
      refine bucket_pos v _ w (decide_eq_false h) (beq_eq_false_iff_ne.mpr h0) (by unfold InI at hv; rw [IntKind.wrap_u64]; omega) (by omega) (Lib.hid fun W => ?_)
      exact Try.bits_Len64 v W (by omega) (by unfold InI at hv; omega)
def RbRel (R : Nat) (s0 s3 : Value) : Prop := ∃ x k : Nat, s0 = .int .i64 x ∧ s3 = .int .i64 k ∧ x < 9223372036854775808 ∧ k + Lib.bitLen x = R
set_option maxHeartbeats 1000000 in
theorem rbucket_any (v : Int) (w : World) (hv : InI v) :
    Calls Try.prog 32 #[.int .i64 v] w fun e w' => e = .returned (.int .i64 (bkt v : Int)) ∧ w' = w := by
  by_cases h : v < 0
  · rw [show bkt v = 0 from if_pos h]
    have d1 := decide_eq_true h
    clear h hv
    go_enter Try.func32, Try.ntmps32
    go_wp2
    go_ret
    exact ⟨rfl, rfl⟩
  · have d1 := decide_eq_false h
    have hlt := bkt_lt hv
    have HS : Hid (RbRel (bkt v) (.int .i64 v) (.int .i64 1)) := Lib.hid ⟨v.toNat, 1, by congr 1; omega, rfl, by unfold InI at hv; omega, by unfold bkt; rw [if_neg h]⟩
    generalize bkt v = R at *
    have HLT := Lib.hid hlt
    clear h hv hlt
    go_enter Try.func32, Try.ntmps32
    go_wp2
    go_loop [0, 3] (fun s0 s3 => RbRel R s0 s3) (fun s0 _ => (intOf s0).toNat)
    case atStart => exact HS.out
    case round =>
      obtain ⟨x, k, rfl, rfl, hx, hk⟩ := hrel
      by_cases h0 : x = 0
      · subst h0
        have F : Hid (k = R) := Lib.hid (by rw [bitLen_zero] at hk; omega)
        clear hk hx HS
        go_wp2
        go_ret
        exact ⟨ret_int (by rw [F.out]), rfl⟩
      · have hh := bitLen_half x h0 (by omega)
        have hp : (0 : Int) < (x : Int) := by omega
        have hkb : k < 65 := by have := HLT.out; omega
        have F : Hid (RbRel R (.int .i64 ((x / 2 : Nat) : Int)) (.int .i64 ((k + 1 : Nat) : Int))) := Lib.hid ⟨x / 2, k + 1, rfl, rfl, by omega, by omega⟩
        have e1 : (x : Int).tdiv 2 = ((x / 2 : Nat) : Int) := by rw [Int.tdiv_eq_ediv_of_nonneg (by omega)]; omega
        have HX0 := Lib.hid h0
        have dp := decide_eq_true hp
        clear hh hk HS h0
        go_wp2
        go_round
        case rel =>
          have h := F.out
          first
            | exact h
            | (rw [show ((k + 1 : Nat) : Int) = (k : Int) + 1 by omega] at h; first | exact h | (rw [e1]; exact h) | (rw [← e1] at h; exact h) | (simpa using h))
        case measure => have := HX0.out; simp [intOf]; omega
end Go.Proofs.Ytpmoidpncpfnlaa
