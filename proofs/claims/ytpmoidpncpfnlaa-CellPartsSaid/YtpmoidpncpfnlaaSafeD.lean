/- safe.Sum over a list that lies in memory, for every list. -/
import Derived.Test.YtpmoidpncpfnlaaWideA
import Derived.Deep.QuietTactic
import Derived.BigQuiet
import Derived.Deep.RegionWith
namespace Go.Proofs.Ytpmoidpncpfnlaa
open Go.RowKit
set_option linter.unusedVariables false

def SSumRel (l : List Int) (hi lo i : Value) : Prop := ∃ k : Nat, k ≤ l.length ∧ i = .int .i64 k ∧ lo = .int .u64 (isum (l.take k) % 18446744073709551616) ∧ hi = .int .u64 (isum (l.take k) / 18446744073709551616 % 18446744073709551616)
def SSumPost (l : List Int) (w : World) (e : Ending) (w' : World) : Prop := e = .returned (.tuple #[.int .i64 (vI (isum l)), .int .i64 (eI (isum l))]) ∧ w = w'
set_option maxHeartbeats 1000000 in
theorem ssum_any (a : Option Addr) (cap : Nat) (l : List Int) (w : World) (hr : IntRow w a .i64 l) (hb : ∀ x ∈ l, InI x) (hl : l.length ≤ 9223372036854775807) :
    Calls Try.prog 73 #[.slice a l.length cap] w fun e w' => SSumPost l w e w' := by
  have HB := Lib.hid hb
  have HR := Lib.hid hr
  clear hb hr
  go_enter Try.func73, Try.ntmps73
  go_wp2
  go_loop [4, 5, 11] (fun hi lo i => SSumRel l hi lo i) (fun _ _ i => l.length - (intOf i).toNat)
  case atStart => exact ⟨0, Nat.zero_le _, rfl, rfl, rfl⟩
  case round =>
    obtain ⟨k, hk, rfl, rfl, rfl⟩ := hrel
    obtain ⟨X, HX⟩ : ∃ X, X = isum (l.take k) % 18446744073709551616 := ⟨_, rfl⟩
    obtain ⟨Y, HY⟩ : ∃ Y, Y = isum (l.take k) / 18446744073709551616 % 18446744073709551616 := ⟨_, rfl⟩
    rw [← HX, ← HY]
    have bX : 0 ≤ X ∧ X < 18446744073709551616 := by omega
    have bY : 0 ≤ Y ∧ Y < 18446744073709551616 := by omega
    by_cases hlt : k < l.length
    · obtain ⟨b, off, rfl, hc⟩ := HR.out k hlt
      have hv := getD_of_all l HB.out k hlt
      have hs := isum_snoc l k hlt
      have hbd := isum_bound l HB.out k hk
      unfold InI at hv
      generalize l.getD k 0 = v at *
      obtain ⟨U, eU⟩ : ∃ U, IntKind.u64.wrap v = U := ⟨_, rfl⟩
      obtain ⟨T, eT⟩ : ∃ T, IntKind.u64.wrap (v / 9223372036854775808) = T := ⟨_, rfl⟩
      have bU : 0 ≤ U ∧ U < 18446744073709551616 := by rw [IntKind.wrap_u64] at eU; omega
      have bT : 0 ≤ T ∧ T < 18446744073709551616 := by rw [IntKind.wrap_u64] at eT; omega
      obtain ⟨c, ec⟩ : ∃ c, (X + U) / 18446744073709551616 = c := ⟨_, rfl⟩
      obtain ⟨L, eL⟩ : ∃ c, (X + U) % 18446744073709551616 = c := ⟨_, rfl⟩
      obtain ⟨H, eH⟩ : ∃ d, (Y + T + c) % 18446744073709551616 = d := ⟨_, rfl⟩
      obtain ⟨G, eG⟩ : ∃ d, (Y + T + c) / 18446744073709551616 = d := ⟨_, rfl⟩
      have r1 := fun w => run_Add64 X U 0 bX.1 bU.1 (by omega) (by omega) w
      have r2 := fun w => run_Add64 Y T c bY.1 bT.1 (by omega) (by omega) w
      simp only [Int.add_zero, ec, eL] at r1
      rw [eH, eG] at r2
      have fin : SSumRel l (.int .u64 H) (.int .u64 L) (.int .i64 ((k : Int) + 1)) := by
        refine ⟨k + 1, hlt, rfl, ?_, ?_⟩
        · rw [hs, IntKind.wrap_u64] at *
          congr 1
          omega
        · rw [hs]
          rw [IntKind.wrap_u64] at eU eT
          congr 1
          omega
      have Fin := Lib.hid fin
      clear fin ec eL eH eG HX HY hs hbd bX bY bU bT hv
      go_wp2
      go_round
      case rel => exact Fin.out
      case measure => simp [intOf]; omega
    · obtain rfl : k = l.length := by omega
      rw [List.take_length] at HX HY
      have hbd := isum_bound l HB.out l.length (Nat.le_refl _)
      rw [List.take_length] at hbd
      have eW : wrap64 X = wrap64 (isum l) := by unfold wrap64; omega
      have fin1 : (Y != IntKind.u64.wrap (wrap64 X / 9223372036854775808)) = true → SSumPost l w (.returned (.tuple #[.int .i64 0, .int .i64 12])) w := fun h => by
        have h := WalkArith.int_ne' h
        have ho : ¬ InI (isum l) := fun hi => h (by unfold InI at hi; rw [eW, IntWalk.wrap64_in _ hi, IntKind.wrap_u64]; omega)
        exact ⟨by rw [vI_out ho, eI_out ho], rfl⟩
      have fin2 : (Y != IntKind.u64.wrap (wrap64 X / 9223372036854775808)) = false → SSumPost l w (.returned (.tuple #[.int .i64 (wrap64 X), .int .i64 0])) w := fun h => by
        have h := WalkArith.int_eq' h
        have ho : InI (isum l) := by
          unfold InI
          rw [eW, IntKind.wrap_u64] at h
          unfold wrap64 at h
          omega
        exact ⟨by rw [vI_in ho, eI_in ho, eW, IntWalk.wrap64_in _ ho], rfl⟩
      have Fin1 := Lib.hid fin1
      have Fin2 := Lib.hid fin2
      clear fin1 fin2 eW hbd HX HY
      go_wp2
      all_goals go_ret2
      · exact Fin1.out (by assumption)
      · exact Fin2.out (by assumption)
end Go.Proofs.Ytpmoidpncpfnlaa
