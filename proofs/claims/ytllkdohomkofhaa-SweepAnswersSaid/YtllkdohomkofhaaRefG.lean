/- noonmarkref17.Agree: for every input. -/
import Derived.Test.YtllkdohomkofhaaRefC
import Derived.Test.YtllkdohomkofhaaTurnM
namespace Go.Proofs.Ytllkdohomkofhaa
open Go.RowKit
set_option linter.unusedVariables false
set_option linter.unusedSimpArgs false

theorem agree_of {L : List (Int × Int)} (hin : ∀ p ∈ L, InP p) {b : Int × Int} {n : Int} (h : BestP L b n) : agreeB L = (decide (0 < (L.length : Int)) && (n == (L.length : Int))) := by
  rw [Bool.eq_iff_iff, agree_iff hin, Bool.and_eq_true, decide_eq_true_iff, beq_iff_eq]
  have hle : ∀ y, votes L y ≤ L.length := fun y => List.countP_le_length
  constructor
  · rintro ⟨h0, y, hy⟩
    refine ⟨by omega, ?_⟩
    rcases h with ⟨rfl, _, h3⟩ | ⟨_, h1, h2, _⟩
    · obtain ⟨p, hp, hb⟩ := votes_pos.1 (show 0 < votes L y by omega)
      have := hasB_iff.1 hb
      exact absurd (show p.1 ≤ p.2 by omega) (h3 p hp)
    · have := h2 y
      have := hle b.1
      omega
  · rintro ⟨h0, rfl⟩
    refine ⟨by omega, ?_⟩
    rcases h with ⟨h1, _⟩ | ⟨_, h1, _⟩
    · omega
    · exact ⟨b.1, by omega⟩
set_option maxHeartbeats 1000000 in
theorem ragree_any (xa : Option Addr) (xc : Nat) (L : List (Int × Int)) (w : World) (hx : PairRow w xa L) (hin : ∀ p ∈ L, InP p) (hl : L.length ≤ 100000) :
    Calls Try.prog 16 #[.slice xa L.length xc] w (Gives (.bool (agreeB L)) w) := by
  have HX := Lib.hid hx
  have HIN := Lib.hid hin
  have CB := Lib.hid (rbest_any xa xc L w hx hin hl)
  clear hx hin hl
  go_enter Try.func16, Try.ntmps16
  go_wp2_with fail
  refine CB.out.mono ?_
  rintro _ w2 ⟨⟨lo, up⟩, n, rfl, HP, b2⟩
  have A := Lib.hid (agree_of HIN.out HP.out)
  have B2 := Lib.hid (b2.alloc b2.size (.cells #[.int .i64 lo, .int .i64 up] 28))
  clear b2 HP HIN CB
  dsimp only
  by_cases h1 : 0 < (L.length : Int)
  · have d1 : decide (0 < (L.length : Int)) = true := decide_eq_true h1
    by_cases h2 : n = (L.length : Int)
    · have d2 : (n == (L.length : Int)) = true := beq_iff_eq.2 h2
      clear h2
      go_wp2
      go_ret
      exact ⟨by rw [A.out, d1, d2]; rfl, B2.out⟩
    · have d2 : (n == (L.length : Int)) = false := beq_eq_false_iff_ne.mpr h2
      clear h2
      go_wp2
      go_ret
      exact ⟨by rw [A.out, d1, d2]; rfl, B2.out⟩
  · have d1 : decide (0 < (L.length : Int)) = false := decide_eq_false h1
    go_wp2
    go_ret
    exact ⟨by rw [A.out, d1]; rfl, B2.out⟩
end Go.Proofs.Ytllkdohomkofhaa
