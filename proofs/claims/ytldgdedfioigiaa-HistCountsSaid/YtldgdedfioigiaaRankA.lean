/- noonmarkref05: right, Rank. -/
import Derived.Test.YtldgdedfioigiaaRefV
import Derived.Test.YtldgdedfioigiaaHistB
import Derived.Test.YtldgdedfioigiaaWideF
namespace Go.Proofs.Ytldgdedfioigiaa
open Go.RowKit
set_option linter.unusedVariables false

set_option maxHeartbeats 2000000 in
set_option maxRecDepth 1000000 in
theorem rright_any (l : List Int) (hl : l.length = 65) (w : World) : Calls Try.prog 30 #[.agg (hC l)] w (Gives (.bool (okL l)) w) := by
  have HG : Hid (Kept (w.alloc (.cells (hC l) 32)) w.heap.size (hC l) 32) := Lib.hid (Kept.new rfl)
  have HI := Lib.hid (fun k (hk : k < 65) => HG.out.cellK k (by omega))
  have Fyes : Hid ((∀ j, j < 65 → 0 ≤ l.getD j 0) → okL l = true) := Lib.hid fun h => okL_iff.2 h
  have Fno : Hid (∀ k, k < 65 → ¬ 0 ≤ l.getD k 0 → okL l = false) := Lib.hid fun k hk h => okL_no hk h
  obtain ⟨C, hC1⟩ : ∃ C, hC l = C := ⟨_, rfl⟩
  rw [hC1] at HI HG
  rw [hC1]
  generalize okL l = res at *
  clear hC1 hl
  go_enter Try.func30, Try.ntmps30
  go_wp2
  have B0 : Hid (Below w.heap.size w (w.alloc (.cells C 32))) := Lib.hid (one_alloc _ _)
  clear HG
  generalize w.alloc (.cells C 32) = W at *
  go_loop [3] (fun i => OkRel l i) (fun i => 65 - (intOf i).toNat)
  case atStart => exact ⟨0, by omega, rfl, Lib.hid (fun j hj => by omega)⟩
  case round =>
    obtain ⟨k, hk, rfl, HV⟩ := hrel
    by_cases hlt : k < 65
    · obtain ⟨hx, hx2⟩ := HI.out k hlt
      obtain ⟨v, hv⟩ : ∃ v, l.getD k 0 = v := ⟨_, rfl⟩
      rw [hv] at hx
      by_cases h0 : 0 ≤ v
      · have d0 : decide (v < 0) = false := decide_eq_false (by omega)
        have F : Hid (OkRel l (.int .i64 ((k : Int) + 1))) := Lib.hid ⟨k + 1, hlt, rfl, Lib.hid (fun j hj => by
          by_cases e : j = k
          · rw [e, hv]; exact h0
          · exact HV.out j (by omega))⟩
        have HLT := Lib.hid hlt
        have hkk : (k : Int) < 65 := by omega
        clear h0 hv hlt hk
        go_wp2
        go_round
        case rel => exact F.out
        case measure => have := HLT.out; simp [intOf]; omega
      · have d0 : decide (v < 0) = true := decide_eq_true (by omega)
        have F := Lib.hid (Fno.out k hlt (by rw [hv]; omega))
        have hkk : (k : Int) < 65 := by omega
        clear h0 hv hlt hk
        go_wp2
        go_ret
        exact ⟨ret_bool F.out.symm, B0.out⟩
    · have F := Lib.hid (Fyes.out (fun j hj => HV.out j (by omega)))
      have hkk : ¬ (k : Int) < 65 := by omega
      clear hlt hk
      go_wp2
      go_ret
      exact ⟨ret_bool F.out.symm, B0.out⟩
/-- the answer of the reference's Rank -/
def RrOut (l : List Int) (z r : Int) : Prop := (okL l = true ∧ 0 ≤ z ∧ ∃ b : Nat, b < 65 ∧ r = b ∧ isum (l.take b) ≤ z ∧ z < isum (l.take (b + 1))) ∨ ((okL l = false ∨ z < 0 ∨ isum l ≤ z) ∧ r = -1)
def RrPost (l : List Int) (z : Int) (w : World) (e : Ending) (w' : World) : Prop := ∃ r, e = .returned (.int .i64 r) ∧ Hid (RrOut l z r) ∧ Below w.heap.size w w'
theorem neg_hi {z : Int} (h : InW z) : decide (hiW z < 0) = decide (z < 0) := by
  unfold InW at h
  unfold hiW wrap64
  by_cases h0 : z < 0
  · rw [decide_eq_true h0]; refine decide_eq_true ?_; omega
  · rw [decide_eq_false h0]; refine decide_eq_false ?_; omega
def RrRel (l : List Int) (z : Int) (w : World) (g : Nat) (i : Value) (wr : World) : Prop := ∃ (k : Nat) (neg : Bool) (a : Option Addr) (n cap : Nat), k ≤ 65 ∧ i = .int .i64 k ∧
  Hid (NumAt wr (.agg #[.bool neg, .slice a n cap]) (z - isum (l.take k))) ∧ Hid (Kept wr g #[.bool neg, .slice a n cap] 50) ∧ Hid (Kept wr w.heap.size (hC l) 32) ∧ Hid (isum (l.take k) ≤ z) ∧ Hid (Below w.heap.size w wr)
theorem rank_none (l : List Int) (z : Int) (w : World) (h65 : l.length = 65) (hz : InW z) (h : okL l = false ∨ (okL l = true ∧ z < 0)) :
    Calls Try.prog 25 #[.agg (hC l), .int .i64 (hiW z), .int .u64 (loW z)] w (RrPost l z w) := by
  have CR := Lib.hid (fun W => rright_any l h65 W)
  have FIN : Hid (∀ W, Below w.heap.size w W → RrPost l z w (.returned (.int .i64 (-1))) W) := Lib.hid fun W hb => ⟨_, rfl, Lib.hid (.inr ⟨by rcases h with h | ⟨_, h⟩; exact .inl h; exact .inr (.inl h), rfl⟩), hb⟩
  have hneg := neg_hi hz
  have ci : (Try.prog.info? 32).map (·.size) = some (hC l).size := by rw [hC_size, h65]; kernel_rfl
  have G0 : Hid (Kept (w.alloc (.cells (hC l) 32)) w.heap.size (hC l) 32) := Lib.hid (Kept.new rfl)
  have hu : Try.prog.underlying 32 = some (.array 65 2) := by kernel_rfl
  generalize hC l = C at *
  generalize hiW z = zh at *
  generalize loW z = zl at *
  rcases h with h | ⟨h, h2⟩
  · rw [h] at CR
    clear h hz h65 hneg
    go_enter Try.func25, Try.ntmps25
    go_wp2_with (first | (refine wpList_load_row rfl 32 _ rfl w.heap.size rfl 32 C (0, 0) _ G0.out hu rfl ci ?_) | (go_at_call 30; refine (CR.out _).mono ?_; rintro _ w2 ⟨rfl, b2⟩; have FF := Lib.hid (FIN.out _ ((one_alloc w (.cells C 32)).trans (b2.mono (by simp)))); clear b2))
    go_ret
    exact FF.out
  · rw [h] at CR
    rw [decide_eq_true h2] at hneg
    clear h h2 hz h65
    go_enter Try.func25, Try.ntmps25
    go_wp2_with (first | (refine wpList_load_row rfl 32 _ rfl w.heap.size rfl 32 C (0, 0) _ G0.out hu rfl ci ?_) | (go_at_call 30; refine (CR.out _).mono ?_; rintro _ w2 ⟨rfl, b2⟩; have FF := Lib.hid (FIN.out _ ((one_alloc w (.cells C 32)).trans (b2.mono (by simp)))); clear b2))
    go_ret
    exact FF.out
end Go.Proofs.Ytldgdedfioigiaa
