/- HistCounts for every input. -/
import Derived.Test.YtldgdedfioigiaaCntW
import Derived.Test.YtldgdedfioigiaaArrs
namespace Go.Proofs.Ytldgdedfioigiaa
open Go.RowKit
set_option linter.unusedVariables false

theorem counts_out (la ra : Option Addr) (n m lc rc : Nat) (v : Int) (w : World) (h : (200 : Int) < (n : Int) ∨ (¬ (200 : Int) < (n : Int) ∧ (20 : Int) < (m : Int))) :
    Calls Try.prog 4 #[.slice la n lc, .slice ra m rc, .int .i64 v] w fun e w' => e = .returned (.bool true) ∧ Below w.heap.size w w' := by
  rcases h with h | ⟨h1, h2⟩
  all_goals
    go_enter Try.func4, Try.ntmps4
    go_wp2_with fail
    refine (alive_any _).mono ?_
    rintro _ w1 ⟨rfl, b1⟩
    have B1 := Lib.hid b1
    clear b1
    go_wp2
    go_ret
    exact ⟨rfl, B1.out⟩
theorem rows_at {w : World} {a : Option Addr} {L : List (List Int)} (h65 : ∀ j, j < L.length → (L.getD j []).length = 65) (h : ∀ j, j < L.length → ∃ b off, a = some ⟨b, off, none⟩ ∧ ∀ i, i < 65 → w.cell? ⟨b, off + j * 65 + i, none⟩ = some (.int .i64 ((L.getD j []).getD i 0)) ∧ (Lit.int .i64 ((L.getD j []).getD i 0)).wf = true) : RowsAt w a L := fun j hj => by
  obtain ⟨b, off, e, h1⟩ := h j hj
  refine ⟨b, off, e, fun i v hv => ?_⟩
  rw [hC_list] at hv
  have hlen := h65 j hj
  have hi : i < 65 := by
    have := (List.getElem?_eq_some_iff.1 hv).1
    rw [List.length_map] at this
    omega
  rw [(h1 i hi).1, ← hv, List.getElem?_map, List.getD_eq_getElem?_getD, List.getElem?_eq_getElem (by omega)]
  rfl
theorem histcounts_any (la : Option Addr) (len cap : Nat) (zs : List Int) (ra : Option Addr) (rc : Nat) (L : List (List Int)) (v : Int) (w : World) (r : RowOf .i64 w la len cap zs)
    (h65 : ∀ j, j < L.length → (L.getD j []).length = 65) (h : ∀ j, j < L.length → ∃ b off, ra = some ⟨b, off, none⟩ ∧ ∀ i, i < 65 → w.cell? ⟨b, off + j * 65 + i, none⟩ = some (.int .i64 ((L.getD j []).getD i 0)) ∧ (Lit.int .i64 ((L.getD j []).getD i 0)).wf = true) (hv : (Lit.int .i64 v).wf = true) :
    Calls Try.prog 4 #[.slice la len cap, .slice ra L.length rc, .int .i64 v] w fun e w' => e = .returned (.bool true) ∧ Below w.heap.size w w' := by
  by_cases h1 : (200 : Int) < (len : Int)
  · exact counts_out la ra len L.length cap rc v w (.inl h1)
  by_cases h2 : (20 : Int) < (L.length : Int)
  · exact counts_out la ra len L.length cap rc v w (.inr ⟨h1, h2⟩)
  have hR := rows_at h65 h
  have hin : ∀ j b, j < L.length → b < 65 → InI ((L.getD j []).getD b 0) := fun j b hj hb => by
    obtain ⟨_, _, _, h3⟩ := h j hj
    exact bd (h3 b hb).2
  rcases r.cases with ⟨rfl, rfl, rfl⟩ | ⟨rfl, _, b, off, sub, rfl⟩ | ⟨h0, h1', h2', h3, ⟨b, off, rfl⟩, h5, h6⟩
  · exact counts_any none ra 0 rc [] L v w (fun j hj => by simp at hj) (fun _ => rfl) (by simp) (by simp) hR h65 hin (by omega) (bd hv)
  · exact counts_any _ ra cap rc [] L v w (fun j hj => by simp at hj) (fun e => by cases e) (by simp) (by simp) hR h65 hin (by omega) (bd hv)
  · have h := counts_any (some ⟨b, off, none⟩) ra cap rc (zs.take len) L v w h5 (fun e => by cases e) (fun x hx => bd (h6 x hx)) (by omega) hR h65 hin (by omega) (bd hv)
    rw [h3] at h
    exact h
end Go.Proofs.Ytldgdedfioigiaa
