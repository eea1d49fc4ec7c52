/- CellParts for every input. -/
import Derived.Test.YtpmoidpncpfnlaaPartW
namespace Go.Proofs.Ytpmoidpncpfnlaa
open Go.RowKit
set_option linter.unusedVariables false

theorem slice_h2 (a : Option Addr) (n c cut : Nat) (hc : cut ≤ c) (W : World) : (Instr.slice 22 (.slice a n c) none (some (.int .i64 (cut : Int))) none).run Try.prog W = .ok (.slice a cut c) W := by
  have h1 : (0 : Int) ≤ (cut : Int) := by omega
  have h2 : (cut : Int) ≤ (c : Int) := by omega
  simp [go_sem, h1, h2, sliced, Try.sizeOf2]
theorem slice_l2 (a : Option Addr) (n c cut : Nat) (hc : cut ≤ n) (W : World) : (Instr.slice 22 (.slice a n c) (some (.int .i64 (cut : Int))) none none).run Try.prog W = .ok (.slice (if c = cut then a else a.map (·.add cut)) (n - cut) (c - cut)) W := by
  have h1 : (0 : Int) ≤ (cut : Int) := by omega
  have h2 : (cut : Int) ≤ (n : Int) := by omega
  simp [go_sem, h1, h2, sliced, Try.sizeOf2]
theorem cellparts_any (a : Option Addr) (len cap : Nat) (zs : List Int) (cut : Int) (w : World) (r : RowOf .i64 w a len cap zs) :
    Calls Try.prog 5 #[.slice a len cap, .int .i64 cut] w (BoolOut w) := by
  have hlen : len ≤ 9223372036854775807 := by rcases r.cases with ⟨_, h, _⟩ | ⟨h, _⟩ | ⟨_, h, h2, _⟩ <;> omega
  by_cases h : (200 : Int) < (len : Int) ∨ cut < 0 ∨ (len : Int) < cut
  · exact parts_out a len cap cut w h hlen
  obtain ⟨k, rfl⟩ : ∃ k : Nat, cut = (k : Int) := ⟨cut.toNat, by omega⟩
  rcases r.cases with ⟨rfl, rfl, rfl⟩ | ⟨rfl, _, _⟩ | ⟨h0, h1, h2, h3, ⟨b, off, rfl⟩, h5, h6⟩
  · obtain rfl : k = 0 := by omega
    exact parts_main none _ 0 0 [] w (fun j hj => by simp at hj) (fun j hj => by simp at hj) (by simp) (by simp) (by simp) (by simp) (fun W => slice_h2 _ _ _ _ (by simp) W) (fun W => slice_l2 _ _ _ _ (by simp) W)
  · obtain rfl : k = 0 := by omega
    exact parts_main a _ cap 0 [] w (fun j hj => by simp at hj) (fun j hj => by simp at hj) (by simp) (by simp) (by simp) (by simp) (fun W => slice_h2 _ _ _ _ (by simp) W) (fun W => slice_l2 _ _ _ _ (by simp) W)
  · have hd := IntRow.drop (c := cap) (t := k) h5 (by omega)
    have g1 : k ≤ (zs.take len).length := by omega
    have g2 := slice_l2 (some ⟨b, off, none⟩) (zs.take len).length cap k g1
    have ek : (if k = 0 then ({ block := b, off := off, spot := none } : Addr) else { block := b, off := off + k, spot := none }) = ⟨b, off + k, none⟩ := by
      split
      · rename_i e; subst e; rfl
      · rfl
    simp only [Option.map_some, Addr.add, ek] at g2
    have h := parts_main (some ⟨b, off, none⟩) (if cap = k then some ⟨b, off, none⟩ else some ⟨b, off + k, none⟩) cap k (zs.take len) w h5 hd (fun x hx => bd (h6 x hx)) (by omega) g1 (by omega) (fun W => slice_h2 _ _ _ _ (by omega) W) g2
    rw [h3] at h
    exact h
end Go.Proofs.Ytpmoidpncpfnlaa
