/- SweepTurns for every input. -/
import Derived.Test.YtllkdohomkofhaaTurnW
import Derived.Test.YtllkdohomkofhaaPairs
namespace Go.Proofs.Ytllkdohomkofhaa
open Go.RowKit
set_option linter.unusedVariables false

theorem slice_hp (a : Option Addr) (n c cut : Nat) (hc : cut ≤ c) (W : World) : (Instr.slice 22 (.slice a n c) none (some (.int .i64 (cut : Int))) none).run Try.prog W = .ok (.slice a cut c) W := by
  have h1 : (0 : Int) ≤ (cut : Int) := by omega
  have h2 : (cut : Int) ≤ (c : Int) := by omega
  simp [go_sem, h1, h2, sliced, Try.sizeOf25]
theorem slice_lp (a : Option Addr) (n c cut : Nat) (hc : cut ≤ n) (W : World) : (Instr.slice 22 (.slice a n c) (some (.int .i64 (cut : Int))) none none).run Try.prog W = .ok (.slice (if c = cut then a else a.map (·.add (cut * 2))) (n - cut) (c - cut)) W := by
  have h1 : (0 : Int) ≤ (cut : Int) := by omega
  have h2 : (cut : Int) ≤ (n : Int) := by omega
  simp [go_sem, h1, h2, sliced, Try.sizeOf25]
theorem sweepturns_any (xa : Option Addr) (c : Nat) (L : List (Int × Int)) (cut f : Int) (w : World) (hx : PairRow w xa L) (hin : ∀ q ∈ L, (Lit.int .i64 q.1).wf = true ∧ (Lit.int .i64 q.2).wf = true) (hlc : L.length ≤ c) (hn : xa = none → c = 0) (hf : (Lit.int .i64 f).wf = true) :
    Calls Try.prog 6 #[.slice xa L.length c, .int .i64 cut, .int .i64 f] w fun e w' => e = .returned (.bool true) ∧ Below w.heap.size w w' := by
  by_cases h : (100 : Int) < (L.length : Int)
  · exact turns_out xa L.length c cut f w (.inl h)
  by_cases h' : cut < 0
  · exact turns_out xa L.length c cut f w (.inr (.inl ⟨h, h'⟩))
  by_cases h'' : (L.length : Int) < cut
  · exact turns_out xa L.length c cut f w (.inr (.inr ⟨h, h', h''⟩))
  obtain ⟨k, rfl⟩ : ∃ k : Nat, cut = (k : Int) := ⟨cut.toNat, by omega⟩
  have hk : k ≤ L.length := by omega
  have e1 : (L.take k).length = k := by rw [List.length_take]; omega
  have e2 : (L.drop k).length = L.length - k := List.length_drop
  cases xa with
  | none =>
    have hc := hn rfl
    have hl : L = [] := List.eq_nil_of_length_eq_zero (by omega)
    have g2 := slice_lp none L.length c k hk
    rw [show (if c = k then (none : Option Addr) else (none : Option Addr).map (·.add (k * 2))) = none by split <;> rfl] at g2
    exact turns_any none none c k L f w hx (fun j hj => by rw [e2] at hj; subst hl; simp at hj) hn (fun _ => by omega) (fun q hq => ⟨bd (hin q hq).1, bd (hin q hq).2⟩) (by omega) hk (bd hf) (fun W => by rw [e1]; exact slice_hp none L.length c k (by omega) W) (fun W => by rw [e2]; exact g2 W)
  | some a =>
    by_cases hl : L = []
    · subst hl
      obtain rfl : k = 0 := by simpa using hk
      have g2 := slice_lp (some a) ([] : List (Int × Int)).length c 0 hk
      simp only [Option.map_some] at g2
      exact turns_any (some a) (if c = 0 then some a else some (a.add (0 * 2))) c 0 [] f w hx (fun j hj => by simp at hj) hn (fun e => by split at e <;> simp at e) (fun q hq => by simp at hq) (by simp) hk (bd hf) (fun W => by rw [e1]; exact slice_hp (some a) _ c 0 (by omega) W) (fun W => by rw [e2]; exact g2 W)
    · obtain ⟨b, off, e, _⟩ := hx 0 (List.length_pos_iff.2 hl)
      cases e
      have hd := hx.drop k
      have ek : (if c = k then (some ⟨b, off, none⟩ : Option Addr) else (some (⟨b, off, none⟩ : Addr)).map (·.add (k * 2))) = (if c = k then some ⟨b, off, none⟩ else some ⟨b, off + k * 2, none⟩) := by
        split
        · rfl
        · simp only [Option.map_some, Addr.add]
          split
          · rename_i e; rw [show k = 0 by omega]; rfl
          · rfl
      have g2 := slice_lp (some ⟨b, off, none⟩) L.length c k hk
      rw [ek] at g2
      refine turns_any (some ⟨b, off, none⟩) (if c = k then some ⟨b, off, none⟩ else some ⟨b, off + k * 2, none⟩) c k L f w hx ?_ hn (fun e => by split at e <;> simp at e) (fun q hq => ⟨bd (hin q hq).1, bd (hin q hq).2⟩) (by omega) hk (bd hf) (fun W => by rw [e1]; exact slice_hp _ L.length c k (by omega) W) (fun W => by rw [e2]; exact g2 W)
      split
      · intro j hj; rw [e2] at hj; omega
      · exact hd
end Go.Proofs.Ytllkdohomkofhaa
