/- Arrays of 65 counts in memory; buckets. -/
import Derived.Test.YtpmoidpncpfnlaaKeep
import Derived.Test.YtpmoidpncpfnlaaShelf
import Derived.Laws.Rows
import Derived.Deep.WholeRow
namespace Go.Proofs.Ytpmoidpncpfnlaa
open Go.RowKit
set_option linter.unusedVariables false

def hC (l : List Int) : Array Value := (l.map (Value.int .i64)).toArray
theorem hC_size (l : List Int) : (hC l).size = l.length := by simp [hC]
theorem hC_get (l : List Int) (k : Nat) (hk : k < l.length) : (hC l)[k]? = some (.int .i64 (l.getD k 0)) := by
  simp [hC, List.getD_eq_getElem?_getD, List.getElem?_eq_getElem hk]
theorem hC_set (l : List Int) (k : Nat) (v : Int) : (hC l).setIfInBounds k (.int .i64 v) = hC (l.set k v) := by
  simp [hC, List.map_set]
theorem hC_cells (l : List Int) : (hC l).all (·.oneCell') = true := by
  simp [hC, Value.oneCell']
theorem hC_inj {l m : List Int} : hC l = hC m ↔ l = m := by
  constructor
  · intro h
    have h' : l.map (Value.int .i64) = m.map (Value.int .i64) := by simpa [hC] using h
    exact (List.map_inj_right (fun a b e => by injection e)).1 h'
  · rintro rfl; rfl
def zeros65 : List Int := List.replicate 65 0
theorem zeros65_len : zeros65.length = 65 := by decide
theorem h_under : Try.prog.underlying 27 = some (.array 65 2) := by kernel_rfl
theorem h_info : (Try.prog.info? 27).map (·.size) = some 65 := by kernel_rfl
theorem h_zero0 : (Try.prog.info? 27).map (fun i => (i.zero, i.size)) = some (some (.agg (hC zeros65)), 65) := by kernel_rfl
theorem h_zero (w : World) : (zeroValue 27).run Try.prog w = .ok (.agg (hC zeros65)) w := (zero_of_info h_zero0).1 w
theorem h_index (l : List Int) (hl : l.length = 65) (k : Nat) (hk : k < 65) (w : World) : (Instr.index 27 (.agg (hC l)) (.int .i64 (k : Int))).run Try.prog w = .ok (.int .i64 (l.getD k 0)) w := by
  have hc := hC_get l k (by omega)
  have h1 : (0 : Int) ≤ (k : Int) ∧ (k : Int) < 65 := by omega
  simp [Instr.index, run_underlying h_under, asIntOf, h1, hk, go_sem, part, hc, Try.sizeOf2, Try.isAgg2]
theorem Kept.setRow {w : World} {g : Nat} {cs : Array Value} {t : TypeId} (h : Kept w g cs t) (c : Array Value) : Kept (w.setRow g c) g c t := by
  unfold Kept at *
  unfold World.setRow
  simp [Array.getElem?_modify, h]
theorem Kept.setRow_far {w : World} {g b : Nat} {cs : Array Value} {t : TypeId} (h : Kept w g cs t) (hb : b ≠ g) (c : Array Value) : Kept (w.setRow b c) g cs t := by
  unfold Kept at *
  unfold World.setRow
  simp [Array.getElem?_modify, hb, h]
theorem below_setRow {B : Nat} {a w : World} (h : Below B a w) {g : Nat} (hg : B ≤ g) (c : Array Value) : Below B a (w.setRow g c) :=
  ⟨h.os, h.tape, h.output, by have := h.size; simpa [World.setRow] using this, fun k hk => by
    rw [← h.block k hk]
    unfold World.setRow
    simp [Array.getElem?_modify, show g ≠ k by omega]⟩
theorem Kept.cellK {w : World} {g : Nat} {l : List Int} {t : TypeId} (h : Kept w g (hC l) t) (k : Nat) (hk : k < l.length) : w.cell? ⟨g, k, none⟩ = some (.int .i64 (l.getD k 0)) ∧ w.frozen? ⟨g, k, none⟩ = false := by
  have h1 := h.at_ k
  rw [hC_get l k hk] at h1
  exact h1
/-- the bucket of a number -/
def bkt (v : Int) : Nat := if v < 0 then 0 else 1 + Lib.bitLen v.toNat
theorem aux_le : ∀ f x k, x < 2 ^ k → Lib.bitLenAux f x ≤ k
  | 0, x, k, _ => Nat.zero_le _
  | f + 1, x, k, h => by
    unfold Lib.bitLenAux
    split
    · exact Nat.zero_le _
    · cases k with
      | zero => simp at h; omega
      | succ k =>
        have := aux_le f (x / 2) k (by rw [Nat.pow_succ] at h; omega)
        omega
theorem aux_fuel : ∀ f x, x < 2 ^ f → Lib.bitLenAux (f + 1) x = Lib.bitLenAux f x
  | 0, x, h => by
    have : x = 0 := by simpa using h
    subst this; rfl
  | f + 1, x, h => by
    rw [Lib.bitLenAux]
    conv => rhs; rw [Lib.bitLenAux]
    split
    · rfl
    · rw [aux_fuel f (x / 2) (by rw [Nat.pow_succ] at h; omega)]
theorem bitLen_lt (n : Nat) (h : n < 9223372036854775808) : Lib.bitLen n ≤ 63 := aux_le 64 n 63 (by omega)
theorem bitLen_half (x : Nat) (h0 : x ≠ 0) (h : x < 18446744073709551616) : Lib.bitLen x = 1 + Lib.bitLen (x / 2) := by
  unfold Lib.bitLen
  rw [Lib.bitLenAux, if_neg h0]
  rw [aux_fuel 63 (x / 2) (by omega)]
theorem bitLen_zero : Lib.bitLen 0 = 0 := rfl
theorem bkt_lt {v : Int} (h : InI v) : bkt v < 65 := by
  unfold bkt InI at *
  split
  · omega
  · have := bitLen_lt v.toNat (by omega)
    omega
/-- the counts of a list -/
def cntL (l : List Int) : List Int := (List.range 65).map fun b => ((l.countP (fun v => bkt v == b) : Nat) : Int)
theorem cntL_len (l : List Int) : (cntL l).length = 65 := by simp [cntL]
theorem cntL_get (l : List Int) (b : Nat) (h : b < 65) : (cntL l).getD b 0 = ((l.countP (fun v => bkt v == b) : Nat) : Int) := by
  unfold cntL
  rw [List.getD_eq_getElem?_getD, List.getElem?_map, List.getElem?_range h]
  rfl
theorem cntL_nil : cntL [] = zeros65 := by decide +kernel
theorem ext65 {l m : List Int} (hl : l.length = 65) (hm : m.length = 65) (h : ∀ b, b < 65 → l.getD b 0 = m.getD b 0) : l = m :=
  eq_of_getD (by omega) fun j hj => h j (by omega)
theorem getD_set (l : List Int) (k : Nat) (v : Int) (b : Nat) (hk : k < l.length) : (l.set k v).getD b 0 = if b = k then v else l.getD b 0 := by
  simp only [List.getD_eq_getElem?_getD, List.getElem?_set]
  by_cases h : k = b
  · subst h; simp [hk]
  · simp [h, Ne.symm h]
theorem cntL_snoc (l : List Int) (v : Int) (hv : InI v) : cntL (l ++ [v]) = (cntL l).set (bkt v) ((cntL l).getD (bkt v) 0 + 1) := by
  have hb := bkt_lt hv
  refine ext65 (cntL_len _) (by rw [List.length_set]; exact cntL_len l) fun b hb2 => ?_
  rw [getD_set _ _ _ _ (by rw [cntL_len]; exact hb), cntL_get _ _ hb2, List.countP_append]
  by_cases h : b = bkt v
  · rw [if_pos h, h, cntL_get _ _ hb]
    simp
  · rw [if_neg h, cntL_get _ _ hb2]
    have : (bkt v == b) = false := by rw [beq_eq_false_iff_ne]; exact fun e => h e.symm
    simp [this]
theorem cntL_le (l : List Int) (b : Nat) (h : b < 65) : 0 ≤ (cntL l).getD b 0 ∧ (cntL l).getD b 0 ≤ l.length := by
  rw [cntL_get l b h]
  have := List.countP_le_length (p := fun v => bkt v == b) (l := l)
  omega
end Go.Proofs.Ytpmoidpncpfnlaa
