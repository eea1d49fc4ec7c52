/- noonmarkref02: Parse: for all strings of at most two hundred bytes. -/
import Derived.Test.YtngjefoipdcldaaParM
import Derived.Test.YtngjefoipdcldaaRText
namespace Go.Proofs.Ytngjefoipdcldaa
open Go.RowKit
set_option linter.unusedVariables false

theorem idx_str (s : ByteArray) (I : Int) (k : Nat) (hI : I = (k : Int)) (hk : k < s.size) (W : World) : (Instr.index 9 (.string s) (.int .i64 I)).run Try.prog W = .ok (.int .u8 ((bl s).getD k 0)) W := by
  rw [run_index_string W 9 s .i64 I Try.underlying9, dif_pos (by omega)]
  subst hI
  unfold bl
  have h2 : k < s.data.toList.length := by rw [Array.length_toList]; exact hk
  rw [List.getD_eq_getElem?_getD, List.getElem?_map, List.getElem?_eq_getElem h2]
  rfl
theorem bl_extract (s : ByteArray) (h : 1 ≤ s.size) : bl (s.extract 1 s.size) = (bl s).drop 1 := by
  unfold bl
  rw [ByteArray.data_extract, Array.toList_extract, List.extract_eq_take_drop, ← List.map_drop]
  rw [List.take_of_length_le (by rw [List.length_drop, Array.length_toList]; exact Nat.le_refl _)]
def RPOut (s : ByteArray) (w : World) (e : Ending) (w' : World) : Prop := ∃ v z has, e = .returned (.tuple #[v, .bool has]) ∧ NumAt w' v z ∧ PR (bl s) z has ∧ Below w.heap.size w w'
def RParRel (L : List Int) (w : World) (i : Value) (wr : World) : Prop := ∃ (k : Nat) (I : Int) (ng : Bool) (la : Option Addr) (n lc : Nat), i = .int .i64 I ∧ I = (k : Int) ∧ k ≤ L.length ∧ Hid (∀ j, j < k → 48 ≤ L.getD j 0 ∧ L.getD j 0 ≤ 57) ∧ Hid (NumAt wr (.agg #[.bool ng, .slice la n lc]) (unsN (L.take k))) ∧
  Hid (Kept wr (w.heap.size + 1) #[.bool ng, .slice la n lc] 34) ∧ Hid (Kept wr w.heap.size #[.bool false, .slice none 0 0] 34) ∧ Hid (Below w.heap.size w wr)
theorem num_zero (w : World) : NumAt w (.agg #[.bool false, .slice none 0 0]) 0 := numat_nil w
end Go.Proofs.Ytngjefoipdcldaa
