/- Rows of cells; what Merge reads of a cell. -/
import Derived.Test.YtpmoidpncpfnlaaCelA
namespace Go.Proofs.Ytpmoidpncpfnlaa
open Go.RowKit
set_option linter.unusedVariables false
set_option linter.unusedSimpArgs false

/-- cells lie one beside another behind an address -/
def CsAt (w : World) (a : Option Addr) (L : List Ce) : Prop := ∀ j, j < L.length → ∃ b off, a = some ⟨b, off, none⟩ ∧ w.rangeAt b (off + j * 72) (L.getD j ceZ).A.toList
theorem CsAt.below {w w' : World} {a : Option Addr} {L : List Ce} (h : CsAt w a L) (hb : Below w.heap.size w w') : CsAt w' a L := fun j hj => by
  obtain ⟨b, off, e, h1⟩ := h j hj
  exact ⟨b, off, e, fun i v hv => (hb.cell (World.block_lt_of_cell? w _ (h1 i v hv))).trans (h1 i v hv)⟩
def All72 (L : List Ce) : Prop := ∀ j, j < L.length → (L.getD j ceZ).H.length = 65
/-- what lies in the first places of a box that holds a cell -/
theorem Kept.cell7 {w : World} {g : Nat} {c : Ce} {t : TypeId} (h : Kept w g c.A t) : w.cell? ⟨g, 0, none⟩ = some (.int .i64 c.n) ∧ w.cell? ⟨g, 1, none⟩ = some (.int .i64 (hiW c.z)) ∧ w.cell? ⟨g, 2, none⟩ = some (.int .u64 (loW c.z)) ∧ w.cell? ⟨g, 3, none⟩ = some (.int .i64 c.mn) ∧ w.cell? ⟨g, 4, none⟩ = some (.int .i64 c.mx) ∧ w.cell? ⟨g, 5, none⟩ = some (.int .i64 c.ce) ∧ w.cell? ⟨g, 6, none⟩ = some (.int .i64 c.po) :=
  ⟨(h.at_ 0).1, (h.at_ 1).1, (h.at_ 2).1, (h.at_ 3).1, (h.at_ 4).1, (h.at_ 5).1, (h.at_ 6).1⟩
set_option maxHeartbeats 2000000 in
set_option maxRecDepth 1000000 in
theorem of1_any (c : Ce) (W : World) : Calls Try.prog 41 #[.agg c.A] W (Gives (.int .i64 c.n) W) := by
  have K : Hid (Kept (W.alloc (.cells c.A 29)) W.heap.size c.A 29) := Lib.hid (Kept.new rfl)
  have B := Lib.hid (one_alloc W (.cells c.A 29))
  obtain ⟨q, -⟩ := K.out.cell7
  generalize c.n = n at *
  generalize c.A = C at *
  clear K
  go_enter Try.func41, Try.ntmps41
  go_wp2
  go_ret
  exact ⟨rfl, B.out⟩
set_option maxHeartbeats 2000000 in
set_option maxRecDepth 1000000 in
theorem of2_any (c : Ce) (W : World) : Calls Try.prog 42 #[.agg c.A] W (Gives (.int .i64 c.ce) W) := by
  have K : Hid (Kept (W.alloc (.cells c.A 29)) W.heap.size c.A 29) := Lib.hid (Kept.new rfl)
  have B := Lib.hid (one_alloc W (.cells c.A 29))
  obtain ⟨-, -, -, -, -, q, -⟩ := K.out.cell7
  generalize c.ce = n at *
  generalize c.A = C at *
  clear K
  go_enter Try.func42, Try.ntmps42
  go_wp2
  go_ret
  exact ⟨rfl, B.out⟩
set_option maxHeartbeats 2000000 in
set_option maxRecDepth 1000000 in
theorem of3_any (c : Ce) (W : World) : Calls Try.prog 43 #[.agg c.A] W (Gives (.int .i64 c.po) W) := by
  have K : Hid (Kept (W.alloc (.cells c.A 29)) W.heap.size c.A 29) := Lib.hid (Kept.new rfl)
  have B := Lib.hid (one_alloc W (.cells c.A 29))
  obtain ⟨-, -, -, -, -, -, q⟩ := K.out.cell7
  generalize c.po = n at *
  generalize c.A = C at *
  clear K
  go_enter Try.func43, Try.ntmps43
  go_wp2
  go_ret
  exact ⟨rfl, B.out⟩
end Go.Proofs.Ytpmoidpncpfnlaa
