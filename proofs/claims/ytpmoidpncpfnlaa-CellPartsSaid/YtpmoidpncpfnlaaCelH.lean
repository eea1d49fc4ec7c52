/- cell.Note, of any contract of Right. -/
import Derived.Test.YtpmoidpncpfnlaaCelG
namespace Go.Proofs.Ytpmoidpncpfnlaa
open Go.RowKit
set_option linter.unusedVariables false
set_option linter.unusedSimpArgs false

def noteC (rt : Bool) (c : Ce) (b : Bool) : Ce × Int := if rt = false then (ceZ, 10) else if (if b then c.ce else c.po) = 9223372036854775807 then (ceZ, 12) else (if b then { c with ce := c.ce + 1 } else { c with po := c.po + 1 }, 0)
def NoteOut (rt : Bool) (c : Ce) (b : Bool) (w : World) (e : Ending) (w' : World) : Prop := e = .returned (.tuple #[.agg (noteC rt c b).1.A, .int .i64 (noteC rt c b).2]) ∧ Below w.heap.size w w'
theorem ceA_set5 (c : Ce) (v : Int) : c.A.setIfInBounds 5 (.int .i64 v) = ({ c with ce := v } : Ce).A := rfl
theorem ceA_set6 (c : Ce) (v : Int) : c.A.setIfInBounds 6 (.int .i64 v) = ({ c with po := v } : Ce).A := rfl
set_option maxHeartbeats 4000000 in
set_option maxRecDepth 1000000 in
theorem note_wrong (c : Ce) (b : Bool) (w : World) (h65 : c.H.length = 65) (hR : ∀ W, Calls Try.prog 12 #[.agg c.A] W (Gives (.bool false) W)) :
    Calls Try.prog 16 #[.agg c.A, .bool b] w (NoteOut false c b w) := by
  have hz := c_zero
  obtain ⟨Z, hZ⟩ : ∃ Z, ceZ.A = Z := ⟨_, rfl⟩
  have z72 : Z.size = 72 := by rw [← hZ]; exact ce_size _ rfl
  have zs : (Try.prog.info? 29).map (·.size) = some Z.size := by rw [z72]; exact c_info
  have za : Z.all (·.oneCell') = true := by rw [← hZ]; exact ce_cells _
  rw [hZ] at hz
  have HZ := Lib.hid hZ
  have HR := Lib.hid hR
  have c72 : c.A.size = 72 := ce_size _ h65
  have FIN : Hid (∀ W, Below w.heap.size w W → NoteOut false c b w (.returned (.tuple #[.agg Z, .int .i64 10])) W) := Lib.hid fun W hb => ⟨by show _ = Ending.returned (.tuple #[.agg ceZ.A, .int .i64 10]); rw [hZ], hb⟩
  generalize c.A = C at *
  have ci : (Try.prog.info? 29).map (·.size) = some C.size := by rw [c72]; exact c_info
  have G1 : Hid (Kept ((w.alloc (.cells C 29)).alloc (.cells Z 29)) w.heap.size C 29) := Lib.hid ((Kept.new rfl).alloc _)
  have G2 : Hid (Kept ((w.alloc (.cells C 29)).alloc (.cells Z 29)) (w.heap.size + 1) Z 29) := Lib.hid (Kept.new (by simp))
  have B0 : Hid (Below w.heap.size w ((w.alloc (.cells C 29)).alloc (.cells Z 29))) := Lib.hid ((one_alloc _ _).alloc (by simp) _)
  clear hZ hR h65 z72 c72
  cases b
  all_goals
    go_enter Try.func16, Try.ntmps16
    go_wp2_with (refine wpList_load_row rfl 29 _ rfl w.heap.size rfl 29 C (0, 0) _ G1.out Try.underlying29 rfl ci ?_)
    refine (HR.out _).mono ?_
    rintro _ w1 ⟨rfl, b1⟩
    have K2 := Lib.hid (G2.out.next b1)
    have B1 := Lib.hid (B0.out.trans (b1.mono B0.out.size))
    have RF : Hid (Kept (w1.setRow (w.heap.size + 1) Z) (w.heap.size + 1) Z 29) := Lib.hid (Kept.setRow K2.out _)
    have BF := Lib.hid (below_setRow B1.out (g := w.heap.size + 1) (by omega) Z)
    have hld := run_loadVar_row (P := Try.prog) (w1.setRow (w.heap.size + 1) Z) (w.heap.size + 1) 29 29 Z (0, 0) _ RF.out Try.underlying29 rfl zs
    clear b1 G1 G2 B0 B1
    go_wp2_with (first
      | refine wpList_cz rfl rfl Z HZ.out ?_
      | refine wpList_store_row rfl 29 _ _ rfl (w.heap.size + 1) Z rfl rfl 29 Z K2.out zs rfl za ?_)
    refine bodyPost_ret (v := .tuple #[.agg Z, .int .i64 10]) (by simp [results, Try.results16, asAddr, Result.andThen, hld]) rfl ?_
    exact FIN.out _ BF.out
end Go.Proofs.Ytpmoidpncpfnlaa
