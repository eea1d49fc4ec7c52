/- cell.Note, of any contract of Right: a right cell. -/
import Derived.Test.YtpmoidpncpfnlaaCelH
namespace Go.Proofs.Ytpmoidpncpfnlaa
open Go.RowKit
set_option linter.unusedVariables false
set_option linter.unusedSimpArgs false

set_option maxHeartbeats 4000000 in
set_option maxRecDepth 1000000 in
theorem note_over_true (c : Ce) (w : World) (h65 : c.H.length = 65) (hR : ∀ W, Calls Try.prog 12 #[.agg c.A] W (Gives (.bool true) W)) (ho : c.ce = 9223372036854775807) :
    Calls Try.prog 16 #[.agg c.A, .bool true] w (NoteOut true c true w) := by
  have hz := c_zero
  obtain ⟨Z, hZ⟩ : ∃ Z, ceZ.A = Z := ⟨_, rfl⟩
  have z72 : Z.size = 72 := by rw [← hZ]; exact ce_size _ rfl
  have zs : (Try.prog.info? 29).map (·.size) = some Z.size := by rw [z72]; exact c_info
  have za : Z.all (·.oneCell') = true := by rw [← hZ]; exact ce_cells _
  rw [hZ] at hz
  have HZ := Lib.hid hZ
  have HR := Lib.hid hR
  have c72 : c.A.size = 72 := ce_size _ h65
  have FIN : Hid (∀ W, Below w.heap.size w W → NoteOut true c true w (.returned (.tuple #[.agg Z, .int .i64 12])) W) := Lib.hid fun W hb => ⟨by
    have e : noteC true c true = (ceZ, 12) := by simp [noteC, ho]
    rw [e, ← hZ], hb⟩
  have G1 : Hid (Kept ((w.alloc (.cells c.A 29)).alloc (.cells Z 29)) w.heap.size c.A 29) := Lib.hid ((Kept.new rfl).alloc _)
  have CELL : Hid (∀ W, Kept W w.heap.size c.A 29 → W.cell? ⟨w.heap.size, 5, none⟩ = some (.int .i64 9223372036854775807)) := Lib.hid fun W h => by rw [← ho]; exact (h.at_ 5).1
  generalize c.A = C at *
  have ci : (Try.prog.info? 29).map (·.size) = some C.size := by rw [c72]; exact c_info
  have G2 : Hid (Kept ((w.alloc (.cells C 29)).alloc (.cells Z 29)) (w.heap.size + 1) Z 29) := Lib.hid (Kept.new (by simp))
  have B0 : Hid (Below w.heap.size w ((w.alloc (.cells C 29)).alloc (.cells Z 29))) := Lib.hid ((one_alloc _ _).alloc (by simp) _)
  clear hZ hR h65 z72 c72 ho
  go_enter Try.func16, Try.ntmps16
  go_wp2_with (refine wpList_load_row rfl 29 _ rfl w.heap.size rfl 29 C (0, 0) _ G1.out Try.underlying29 rfl ci ?_)
  refine (HR.out _).mono ?_
  rintro _ w1 ⟨rfl, b1⟩
  have K1 := Lib.hid (G1.out.next b1)
  have K2 := Lib.hid (G2.out.next b1)
  have q := CELL.out _ K1.out
  have B1 := Lib.hid (B0.out.trans (b1.mono B0.out.size))
  have RF : Hid (Kept (w1.setRow (w.heap.size + 1) Z) (w.heap.size + 1) Z 29) := Lib.hid (Kept.setRow K2.out _)
  have BF := Lib.hid (below_setRow B1.out (g := w.heap.size + 1) (by omega) Z)
  have hld := run_loadVar_row (P := Try.prog) (w1.setRow (w.heap.size + 1) Z) (w.heap.size + 1) 29 29 Z (0, 0) _ RF.out Try.underlying29 rfl zs
  clear b1 G1 G2 B0 B1 K1
  go_wp2_with (first
    | refine wpList_cz rfl rfl Z HZ.out ?_
    | refine wpList_store_row rfl 29 _ _ rfl (w.heap.size + 1) Z rfl rfl 29 Z K2.out zs rfl za ?_)
  refine bodyPost_ret (v := .tuple #[.agg Z, .int .i64 12]) (by simp [results, Try.results16, asAddr, Result.andThen, hld]) rfl ?_
  exact FIN.out _ BF.out
set_option maxHeartbeats 4000000 in
set_option maxRecDepth 1000000 in
theorem note_over_false (c : Ce) (w : World) (h65 : c.H.length = 65) (hR : ∀ W, Calls Try.prog 12 #[.agg c.A] W (Gives (.bool true) W)) (ho : c.po = 9223372036854775807) :
    Calls Try.prog 16 #[.agg c.A, .bool false] w (NoteOut true c false w) := by
  have hz := c_zero
  obtain ⟨Z, hZ⟩ : ∃ Z, ceZ.A = Z := ⟨_, rfl⟩
  have z72 : Z.size = 72 := by rw [← hZ]; exact ce_size _ rfl
  have zs : (Try.prog.info? 29).map (·.size) = some Z.size := by rw [z72]; exact c_info
  have za : Z.all (·.oneCell') = true := by rw [← hZ]; exact ce_cells _
  rw [hZ] at hz
  have HZ := Lib.hid hZ
  have HR := Lib.hid hR
  have c72 : c.A.size = 72 := ce_size _ h65
  have FIN : Hid (∀ W, Below w.heap.size w W → NoteOut true c false w (.returned (.tuple #[.agg Z, .int .i64 12])) W) := Lib.hid fun W hb => ⟨by
    have e : noteC true c false = (ceZ, 12) := by simp [noteC, ho]
    rw [e, ← hZ], hb⟩
  have G1 : Hid (Kept ((w.alloc (.cells c.A 29)).alloc (.cells Z 29)) w.heap.size c.A 29) := Lib.hid ((Kept.new rfl).alloc _)
  have CELL : Hid (∀ W, Kept W w.heap.size c.A 29 → W.cell? ⟨w.heap.size, 6, none⟩ = some (.int .i64 9223372036854775807)) := Lib.hid fun W h => by rw [← ho]; exact (h.at_ 6).1
  generalize c.A = C at *
  have ci : (Try.prog.info? 29).map (·.size) = some C.size := by rw [c72]; exact c_info
  have G2 : Hid (Kept ((w.alloc (.cells C 29)).alloc (.cells Z 29)) (w.heap.size + 1) Z 29) := Lib.hid (Kept.new (by simp))
  have B0 : Hid (Below w.heap.size w ((w.alloc (.cells C 29)).alloc (.cells Z 29))) := Lib.hid ((one_alloc _ _).alloc (by simp) _)
  clear hZ hR h65 z72 c72 ho
  go_enter Try.func16, Try.ntmps16
  go_wp2_with (refine wpList_load_row rfl 29 _ rfl w.heap.size rfl 29 C (0, 0) _ G1.out Try.underlying29 rfl ci ?_)
  refine (HR.out _).mono ?_
  rintro _ w1 ⟨rfl, b1⟩
  have K1 := Lib.hid (G1.out.next b1)
  have K2 := Lib.hid (G2.out.next b1)
  have q := CELL.out _ K1.out
  have B1 := Lib.hid (B0.out.trans (b1.mono B0.out.size))
  have RF : Hid (Kept (w1.setRow (w.heap.size + 1) Z) (w.heap.size + 1) Z 29) := Lib.hid (Kept.setRow K2.out _)
  have BF := Lib.hid (below_setRow B1.out (g := w.heap.size + 1) (by omega) Z)
  have hld := run_loadVar_row (P := Try.prog) (w1.setRow (w.heap.size + 1) Z) (w.heap.size + 1) 29 29 Z (0, 0) _ RF.out Try.underlying29 rfl zs
  clear b1 G1 G2 B0 B1 K1
  go_wp2_with (first
    | refine wpList_cz rfl rfl Z HZ.out ?_
    | refine wpList_store_row rfl 29 _ _ rfl (w.heap.size + 1) Z rfl rfl 29 Z K2.out zs rfl za ?_)
  refine bodyPost_ret (v := .tuple #[.agg Z, .int .i64 12]) (by simp [results, Try.results16, asAddr, Result.andThen, hld]) rfl ?_
  exact FIN.out _ BF.out
set_option maxHeartbeats 4000000 in
set_option maxRecDepth 1000000 in
theorem note_ok_true (c : Ce) (w : World) (h65 : c.H.length = 65) (hR : ∀ W, Calls Try.prog 12 #[.agg c.A] W (Gives (.bool true) W)) (ho : ¬ c.ce = 9223372036854775807) (hi : InI c.ce) :
    Calls Try.prog 16 #[.agg c.A, .bool true] w (NoteOut true c true w) := by
  have hz := c_zero
  obtain ⟨Z, hZ⟩ : ∃ Z, ceZ.A = Z := ⟨_, rfl⟩
  have z72 : Z.size = 72 := by rw [← hZ]; exact ce_size _ rfl
  have zs : (Try.prog.info? 29).map (·.size) = some Z.size := by rw [z72]; exact c_info
  have za : Z.all (·.oneCell') = true := by rw [← hZ]; exact ce_cells _
  rw [hZ] at hz
  have HZ := Lib.hid hZ
  have HR := Lib.hid hR
  have c72 : c.A.size = 72 := ce_size _ h65
  have FIN : Hid (∀ W, Below w.heap.size w W → NoteOut true c true w (.returned (.tuple #[.agg ({ c with ce := c.ce + 1 } : Ce).A, .int .i64 0])) W) := Lib.hid fun W hb => ⟨by
    have e : noteC true c true = ({ c with ce := c.ce + 1 }, 0) := by simp [noteC, ho]
    rw [e], hb⟩
  have G1 : Hid (Kept ((w.alloc (.cells c.A 29)).alloc (.cells Z 29)) w.heap.size c.A 29) := Lib.hid ((Kept.new rfl).alloc _)
  have CELL : Hid (∀ W, Kept W w.heap.size c.A 29 → W.cell? ⟨w.heap.size, 5, none⟩ = some (.int .i64 c.ce) ∧ W.frozen? ⟨w.heap.size, 5, none⟩ = false) := Lib.hid fun W h => h.at_ 5
  have SET : Hid (∀ W, Kept W w.heap.size c.A 29 → Kept (W.setCell ⟨w.heap.size, 5, none⟩ (.int .i64 (c.ce + 1))) w.heap.size ({ c with ce := c.ce + 1 } : Ce).A 29) := Lib.hid fun W h => by rw [← ceA_set5]; exact h.set 5 _
  have n72 : ({ c with ce := c.ce + 1 } : Ce).A.size = 72 := ce_size _ h65
  have na := ce_cells { c with ce := c.ce + 1 }
  have hw : wrap64 (c.ce + 1) = c.ce + 1 := by unfold InI at hi; unfold wrap64; omega
  generalize ({ c with ce := c.ce + 1 } : Ce).A = N at *
  generalize c.A = C at *
  obtain ⟨t, ht⟩ : ∃ t, c.ce = t := ⟨_, rfl⟩
  rw [ht] at CELL SET ho hw
  have hq : (t == 9223372036854775807) = false := by simp [ho]
  have ci : (Try.prog.info? 29).map (·.size) = some C.size := by rw [c72]; exact c_info
  have ni : (Try.prog.info? 29).map (·.size) = some N.size := by rw [n72]; exact c_info
  have zn : Z.size = N.size := by rw [z72, n72]
  have G2 : Hid (Kept ((w.alloc (.cells C 29)).alloc (.cells Z 29)) (w.heap.size + 1) Z 29) := Lib.hid (Kept.new (by simp))
  have B0 : Hid (Below w.heap.size w ((w.alloc (.cells C 29)).alloc (.cells Z 29))) := Lib.hid ((one_alloc _ _).alloc (by simp) _)
  clear hZ hR h65 z72 c72 ht hi n72
  go_enter Try.func16, Try.ntmps16
  go_wp2_with (refine wpList_load_row rfl 29 _ rfl w.heap.size rfl 29 C (0, 0) _ G1.out Try.underlying29 rfl ci ?_)
  refine (HR.out _).mono ?_
  rintro _ w1 ⟨rfl, b1⟩
  have K1 := Lib.hid (G1.out.next b1)
  have K2 := Lib.hid (G2.out.next b1)
  obtain ⟨q1, q2⟩ := CELL.out _ K1.out
  have B1 := Lib.hid (B0.out.trans (b1.mono B0.out.size))
  have K3 := Lib.hid (SET.out _ K1.out)
  have K4 : Hid (Kept (w1.setCell ⟨w.heap.size, 5, none⟩ (.int .i64 (t + 1))) (w.heap.size + 1) Z 29) := Lib.hid (K2.out.far (p := ⟨w.heap.size, 5, none⟩) (by simp) _)
  have B2 : Hid (Below w.heap.size w (w1.setCell ⟨w.heap.size, 5, none⟩ (.int .i64 (t + 1)))) := Lib.hid (B1.out.setCell (by simp) _)
  have RF : Hid (Kept ((w1.setCell ⟨w.heap.size, 5, none⟩ (.int .i64 (t + 1))).setRow (w.heap.size + 1) N) (w.heap.size + 1) N 29) := Lib.hid (Kept.setRow K4.out _)
  have BF := Lib.hid (below_setRow B2.out (g := w.heap.size + 1) (by omega) N)
  have hld := run_loadVar_row (P := Try.prog) ((w1.setCell ⟨w.heap.size, 5, none⟩ (.int .i64 (t + 1))).setRow (w.heap.size + 1) N) (w.heap.size + 1) 29 29 N (0, 0) _ RF.out Try.underlying29 rfl ni
  clear b1 G1 G2 B0 B1 B2 K1 K2
  go_wp2_with (first
    | refine wpList_load_row rfl 29 _ rfl w.heap.size rfl 29 N (0, 0) _ K3.out Try.underlying29 rfl ni ?_
    | refine wpList_store_row rfl 29 _ _ rfl (w.heap.size + 1) N rfl rfl 29 Z K4.out ni zn na ?_)
  refine bodyPost_ret (v := .tuple #[.agg N, .int .i64 0]) (by simp [results, Try.results16, asAddr, Result.andThen, hld]) rfl ?_
  exact FIN.out _ BF.out
set_option maxHeartbeats 4000000 in
set_option maxRecDepth 1000000 in
theorem note_ok_false (c : Ce) (w : World) (h65 : c.H.length = 65) (hR : ∀ W, Calls Try.prog 12 #[.agg c.A] W (Gives (.bool true) W)) (ho : ¬ c.po = 9223372036854775807) (hi : InI c.po) :
    Calls Try.prog 16 #[.agg c.A, .bool false] w (NoteOut true c false w) := by
  have hz := c_zero
  obtain ⟨Z, hZ⟩ : ∃ Z, ceZ.A = Z := ⟨_, rfl⟩
  have z72 : Z.size = 72 := by rw [← hZ]; exact ce_size _ rfl
  have zs : (Try.prog.info? 29).map (·.size) = some Z.size := by rw [z72]; exact c_info
  have za : Z.all (·.oneCell') = true := by rw [← hZ]; exact ce_cells _
  rw [hZ] at hz
  have HZ := Lib.hid hZ
  have HR := Lib.hid hR
  have c72 : c.A.size = 72 := ce_size _ h65
  have FIN : Hid (∀ W, Below w.heap.size w W → NoteOut true c false w (.returned (.tuple #[.agg ({ c with po := c.po + 1 } : Ce).A, .int .i64 0])) W) := Lib.hid fun W hb => ⟨by
    have e : noteC true c false = ({ c with po := c.po + 1 }, 0) := by simp [noteC, ho]
    rw [e], hb⟩
  have G1 : Hid (Kept ((w.alloc (.cells c.A 29)).alloc (.cells Z 29)) w.heap.size c.A 29) := Lib.hid ((Kept.new rfl).alloc _)
  have CELL : Hid (∀ W, Kept W w.heap.size c.A 29 → W.cell? ⟨w.heap.size, 6, none⟩ = some (.int .i64 c.po) ∧ W.frozen? ⟨w.heap.size, 6, none⟩ = false) := Lib.hid fun W h => h.at_ 6
  have SET : Hid (∀ W, Kept W w.heap.size c.A 29 → Kept (W.setCell ⟨w.heap.size, 6, none⟩ (.int .i64 (c.po + 1))) w.heap.size ({ c with po := c.po + 1 } : Ce).A 29) := Lib.hid fun W h => by rw [← ceA_set6]; exact h.set 6 _
  have n72 : ({ c with po := c.po + 1 } : Ce).A.size = 72 := ce_size _ h65
  have na := ce_cells { c with po := c.po + 1 }
  have hw : wrap64 (c.po + 1) = c.po + 1 := by unfold InI at hi; unfold wrap64; omega
  generalize ({ c with po := c.po + 1 } : Ce).A = N at *
  generalize c.A = C at *
  obtain ⟨t, ht⟩ : ∃ t, c.po = t := ⟨_, rfl⟩
  rw [ht] at CELL SET ho hw
  have hq : (t == 9223372036854775807) = false := by simp [ho]
  have ci : (Try.prog.info? 29).map (·.size) = some C.size := by rw [c72]; exact c_info
  have ni : (Try.prog.info? 29).map (·.size) = some N.size := by rw [n72]; exact c_info
  have zn : Z.size = N.size := by rw [z72, n72]
  have G2 : Hid (Kept ((w.alloc (.cells C 29)).alloc (.cells Z 29)) (w.heap.size + 1) Z 29) := Lib.hid (Kept.new (by simp))
  have B0 : Hid (Below w.heap.size w ((w.alloc (.cells C 29)).alloc (.cells Z 29))) := Lib.hid ((one_alloc _ _).alloc (by simp) _)
  clear hZ hR h65 z72 c72 ht hi n72
  go_enter Try.func16, Try.ntmps16
  go_wp2_with (refine wpList_load_row rfl 29 _ rfl w.heap.size rfl 29 C (0, 0) _ G1.out Try.underlying29 rfl ci ?_)
  refine (HR.out _).mono ?_
  rintro _ w1 ⟨rfl, b1⟩
  have K1 := Lib.hid (G1.out.next b1)
  have K2 := Lib.hid (G2.out.next b1)
  obtain ⟨q1, q2⟩ := CELL.out _ K1.out
  have B1 := Lib.hid (B0.out.trans (b1.mono B0.out.size))
  have K3 := Lib.hid (SET.out _ K1.out)
  have K4 : Hid (Kept (w1.setCell ⟨w.heap.size, 6, none⟩ (.int .i64 (t + 1))) (w.heap.size + 1) Z 29) := Lib.hid (K2.out.far (p := ⟨w.heap.size, 6, none⟩) (by simp) _)
  have B2 : Hid (Below w.heap.size w (w1.setCell ⟨w.heap.size, 6, none⟩ (.int .i64 (t + 1)))) := Lib.hid (B1.out.setCell (by simp) _)
  have RF : Hid (Kept ((w1.setCell ⟨w.heap.size, 6, none⟩ (.int .i64 (t + 1))).setRow (w.heap.size + 1) N) (w.heap.size + 1) N 29) := Lib.hid (Kept.setRow K4.out _)
  have BF := Lib.hid (below_setRow B2.out (g := w.heap.size + 1) (by omega) N)
  have hld := run_loadVar_row (P := Try.prog) ((w1.setCell ⟨w.heap.size, 6, none⟩ (.int .i64 (t + 1))).setRow (w.heap.size + 1) N) (w.heap.size + 1) 29 29 N (0, 0) _ RF.out Try.underlying29 rfl ni
  clear b1 G1 G2 B0 B1 B2 K1 K2
  go_wp2_with (first
    | refine wpList_load_row rfl 29 _ rfl w.heap.size rfl 29 N (0, 0) _ K3.out Try.underlying29 rfl ni ?_
    | refine wpList_store_row rfl 29 _ _ rfl (w.heap.size + 1) N rfl rfl 29 Z K4.out ni zn na ?_)
  refine bodyPost_ret (v := .tuple #[.agg N, .int .i64 0]) (by simp [results, Try.results16, asAddr, Result.andThen, hld]) rfl ?_
  exact FIN.out _ BF.out
theorem note_any (c : Ce) (b : Bool) (w : World) (h65 : c.H.length = 65) (rt : Bool) (hR : ∀ W, Calls Try.prog 12 #[.agg c.A] W (Gives (.bool rt) W)) (h1 : InI c.ce) (h2 : InI c.po) :
    Calls Try.prog 16 #[.agg c.A, .bool b] w (NoteOut rt c b w) := by
  cases rt
  · exact note_wrong c b w h65 hR
  · cases b
    · by_cases ho : c.po = 9223372036854775807
      · exact note_over_false c w h65 hR ho
      · exact note_ok_false c w h65 hR ho h2
    · by_cases ho : c.ce = 9223372036854775807
      · exact note_over_true c w h65 hR ho
      · exact note_ok_true c w h65 hR ho h1
end Go.Proofs.Ytpmoidpncpfnlaa
