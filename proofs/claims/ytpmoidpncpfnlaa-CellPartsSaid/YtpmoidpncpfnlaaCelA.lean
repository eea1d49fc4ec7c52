/- cell.Fold, for every input. -/
import Derived.Test.YtpmoidpncpfnlaaCelM
namespace Go.Proofs.Ytpmoidpncpfnlaa
open Go.RowKit
set_option linter.unusedVariables false
set_option linter.unusedSimpArgs false

def minL (l : List Int) : Int := if l = [] then 0 else Lib.minOf l
def maxL (l : List Int) : Int := if l = [] then 0 else Lib.maxOf l
def foldC (l : List Int) : Ce := ⟨l.length, isum l, minL l, maxL l, 0, 0, cntL l⟩
theorem foldC_nil : foldC [] = ceZ := by
  unfold foldC ceZ minL maxL
  rw [cntL_nil]
  rfl
theorem wpList_cz {ops : Array Oper} {rest : List Oper} {o : Oper} {a : Act} {w : World} {Q : Exit → Act → World → Prop} (hgd : o.guard = none) (ho : o.op = .build 29 #[]) (Z : Array Value) (hZ : ceZ.A = Z)
    (h : wpList Try.prog ops Q rest (a.put o.dst (.agg Z)) w) : wpList Try.prog ops Q (o :: rest) a w := by
  subst hZ
  exact wpList_build hgd 29 #[] ho (by simp [c_none]) (by simpa [c_none] using h)
theorem wpList_cb {ops : Array Oper} {rest : List Oper} {o : Oper} {a : Act} {w : World} {Q : Exit → Act → World → Prop} (hgd : o.guard = none) (parts : Array (Nat × Operand)) (ho : o.op = .build 29 parts) (vs : List (Nat × Value)) (hv : (parts.map fun (i, x) => (i, a.eval x)).toList = vs) (Z : Array Value) (hZ : Try.prog.built 29 vs = some Z)
    (h : wpList Try.prog ops Q rest (a.put o.dst (.agg Z)) w) : wpList Try.prog ops Q (o :: rest) a w := by
  subst hv
  exact wpList_build hgd 29 parts ho (by rw [hZ]; rfl) (by rw [hZ]; exact h)
set_option maxHeartbeats 4000000 in
set_option maxRecDepth 1000000 in
theorem cfold_nil (a : Option Addr) (c : Nat) (w : World) : Calls Try.prog 9 #[.slice a 0 c] w (Gives (.agg ceZ.A) w) := by
  have hz := c_zero
  obtain ⟨Z, hZ⟩ : ∃ Z, ceZ.A = Z := ⟨_, rfl⟩
  have z72 : Z.size = 72 := by rw [← hZ]; exact ce_size _ rfl
  have zs : (Try.prog.info? 29).map (·.size) = some Z.size := by rw [z72]; exact c_info
  have za : Z.all (·.oneCell') = true := by rw [← hZ]; exact ce_cells _
  rw [hZ] at hz ⊢
  have HZ := Lib.hid hZ
  have G1 : Hid ((w.alloc (.cells Z 29)).heap[w.heap.size]? = some (.cells Z 29 (0, 0))) := Lib.hid (heap_alloc_new w _)
  have RF : Hid (Kept ((w.alloc (.cells Z 29)).setRow w.heap.size Z) w.heap.size Z 29) := Lib.hid (Kept.setRow (Kept.new rfl) _)
  have BF : Hid (Below w.heap.size w ((w.alloc (.cells Z 29)).setRow w.heap.size Z)) := Lib.hid (below_setRow (one_alloc _ _) (Nat.le_refl _) _)
  clear hZ
  go_enter Try.func9, Try.ntmps9
  go_wp2_with (first
    | refine wpList_cz rfl rfl Z HZ.out ?_
    | refine wpList_store_row rfl 29 _ _ rfl w.heap.size Z rfl rfl 29 Z G1.out zs rfl za ?_)
  refine bodyPost_ret (v := .agg Z) (results_cell_row rfl _ _ w.heap.size 29 Z (0, 0) _ rfl RF.out Try.underlying29 rfl zs) rfl ?_
  exact ⟨rfl, BF.out⟩
theorem row_zero {w : World} {a : Option Addr} {l : List Int} (hr : IntRow w a .i64 l) (h : l ≠ []) : ∃ b off, a = some ⟨b, off, none⟩ ∧ ∀ j, j < l.length → w.cell? ⟨b, off + j, none⟩ = some (.int .i64 (l.getD j 0)) := by
  have h0 : 0 < l.length := List.length_pos_iff.2 h
  obtain ⟨b, off, rfl, -⟩ := hr 0 h0
  refine ⟨b, off, rfl, fun j hj => ?_⟩
  obtain ⟨b', off', e, h1⟩ := hr j hj
  cases e
  exact h1
set_option maxHeartbeats 4000000 in
set_option maxRecDepth 1000000 in
theorem cfold_more (b off c : Nat) (l : List Int) (w : World) (hr : IntRow w (some ⟨b, off, none⟩) .i64 l) (hc : ∀ j, j < l.length → w.cell? ⟨b, off + j, none⟩ = some (.int .i64 (l.getD j 0))) (hin : ∀ x ∈ l, InI x) (hl : l.length ≤ 4000000000) (h0 : l ≠ []) : Calls Try.prog 9 #[.slice (some ⟨b, off, none⟩) l.length c] w (Gives (.agg (foldC l).A) w) := by
  have hz := c_zero
  obtain ⟨Z, hZ⟩ : ∃ Z, ceZ.A = Z := ⟨_, rfl⟩
  have z72 : Z.size = 72 := by rw [← hZ]; exact ce_size _ rfl
  have zs : (Try.prog.info? 29).map (·.size) = some Z.size := by rw [z72]; exact c_info
  rw [hZ] at hz
  have h1 : 0 < l.length := List.length_pos_iff.2 h0
  have h2 : ¬ (l.length : Int) = 0 := by omega
  have G1 : Hid (Kept (w.alloc (.cells Z 29)) w.heap.size Z 29) := Lib.hid (Kept.new rfl)
  have B1 : Hid (Below w.heap.size w (w.alloc (.cells Z 29))) := Lib.hid (one_alloc _ _)
  have SUM : Hid (∀ W, Below w.heap.size w W → Calls Try.prog 23 #[.slice (some ⟨b, off, none⟩) l.length c] W (Gives (wI (isum l)) W)) := Lib.hid fun W hb => wsum_any _ c l W (hr.below hb) hin (by omega)
  have HOF : Hid (∀ W, Below w.heap.size w W → Calls Try.prog 26 #[.slice (some ⟨b, off, none⟩) l.length c] W (Gives (.agg (hC (cntL l))) W)) := Lib.hid fun W hb => hof_any _ c l W (hr.below hb) hin hl
  have MIN : Hid (∀ W, Below w.heap.size w W → Calls Try.prog 24 #[.slice (some ⟨b, off, none⟩) l.length c] W fun e w' => e = .returned (.int .i64 (minL l)) ∧ w' = W) := Lib.hid fun W hb => by
    have := Try.slices_Min_int b off l.length c l W h1 (Nat.le_refl _) (by omega) (fun j hj => keep1 hb (hc j hj))
    rw [List.take_length] at this
    unfold minL; rw [if_neg h0]; exact this
  have MAX : Hid (∀ W, Below w.heap.size w W → Calls Try.prog 25 #[.slice (some ⟨b, off, none⟩) l.length c] W fun e w' => e = .returned (.int .i64 (maxL l)) ∧ w' = W) := Lib.hid fun W hb => by
    have := Try.slices_Max_int b off l.length c l W h1 (Nat.le_refl _) (by omega) (fun j hj => keep1 hb (hc j hj))
    rw [List.take_length] at this
    unfold maxL; rw [if_neg h0]; exact this
  have h65 : (cntL l).length = 65 := cntL_len l
  have FB := Lib.hid (c_fold l.length (hiW (isum l)) (loW (isum l)) (minL l) (maxL l) (cntL l) h65)
  have e0 : (ceL l.length (hiW (isum l)) (loW (isum l)) (minL l) (maxL l) 0 0 (cntL l)).toArray = (foldC l).A := rfl
  rw [e0] at FB
  unfold wI at SUM
  have c72 : (foldC l).A.size = 72 := ce_size _ h65
  have ca := ce_cells (foldC l)
  generalize (foldC l).A = C at *
  have cs : (Try.prog.info? 29).map (·.size) = some C.size := by rw [c72]; exact c_info
  have zc : Z.size = C.size := by rw [z72, c72]
  generalize hC (cntL l) = D at *
  generalize hiW (isum l) = hi at *
  generalize loW (isum l) = lo at *
  generalize minL l = mn at *
  generalize maxL l = mx at *
  clear hr hc hin hl h0 h1 hZ h65 e0 z72 c72
  go_enter Try.func9, Try.ntmps9
  go_wp2_with fail
  refine (SUM.out _ B1.out).mono ?_
  rintro _ w1 ⟨rfl, b1⟩
  have B2 := Lib.hid (B1.out.trans (b1.mono B1.out.size))
  have G2 := Lib.hid (G1.out.next b1)
  clear b1 B1 G1
  go_wp2_with fail
  refine (MIN.out _ B2.out).mono ?_
  rintro _ _ ⟨rfl, rfl⟩
  go_wp2_with fail
  refine (MAX.out _ B2.out).mono ?_
  rintro _ _ ⟨rfl, rfl⟩
  go_wp2_with fail
  refine (HOF.out _ B2.out).mono ?_
  rintro _ w2 ⟨rfl, b2⟩
  have B3 := Lib.hid (B2.out.trans (b2.mono B2.out.size))
  have G3 := Lib.hid (G2.out.next b2)
  have RF : Hid (Kept (w2.setRow w.heap.size C) w.heap.size C 29) := Lib.hid (Kept.setRow G3.out _)
  have BF : Hid (Below w.heap.size w (w2.setRow w.heap.size C)) := Lib.hid (below_setRow B3.out (Nat.le_refl _) _)
  clear b2 B2 G2
  go_wp2_with (first
    | (refine wpList_cb rfl #[(0, Operand.tmp 8), (1, Operand.tmp 10), (2, Operand.tmp 12), (3, Operand.tmp 14), (6, Operand.tmp 16)] rfl [(0, .int .i64 (l.length : Int)), (1, .agg #[.int .i64 hi, .int .u64 lo]), (2, .int .i64 mn), (3, .int .i64 mx), (6, .agg D)] ?hv C FB.out ?_; (case hv => simp only [List.map_toArray, List.map_cons, List.map_nil]; rfl))
    | refine wpList_store_row rfl 29 _ _ rfl w.heap.size C rfl rfl 29 Z G3.out cs zc ca ?_)
  refine bodyPost_ret (v := .agg C) (results_cell_row rfl _ _ w.heap.size 29 C (0, 0) _ rfl RF.out Try.underlying29 rfl cs) rfl ?_
  exact ⟨rfl, BF.out⟩
theorem cfold_any (a : Option Addr) (c : Nat) (l : List Int) (w : World) (hr : IntRow w a .i64 l) (hin : ∀ x ∈ l, InI x) (hl : l.length ≤ 4000000000) : Calls Try.prog 9 #[.slice a l.length c] w (Gives (.agg (foldC l).A) w) := by
  by_cases h : l = []
  · subst h; rw [foldC_nil]; exact cfold_nil a c w
  · obtain ⟨b, off, rfl, hc⟩ := row_zero hr h
    exact cfold_more b off c l w hr hc hin hl h
end Go.Proofs.Ytpmoidpncpfnlaa
