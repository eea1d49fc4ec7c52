/- hist.Total. -/
import Derived.Test.YtpmoidpncpfnlaaHistD
import Derived.Test.YtpmoidpncpfnlaaWideG
namespace Go.Proofs.Ytpmoidpncpfnlaa
open Go.RowKit
set_option linter.unusedVariables false

theorem h_len : Try.prog.arrayLen 27 = 65 := by kernel_rfl
theorem h_elem : Try.prog.elem 27 = 2 := by kernel_rfl
theorem h_under2 : Try.prog.underlying 27 = some (.array (Try.prog.arrayLen 27) (Try.prog.elem 27)) := by kernel_rfl
theorem slice_h (g : Nat) (w : World) : (Instr.sliceAt 27 (.pointer (some ⟨g, 0, none⟩)) none none none).run Try.prog w = .ok (.slice (some ⟨g, 0, none⟩) 65 65) w := by
  rw [run_sliceAt_array_all w 27 ⟨g, 0, none⟩ h_under2, h_elem, h_len, Try.sizeOf2]
  show Result.ok (slicedAt _ _ _ _ _) w = _
  unfold slicedAt
  have e3 : (⟨g, 0, none⟩ : Addr).add (0 * 1) = ⟨g, 0, none⟩ := rfl
  rw [e3]
  simp
theorem Kept.intRow {w : World} {g : Nat} {l : List Int} {t : TypeId} (h : Kept w g (hC l) t) : IntRow w (some ⟨g, 0, none⟩) .i64 l := fun j hj => ⟨g, 0, rfl, by rw [Nat.zero_add]; exact (h.cellK j hj).1⟩
theorem all_of_getD {l : List Int} (h65 : l.length = 65) (hin : ∀ b, b < 65 → InI (l.getD b 0)) : ∀ x ∈ l, InI x := fun x hx => by
  obtain ⟨i, hi, e⟩ := List.getElem_of_mem hx
  have h := hin i (by omega)
  rw [List.getD_eq_getElem?_getD, List.getElem?_eq_getElem hi] at h
  rw [← e]; exact h
set_option maxHeartbeats 4000000 in
set_option maxRecDepth 1000000 in
theorem total_any (l : List Int) (w : World) (h65 : l.length = 65) (hin : ∀ b, b < 65 → InI (l.getD b 0)) : Calls Try.prog 22 #[.agg (hC l)] w (Gives (wI (isum l)) w) := by
  have CS : Hid (∀ W, Kept W w.heap.size (hC l) 27 → Calls Try.prog 23 #[.slice (some ⟨w.heap.size, 0, none⟩) 65 65] W (Gives (wI (isum l)) W)) := Lib.hid fun W hk => by
    have h := wsum_any _ 65 l W hk.intRow (all_of_getD h65 hin) (by omega)
    rw [h65] at h
    exact h
  have K0 : Hid (Kept ((w.alloc (.cells (hC l) 27)).alloc (.cells #[.int .i64 0, .int .u64 0] 25)) w.heap.size (hC l) 27) := Lib.hid ((Kept.new rfl).alloc _)
  have K1 : Hid (Kept ((w.alloc (.cells (hC l) 27)).alloc (.cells #[.int .i64 0, .int .u64 0] 25)) (w.heap.size + 1) #[.int .i64 0, .int .u64 0] 25) := Lib.hid (Kept.new (by simp))
  have BW : Hid (Below w.heap.size w ((w.alloc (.cells (hC l) 27)).alloc (.cells #[.int .i64 0, .int .u64 0] 25))) := Lib.hid ((one_alloc _ _).alloc (by simp) _)
  have Fin : Hid (∀ w', Below w.heap.size w w' → Gives (wI (isum l)) w (.returned (.agg #[.int .i64 (hiW (isum l)), .int .u64 (loW (isum l))])) w') := Lib.hid (fun w' h => ⟨rfl, h⟩)
  have hsl := slice_h w.heap.size
  unfold wI at CS
  generalize hiW (isum l) = h1 at *
  generalize loW (isum l) = l1 at *
  generalize hC l = C at *
  clear hin h65
  go_enter Try.func22, Try.ntmps22
  go_wp2_with fail
  generalize (w.alloc (.cells C 27)).alloc (.cells #[.int .i64 0, .int .u64 0] 25) = W at *
  refine (CS.out _ K0.out).mono ?_
  rintro _ w2 ⟨rfl, b2⟩
  have K2 := Lib.hid (K1.out.next b2)
  obtain ⟨q1, q2, q3, q4, q5⟩ := K2.out.two
  have B2 := Lib.hid (BW.out.trans (b2.mono BW.out.size))
  clear b2 CS K0 K1 BW
  go_wp2
  obtain ⟨r1, r2⟩ := K2.out.read2 (.int .i64 h1) (.int .u64 l1)
  refine bodyPost_ret (v := .agg #[.int .i64 h1, .int .u64 l1]) (by simp [results, Try.results22, go_sem, r1, r2]) rfl ?_
  exact Fin.out _ (bset2 B2.out (by omega) _ _)
end Go.Proofs.Ytpmoidpncpfnlaa
