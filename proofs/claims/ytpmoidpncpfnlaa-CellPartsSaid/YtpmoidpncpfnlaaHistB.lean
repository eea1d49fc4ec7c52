/- hist.right, Of: for every list. -/
import Derived.Test.YtpmoidpncpfnlaaHistA
namespace Go.Proofs.Ytpmoidpncpfnlaa
open Go.RowKit
set_option linter.unusedVariables false

def okL (l : List Int) : Bool := (List.range 65).all fun k => decide (0 ≤ l.getD k 0)
theorem okL_iff {l : List Int} : okL l = true ↔ ∀ k, k < 65 → 0 ≤ l.getD k 0 := by
  unfold okL
  rw [List.all_eq_true]
  exact ⟨fun h k hk => of_decide_eq_true (h k (List.mem_range.2 hk)), fun h k hk => decide_eq_true (h k (List.mem_range.1 hk))⟩
theorem okL_no {l : List Int} {k : Nat} (hk : k < 65) (h : ¬ 0 ≤ l.getD k 0) : okL l = false := by
  cases e : okL l with
  | false => rfl
  | true => exact absurd (okL_iff.1 e k hk) h
def OkRel (l : List Int) (i : Value) : Prop := ∃ k : Nat, k ≤ 65 ∧ i = .int .i64 k ∧ Hid (∀ j, j < k → 0 ≤ l.getD j 0)
set_option maxHeartbeats 2000000 in
set_option maxRecDepth 1000000 in
theorem hright_any (l : List Int) (hl : l.length = 65) (w : World) : Calls Try.prog 89 #[.agg (hC l)] w (Gives (.bool (okL l)) w) := by
  have HI := Lib.hid (fun k hk W => h_index l hl k hk W)
  have HG : Hid ((w.alloc (.cells (hC l) 27)).heap[w.heap.size]? = some (.cells (hC l) 27 (0, 0))) := Lib.hid (heap_alloc_new w _)
  have hi : (Try.prog.info? 27).map (·.size) = some (hC l).size := by rw [hC_size, hl]; exact h_info
  have Fyes : Hid ((∀ j, j < 65 → 0 ≤ l.getD j 0) → okL l = true) := Lib.hid fun h => okL_iff.2 h
  have Fno : Hid (∀ k, k < 65 → ¬ 0 ≤ l.getD k 0 → okL l = false) := Lib.hid fun k hk h => okL_no hk h
  obtain ⟨C, hC1⟩ : ∃ C, hC l = C := ⟨_, rfl⟩
  rw [hC1] at HI HG hi
  rw [hC1]
  generalize okL l = res at *
  clear hC1 hl
  go_enter Try.func89, Try.ntmps89
  go_wp2_with (refine wpList_load_row rfl 27 _ rfl w.heap.size rfl 27 C (0, 0) _ HG.out h_under rfl hi ?_)
  have B0 : Hid (Below w.heap.size w (w.alloc (.cells C 27))) := Lib.hid (one_alloc _ _)
  clear HG hi
  generalize w.alloc (.cells C 27) = W at *
  go_loop [6] (fun i => OkRel l i) (fun i => 65 - (intOf i).toNat)
  case atStart => exact ⟨0, by omega, rfl, Lib.hid (fun j hj => by omega)⟩
  case round =>
    obtain ⟨k, hk, rfl, HV⟩ := hrel
    by_cases hlt : k < 65
    · have hx := HI.out k hlt
      obtain ⟨v, hv⟩ : ∃ v, l.getD k 0 = v := ⟨_, rfl⟩
      rw [hv] at hx
      by_cases h0 : 0 ≤ v
      · have d0 : decide (v < 0) = false := decide_eq_false (by omega)
        have F : Hid (OkRel l (.int .i64 ((k : Int) + 1))) := Lib.hid ⟨k + 1, hlt, rfl, Lib.hid (fun j hj => by
          by_cases e : j = k
          · rw [e, hv]; exact h0
          · exact HV.out j (by omega))⟩
        have HLT := Lib.hid hlt
        have hkk : (k : Int) < 65 := by omega
        clear h0 hv hlt hk
        go_wp2
        go_round
        case rel => exact F.out
        case measure => have := HLT.out; simp [intOf]; omega
      · have d0 : decide (v < 0) = true := decide_eq_true (by omega)
        have F := Lib.hid (Fno.out k hlt (by rw [hv]; omega))
        have hkk : (k : Int) < 65 := by omega
        clear h0 hv hlt hk
        go_wp2
        go_ret
        exact ⟨ret_bool F.out.symm, B0.out⟩
    · have F := Lib.hid (Fyes.out (fun j hj => HV.out j (by omega)))
      have hkk : ¬ (k : Int) < 65 := by omega
      clear hlt hk
      go_wp2
      go_ret
      exact ⟨ret_bool F.out.symm, B0.out⟩
theorem getD_in {l : List Int} (h : ∀ x ∈ l, InI x) (k : Nat) (hk : k < l.length) : InI (l.getD k 0) := getD_of_all l h k hk
theorem take_int (l : List Int) (k : Nat) (hk : k < l.length) : l.take (k + 1) = l.take k ++ [l.getD k 0] := by
  rw [List.take_add_one]
  simp [List.getD, List.getElem?_eq_getElem hk]
def HoRel (l : List Int) (w : World) (i : Value) (wr : World) : Prop := ∃ k : Nat, k ≤ l.length ∧ i = .int .i64 k ∧ Hid (Kept wr (w.heap.size + 1) (hC (cntL (l.take k))) 27) ∧ Hid (Kept wr w.heap.size (hC zeros65) 27) ∧ Hid (Below w.heap.size w wr)
set_option maxHeartbeats 4000000 in
set_option maxRecDepth 1000000 in
theorem hof_any (a : Option Addr) (c : Nat) (l : List Int) (w : World) (hr : IntRow w a .i64 l) (hin : ∀ x ∈ l, InI x) (hl : l.length ≤ 4000000000) : Calls Try.prog 26 #[.slice a l.length c] w (Gives (.agg (hC (cntL l))) w) := by
  have hz := h_zero
  have HR := Lib.hid hr
  have HN := Lib.hid hin
  obtain ⟨Z, hZ⟩ : ∃ Z, hC zeros65 = Z := ⟨_, rfl⟩
  have zs : (Try.prog.info? 27).map (·.size) = some Z.size := by rw [← hZ, hC_size, zeros65_len]; exact h_info
  rw [hZ] at hz
  have HS : Hid (HoRel l w (.int .i64 0) ((w.alloc (.cells Z 27)).alloc (.cells Z 27))) := Lib.hid ⟨0, Nat.zero_le _, rfl, Lib.hid (by
    rw [List.take_zero, cntL_nil, hZ]
    exact Kept.new (by simp)), Lib.hid (by rw [hZ]; exact (Kept.new rfl).alloc _), Lib.hid ((one_alloc _ _).alloc (by simp) _)⟩
  have HZ := Lib.hid hZ
  clear hr hin hZ
  go_enter Try.func26, Try.ntmps26
  go_wp2
  go_loopw [8] (fun i wr => HoRel l w i wr) (fun i _ => l.length - (intOf i).toNat)
  case atStart => exact HS.out
  case round =>
    obtain ⟨k, hk, rfl, H0, R0, B0⟩ := hrel
    clear HS hz
    by_cases hlt : k < l.length
    · obtain ⟨b, off, rfl, h1⟩ := HR.out k hlt
      have c1 := (B0.out.cell (World.block_lt_of_cell? w _ h1)).trans h1
      have hin := getD_in HN.out k hlt
      have htk := take_int l k hlt
      have hlen := cntL_le (l.take k)
      rw [List.length_take] at hlen
      obtain ⟨x, hx⟩ : ∃ x, l.getD k 0 = x := ⟨_, rfl⟩
      rw [hx] at c1 hin htk
      have hb65 := bkt_lt hin
      have hsn := cntL_snoc (l.take k) x hin
      have Cb := Lib.hid (fun W => bucket_any x W hin)
      obtain ⟨n, hn⟩ : ∃ n, bkt x = n := ⟨_, rfl⟩
      rw [hn] at hb65 hsn Cb
      have hcl := hlen n hb65
      have hcell := H0.out.cellK n (by rw [cntL_len]; exact hb65)
      obtain ⟨v, hv⟩ : ∃ v, (cntL (l.take k)).getD n 0 = v := ⟨_, rfl⟩
      rw [hv] at hsn hcl hcell
      obtain ⟨g1, g2⟩ := hcell
      obtain ⟨v0, v1⟩ : 0 ≤ v ∧ v ≤ 4000000000 := by omega
      have K1 : Hid (Kept (wr.setCell ⟨w.heap.size + 1, n, none⟩ (.int .i64 (v + 1))) (w.heap.size + 1) (hC (cntL (l.take (k + 1)))) 27) := Lib.hid (by
        rw [htk, hsn, ← hC_set]
        exact H0.out.set n _)
      have R1 : Hid (Kept (wr.setCell ⟨w.heap.size + 1, n, none⟩ (.int .i64 (v + 1))) w.heap.size (hC zeros65) 27) := Lib.hid (R0.out.far (p := ⟨w.heap.size + 1, n, none⟩) (by simp) _)
      have B1 : Hid (Below w.heap.size w (wr.setCell ⟨w.heap.size + 1, n, none⟩ (.int .i64 (v + 1)))) := Lib.hid (B0.out.setCell (by simp) _)
      have F : Hid (HoRel l w (.int .i64 ((k : Int) + 1)) (wr.setCell ⟨w.heap.size + 1, n, none⟩ (.int .i64 (v + 1)))) := Lib.hid ⟨k + 1, hlt, rfl, K1, R1, B1⟩
      have hn2 : (n : Int) < 65 := by omega
      have HLT := Lib.hid hlt
      clear htk hsn hcl hlen hin hx hn hv K1 R1 B1 h1 HR HN
      go_wp2_with fail
      refine (Cb.out _).mono ?_
      rintro _ _ ⟨rfl, rfl⟩
      go_wp2
      go_roundw
      case rel => exact F.out
      case measure => have := HLT.out; simp [intOf]; omega
    · obtain rfl : k = l.length := by omega
      have H1 := H0.out
      rw [List.take_length] at H1
      have hz1 : (Try.prog.info? 27).map (·.size) = some (hC (cntL l)).size := by rw [hC_size, cntL_len]; exact h_info
      have hz2 : (hC zeros65).size = (hC (cntL l)).size := by rw [hC_size, hC_size, cntL_len, zeros65_len]
      have hz3 := hC_cells (cntL l)
      have RF : Hid (Kept (wr.setRow w.heap.size (hC (cntL l))) w.heap.size (hC (cntL l)) 27) := Lib.hid (R0.out.setRow _)
      have BF : Hid (Below w.heap.size w (wr.setRow w.heap.size (hC (cntL l)))) := Lib.hid (below_setRow B0.out (Nat.le_refl _) _)
      have H2 := Lib.hid H1
      clear H1 H0 hlt hk
      generalize hC (cntL l) = C at *
      generalize hC zeros65 = ZZ at *
      go_wp2_with (first
        | refine wpList_load_row rfl 27 _ rfl (w.heap.size + 1) rfl 27 C (0, 0) _ H2.out h_under rfl hz1 ?_
        | refine wpList_store_row rfl 27 _ _ rfl w.heap.size C rfl rfl 27 ZZ R0.out hz1 hz2 hz3 ?_)
      refine bodyPost_ret (v := .agg C) (results_cell_row rfl _ _ w.heap.size 27 C (0, 0) _ rfl RF.out h_under rfl hz1) rfl ?_
      exact ⟨rfl, BF.out⟩
end Go.Proofs.Ytpmoidpncpfnlaa
