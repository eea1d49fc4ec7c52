/- cell.hists, for every row of cells. -/
import Derived.Test.YtpmoidpncpfnlaaCelE
import Derived.Deep.DeepCutAuto
namespace Go.Proofs.Ytpmoidpncpfnlaa
open Go.RowKit
set_option linter.unusedVariables false
set_option linter.unusedSimpArgs false

def HsRel (L : List Ce) (w : World) (v i : Value) (wr : World) : Prop := ∃ k : Nat, k ≤ L.length ∧ i = .int .i64 k ∧ Hid (wr.ownsRow w.heap.size 27 65 v k (cellsL ((L.take k).map Ce.H))) ∧ Hid (Below w.heap.size w wr)
theorem Kept.range7 {w : World} {g : Nat} {c : Ce} {t : TypeId} (h : Kept w g c.A t) : w.rangeAt g 7 (hC c.H).toList := fun i v hv => by
  rw [hC_list] at hv
  have hi : i < c.H.length := by
    have := (List.getElem?_eq_some_iff.1 hv).1
    rwa [List.length_map] at this
  have h1 := (h.at_ (7 + i)).1
  rw [h1]
  show (ceL c.n (hiW c.z) (loW c.z) c.mn c.mx c.ce c.po c.H).toArray[7 + i]? = some v
  rw [List.getElem?_toArray, ceL_hist _ _ _ _ _ _ _ _ i hi, ← hv, List.getElem?_map, List.getD_eq_getElem?_getD, List.getElem?_eq_getElem hi]
  rfl
theorem all65_map {L : List Ce} (h : All72 L) : All65 (L.map Ce.H) := fun j hj => by
  have hj' : j < L.length := by simpa using hj
  have := h j hj'
  simpa [List.getD_eq_getElem?_getD, List.getElem?_eq_getElem hj'] using this
set_option maxHeartbeats 4000000 in
set_option maxRecDepth 1000000 in
theorem chists_any (a : Option Addr) (c : Nat) (L : List Ce) (w : World) (hr : CsAt w a L) (h65 : All72 L) (hl : L.length ≤ 100000) (hin : ∀ j b, j < L.length → b < 65 → InI (((L.map Ce.H).getD j []).getD b 0)) :
    Calls Try.prog 45 #[.slice a L.length c] w (MgOut (L.map Ce.H) w) := by
  have hz := c_zero
  have hzh := h_zero
  obtain ⟨Z, hZ⟩ : ∃ Z, ceZ.A = Z := ⟨_, rfl⟩
  have z72 : Z.size = 72 := by rw [← hZ]; exact ce_size _ rfl
  have zs : (Try.prog.info? 29).map (·.size) = some Z.size := by rw [z72]; exact c_info
  rw [hZ] at hz
  obtain ⟨Y, hY⟩ : ∃ Y, hC zeros65 = Y := ⟨_, rfl⟩
  have ys : (Try.prog.info? 27).map (·.size) = some Y.size := by rw [← hY, hC_size, zeros65_len]; exact h_info
  have yy : Y.size = 65 := by rw [← hY, hC_size, zeros65_len]
  rw [hY] at hzh
  have HIN := Lib.hid hin
  have HR := Lib.hid (hr.below (one_alloc w (.cells Y 27)))
  have H65 := Lib.hid h65
  have HS : Hid (HsRel L (w.alloc (.cells Y 27)) (.slice none 0 0) (.int .i64 0) (w.alloc (.cells Y 27))) := Lib.hid ⟨0, Nat.zero_le _, rfl, Lib.hid (World.ownsRow_nil _ _ _ _), Lib.hid (Below.refl _ _)⟩
  have KW : Hid (Kept (w.alloc (.cells Y 27)) w.heap.size Y 27) := Lib.hid (Kept.new rfl)
  have BW : Hid (Below w.heap.size w (w.alloc (.cells Y 27))) := Lib.hid (one_alloc _ _)
  have info := info_hist
  rw [hY] at info
  obtain ⟨i0, hi, hz0, hz1, hz2⟩ := info_parts65 info
  clear hr h65 hZ hin hY info
  go_enter Try.func45, Try.ntmps45
  go_wp2
  generalize w.alloc (.cells Y 27) = W0 at *
  go_loopw [4, 9] (fun v i wr => HsRel L W0 v i wr) (fun _ i _ => L.length - (intOf i).toNat)
  case atStart => exact HS.out
  case round =>
    obtain ⟨k, hk, rfl, O0, B0⟩ := hrel
    clear HS
    by_cases hlt : k < L.length
    · obtain ⟨b, off, rfl, h1⟩ := HR.out k hlt
      have hlen := H65.out k hlt
      have c1 : wr.rangeAt b (off + k * 72) (L.getD k ceZ).A.toList := fun i v hv => (B0.out.cell (World.block_lt_of_cell? W0 _ (h1 i v hv))).trans (h1 i v hv)
      have HLT := Lib.hid hlt
      have hsn : (L.take (k + 1)).map Ce.H = (L.take k).map Ce.H ++ [(L.getD k ceZ).H] := by
        rw [List.take_add_one, List.getElem?_eq_getElem hlt, Option.toList_some, List.map_append]
        simp only [List.getD, List.getElem?_eq_getElem hlt, Option.getD_some, List.map_cons, List.map_nil]
      obtain ⟨q, hq⟩ : ∃ q, L.getD k ceZ = q := ⟨_, rfl⟩
      rw [hq] at hlen c1 hsn
      have G1 : Hid ((wr.alloc (.cells Z 29)).heap[wr.heap.size]? = some (.cells Z 29 (0, 0))) := Lib.hid (heap_alloc_new wr _)
      have K1 : Hid (Kept ((wr.alloc (.cells Z 29)).setRow wr.heap.size q.A) wr.heap.size q.A 29) := Lib.hid (Kept.setRow (Kept.new rfl) _)
      have BL : Hid (Below wr.heap.size wr ((wr.alloc (.cells Z 29)).setRow wr.heap.size q.A)) := Lib.hid (below_setRow (one_alloc _ _) (Nat.le_refl _) _)
      have r7 := K1.out.range7
      have O1 := Lib.hid (owns_below O0.out BL.out)
      have B1 := Lib.hid (B0.out.trans (BL.out.mono B0.out.size))
      have q72 : q.A.size = 72 := ce_size _ hlen
      have qa := ce_cells q
      obtain ⟨X, hX⟩ : ∃ X, cellsL ((L.take k).map Ce.H) = X := ⟨_, rfl⟩
      rw [hX] at O1
      have FF : Hid (∀ v W, W.ownsRow W0.heap.size 27 65 v (k + 1) (X ++ q.H.map (Value.int .i64)) → Below W0.heap.size W0 W → HsRel L W0 v (.int .i64 ((k : Int) + 1)) W) := Lib.hid fun v W h1 h2 => ⟨k + 1, HLT.out, rfl, Lib.hid (by rw [hsn, cellsL_append, hX]; simpa [cellsL] using h1), Lib.hid h2⟩
      obtain ⟨Hq, hHq⟩ : ∃ l, q.H = l := ⟨_, rfl⟩
      rw [hHq] at FF hlen r7
      have HLEN := Lib.hid hlen
      obtain ⟨D, hD⟩ : ∃ D, hC Hq = D := ⟨_, rfl⟩
      have d65 : D.size = 65 := by rw [← hD, hC_size]; exact hlen
      have dl : (Try.prog.info? 27).map (·.size) = some D.toList.length := by rw [Array.length_toList, d65]; exact h_info
      rw [hD] at r7
      have HD := Lib.hid hD
      have hfill := fill1 (C := D) (cells := (Array.range (1 * 65)).map ((Value.agg Y).cells[· % (Value.agg Y).cells.size]!)) d65 (by simp)
      generalize q.A = C at *
      have ci : (Try.prog.info? 29).map (·.size) = some C.size := by rw [q72]; exact c_info
      have cl : (Try.prog.info? 29).map (·.size) = some C.toList.length := by rw [Array.length_toList, q72]; exact c_info
      have zc : Z.size = C.size := by rw [z72, q72]
      have hkk : (k : Int) < (L.length : Int) := by omega
      have hk0 : (0 : Int) ≤ (k : Int) := by omega
      have hc1 : k + 1 ≤ maxLen := by unfold maxLen; omega
      have hc2 : (k + 1) * 520 ≤ 140737488355328 := by omega
      clear hX hD hHq hq hsn hlen h1 q72 hlt hk O0 B0 BL K1
      go_upto_region 5 with (first
        | refine wpList_load_mid rfl 29 _ rfl b (off + k * 72) rfl C.toList _ c1 Try.underlying29 rfl cl ?_
        | refine wpList_store_row rfl 29 _ _ rfl wr.heap.size C rfl rfl 29 Z G1.out ci zc qa ?_)
      clear G1 c1
      generalize hW1 : (wr.alloc (.cells Z 29)).setRow wr.heap.size C = W1 at *
      clear hW1
      have N1 : Hid (Kept (W1.alloc (.cells D 27)) W1.heap.size D 27) := Lib.hid (Kept.new rfl)
      have O2 := Lib.hid (owns_below O1.out (one_alloc W1 (.cells D 27)))
      have B2 := Lib.hid (B1.out.trans ((one_alloc W1 (.cells D 27)).mono B1.out.size))
      clear O1 B1
      go_wp2_with (first
        | refine wpList_load_mid rfl 27 _ rfl wr.heap.size 7 rfl D.toList _ r7 h_under rfl dl ?_
        | (refine wpList_buildSlice rfl 122 27 1 _ rfl D i0 (.agg Y) rfl hi hz0 (by rw [hz1]; decide) (by rw [hz1]; decide) (by rw [hz1]; refine Eq.trans (congrArg (Instr.fill _ _) ?_) hfill; simp only [List.map_toArray, List.map_cons, List.map_nil]; rfl) ?_)
        | (at_builtin; refine wpList_appendArr rfl _ _ 122 rfl W0 27 i0 (.agg Y) 520 Try.underlying122 hi hz0 hz1 hz2 yy _ _ _ rfl O2.out W1.heap.size Hq 27 HLEN.out rfl (by rw [HD.out]; exact N1.out) hc1 hc2 B2.out ?_; intro v3 w3 o3 b3))
      have FF1 := Lib.hid (FF.out _ _ o3 b3)
      clear o3 b3 O2 B2 N1 FF hfill
      go_wp2
      go_roundw
      case rel => exact FF1.out
      case measure => have := HLT.out; simp [intOf]; omega
    · obtain rfl : k = L.length := by omega
      rw [List.take_length] at O0
      obtain ⟨a2, c2, rfl, e2, -, r2⟩ := RowsAt.own (all65_map H65.out) O0.out
      have SS := Lib.hid (merge_any a2 c2 (L.map Ce.H) wr r2 (all65_map H65.out) (by simp; omega) (fun j b hj hb => HIN.out j b (by simpa using hj) hb))
      have e3 : (L.map Ce.H).length = L.length := by simp
      rw [e3] at SS
      clear hlt hk e2 r2 O0 hz hzh
      go_wp2_with fail
      refine SS.out.mono ?_
      rintro _ w1 ⟨⟨l, E, rfl, hm⟩, b1⟩
      have l65 : l.length = 65 := by
        rcases hm.out with ⟨-, e, -⟩ | ⟨-, -, e, -⟩ | ⟨-, -, e, -⟩
        · rw [e]; exact zeros65_len
        · rw [e]; exact zeros65_len
        · rw [e]; exact sumR_len _
      have b2 := B0.out.trans (b1.mono B0.out.size)
      have KF := Lib.hid (KW.out.next b2)
      have BF := Lib.hid (BW.out.trans (b2.mono BW.out.size))
      have la := hC_cells l
      have FIN : Hid (∀ W, Below w.heap.size w W → MgOut (L.map Ce.H) w (.returned (.tuple #[.agg (hC l), .int .i64 E])) W) := Lib.hid fun W hb => ⟨⟨l, E, rfl, hm⟩, hb⟩
      have cs : (Try.prog.info? 27).map (·.size) = some (hC l).size := by rw [hC_size, l65]; exact h_info
      have yc : Y.size = (hC l).size := by rw [yy, hC_size, l65]
      obtain ⟨C, hC1⟩ : ∃ C, hC l = C := ⟨_, rfl⟩
      rw [hC1] at la FIN cs yc
      rw [hC1]
      have RF : Hid (Kept (w1.setRow w.heap.size C) w.heap.size C 27) := Lib.hid (KF.out.setRow _)
      have BF2 : Hid (Below w.heap.size w (w1.setRow w.heap.size C)) := Lib.hid (below_setRow BF.out (Nat.le_refl _) _)
      have hld := run_loadVar_row (P := Try.prog) (w1.setRow w.heap.size C) w.heap.size 27 27 C (0, 0) _ RF.out h_under rfl cs
      clear hC1 hm l65 b1 b2 KW BW SS B0 BF
      go_wp2_with (refine wpList_store_row rfl 27 _ _ rfl w.heap.size C rfl rfl 27 Y KF.out cs yc la ?_)
      refine bodyPost_ret (v := .tuple #[.agg C, .int .i64 E]) (by simp [results, Try.results45, asAddr, Result.andThen, hld]) rfl ?_
      exact FIN.out _ BF2.out
end Go.Proofs.Ytpmoidpncpfnlaa
