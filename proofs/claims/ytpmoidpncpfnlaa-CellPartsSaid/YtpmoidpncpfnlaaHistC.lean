/- hist.Merge: for every list of histograms. -/
import Derived.Test.YtpmoidpncpfnlaaHistB
import Derived.Deep.MidRow
namespace Go.Proofs.Ytpmoidpncpfnlaa
open Go.RowKit
set_option linter.unusedVariables false

theorem h_built : Try.prog.built 27 [] = some (hC zeros65) := by kernel_rfl
theorem wpList_zero {ops : Array Oper} {rest : List Oper} {o : Oper} {a : Act} {w : World} {Q : Exit → Act → World → Prop} (hgd : o.guard = none) (ho : o.op = .build 27 #[]) (Z : Array Value) (hZ : hC zeros65 = Z)
    (h : wpList Try.prog ops Q rest (a.put o.dst (.agg Z)) w) : wpList Try.prog ops Q (o :: rest) a w := by
  subst hZ
  exact wpList_build hgd 27 #[] ho (by simp [h_built]) (by simpa [h_built] using h)
/-- histograms lie one beside another behind an address -/
def RowsAt (w : World) (a : Option Addr) (L : List (List Int)) : Prop := ∀ j, j < L.length → ∃ b off, a = some ⟨b, off, none⟩ ∧ w.rangeAt b (off + j * 65) (hC (L.getD j [])).toList
theorem RowsAt.below {w w' : World} {a : Option Addr} {L : List (List Int)} (h : RowsAt w a L) (hb : Below w.heap.size w w') : RowsAt w' a L := fun j hj => by
  obtain ⟨b, off, e, hr⟩ := h j hj
  exact ⟨b, off, e, fun i v hv => (hb.cell (World.block_lt_of_cell? w _ (hr i v hv))).trans (hr i v hv)⟩
def All65 (L : List (List Int)) : Prop := ∀ j, j < L.length → (L.getD j []).length = 65
/-- the sum of a bucket's counts -/
def colS (L : List (List Int)) (b : Nat) : Int := isum (L.map fun r => r.getD b 0)
theorem colS_snoc (L : List (List Int)) (k : Nat) (hk : k < L.length) (b : Nat) : colS (L.take (k + 1)) b = colS (L.take k) b + (L.getD k []).getD b 0 := by
  unfold colS
  rw [List.take_add_one, List.map_append, isum_append]
  simp [List.getD, List.getElem?_eq_getElem hk, isum]
theorem colS_zero (L : List (List Int)) (b : Nat) : colS (L.take 0) b = 0 := rfl
def negP (L : List (List Int)) : Prop := ∃ j, j < L.length ∧ okL (L.getD j []) = false
def overP (L : List (List Int)) : Prop := ∃ b, b < 65 ∧ 9223372036854775807 < colS L b
def sumR (L : List (List Int)) : List Int := (List.range 65).map (colS L)
theorem sumR_len (L : List (List Int)) : (sumR L).length = 65 := by simp [sumR]
theorem sumR_get (L : List (List Int)) (b : Nat) (h : b < 65) : (sumR L).getD b 0 = colS L b := by
  unfold sumR
  rw [List.getD_eq_getElem?_getD, List.getElem?_map, List.getElem?_range h]
  rfl
theorem isum_nonneg (l : List Int) (h : ∀ x ∈ l, 0 ≤ x) : 0 ≤ isum l := by
  induction l with
  | nil => simp [isum]
  | cons x xs ih =>
    have e := isum_append [x] xs
    have e1 : isum [x] = x := by simp [isum]
    have := ih (fun y hy => h y (List.mem_cons_of_mem _ hy))
    have := h x (List.mem_cons_self ..)
    rw [List.singleton_append] at e
    omega
/-- the sums of the rows so far are no greater than those of all -/
theorem colS_le (L : List (List Int)) (hp : ∀ j, j < L.length → okL (L.getD j []) = true) (k : Nat) (hk : k ≤ L.length) (b : Nat) (hb : b < 65) : 0 ≤ colS (L.take k) b ∧ colS (L.take k) b ≤ colS L b := by
  have nn : ∀ M : List (List Int), (∀ r ∈ M, r ∈ L) → 0 ≤ colS M b := fun M hM => by
    unfold colS
    refine isum_nonneg _ fun x hx => ?_
    obtain ⟨r, hr, rfl⟩ := List.mem_map.1 hx
    obtain ⟨i, hi, e⟩ := List.getElem_of_mem (hM r hr)
    have h := okL_iff.1 (hp i hi) b hb
    have e2 : L.getD i [] = r := by rw [List.getD_eq_getElem?_getD, List.getElem?_eq_getElem hi]; exact e
    rw [e2] at h
    exact h
  refine ⟨nn _ fun r hr => List.mem_of_mem_take hr, ?_⟩
  have e : colS L b = colS (L.take k) b + colS (L.drop k) b := by
    unfold colS
    rw [← isum_append, ← List.map_append, List.take_append_drop]
  have := nn (L.drop k) fun r hr => List.mem_of_mem_drop hr
  omega
def MgOut (L : List (List Int)) (w : World) (e : Ending) (w' : World) : Prop := (∃ l E, e = .returned (.tuple #[.agg (hC l), .int .i64 E]) ∧ Hid ((negP L ∧ l = zeros65 ∧ E = 10) ∨ (¬ negP L ∧ overP L ∧ l = zeros65 ∧ E = 12) ∨ (¬ negP L ∧ ¬ overP L ∧ l = sumR L ∧ E = 0))) ∧ Below w.heap.size w w'
def M1Rel (L : List (List Int)) (w : World) (Z : Array Value) (i : Value) (wr : World) : Prop := ∃ k : Nat, k ≤ L.length ∧ i = .int .i64 k ∧ Hid (∀ j, j < k → okL (L.getD j []) = true) ∧ Hid (Kept wr w.heap.size Z 27) ∧ Hid (Below w.heap.size w wr)
def midR (L : List (List Int)) (k j : Nat) : List Int := (List.range 65).map fun b => if b < j then colS (L.take (k + 1)) b else colS (L.take k) b
theorem midR_len (L : List (List Int)) (k j : Nat) : (midR L k j).length = 65 := by simp [midR]
theorem midR_get (L : List (List Int)) (k j b : Nat) (h : b < 65) : (midR L k j).getD b 0 = if b < j then colS (L.take (k + 1)) b else colS (L.take k) b := by
  unfold midR
  rw [List.getD_eq_getElem?_getD, List.getElem?_map, List.getElem?_range h]
  rfl
theorem midR_start (L : List (List Int)) (k : Nat) : midR L k 0 = sumR (L.take k) :=
  ext65 (midR_len _ _ _) (sumR_len _) fun b hb => by rw [midR_get _ _ _ _ hb, sumR_get _ _ hb, if_neg (by omega)]
theorem midR_end (L : List (List Int)) (k : Nat) : midR L k 65 = sumR (L.take (k + 1)) :=
  ext65 (midR_len _ _ _) (sumR_len _) fun b hb => by rw [midR_get _ _ _ _ hb, sumR_get _ _ hb, if_pos hb]
theorem midR_step (L : List (List Int)) (k j : Nat) (hj : j < 65) (hk : k < L.length) (v : Int) (hv : v = colS (L.take k) j + (L.getD k []).getD j 0) : midR L k (j + 1) = (midR L k j).set j v := by
  refine ext65 (midR_len _ _ _) (by rw [List.length_set]; exact midR_len _ _ _) fun b hb => ?_
  rw [getD_set _ _ _ _ (by rw [midR_len]; exact hj), midR_get _ _ _ _ hb, midR_get _ _ _ _ hb]
  by_cases e : b = j
  · rw [if_pos e, if_pos (by omega), e, hv, colS_snoc L k hk]
  · rw [if_neg e]
    by_cases h : b < j
    · rw [if_pos h, if_pos (by omega)]
    · rw [if_neg h, if_neg (by omega)]
theorem sumR_zero (L : List (List Int)) : sumR (L.take 0) = zeros65 :=
  ext65 (sumR_len _) zeros65_len fun b hb => by
    rw [sumR_get _ _ hb, colS_zero]
    unfold zeros65
    rw [List.getD_eq_getElem?_getD, List.getElem?_replicate, if_pos hb]
    rfl
def M2Rel (L : List (List Int)) (w : World) (g : Nat) (Z : Array Value) (i : Value) (wr : World) : Prop := ∃ k : Nat, k ≤ L.length ∧ i = .int .i64 k ∧ Hid (∀ b, b < 65 → colS (L.take k) b ≤ 9223372036854775807) ∧ Hid (Kept wr g (hC (sumR (L.take k))) 27) ∧ Hid (Kept wr w.heap.size Z 27) ∧ Hid (Below w.heap.size w wr)
def M3Rel (L : List (List Int)) (w : World) (g k : Nat) (Z : Array Value) (i : Value) (wr : World) : Prop := ∃ j : Nat, j ≤ 65 ∧ i = .int .i64 j ∧ Hid (∀ b, b < j → colS (L.take (k + 1)) b ≤ 9223372036854775807) ∧ Hid (Kept wr g (hC (midR L k j)) 27) ∧ Hid (Kept wr w.heap.size Z 27) ∧ Hid (Below w.heap.size w wr)
set_option maxHeartbeats 16000000 in
set_option maxRecDepth 1000000 in
theorem merge_any (a : Option Addr) (c : Nat) (L : List (List Int)) (w : World) (hr : RowsAt w a L) (h65 : All65 L) (hl : L.length ≤ 1000000) (hin : ∀ j b, j < L.length → b < 65 → InI ((L.getD j []).getD b 0)) :
    Calls Try.prog 76 #[.slice a L.length c] w (MgOut L w) := by
  have hz := h_zero
  have HR := Lib.hid hr
  have HN := Lib.hid hin
  have H65 := Lib.hid h65
  obtain ⟨Z, hZ⟩ : ∃ Z, hC zeros65 = Z := ⟨_, rfl⟩
  have zs : (Try.prog.info? 27).map (·.size) = some Z.size := by rw [← hZ, hC_size, zeros65_len]; exact h_info
  have zz : Z.size = 65 := by rw [← hZ, hC_size, zeros65_len]
  have za : Z.all (·.oneCell') = true := by rw [← hZ]; exact hC_cells _
  rw [hZ] at hz
  have HS : Hid (M1Rel L w Z (.int .i64 0) (w.alloc (.cells Z 27))) := Lib.hid ⟨0, Nat.zero_le _, rfl, Lib.hid (fun j hj => by omega), Lib.hid (Kept.new rfl), Lib.hid (one_alloc _ _)⟩
  have HZ := Lib.hid hZ
  clear hr hin h65 hZ
  go_enter Try.func76, Try.ntmps76
  go_wp2
  go_loopw [13] (fun i wr => M1Rel L w Z i wr) (fun i _ => L.length - (intOf i).toNat)
  case atStart => exact HS.out
  case round =>
    obtain ⟨k, hk, rfl, HV, R0, B0⟩ := hrel
    clear HS
    by_cases hlt : k < L.length
    · obtain ⟨b, off, rfl, h1⟩ := HR.out k hlt
      have hlen := H65.out k hlt
      have c1 : wr.rangeAt b (off + k * 65) (hC (L.getD k [])).toList := fun i v hv => (B0.out.cell (World.block_lt_of_cell? w _ (h1 i v hv))).trans (h1 i v hv)
      have Cr := Lib.hid (fun W => hright_any (L.getD k []) hlen W)
      have F1 : Hid (okL (L.getD k []) = true → ∀ w' v, v = .int .i64 ((k : Int) + 1) → Kept w' w.heap.size Z 27 → Below w.heap.size w w' → M1Rel L w Z v w') := Lib.hid fun h w' v hv a1 a2 => ⟨k + 1, hlt, hv, Lib.hid (fun j hj => by
        by_cases e : j = k
        · rw [e]; exact h
        · exact HV.out j (by omega)), Lib.hid a1, Lib.hid a2⟩
      have F2 : Hid (okL (L.getD k []) = false → ∀ w', Below w.heap.size w w' → MgOut L w (.returned (.tuple #[.agg Z, .int .i64 10])) w') := Lib.hid fun h w' hb => ⟨⟨zeros65, 10, by rw [HZ.out], Lib.hid (.inl ⟨⟨k, hlt, h⟩, rfl, rfl⟩)⟩, hb⟩
      have hcs : (hC (L.getD k [])).size = 65 := by rw [hC_size]; exact hlen
      have hca := hC_cells (L.getD k [])
      obtain ⟨C, hC1⟩ : ∃ C, hC (L.getD k []) = C := ⟨_, rfl⟩
      rw [hC1] at c1 Cr hcs hca
      have ci : (Try.prog.info? 27).map (·.size) = some C.size := by rw [hcs]; exact h_info
      have cl : (Try.prog.info? 27).map (·.size) = some C.toList.length := by rw [Array.length_toList, hcs]; exact h_info
      have zc : Z.size = C.size := by rw [zz, hcs]
      have G1 : Hid ((wr.alloc (.cells Z 27)).heap[wr.heap.size]? = some (.cells Z 27 (0, 0))) := Lib.hid (heap_alloc_new wr _)
      have G2 : Hid (((wr.alloc (.cells Z 27)).setRow wr.heap.size C).heap[wr.heap.size]? = some (.cells C 27 (0, 0))) := Lib.hid (setRow_heap _ _ _ _ _ _ G1.out)
      have K1 := Lib.hid (Kept.setRow_far (R0.out.alloc (.cells Z 27)) (b := wr.heap.size) (by have := R0.out.lt; omega) C)
      have B1 := Lib.hid (below_setRow (B0.out.alloc B0.out.size (.cells Z 27)) (g := wr.heap.size) B0.out.size C)
      clear hC1 h1 hlen hcs
      cases ok : okL (L.getD k [])
      · rw [ok] at Cr
        have F := Lib.hid (F2.out ok)
        clear F1 F2 ok
        go_wp2_with (first
          | refine wpList_load_mid rfl 27 _ rfl b (off + k * 65) rfl C.toList _ c1 h_under rfl cl ?_
          | refine wpList_store_row rfl 27 _ _ rfl wr.heap.size C rfl rfl 27 Z G1.out ci zc hca ?_
          | refine wpList_load_row rfl 27 _ rfl wr.heap.size rfl 27 C (0, 0) _ G2.out h_under rfl ci ?_)
        refine (Cr.out _).mono ?_
        rintro _ w1 ⟨rfl, hb1⟩
        have R2 := Lib.hid (K1.out.next hb1)
        have B2 := Lib.hid (bnext B1.out B1.out.size hb1)
        have F := Lib.hid (F.out (w1.setRow w.heap.size Z) (below_setRow B2.out (Nat.le_refl _) _))
        clear hb1 c1 G1 G2
        have RF : Hid (Kept (w1.setRow w.heap.size Z) w.heap.size Z 27) := Lib.hid (R2.out.setRow _)
        have hld := run_loadVar_row (P := Try.prog) (w1.setRow w.heap.size Z) w.heap.size 27 27 Z (0, 0) _ RF.out h_under rfl zs
        go_wp2_with (first
          | refine wpList_zero rfl rfl Z HZ.out ?_
          | refine wpList_store_row rfl 27 _ _ rfl w.heap.size Z rfl rfl 27 Z R2.out zs rfl za ?_)
        refine bodyPost_ret (v := .tuple #[.agg Z, .int .i64 10]) (by simp [results, Try.results76, asAddr, Result.andThen, hld]) rfl ?_
        exact F.out
      · rw [ok] at Cr
        have F := Lib.hid (F1.out ok)
        have HLT := Lib.hid hlt
        clear F1 F2 ok
        go_wp2_with (first
          | refine wpList_load_mid rfl 27 _ rfl b (off + k * 65) rfl C.toList _ c1 h_under rfl cl ?_
          | refine wpList_store_row rfl 27 _ _ rfl wr.heap.size C rfl rfl 27 Z G1.out ci zc hca ?_
          | refine wpList_load_row rfl 27 _ rfl wr.heap.size rfl 27 C (0, 0) _ G2.out h_under rfl ci ?_)
        refine (Cr.out _).mono ?_
        rintro _ w1 ⟨rfl, hb1⟩
        have R2 := Lib.hid (K1.out.next hb1)
        have B2 := Lib.hid (bnext B1.out B1.out.size hb1)
        have F := Lib.hid (F.out w1 _ rfl R2.out B2.out)
        clear hb1 c1 G1 G2
        go_wp2
        go_roundw
        case rel => exact F.out
        case measure => have := HLT.out; simp [intOf]; omega
    · obtain ⟨W1, hW1⟩ : ∃ x, x = wr := ⟨_, rfl⟩
      subst hW1
      have HP : Hid (∀ j, j < L.length → okL (L.getD j []) = true) := Lib.hid (fun j hj => HV.out j (by omega))
      have NP : Hid (¬ negP L) := Lib.hid (fun ⟨j, hj, e⟩ => by rw [HP.out j hj] at e; cases e)
      have hgr : w.heap.size < W1.heap.size := R0.out.lt
      have S0 : Hid (M2Rel L w W1.heap.size Z (.int .i64 0) (W1.alloc (.cells Z 27))) := Lib.hid ⟨0, Nat.zero_le _, rfl, Lib.hid (fun b hb => by rw [colS_zero]; omega), Lib.hid (by rw [sumR_zero, HZ.out]; exact Kept.new rfl), Lib.hid (R0.out.alloc _), Lib.hid (B0.out.alloc B0.out.size _)⟩
      obtain ⟨g, hg⟩ : ∃ g, W1.heap.size = g := ⟨_, rfl⟩
      obtain rfl : k = L.length := by omega
      clear HV hk hlt
      go_wp2
      (try rw [hg])
      rw [hg] at S0 hgr
      have HG := Lib.hid hg
      clear hg R0
      go_loopw [24] (fun i wr => M2Rel L w g Z i wr) (fun i _ => L.length - (intOf i).toNat)
      case atStart => exact S0.out
      case round =>
        obtain ⟨k, hk, rfl, HV, G0, R0, B3⟩ := hrel
        clear S0
        by_cases hlt : k < L.length
        · obtain ⟨b, off, rfl, h1⟩ := HR.out k hlt
          have hlen := H65.out k hlt
          have c1 : wr.rangeAt b (off + k * 65) (hC (L.getD k [])).toList := fun i v hv => (B3.out.cell (World.block_lt_of_cell? w _ (h1 i v hv))).trans (h1 i v hv)
          have HI := Lib.hid (fun j hj W => h_index (L.getD k []) hlen j hj W)
          have hcs : (hC (L.getD k [])).size = 65 := by rw [hC_size]; exact hlen
          have hca := hC_cells (L.getD k [])
          obtain ⟨C, hC1⟩ : ∃ C, hC (L.getD k []) = C := ⟨_, rfl⟩
          rw [hC1] at c1 hcs hca HI
          have ci : (Try.prog.info? 27).map (·.size) = some C.size := by rw [hcs]; exact h_info
          have cl : (Try.prog.info? 27).map (·.size) = some C.toList.length := by rw [Array.length_toList, hcs]; exact h_info
          have zc : Z.size = C.size := by rw [zz, hcs]
          have G1 : Hid ((wr.alloc (.cells Z 27)).heap[wr.heap.size]? = some (.cells Z 27 (0, 0))) := Lib.hid (heap_alloc_new wr _)
          have G2 : Hid (((wr.alloc (.cells Z 27)).setRow wr.heap.size C).heap[wr.heap.size]? = some (.cells C 27 (0, 0))) := Lib.hid (setRow_heap _ _ _ _ _ _ G1.out)
          have K1 := Lib.hid (Kept.setRow_far (R0.out.alloc (.cells Z 27)) (b := wr.heap.size) (by have := R0.out.lt; omega) C)
          have K2 := Lib.hid (Kept.setRow_far (G0.out.alloc (.cells Z 27)) (b := wr.heap.size) (by have := G0.out.lt; omega) C)
          have B1 := Lib.hid (below_setRow (B3.out.alloc B3.out.size (.cells Z 27)) (g := wr.heap.size) B3.out.size C)
          have S1 : Hid (M3Rel L w g k Z (.int .i64 0) ((wr.alloc (.cells Z 27)).setRow wr.heap.size C)) := Lib.hid ⟨0, by omega, rfl, Lib.hid (fun b hb => by omega), Lib.hid (by rw [midR_start]; exact K2.out), K1, B1⟩
          have HLT := Lib.hid hlt
          clear hC1 h1 hlen hcs K1 K2 B1 G0 R0 B3 hk hlt
          go_wp2_with (first
            | refine wpList_load_mid rfl 27 _ rfl b (off + k * 65) rfl C.toList _ c1 h_under rfl cl ?_
            | refine wpList_store_row rfl 27 _ _ rfl wr.heap.size C rfl rfl 27 Z G1.out ci zc hca ?_
            | refine wpList_load_row rfl 27 _ rfl wr.heap.size rfl 27 C (0, 0) _ G2.out h_under rfl ci ?_)
          go_wp2
          clear c1 G1 G2
          go_loopw [29] (fun i wr => M3Rel L w g k Z i wr) (fun i _ => 65 - (intOf i).toNat)
          case atStart => exact S1.out
          case round =>
            obtain ⟨j, hj, rfl, HU, G0, R0, B3⟩ := hrel
            clear S1
            by_cases hjt : j < 65
            · have hx := HI.out j hjt
              have hrow0 := okL_iff.1 (HP.out k HLT.out) j hjt
              have hinx := HN.out k j HLT.out hjt
              have hcell := G0.out.cellK j (by rw [midR_len]; exact hjt)
              rw [midR_get _ _ _ _ hjt, if_neg (by omega)] at hcell
              have hnn := (colS_le L HP.out k (by have := HLT.out; omega) j hjt).1
              have hmx := HV.out j hjt
              have hstep := midR_step L k j hjt HLT.out
              have hcol := colS_snoc L k HLT.out j
              have hle := (colS_le L HP.out (k + 1) HLT.out j hjt).2
              obtain ⟨x, hx0⟩ : ∃ x, (L.getD k []).getD j 0 = x := ⟨_, rfl⟩
              obtain ⟨v, hv0⟩ : ∃ v, colS (L.take k) j = v := ⟨_, rfl⟩
              rw [hx0] at hx hrow0 hinx hstep hcol
              rw [hv0] at hcell hnn hmx hstep hcol
              obtain ⟨g1, g2⟩ := hcell
              have e1 : wrap64 (9223372036854775807 - x) = 9223372036854775807 - x := IntWalk.wrap64_in _ (by unfold InI at hinx; omega)
              have hjj : (j : Int) < 65 := by omega
              by_cases hov : 9223372036854775807 - x < v
              · have d0 : decide (wrap64 (9223372036854775807 - x) < v) = true := by rw [e1]; exact decide_eq_true hov
                have F : Hid (MgOut L w (.returned (.tuple #[.agg Z, .int .i64 12])) (wr.setRow w.heap.size Z)) := Lib.hid ⟨⟨zeros65, 12, by rw [HZ.out], Lib.hid (.inr (.inl ⟨NP.out, ⟨j, hjt, by omega⟩, rfl, rfl⟩))⟩, below_setRow B3.out (Nat.le_refl _) _⟩
                clear hov hrow0 hinx hnn hmx hstep hcol hle hx0 hv0 hjt hj HU HV e1
                have RF : Hid (Kept (wr.setRow w.heap.size Z) w.heap.size Z 27) := Lib.hid (R0.out.setRow _)
                have hld := run_loadVar_row (P := Try.prog) (wr.setRow w.heap.size Z) w.heap.size 27 27 Z (0, 0) _ RF.out h_under rfl zs
                go_wp2_with (first
                  | refine wpList_zero rfl rfl Z HZ.out ?_
                  | refine wpList_store_row rfl 27 _ _ rfl w.heap.size Z rfl rfl 27 Z R0.out zs rfl za ?_)
                refine bodyPost_ret (v := .tuple #[.agg Z, .int .i64 12]) (by simp [results, Try.results76, asAddr, Result.andThen, hld]) rfl ?_
                exact F.out
              · have d0 : decide (wrap64 (9223372036854775807 - x) < v) = false := by rw [e1]; exact decide_eq_false hov
                have e2 : wrap64 (v + x) = v + x := IntWalk.wrap64_in _ (by omega)
                have F : Hid (M3Rel L w g k Z (.int .i64 ((j : Int) + 1)) (wr.setCell ⟨g, j, none⟩ (.int .i64 (v + x)))) := Lib.hid ⟨j + 1, hjt, rfl, Lib.hid (fun b hb => by
                  by_cases e : b = j
                  · rw [e, hcol]; omega
                  · exact HU.out b (by omega)), Lib.hid (by
                  rw [hstep (v + x) rfl, ← hC_set]
                  exact G0.out.set j _), Lib.hid (R0.out.far (p := ⟨g, j, none⟩) (by simp; omega) _), Lib.hid (B3.out.setCell (by simp; omega) _)⟩
                have HJT := Lib.hid hjt
                have HE := Lib.hid e2
                clear hov hrow0 hinx hnn hmx hstep hcol hle hx0 hv0 hjt hj HU HV e1 e2
                go_wp2
                (try rw [HE.out])
                go_roundw
                case rel => exact F.out
                case measure => have := HJT.out; simp [intOf]; omega
            · obtain rfl : j = 65 := by omega
              have F : Hid (M2Rel L w g Z (.int .i64 ((k : Int) + 1)) wr) := Lib.hid ⟨k + 1, HLT.out, rfl, Lib.hid (fun b hb => HU.out b hb), Lib.hid (by have h := G0.out; rw [midR_end] at h; exact h), R0, B3⟩
              clear hjt hj HU G0 R0 B3 HV
              go_wp2
              go_roundw
              case rel => exact F.out
              case measure => have := HLT.out; simp [intOf]; omega
        · obtain rfl : k = L.length := by omega
          have H1 := G0.out
          rw [List.take_length] at H1
          have hz1 : (Try.prog.info? 27).map (·.size) = some (hC (sumR L)).size := by rw [hC_size, sumR_len]; exact h_info
          have hz2 : Z.size = (hC (sumR L)).size := by rw [zz, hC_size, sumR_len]
          have hz3 := hC_cells (sumR L)
          have RF : Hid (Kept (wr.setRow w.heap.size (hC (sumR L))) w.heap.size (hC (sumR L)) 27) := Lib.hid (R0.out.setRow _)
          have F : Hid (MgOut L w (.returned (.tuple #[.agg (hC (sumR L)), .int .i64 0])) (wr.setRow w.heap.size (hC (sumR L)))) := Lib.hid ⟨⟨sumR L, 0, rfl, Lib.hid (.inr (.inr ⟨NP.out, fun ⟨b, hb, ho⟩ => by
            have h := HV.out b hb
            rw [List.take_length] at h
            omega, rfl, rfl⟩))⟩, below_setRow B3.out (Nat.le_refl _) _⟩
          have H2 := Lib.hid H1
          clear H1 G0 hlt hk HV
          generalize hC (sumR L) = C at *
          have hld := run_loadVar_row (P := Try.prog) (wr.setRow w.heap.size C) w.heap.size 27 27 C (0, 0) _ RF.out h_under rfl hz1
          go_wp2_with (first
            | refine wpList_load_row rfl 27 _ rfl g rfl 27 C (0, 0) _ H2.out h_under rfl hz1 ?_
            | refine wpList_store_row rfl 27 _ _ rfl w.heap.size C rfl rfl 27 Z R0.out hz1 hz2 hz3 ?_)
          refine bodyPost_ret (v := .tuple #[.agg C, .int .i64 0]) (by simp [results, Try.results76, asAddr, Result.andThen, hld]) rfl ?_
          exact F.out
end Go.Proofs.Ytpmoidpncpfnlaa
