/- noonmarkref05.Merge. -/
import Derived.Test.YtldgdedfioigiaaCntA
import Derived.Test.YtldgdedfioigiaaAlA
namespace Go.Proofs.Ytldgdedfioigiaa
open Go.RowKit
set_option linter.unusedVariables false

theorem owns_below {w w' : World} {base e size n : Nat} {v : Value} {xs : List Value} (h : w.ownsRow base e size v n xs) (hb : Below w.heap.size w w') : w'.ownsRow base e size v n xs := by
  obtain ⟨h1, h2⟩ := h
  refine ⟨h1, ?_⟩
  rcases h2 with h2 | ⟨g, cap, cur, e1, e2, e3, e4⟩
  · exact .inl h2
  · exact .inr ⟨g, cap, cur, e1, e2, (hb.block g (Array.getElem?_eq_some_iff.1 e3).1).trans e3, e4⟩
/-- a row of integers that a function grows, from the world W on -/
def GrI (W : World) (l : List Int) (v : Value) (wr : World) : Prop := Hid (wr.ownsRow W.heap.size 2 1 v l.length (l.map (Value.int .i64))) ∧ Hid (Below W.heap.size W wr)
theorem GrI.start (W : World) : GrI W [] (.slice (some ⟨W.heap.size, 0, none⟩) 0 0) (W.alloc (Obj.cells #[] 2)) := ⟨Lib.hid (World.ownsRow_made _ #[] 0 (Nat.le_refl _) (by unfold maxLen; omega) rfl), Lib.hid ((Below.refl _ _).alloc (Nat.le_refl _) _)⟩
/-- the bucket's counts -/
def colL (L : List (List Int)) (k : Nat) : List Int := L.map fun r => r.getD k 0
theorem colL_sum (L : List (List Int)) (k : Nat) : isum (colL L k) = colS L k := rfl
theorem colL_snoc (L : List (List Int)) (j k : Nat) (hj : j < L.length) : colL (L.take (j + 1)) k = colL (L.take j) k ++ [(L.getD j []).getD k 0] := by
  unfold colL
  rw [List.take_add_one, List.map_append]
  congr 1
  simp [List.getD, List.getElem?_eq_getElem hj]
theorem colL_len (L : List (List Int)) (k : Nat) : (colL L k).length = L.length := by simp [colL]
/-- the first k sums -/
def preR (L : List (List Int)) (k : Nat) : List Int := (List.range 65).map fun b => if b < k then colS L b else 0
theorem preR_len (L : List (List Int)) (k : Nat) : (preR L k).length = 65 := by simp [preR]
theorem preR_get (L : List (List Int)) (k b : Nat) (h : b < 65) : (preR L k).getD b 0 = if b < k then colS L b else 0 := by
  unfold preR
  rw [List.getD_eq_getElem?_getD, List.getElem?_map, List.getElem?_range h]
  rfl
theorem preR_zero (L : List (List Int)) : preR L 0 = zeros65 := ext65 (preR_len _ _) zeros65_len fun b hb => by
  rw [preR_get _ _ _ hb]
  unfold zeros65
  rw [List.getD_eq_getElem?_getD, List.getElem?_replicate, if_pos hb]
  simp
theorem preR_full (L : List (List Int)) : preR L 65 = sumR L := ext65 (preR_len _ _) (sumR_len _) fun b hb => by rw [preR_get _ _ _ hb, sumR_get _ _ hb, if_pos hb]
theorem preR_step (L : List (List Int)) (k : Nat) (hk : k < 65) : preR L (k + 1) = (preR L k).set k (colS L k) := by
  refine ext65 (preR_len _ _) (by rw [List.length_set]; exact preR_len _ _) fun b hb => ?_
  rw [getD_set _ _ _ _ (by rw [preR_len]; exact hk), preR_get _ _ _ hb, preR_get _ _ _ hb]
  by_cases e : b = k
  · rw [if_pos e, if_pos (by omega), e]
  · rw [if_neg e]
    by_cases h : b < k
    · rw [if_pos h, if_pos (by omega)]
    · rw [if_neg h, if_neg (by omega)]
def R1Rel (L : List (List Int)) (w : World) (Z : Array Value) (i : Value) (wr : World) : Prop := ∃ k : Nat, k ≤ L.length ∧ i = .int .i64 k ∧ Hid (∀ j, j < k → okL (L.getD j []) = true) ∧ Hid (Kept wr w.heap.size Z 32) ∧ Hid (Kept wr (w.heap.size + 1) Z 32) ∧ Hid (Below w.heap.size w wr)
def R2Rel (L : List (List Int)) (w : World) (Z : Array Value) (i : Value) (wr : World) : Prop := ∃ k : Nat, k ≤ 65 ∧ i = .int .i64 k ∧ Hid (∀ b, b < k → colS L b ≤ 9223372036854775807) ∧ Hid (Kept wr w.heap.size Z 32) ∧ Hid (Kept wr (w.heap.size + 1) (hC (preR L k)) 32) ∧ Hid (Below w.heap.size w wr)
def R3Rel (L : List (List Int)) (k : Nat) (W : World) (v i : Value) (wr : World) : Prop := ∃ j : Nat, j ≤ L.length ∧ i = .int .i64 j ∧ Hid (GrI W (colL (L.take j) k) v wr)
theorem col_nonneg (L : List (List Int)) (h : ¬ negP L) (k : Nat) (hk : k < 65) : 0 ≤ colS L k := by
  refine isum_nonneg _ fun x hx => ?_
  obtain ⟨r, hr, rfl⟩ := List.mem_map.1 hx
  obtain ⟨j, hj, e⟩ := List.getElem_of_mem hr
  have e2 : L.getD j [] = r := by rw [List.getD_eq_getElem?_getD, List.getElem?_eq_getElem hj]; exact e
  cases ho : okL r with
  | true => exact okL_iff.1 ho k hk
  | false => exact absurd ⟨j, hj, by rw [e2]; exact ho⟩ h
set_option maxHeartbeats 4000000 in
set_option maxRecDepth 1000000 in
theorem rmerge_any (a : Option Addr) (c : Nat) (L : List (List Int)) (w : World) (hr : RowsAt w a L) (h65 : All65 L) (hl : L.length ≤ 100) (hin : ∀ j b, j < L.length → b < 65 → InI ((L.getD j []).getD b 0)) :
    Calls Try.prog 17 #[.slice a L.length c] w (MgOut L w) := by
  have hz := a_zero
  have HR := Lib.hid hr
  have HN := Lib.hid hin
  have H65 := Lib.hid h65
  have HLL := Lib.hid hl
  obtain ⟨i0, hi, hz0, hz1, hz2⟩ := info_parts info_i64
  have hca : ∀ l, l.length = 65 → (Try.prog.info? 32).map (·.size) = some (hC l).size := fun l hl => by rw [hC_size, hl]; exact a_info
  have HCA := Lib.hid hca
  obtain ⟨Z, hZ⟩ : ∃ Z, hC zeros65 = Z := ⟨_, rfl⟩
  have zs : (Try.prog.info? 32).map (·.size) = some Z.size := by rw [← hZ, hC_size, zeros65_len]; exact a_info
  have zz : Z.size = 65 := by rw [← hZ, hC_size, zeros65_len]
  have za : Z.all (·.oneCell') = true := by rw [← hZ]; exact hC_cells _
  rw [hZ] at hz
  have HZ := Lib.hid hZ
  have TZ : Hid (Kept ((w.alloc (.cells Z 32)).alloc (.cells Z 32)) (w.heap.size + 1) Z 32) := Lib.hid (Kept.new (by simp))
  have HS : Hid (R1Rel L w Z (.int .i64 0) ((w.alloc (.cells Z 32)).alloc (.cells Z 32))) := Lib.hid ⟨0, Nat.zero_le _, rfl, Lib.hid (fun j hj => by omega), Lib.hid ((Kept.new rfl).alloc _), TZ, Lib.hid ((one_alloc _ _).alloc (by simp) _)⟩
  clear hr hin h65 hl hZ hca
  go_enter Try.func17, Try.ntmps17
  go_wp2_with (refine wpList_store_row rfl 32 _ _ rfl (w.heap.size + 1) Z rfl rfl 32 Z TZ.out zs rfl za ?_; rw [setRow_alloc1])
  clear TZ
  go_loopw [5] (fun i wr => R1Rel L w Z i wr) (fun i _ => L.length - (intOf i).toNat)
  case atStart => exact HS.out
  case round =>
    obtain ⟨k, hk, rfl, HV, R0, K0, B0⟩ := hrel
    clear HS
    by_cases hlt : k < L.length
    · obtain ⟨b, off, rfl, h1⟩ := HR.out k hlt
      have hlen := H65.out k hlt
      have c1 : wr.rangeAt b (off + k * 65) (hC (L.getD k [])).toList := fun i v hv => (B0.out.cell (World.block_lt_of_cell? w _ (h1 i v hv))).trans (h1 i v hv)
      have Cr := Lib.hid (fun W => rright_any (L.getD k []) hlen W)
      have F1 : Hid (okL (L.getD k []) = true → ∀ w', Below wr.heap.size wr w' → R1Rel L w Z (.int .i64 ((k : Int) + 1)) w') := Lib.hid fun h w' hb => ⟨k + 1, hlt, rfl, Lib.hid (fun j hj => by
        by_cases e : j = k
        · rw [e]; exact h
        · exact HV.out j (by omega)), Lib.hid (R0.out.next hb), Lib.hid (K0.out.next hb), Lib.hid (B0.out.trans (hb.mono B0.out.size))⟩
      have F2 : Hid (okL (L.getD k []) = false → ∀ w', Below w.heap.size w w' → MgOut L w (.returned (.tuple #[.agg Z, .int .i64 10])) w') := Lib.hid fun h w' hb => ⟨⟨zeros65, 10, by rw [HZ.out], Lib.hid (.inl ⟨⟨k, hlt, h⟩, rfl, rfl⟩)⟩, hb⟩
      have hcs : (hC (L.getD k [])).toList.length = 65 := by rw [Array.length_toList, hC_size]; exact hlen
      have cl : (Try.prog.info? 32).map (·.size) = some (hC (L.getD k [])).toList.length := by rw [hcs]; exact a_info
      generalize hC (L.getD k []) = C at *
      have HLT := Lib.hid hlt
      have hkk : (k : Int) < (L.length : Int) := by omega
      have e3 : wrap64 ((k : Int) + 1) = (k : Int) + 1 := IntWalk.wrap64_in _ (by have := HLL.out; omega)
      cases ho : okL (L.getD k []) with
      | true =>
        rw [ho] at Cr
        have G := Lib.hid (F1.out ho)
        clear F1 F2 ho hlt hk hlen hcs h1
        go_wp2_with (first
          | (refine wpList_load_mid rfl 32 _ rfl b (off + k * 65) rfl C.toList _ c1 a_under rfl cl ?_)
          | (go_at_call 30; refine (Cr.out _).mono ?_; rintro _ w2 ⟨rfl, b2⟩; have G2 := Lib.hid (G.out _ b2); clear b2))
        go_roundw
        case rel => rw [e3]; exact G2.out
        case measure => have := HLT.out; rw [e3]; simp [intOf]; omega
      | false =>
        rw [ho] at Cr
        have G := Lib.hid (F2.out ho)
        clear F1 F2 ho hlt hk hlen hcs h1
        go_wp2_with (first
          | (refine wpList_load_mid rfl 32 _ rfl b (off + k * 65) rfl C.toList _ c1 a_under rfl cl ?_)
          | (go_at_call 30; refine (Cr.out _).mono ?_; rintro _ w2 ⟨rfl, b2⟩; have R2 := Lib.hid (R0.out.next b2); have B2 := Lib.hid (B0.out.trans (b2.mono B0.out.size)); clear b2)
          | (refine wpList_store_row rfl 32 _ _ rfl w.heap.size Z rfl rfl 32 Z R2.out zs rfl za ?_; have R3 := Lib.hid (R2.out.setRow Z); have B3 := Lib.hid (below_setRow B2.out (Nat.le_refl _) Z); generalize w2.setRow w.heap.size Z = w3 at *))
        have FF := Lib.hid (G.out _ B3.out)
        have hld := run_loadVar_row (P := Try.prog) w3 w.heap.size 32 32 Z (0, 0) _ R3.out a_under rfl zs
        refine bodyPost_ret (v := .tuple #[.agg Z, .int .i64 10]) (by simp [results, Try.results17, asAddr, Result.andThen, hld]) rfl ?_
        exact FF.out
    · obtain rfl : k = L.length := by omega
      have hneg : ¬ negP L := fun ⟨j, hj, ho⟩ => by rw [HV.out j hj] at ho; cases ho
      have HNEG := Lib.hid hneg
      have hge := col_nonneg L hneg
      have HGE := Lib.hid hge
      clear hk hlt HV hneg hge
      have START : Hid (R2Rel L w Z (.int .i64 0) wr) := Lib.hid ⟨0, Nat.zero_le _, rfl, Lib.hid (fun b hb => by omega), R0, Lib.hid (by rw [preR_zero, HZ.out]; exact K0.out), B0⟩
      clear R0 K0 B0
      go_wp2
      obtain ⟨wx, hwx⟩ : ∃ x, x = wr := ⟨_, rfl⟩
      subst hwx
      go_loopw [6] (fun i wr => R2Rel L w Z i wr) (fun i _ => 65 - (intOf i).toNat)
      case atStart => exact START.out
      case round =>
        obtain ⟨k, hk, rfl, HV, R0, K0, B0⟩ := hrel
        clear START
        by_cases hlt : k < 65
        · have HLT := Lib.hid hlt
          have hkk : (k : Int) < 65 := by omega
          obtain ⟨W, hW⟩ : ∃ x, x = wr := ⟨_, rfl⟩
          subst hW
          have S3 : Hid (R3Rel L k W (.slice (some ⟨W.heap.size, 0, none⟩) 0 0) (.int .i64 0) (W.alloc (Obj.cells #[] 2))) := Lib.hid ⟨0, Nat.zero_le _, rfl, Lib.hid (GrI.start W)⟩
          go_wp2
          go_loopw [7, 8] (fun v i wr => R3Rel L k W v i wr) (fun _ i _ => L.length - (intOf i).toNat)
          case atStart => exact S3.out
          case round =>
            obtain ⟨j, hj, rfl, HG⟩ := hrel
            clear S3
            by_cases hjl : j < L.length
            · obtain ⟨b, off, rfl, h1⟩ := HR.out j hjl
              have hlen := H65.out j hjl
              have hcell := h1 k (.int .i64 ((L.getD j []).getD k 0)) (by
                rw [Array.getElem?_toList, hC_get _ _ (by omega)])
              have c1 := ((B0.out.trans (HG.out.2.out.mono B0.out.size)).cell (World.block_lt_of_cell? w _ hcell)).trans hcell
              have hsn := Lib.hid (colL_snoc L j k hjl)
              have hcl := colL_len (L.take j) k
              rw [List.length_take] at hcl
              have hjj : (j : Int) < (L.length : Int) := by omega
              have hll := HLL.out
              have hc1 : (colL (L.take j) k).length + [(L.getD j []).getD k 0].length ≤ maxLen := by unfold maxLen; simp; omega
              have hc2 : ((colL (L.take j) k).length + [(L.getD j []).getD k 0].length) * 8 ≤ 140737488355328 := by simp; omega
              have e3 : wrap64 ((j : Int) + 1) = (j : Int) + 1 := IntWalk.wrap64_in _ (by omega)
              have HJL := Lib.hid hjl
              generalize (L.getD j []).getD k 0 = x at *
              have O2 := Lib.hid (owns_below HG.out.1.out (one_alloc wr (.cells #[.int .i64 x] 2)))
              have Q2 := Lib.hid (HG.out.2.out.alloc HG.out.2.out.size (.cells #[.int .i64 x] 2))
              have N2 : Hid (IntRow (wr.alloc (.cells #[.int .i64 x] 2)) (some ⟨wr.heap.size, 0, none⟩) .i64 [x]) := Lib.hid (Kept.intRow (l := [x]) (t := 2) (Kept.new rfl))
              clear h1 hcell hlen hcl hll hj hjl
              go_wp2_with (at_builtin; refine wpList_appendInts rfl _ _ 30 rfl W 2 i0 (.int .i64 0) 8 Try.underlying30 hi hz0 hz1 hz2 rfl _ _ _ rfl O2.out .i64 (some ⟨wr.heap.size, 0, none⟩) 1 [x] rfl (by simp) N2.out hc1 hc2 Q2.out ?_)
              intro v3 w3 o3 b3
              have G3 : Hid (GrI W (colL (L.take (j + 1)) k) v3 w3) := Lib.hid ⟨Lib.hid (by rw [hsn.out, List.length_append, List.map_append]; exact o3), Lib.hid b3⟩
              clear o3 b3 O2 Q2 N2 HG c1
              go_wp2
              go_roundw
              case rel => rw [e3]; exact ⟨j + 1, HJL.out, rfl, G3⟩
              case measure => have := HJL.out; rw [e3]; simp [intOf]; omega
            · obtain rfl : j = L.length := by omega
              rw [List.take_length] at HG
              obtain ⟨a7, c7, hu7, -, -, -, -, r7⟩ := IntRow.ownK HG.out.1.out
              have R7 := Lib.hid r7
              have Q7 := Lib.hid HG.out.2.out
              have CS : Hid (Calls Try.prog 31 #[.slice a7 (colL L k).length c7] wr fun e w' => e = .returned (.tuple #[.int .i64 (vI (colS L k)), .int .i64 (eI (colS L k))]) ∧ Below wr.heap.size wr w') := Lib.hid (sum_ref a7 c7 (colL L k) wr r7 (fun x hx => by
                obtain ⟨r, hr, rfl⟩ := List.mem_map.1 hx
                obtain ⟨j, hj, e⟩ := List.getElem_of_mem hr
                have e2 : L.getD j [] = r := by rw [List.getD_eq_getElem?_getD, List.getElem?_eq_getElem hj]; exact e
                have := HN.out j k hj HLT.out
                rwa [e2] at this) (by rw [colL_len]; exact HLL.out))
              have hcl := colL_len L k
              rw [hcl] at CS hu7
              have hge := HGE.out k HLT.out
              have FOV : Hid (¬ InI (colS L k) → ∀ w', Below w.heap.size w w' → MgOut L w (.returned (.tuple #[.agg Z, .int .i64 12])) w') := Lib.hid fun h w' hb => ⟨⟨zeros65, 12, by rw [HZ.out], Lib.hid (.inr (.inl ⟨HNEG.out, ⟨k, HLT.out, by unfold InI at h; omega⟩, rfl, rfl⟩))⟩, hb⟩
              have FOK : Hid (InI (colS L k) → ∀ W', Kept W' w.heap.size Z 32 → Kept W' (w.heap.size + 1) (hC (preR L k)) 32 → Below w.heap.size w W' → R2Rel L w Z (.int .i64 ((k : Int) + 1)) (W'.setCell ⟨w.heap.size + 1, k, none⟩ (.int .i64 (colS L k)))) := Lib.hid fun h W' p1 p2 p3 => ⟨k + 1, HLT.out, rfl, Lib.hid (fun b hb => by
                by_cases e : b = k
                · rw [e]; unfold InI at h; omega
                · exact HV.out b (by omega)), Lib.hid (p1.far (by simp) _), Lib.hid (by rw [preR_step L k HLT.out, ← hC_set]; exact p2.set k _), Lib.hid (p3.setCell (by simp) _)⟩
              have e3 : wrap64 ((k : Int) + 1) = (k : Int) + 1 := IntWalk.wrap64_in _ (by have := HLT.out; omega)
              have hkl := HLT.out
              clear hge hcl hj hjl r7 HG HV hlt hk
              obtain ⟨v, hv⟩ : ∃ x, x = u7 := ⟨_, rfl⟩
              subst hv
              subst hu7
              obtain ⟨wy, hwy⟩ : ∃ x, x = wr := ⟨_, rfl⟩
              subst hwy
              by_cases hI : InI (colS L k)
              · have G := Lib.hid (FOK.out hI)
                rw [vI_in hI, eI_in hI] at CS
                clear FOV FOK hI
                generalize colS L k = S at *
                go_wp2_with fail
                refine CS.out.mono ?_
                rintro _ w4 ⟨rfl, b4⟩
                have Q4 := Lib.hid (Q7.out.trans (b4.mono Q7.out.size))
                have R4 := Lib.hid (R0.out.next Q4.out)
                have K4 := Lib.hid (K0.out.next Q4.out)
                have B4 := Lib.hid (B0.out.trans (Q4.out.mono B0.out.size))
                obtain ⟨x1, x2⟩ := K4.out.cellK k (by rw [preR_len]; exact hkl)
                have FF := Lib.hid (G.out w4 R4.out K4.out B4.out)
                clear b4 Q4 R4 K4 B4 G hkl CS Q7 R7
                go_wp2
                go_roundw
                case rel => exact FF.out
                case measure => have := HLT.out; simp [intOf]; omega
              · have G := Lib.hid (FOV.out hI)
                rw [vI_out hI, eI_out hI] at CS
                clear FOV FOK hI
                go_wp2_with fail
                refine CS.out.mono ?_
                rintro _ w4 ⟨rfl, b4⟩
                have Q4 := Lib.hid (Q7.out.trans (b4.mono Q7.out.size))
                have R4 := Lib.hid (R0.out.next Q4.out)
                have B4 := Lib.hid (B0.out.trans (Q4.out.mono B0.out.size))
                have R5 := Lib.hid (R4.out.setRow Z)
                have B5 := Lib.hid (below_setRow B4.out (Nat.le_refl _) Z)
                have FF := Lib.hid (G.out _ B5.out)
                have hld := run_loadVar_row (P := Try.prog) (w4.setRow w.heap.size Z) w.heap.size 32 32 Z (0, 0) _ R5.out a_under rfl zs
                clear b4 Q4 G CS Q7 R7 B4 B5 R5
                go_wp2_with (refine wpList_store_row rfl 32 _ _ rfl w.heap.size Z rfl rfl 32 Z R4.out zs rfl za ?_; generalize w4.setRow w.heap.size Z = w5 at *)
                refine bodyPost_ret (v := .tuple #[.agg Z, .int .i64 12]) (by simp [results, Try.results17, asAddr, Result.andThen, hld]) rfl ?_
                exact FF.out
        · obtain rfl : k = 65 := by omega
          rw [preR_full] at K0
          have s1 := HCA.out (sumR L) (sumR_len _)
          have s2 : Z.size = (hC (sumR L)).size := by rw [zz, hC_size, sumR_len]
          have s3 := hC_cells (sumR L)
          have FF : Hid (∀ w', Below w.heap.size w w' → MgOut L w (.returned (.tuple #[.agg (hC (sumR L)), .int .i64 0])) w') := Lib.hid fun w' hb => ⟨⟨sumR L, 0, rfl, Lib.hid (.inr (.inr ⟨HNEG.out, fun ⟨b, hb, ho⟩ => by have := HV.out b hb; omega, rfl, rfl⟩))⟩, hb⟩
          generalize hC (sumR L) = C at *
          have R5 := Lib.hid (R0.out.setRow C)
          have B5 := Lib.hid (FF.out _ (below_setRow B0.out (Nat.le_refl _) C))
          have hld := run_loadVar_row (P := Try.prog) (wr.setRow w.heap.size C) w.heap.size 32 32 C (0, 0) _ R5.out a_under rfl s1
          clear FF HV R5 hk hlt
          go_wp2_with (first
            | (refine wpList_load_row rfl 32 _ rfl (w.heap.size + 1) rfl 32 C (0, 0) _ K0.out a_under rfl s1 ?_)
            | (refine wpList_store_row rfl 32 _ _ rfl w.heap.size C rfl rfl 32 Z R0.out s1 s2 s3 ?_; generalize wr.setRow w.heap.size C = w5 at *))
          refine bodyPost_ret (v := .tuple #[.agg C, .int .i64 0]) (by simp [results, Try.results17, asAddr, Result.andThen, hld]) rfl ?_
          exact B5.out
end Go.Proofs.Ytldgdedfioigiaa
