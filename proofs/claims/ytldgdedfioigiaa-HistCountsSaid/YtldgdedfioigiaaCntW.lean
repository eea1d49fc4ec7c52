/- HistCounts, walked: of gen_cnt05.py. -/
import Derived.Test.YtldgdedfioigiaaCntC
import Derived.Test.YtldgdedfioigiaaAlive
import Derived.Deep.DeepCutAuto
namespace Go.Proofs.Ytldgdedfioigiaa
open Go.RowKit
set_option linter.unusedVariables false
set_option linter.unusedSimpArgs false

def GrA (W : World) (L : List (List Int)) (v : Value) (wr : World) : Prop := Hid (wr.ownsRow W.heap.size 33 65 v L.length (cellsL L)) ∧ Hid (Below W.heap.size W wr)
def CtRel (L : List (List Int)) (W : World) (v i : Value) (wr : World) : Prop := ∃ k : Nat, k ≤ L.length ∧ i = .int .i64 k ∧ Hid (GrA W (L.take k) v wr)
theorem take_row (L : List (List Int)) (k : Nat) (hk : k < L.length) : L.take (k + 1) = L.take k ++ [L.getD k []] := by
  rw [List.take_add_one]
  simp [List.getD, List.getElem?_eq_getElem hk]
theorem all65_take {L : List (List Int)} (h : All65 L) (k : Nat) : All65 (L.take k) := fun j hj => by
  rw [List.length_take] at hj
  have := h j (by omega)
  rwa [List.getD_eq_getElem?_getD, List.getElem?_take, if_pos (by omega), ← List.getD_eq_getElem?_getD]
theorem mg_len {L : List (List Int)} {l : List Int} {E : Int} (h : (negP L ∧ l = zeros65 ∧ E = 10) ∨ (¬ negP L ∧ overP L ∧ l = zeros65 ∧ E = 12) ∨ (¬ negP L ∧ ¬ overP L ∧ l = sumR L ∧ E = 0)) : l.length = 65 := mgOut_len (Lib.hid h)
def CtEnd (L0 : List (List Int)) (w : World) (ga : Nat) (A : Array Value) (a9 : Option Addr) (L : List (List Int)) (p q : Value) (wx : World) : Prop := ∃ (g : Nat) (lr : List Int) (E : Int), p = .pointer (some ⟨g, 0, none⟩) ∧ q = .int .i64 E ∧
  Hid ((negP L0 ∧ lr = zeros65 ∧ E = 10) ∨ (¬ negP L0 ∧ overP L0 ∧ lr = zeros65 ∧ E = 12) ∨ (¬ negP L0 ∧ ¬ overP L0 ∧ lr = sumR L0 ∧ E = 0)) ∧ Hid (Kept wx g (hC lr) 32 ∧ Kept wx ga A 33 ∧ RowsAt wx a9 L ∧ Below w.heap.size w wx)
set_option maxHeartbeats 4000000 in
set_option maxRecDepth 1000000 in
theorem counts_any (la ra : Option Addr) (lc rc : Nat) (l : List Int) (L : List (List Int)) (v : Int) (w : World) (hr : IntRow w la .i64 l) (hla : la = none → lc = 0) (hin : ∀ x ∈ l, InI x) (hl : l.length ≤ 200)
    (hR : RowsAt w ra L) (h65 : All65 L) (hLin : ∀ j b, j < L.length → b < 65 → InI ((L.getD j []).getD b 0)) (hL : L.length ≤ 20) (hv : InI v) :
    Calls Try.prog 4 #[.slice la l.length lc, .slice ra L.length rc, .int .i64 v] w fun e w' => e = .returned (.bool true) ∧ Below w.heap.size w w' := by
  have hz := h_zero
  have hza := a_zero
  obtain ⟨i0, hi, hz0, hz1, hz2⟩ := info_parts65 info_hist
  have zz : (hC zeros65).size = 65 := by rw [hC_size, zeros65_len]
  have c65 : ∀ l : List Int, l.length = 65 → (Try.prog.info? 33).map (·.size) = some (hC l).size := fun l hl => by rw [hC_size, hl]; exact h_info
  have a65 : ∀ l : List Int, l.length = 65 → (Try.prog.info? 32).map (·.size) = some (hC l).size := fun l hl => by rw [hC_size, hl]; exact a_info
  have C65 := Lib.hid c65
  have A65 := Lib.hid a65
  have ci := c65 (cntL l) (cntL_len l)
  have e0 : (hC zeros65).size = (hC (cntL l)).size := by rw [zz, hC_size, cntL_len]
  have o0 := hC_cells (cntL l)
  have CCP : Hid (∀ W, Below w.heap.size w W → Calls Try.prog 15 #[.slice la l.length lc] W (WSum3 l W)) := Lib.hid fun W h => (copyLongs_any la lc l W (hr.below h) hla (by omega)).mono (by
    rintro e w' ⟨v, rfl, hown, hb⟩
    obtain ⟨a', cap, rfl, e2, -, -, -, e6⟩ := IntRow.ownK hown
    exact ⟨a', cap, rfl, e6, hb⟩)
  have COf : Hid (∀ W a c, IntRow W a .i64 l → Calls Try.prog 14 #[.slice a l.length c] W (Gives (.agg (hC (cntL l))) W)) := Lib.hid fun W a c h => hof_any a c l W h hin (by omega)
  have CRO : Hid (∀ W, Below w.heap.size w W → Calls Try.prog 18 #[.slice la l.length lc] W (Gives (.agg (hC (cntL l))) W)) := Lib.hid fun W h => rof_any la lc l W (hr.below h) hin (by omega)
  have CM : Hid (∀ W a c, RowsAt W a L → Calls Try.prog 16 #[.slice a L.length c] W (MgOut L W)) := Lib.hid fun W a c h => merge_any a c L W h h65 (by omega) hLin
  have CRM : Hid (∀ W, Below w.heap.size w W → Calls Try.prog 17 #[.slice ra L.length rc] W (MgOut L W)) := Lib.hid fun W h => rmerge_any ra rc L W (hR.below h) h65 (by omega) hLin
  have CA : Hid (0 < L.length → ∀ W, Calls Try.prog 19 #[.agg (hC (L.getD 0 [])), .int .i64 v] W (MgOut [L.getD 0 [], cntL [v]] W)) := Lib.hid fun h W => add_any _ v W (h65 0 h) (fun b hb => hLin 0 b h hb) hv
  have CR1 : Hid (∀ W b, Kept W b #[.int .i64 v] 2 → Calls Try.prog 18 #[.slice (some ⟨b, 0, none⟩) 1 1] W (Gives (.agg (hC (cntL [v]))) W)) := Lib.hid fun W b h => rof_any _ 1 [v] W (Kept.intRow (l := [v]) h) (fun x hx => by simp at hx; subst hx; exact hv) (by simp)
  have CR2 : Hid (0 < L.length → ∀ W b, Kept W b (hC (L.getD 0 []) ++ hC (cntL [v])) 32 → Calls Try.prog 17 #[.slice (some ⟨b, 0, none⟩) 2 2] W (MgOut [L.getD 0 [], cntL [v]] W)) := Lib.hid fun h W b hb => rmerge_any _ 2 [L.getD 0 [], cntL [v]] W (rows2 (h65 0 h) (cntL_len _) hb) (all2 (h65 0 h) (cntL_len _)) (by simp) (in2 (fun b hb => hLin 0 b h hb) (cntL_in [v] (by simp)))
  obtain ⟨ja, hja, hjz, hjs⟩ : ∃ ie, Try.prog.info? 32 = some ie ∧ ie.zero = some (.agg (hC zeros65)) ∧ ie.size = 65 := by
    have e := a_zero0
    cases hq : Try.prog.info? 32 with
    | none => simp [hq] at e
    | some i => simp [hq] at e; exact ⟨i, rfl, e.1, e.2⟩
  have HNE := Lib.hid (fun W => h_neq_self (cntL_len l) W)
  have HRR := Lib.hid hR
  have H65 := Lib.hid h65
  have HLN := Lib.hid hLin
  have HLL := Lib.hid hL
  have HV := Lib.hid hv
  have q1 : ¬ (200 : Int) < (l.length : Int) := by omega
  have q2 : ¬ (20 : Int) < (L.length : Int) := by omega
  obtain ⟨Z, hZ⟩ : ∃ Z, hC zeros65 = Z := ⟨_, rfl⟩
  have HZ := Lib.hid hZ
  rw [hZ] at hz hza hz0 zz e0 hjz
  have HJ := Lib.hid (⟨hja, hjz, hjs⟩ : Try.prog.info? 32 = some ja ∧ ja.zero = some (.agg Z) ∧ ja.size = 65)
  obtain ⟨C, hC0⟩ : ∃ C, hC (cntL l) = C := ⟨_, rfl⟩
  rw [hC0] at ci e0 o0 COf CRO HNE
  have HI := Lib.hid (⟨hi, hz0, hz1, hz2⟩ : Try.prog.info? 33 = some i0 ∧ i0.zero = some (.agg Z) ∧ i0.size = 65 ∧ i0.bytes = 520)
  clear hr hla hin hl hR h65 hLin hL hv hZ hC0 c65 a65 hi hz0 hz1 hz2 hja hjz hjs
  go_enter Try.func4, Try.ntmps4
  go_wp2_with fail
  refine (alive_any _).mono ?_
  rintro _ w1 ⟨rfl, b1⟩
  have B1 := Lib.hid b1
  clear b1
  go_wp2_with fail
  refine (CCP.out _ B1.out).mono ?_
  rintro _ w2 ⟨a2, c2, rfl, r2, b2⟩
  have R2 := Lib.hid r2
  have B2 := Lib.hid (B1.out.trans (b2.mono B1.out.size))
  clear r2 b2 B1 CCP
  go_wp2_with fail
  refine (COf.out _ _ _ R2.out).mono ?_
  rintro _ w3 ⟨rfl, b3⟩
  have B3 := Lib.hid (B2.out.trans (b3.mono B2.out.size))
  clear b3 B2 COf R2
  have T3 : Hid (Kept (w3.alloc (.cells Z 33)) w3.heap.size Z 33) := Lib.hid (Kept.new rfl)
  have K3 : Hid (Kept (w3.alloc (.cells C 33)) w3.heap.size C 33) := Lib.hid (Kept.new rfl)
  have B4 := Lib.hid (B3.out.alloc B3.out.size (.cells C 33))
  have gl : w.heap.size ≤ w3.heap.size := B3.out.size
  go_upto_region 6 with (refine wpList_store_row rfl 33 _ _ rfl w3.heap.size C rfl rfl 33 Z T3.out ci e0 o0 ?_; rw [World.setRow_alloc_new]; clear T3; generalize w3.alloc (.cells C 33) = W at *)
  clear B3 o0 e0
  generalize w3.heap.size = gh at *
  have S0 : Hid (CtRel L W (.slice (some ⟨W.heap.size, 0, none⟩) 0 0) (.int .i64 0) (W.alloc (Obj.cells #[] 33))) := Lib.hid ⟨0, Nat.zero_le _, rfl, Lib.hid ⟨Lib.hid (World.ownsRow_made _ #[] 0 (Nat.le_refl _) (by unfold maxLen; omega) rfl), Lib.hid ((Below.refl _ _).alloc (Nat.le_refl _) _)⟩⟩
  go_wp2
  go_loopw [8, 9] (fun v i wr => CtRel L W v i wr) (fun _ i _ => L.length - (intOf i).toNat)
  case atStart => exact S0.out
  case round =>
    obtain ⟨k, hk, rfl, HG⟩ := hrel
    clear S0
    by_cases hlt : k < L.length
    · have HLT := Lib.hid hlt
      obtain ⟨b, off, rfl, h1⟩ := HRR.out k hlt
      have hlen := H65.out k hlt
      have c1 : wr.rangeAt b (off + k * 65) (hC (L.getD k [])).toList := fun i v hv => ((B4.out.trans (HG.out.2.out.mono B4.out.size)).cell (World.block_lt_of_cell? w _ (h1 i v hv))).trans (h1 i v hv)
      have cl : (Try.prog.info? 32).map (·.size) = some (hC (L.getD k [])).toList.length := by rw [Array.length_toList, hC_size, hlen]; exact a_info
      have hsz : (hC (L.getD k [])).size = 65 := by rw [hC_size]; exact hlen
      have htk := Lib.hid (take_row L k hlt)
      have hlk : (L.take k).length = k := by rw [List.length_take]; omega
      have hll := HLL.out
      have hc1 : (L.take k).length + 1 ≤ maxLen := by unfold maxLen; omega
      have hc2 : ((L.take k).length + 1) * 520 ≤ 140737488355328 := by omega
      have hkk : (k : Int) < (L.length : Int) := by omega
      have e3 : wrap64 ((k : Int) + 1) = (k : Int) + 1 := IntWalk.wrap64_in _ (by omega)
      obtain ⟨hi, hz0, hz1, hz2⟩ := HI.out
      have hfill := fill1 (C := hC (L.getD k [])) (cells := (Array.range (1 * 65)).map ((Value.agg Z).cells[· % (Value.agg Z).cells.size]!)) hsz (by simp)
      have O2 := Lib.hid (owns_below HG.out.1.out (one_alloc wr (.cells (hC (L.getD k [])) 33)))
      have Q2 := Lib.hid (HG.out.2.out.alloc HG.out.2.out.size (.cells (hC (L.getD k [])) 33))
      have N2 : Hid (Kept (wr.alloc (.cells (hC (L.getD k [])) 33)) wr.heap.size (hC (L.getD k [])) 33) := Lib.hid (Kept.new rfl)
      have HLEN := Lib.hid hlen
      clear h1 hlk hll hk hlt hlen HG
      obtain ⟨C0, hC0⟩ : ∃ C0, hC (L.getD k []) = C0 := ⟨_, rfl⟩
      have HC0 := Lib.hid hC0
      rw [hC0] at c1 cl hsz hfill O2 Q2 N2
      clear hC0
      go_wp2_with (first
        | (refine wpList_load_mid rfl 32 _ rfl b (off + k * 65) rfl C0.toList _ c1 a_under rfl cl ?_)
        | (refine wpList_buildSlice rfl 36 33 1 _ rfl C0 i0 (.agg Z) rfl hi hz0 (by rw [hz1]; decide) (by rw [hz1]; decide) (by rw [hz1]; refine Eq.trans (congrArg (Instr.fill _ _) ?_) hfill; simp only [List.map_toArray, List.map_cons, List.map_nil]; rfl) ?_)
        | (at_builtin; refine wpList_appendArr rfl _ _ 36 rfl W 33 i0 (.agg Z) 520 Try.underlying36 hi hz0 hz1 hz2 zz _ _ _ rfl O2.out wr.heap.size (L.getD k []) 33 HLEN.out rfl (by rw [HC0.out]; exact N2.out) hc1 hc2 Q2.out ?_; intro v3 w3 o3 b3))
      have G3 : Hid (GrA W (L.take (k + 1)) v3 w3) := Lib.hid ⟨Lib.hid (by rw [htk.out, List.length_append, cellsL_append]; simpa [cellsL] using o3), Lib.hid b3⟩
      clear o3 b3 O2 Q2 N2 c1 hfill
      go_wp2
      go_roundw
      case rel => exact ⟨k + 1, HLT.out, rfl, G3⟩
      case measure => have := HLT.out; simp [intOf]; omega
    · obtain rfl : k = L.length := by omega
      rw [List.take_length] at HG
      obtain ⟨a9, c9, hu, -, hn9, r9⟩ := RowsAt.own H65.out HG.out.1.out
      have R9 := Lib.hid r9
      have KH := Lib.hid (K3.out.next HG.out.2.out)
      have BB := Lib.hid (B4.out.trans (HG.out.2.out.mono B4.out.size))
      have GH : Hid (gh < wr.heap.size ∧ w.heap.size ≤ gh) := Lib.hid ⟨KH.out.lt, gl⟩
      clear HG r9 hk hlt K3 B4 gl hn9
      obtain ⟨xu, hxu⟩ : ∃ x, x = u8 := ⟨_, rfl⟩
      subst hxu
      subst hu
      obtain ⟨W1, hW1⟩ : ∃ x, x = wr := ⟨_, rfl⟩
      subst hW1
      go_upto_region 11 with fail
      go_wp2_with fail
      refine (CM.out _ _ _ R9.out).mono ?_
      rintro _ w4 ⟨⟨lr, E, rfl, HE⟩, b4⟩
      have ml := mgOut_len HE
      have cm := C65.out lr ml
      have am := A65.out lr ml
      have em : Z.size = (hC lr).size := by rw [zz, hC_size, ml]
      have om := hC_cells lr
      have HNM := Lib.hid (fun W => h_neq_self ml W)
      obtain ⟨M, hM⟩ : ∃ M, hC lr = M := ⟨_, rfl⟩
      rw [hM] at cm am em om HNM
      rw [hM]
      have HM := Lib.hid hM
      clear hM ml
      have T4 : Hid (Kept (w4.alloc (.cells Z 33)) w4.heap.size Z 33) := Lib.hid (Kept.new rfl)
      have K4 : Hid (Kept (w4.alloc (.cells M 33)) w4.heap.size M 33) := Lib.hid (Kept.new rfl)
      have KH4 := Lib.hid ((KH.out.next b4).alloc (.cells M 33))
      have R94 := Lib.hid ((R9.out.below b4).below (one_alloc w4 (.cells M 33)))
      have BB3 := Lib.hid (BB.out.trans (b4.mono BB.out.size))
      have BB4 := Lib.hid (BB3.out.alloc BB3.out.size (.cells M 33))
      have L4 : Hid (gh < w4.heap.size) := Lib.hid (KH.out.next b4).lt
      clear b4 KH R9 BB BB3 CM
      go_upto_region 12 with (refine wpList_store_row rfl 33 _ _ rfl w4.heap.size M rfl rfl 33 Z T4.out cm em om ?_; rw [World.setRow_alloc_new]; clear T4; generalize w4.alloc (.cells M 33) = W4 at *)
      obtain ⟨gm, hgm⟩ : ∃ g, w4.heap.size = g := ⟨_, rfl⟩
      rw [hgm] at K4 L4
      (try rw [hgm])
      clear hgm
      go_wp2_with fail
      refine (CRM.out _ BB4.out).mono ?_
      rintro _ w5 ⟨⟨lr', E', rfl, HE'⟩, b5⟩
      obtain ⟨rfl, rfl⟩ := mg_det HE.out HE'.out
      rw [HM.out]
      have T5 : Hid (Kept (w5.alloc (.cells Z 32)) w5.heap.size Z 32) := Lib.hid (Kept.new rfl)
      have K5 : Hid (Kept (w5.alloc (.cells M 32)) w5.heap.size M 32) := Lib.hid (Kept.new rfl)
      have KH5 := Lib.hid ((KH4.out.next b5).alloc (.cells M 32))
      have KM5 := Lib.hid ((K4.out.next b5).alloc (.cells M 32))
      have R95 := Lib.hid ((R94.out.below b5).below (one_alloc w5 (.cells M 32)))
      have BBx := Lib.hid (BB4.out.trans (b5.mono BB4.out.size))
      have BB5 := Lib.hid (BBx.out.alloc BBx.out.size (.cells M 32))
      clear b5 KH4 K4 R94 BB4 BBx HE HE' CRM
      go_upto_region 13 with (refine wpList_store_row rfl 32 _ _ rfl w5.heap.size M rfl rfl 32 Z T5.out am em om ?_; rw [World.setRow_alloc_new]; clear T5; generalize w5.alloc (.cells M 32) = W5 at *)
      obtain ⟨gr, hgr⟩ : ∃ g, w5.heap.size = g := ⟨_, rfl⟩
      rw [hgr] at K5
      (try rw [hgr])
      clear hgr
      have hne := HNE.out
      have hnm := HNM.out
      have R2 : Hid (Below W5.drew.heap.size W5.drew W5.drew) := Lib.hid (Below.refl _ _)
      have KA2 : Hid (Kept W5.drew gh C 33) := Lib.hid (KH5.out.drewN 1)
      have KM2 : Hid (Kept W5.drew gm M 33) := Lib.hid (KM5.out.drewN 1)
      have KR2 : Hid (Kept W5.drew gr M 32) := Lib.hid (K5.out.drewN 1)
      have B2 : Hid (Below w.heap.size w W5.drew) := Lib.hid BB5.out.drew
      have RW2 : Hid (RowsAt W5.drew a9 L) := Lib.hid R95.out
      refine wp_region_held_drew (S := fun w' => Hid (Kept w' gh C 33 ∧ Kept w' gm M 33 ∧ Kept w' gr M 32)) (by kernel_rfl) (Lib.hid ⟨KA2.out, KM2.out, KR2.out⟩) (fun hHeld => ?_)
      clear KH5 KM5 K5 BB5 R95
      generalize W5.drew = v2 at *
      refine wpAnyH_take (i := 0) (oi := ({ dst := some 55, op := Op.load 33 (Operand.tmp 7), type := 33, pos := "law.go:64", after := #[], guard := none } : Oper)) (v := .agg C) rfl (by kernel_rfl) (by kernel_rfl) (by kernel_rfl) (fun _ _ _ h => h) (yieldsIf_row (by rfl) _ _ rfl gh rfl C (fun w' hw' => hw'.out.1) h_under rfl ci) hHeld ?_
      (try simp only [Act.put, List.setIfInBounds_toArray, List.set_cons_zero, List.set_cons_succ])
      refine wpAnyH_take (i := 1) (oi := ({ dst := some 56, op := Op.move (Operand.tmp 0), type := 30, pos := "law.go:64", after := #[], guard := none } : Oper)) (v := ?_) rfl (by kernel_rfl) (by kernel_rfl) (by kernel_rfl) (fun _ _ _ h => h) (Or.inl ⟨by rfl, ?_⟩) hHeld ?_
      rotate_left
      · ((intro w hSw; (try dsimp only at hSw); go_simp); (try with_reducible rfl))
      (try simp only [Act.put, List.setIfInBounds_toArray, List.set_cons_zero, List.set_cons_succ])
      refine wpAnyH_ready (rs := [2]) (by kernel_rfl) (by simp) ?_
      refine AllReadyH.cons (o := ({ dst := some 57, op := Op.call { callee := Callee.value (Operand.func 18), args := #[Operand.tmp 56], argTypes := #[30] }, type := 32, pos := "law.go:64", after := #[{ on := 1, ground := Ground.data }], guard := none } : Oper)) rfl (fun K hK => ?_) (AllReadyH.nil)
      go_simp
      (with_reducible refine (CRO.out _ B2.out).mono ?_)
      rintro _ v3 ⟨rfl, b3⟩
      have KA3 := Lib.hid (KA2.out.next b3)
      have KM3 := Lib.hid (KM2.out.next b3)
      have KR3 := Lib.hid (KR2.out.next b3)
      have RW3 := Lib.hid (RW2.out.below b3)
      have B3 := Lib.hid (B2.out.trans (b3.mono B2.out.size))
      have R3 := Lib.hid (R2.out.trans (b3.mono R2.out.size))
      clear b3
      refine hK.out _ _ ?_ (fun hHeld => ?_)
      · exact Lib.hid ⟨KA3.out, KM3.out, KR3.out⟩
      clear hK K
      (try simp only [Act.put, List.setIfInBounds_toArray, List.set_cons_zero, List.set_cons_succ])
      refine wpAnyH_take (i := 3) (oi := ({ dst := some 58, op := Op.binOp BinOp.neq 33 (Operand.tmp 55) (Operand.tmp 57) 33, type := 4, pos := "law.go:64", after := #[{ on := 0, ground := Ground.data }, { on := 2, ground := Ground.data }], guard := none } : Oper)) (v := .bool false) rfl (by kernel_rfl) (by kernel_rfl) (by kernel_rfl) (fun _ _ _ h => h) (Or.inl ⟨by rfl, fun w hSw => h_neq_at _ _ _ _ C _ rfl rfl rfl hne⟩) hHeld ?_
      (try simp only [Act.put, List.setIfInBounds_toArray, List.set_cons_zero, List.set_cons_succ])
      refine wpAnyH_take (i := 4) (oi := ({ dst := some 59, op := Op.move (Operand.tmp 58), type := 4, pos := "law.go:64", after := #[{ on := 3, ground := Ground.data }, { on := 2, ground := Ground.chain }], guard := none } : Oper)) (v := ?_) rfl (by kernel_rfl) (by kernel_rfl) (by kernel_rfl) (fun _ _ _ h => h) (Or.inl ⟨by rfl, ?_⟩) hHeld ?_
      rotate_left
      · ((intro w hSw; (try dsimp only at hSw); go_simp); (try with_reducible rfl))
      (try simp only [Act.put, List.setIfInBounds_toArray, List.set_cons_zero, List.set_cons_succ])
      refine wpAnyH_take (i := 5) (oi := ({ dst := some 60, op := Op.load 33 (Operand.tmp 10), type := 33, pos := "law.go:64", after := #[{ on := 4, ground := Ground.guard }], guard := some (4, false) } : Oper)) (v := .agg M) rfl (by kernel_rfl) (by kernel_rfl) (by kernel_rfl) (fun _ _ _ h => h) (yieldsIf_row (by rfl) _ _ rfl gm rfl M (fun w' hw' => hw'.out.2.1) h_under rfl cm) hHeld ?_
      (try simp only [Act.put, List.setIfInBounds_toArray, List.set_cons_zero, List.set_cons_succ])
      refine wpAnyH_take (i := 6) (oi := ({ dst := some 61, op := Op.load 32 (Operand.tmp 12), type := 32, pos := "law.go:64", after := #[{ on := 4, ground := Ground.guard }], guard := some (4, false) } : Oper)) (v := .agg M) rfl (by kernel_rfl) (by kernel_rfl) (by kernel_rfl) (fun _ _ _ h => h) (yieldsIf_row (by rfl) _ _ rfl gr rfl M (fun w' hw' => hw'.out.2.2) a_under rfl am) hHeld ?_
      (try simp only [Act.put, List.setIfInBounds_toArray, List.set_cons_zero, List.set_cons_succ])
      refine wpAnyH_take (i := 7) (oi := ({ dst := some 62, op := Op.binOp BinOp.neq 33 (Operand.tmp 60) (Operand.tmp 61) 33, type := 4, pos := "law.go:64", after := #[{ on := 5, ground := Ground.data }, { on := 6, ground := Ground.data }, { on := 4, ground := Ground.guard }], guard := some (4, false) } : Oper)) (v := .bool false) rfl (by kernel_rfl) (by kernel_rfl) (by kernel_rfl) (fun _ _ _ h => h) (Or.inl ⟨by rfl, fun w hSw => h_neq_at _ _ _ _ M _ rfl rfl rfl hnm⟩) hHeld ?_
      (try simp only [Act.put, List.setIfInBounds_toArray, List.set_cons_zero, List.set_cons_succ])
      refine wpAnyH_take (i := 8) (oi := ({ dst := some 63, op := Op.pick (Operand.tmp 59) (Operand.const (Value.bool true)) (Operand.tmp 62), type := 4, pos := "law.go:64", after := #[{ on := 4, ground := Ground.data }, { on := 7, ground := Ground.data }], guard := none } : Oper)) (v := ?_) rfl (by kernel_rfl) (by kernel_rfl) (by kernel_rfl) (fun _ _ _ h => h) (Or.inl ⟨by rfl, ?_⟩) hHeld ?_
      rotate_left
      · ((intro w hSw; (try dsimp only at hSw); go_simp); (try with_reducible rfl))
      (try simp only [Act.put, List.setIfInBounds_toArray, List.set_cons_zero, List.set_cons_succ])
      refine wpAnyH_take (i := 9) (oi := ({ dst := some 64, op := Op.move (Operand.tmp 63), type := 4, pos := "law.go:64", after := #[{ on := 8, ground := Ground.data }, { on := 4, ground := Ground.chain }], guard := none } : Oper)) (v := ?_) rfl (by kernel_rfl) (by kernel_rfl) (by kernel_rfl) (fun _ _ _ h => h) (Or.inl ⟨by rfl, ?_⟩) hHeld ?_
      rotate_left
      · ((intro w hSw; (try dsimp only at hSw); go_simp); (try with_reducible rfl))
      (try simp only [Act.put, List.setIfInBounds_toArray, List.set_cons_zero, List.set_cons_succ])
      refine wpAnyH_take (i := 10) (oi := ({ dst := some 65, op := Op.move (Operand.tmp 11), type := 37, pos := "law.go:64", after := #[{ on := 9, ground := Ground.guard }], guard := some (9, false) } : Oper)) (v := ?_) rfl (by kernel_rfl) (by kernel_rfl) (by kernel_rfl) (fun _ _ _ h => h) (Or.inl ⟨by rfl, ?_⟩) hHeld ?_
      rotate_left
      · ((intro w hSw; (try dsimp only at hSw); go_simp); (try with_reducible rfl))
      (try simp only [Act.put, List.setIfInBounds_toArray, List.set_cons_zero, List.set_cons_succ])
      refine wpAnyH_take (i := 11) (oi := ({ dst := some 66, op := Op.move (Operand.tmp 13), type := 37, pos := "law.go:64", after := #[{ on := 9, ground := Ground.guard }], guard := some (9, false) } : Oper)) (v := ?_) rfl (by kernel_rfl) (by kernel_rfl) (by kernel_rfl) (fun _ _ _ h => h) (Or.inl ⟨by rfl, ?_⟩) hHeld ?_
      rotate_left
      · ((intro w hSw; (try dsimp only at hSw); go_simp); (try with_reducible rfl))
      (try simp only [Act.put, List.setIfInBounds_toArray, List.set_cons_zero, List.set_cons_succ])
      refine wpAnyH_take (i := 12) (oi := ({ dst := some 67, op := Op.binOp BinOp.neq 37 (Operand.tmp 65) (Operand.tmp 66) 37, type := 4, pos := "law.go:64", after := #[{ on := 10, ground := Ground.data }, { on := 11, ground := Ground.data }, { on := 9, ground := Ground.guard }], guard := some (9, false) } : Oper)) (v := ?_) rfl (by kernel_rfl) (by kernel_rfl) (by kernel_rfl) (fun _ _ _ h => h) (Or.inl ⟨by rfl, ?_⟩) hHeld ?_
      rotate_left
      · ((intro w hSw; (try dsimp only at hSw); go_simp); (try with_reducible rfl))
      (try simp only [Act.put, List.setIfInBounds_toArray, List.set_cons_zero, List.set_cons_succ])
      refine wpAnyH_take (i := 13) (oi := ({ dst := some 68, op := Op.pick (Operand.tmp 64) (Operand.const (Value.bool true)) (Operand.tmp 67), type := 4, pos := "law.go:64", after := #[{ on := 9, ground := Ground.data }, { on := 12, ground := Ground.data }], guard := none } : Oper)) (v := ?_) rfl (by kernel_rfl) (by kernel_rfl) (by kernel_rfl) (fun _ _ _ h => h) (Or.inl ⟨by rfl, ?_⟩) hHeld ?_
      rotate_left
      · ((intro w hSw; (try dsimp only at hSw); go_simp); (try with_reducible rfl))
      (try simp only [Act.put, List.setIfInBounds_toArray, List.set_cons_zero, List.set_cons_succ])
      refine wpAnyH_done (by kernel_rfl) ?_ _
      have BE := B3
      have KME := KM3
      have RWE := RW3
      obtain ⟨V, hV⟩ : ∃ x, x = v3 := ⟨_, rfl⟩
      subst hV
      clear hne hnm hHeld CRO HNE HNM
      by_cases hm : L.length = 0
      · have d : ((L.length : Int) == 0) = true := by simp [hm]
        clear hm CA CR1 CR2
        go_wp2
        go_ret
        exact ⟨rfl, BE.out⟩
      · have d : ((L.length : Int) == 0) = false := by simp [hm]
        have hpos : 0 < L.length := by omega
        have CAx := Lib.hid (CA.out hpos)
        have CR2x := Lib.hid (CR2.out hpos)
        obtain ⟨b, off, rfl, h1⟩ := RWE.out 0 hpos
        obtain ⟨b', off', rfl, h2⟩ := HRR.out 0 hpos
        have hlen := H65.out 0 hpos
        rw [Nat.zero_mul, Nat.add_zero] at h1 h2
        have hc0 : (hC (L.getD 0 [])).toList.length = 65 := by rw [Array.length_toList, hC_size]; exact hlen
        have cl : (Try.prog.info? 33).map (·.size) = some (hC (L.getD 0 [])).toList.length := by rw [hc0]; exact h_info
        have al : (Try.prog.info? 32).map (·.size) = some (hC (L.getD 0 [])).toList.length := by rw [hc0]; exact a_info
        have h3 : V.rangeAt b' off' (hC (L.getD 0 [])).toList := fun i v hv => (BE.out.cell (World.block_lt_of_cell? w _ (h2 i v hv))).trans (h2 i v hv)
        have hself := Lib.hid (fun W => h_eql_self hlen W)
        have hfill := fun cells hc => fill2 (C := hC (L.getD 0 [])) (D := hC (cntL [v])) (cells := cells) (by rw [hC_size]; exact hlen) (by rw [hC_size, cntL_len]) hc
        have HF := Lib.hid (hfill ((Array.range (2 * 65)).map ((Value.agg Z).cells[· % (Value.agg Z).cells.size]!)) (by simp))
        have HRB : Hid (∀ W, Below w.heap.size w W → W.rangeAt b' off' (hC (L.getD 0 [])).toList) := Lib.hid fun W h i v hv => (h.cell (World.block_lt_of_cell? w _ (h2 i v hv))).trans (h2 i v hv)
        have HRA : Hid (∀ W, RowsAt W (some ⟨b, off, none⟩) L → W.rangeAt b off (hC (L.getD 0 [])).toList) := Lib.hid fun W h => by
          obtain ⟨b1, off1, e, h5⟩ := h 0 hpos
          cases e
          rwa [Nat.zero_mul, Nat.add_zero] at h5
        obtain ⟨L0, hL0⟩ : ∃ x, [L.getD 0 [], cntL [v]] = x := ⟨_, rfl⟩
        rw [hL0] at CAx CR2x
        clear hL0 hfill h2 hlen hc0 hm CA CR2
        generalize hC (L.getD 0 []) = C0 at *
        generalize hC (cntL [v]) = CV at *
        obtain ⟨CD, hCD⟩ : ∃ CD, C0 ++ CV = CD := ⟨_, rfl⟩
        rw [hCD] at HF CR2x
        clear hCD
        have H1 := Lib.hid h1
        have hu32 := a_under
        go_upto_region 17 with fail
        go_wp2_with (refine wpList_load_mid rfl 33 _ rfl b off rfl C0.toList _ H1.out h_under rfl cl ?_)
        refine (CAx.out _).mono ?_
        rintro _ w6 ⟨⟨lr, E6, rfl, HE⟩, b6⟩
        have ml := mgOut_len HE
        have ca := C65.out lr ml
        have aa := A65.out lr ml
        have ea : Z.size = (hC lr).size := by rw [zz, hC_size, ml]
        have oa := hC_cells lr
        have HNA := Lib.hid (fun W => h_eql_self ml W)
        obtain ⟨A, hA⟩ : ∃ A, hC lr = A := ⟨_, rfl⟩
        rw [hA] at ca aa ea oa HNA
        rw [hA]
        have HA := Lib.hid hA
        clear hA ml h1
        have T6 : Hid (Kept (w6.alloc (.cells Z 33)) w6.heap.size Z 33) := Lib.hid (Kept.new rfl)
        have K6 : Hid (Kept (w6.alloc (.cells A 33)) w6.heap.size A 33) := Lib.hid (Kept.new rfl)
        have R6 := Lib.hid ((RWE.out.below b6).below (one_alloc w6 (.cells A 33)))
        have B6x := Lib.hid (BE.out.trans (b6.mono BE.out.size))
        have B6 := Lib.hid (B6x.out.alloc B6x.out.size (.cells A 33))
        have h4 : (w6.alloc (.cells A 33)).rangeAt b' off' C0.toList := fun i v hv => (((b6.alloc b6.size (.cells A 33))).cell (World.block_lt_of_cell? V _ (h3 i v hv))).trans (h3 i v hv)
        have H4 := Lib.hid h4
        clear h4 h3 b6 B6x BE RWE KME
        go_upto_region 18 with (refine wpList_store_row rfl 33 _ _ rfl w6.heap.size A rfl rfl 33 Z T6.out ca ea oa ?_; rw [World.setRow_alloc_new]; clear T6; generalize w6.alloc (.cells A 33) = W6 at *)
        obtain ⟨ga, hga⟩ : ∃ g, w6.heap.size = g := ⟨_, rfl⟩
        rw [hga] at K6
        (try rw [hga])
        clear hga
        go_cut [16, 17] from 81 to 90 (fun p q wx => CtEnd L0 w ga A (some ⟨b, off, none⟩) L p q wx)
        case first =>
          have FIN : Hid (∀ (g : Nat) (l' : List Int) (E : Int) (W : World), ((negP L0 ∧ l' = zeros65 ∧ E = 10) ∨ (¬ negP L0 ∧ overP L0 ∧ l' = zeros65 ∧ E = 12) ∨ (¬ negP L0 ∧ ¬ overP L0 ∧ l' = sumR L0 ∧ E = 0)) → Kept W g (hC l') 32 → Kept W ga A 33 → RowsAt W (some ⟨b, off, none⟩) L → Below w.heap.size w W → CtEnd L0 w ga A (some ⟨b, off, none⟩) L (.pointer (some ⟨g, 0, none⟩)) (.int .i64 E) W) := Lib.hid fun g l' E W h0 h1 h2 h3 h4 => ⟨g, l', E, rfl, rfl, Lib.hid h0, Lib.hid ⟨h1, h2, h3, h4⟩⟩
          have B2 : Hid (Below w.heap.size w W6.drew) := Lib.hid B6.out.drew
          have KA2 : Hid (Kept W6.drew ga A 33) := Lib.hid (K6.out.drewN 1)
          have RW2 : Hid (RowsAt W6.drew (some ⟨b, off, none⟩) L) := Lib.hid R6.out
          have R2 : Hid (Below W6.drew.heap.size W6.drew W6.drew) := Lib.hid (Below.refl _ _)
          have HC2 : Hid (W6.drew.rangeAt b' off' C0.toList) := Lib.hid H4.out
          have BC : Hid (∀ W, Below W6.drew.heap.size W6.drew W → W.rangeAt b' off' C0.toList) := Lib.hid fun W h i v hv => (h.cell (World.block_lt_of_cell? _ _ (HC2.out i v hv))).trans (HC2.out i v hv)
          obtain ⟨hja, hjz, hjs⟩ := HJ.out
          have hfill := HF.out
          refine wp_region_held_drew (S := fun w' => Hid (w'.rangeAt b' off' C0.toList)) (by kernel_rfl) HC2 (fun hHeld => ?_)
          clear K6 R6 B6 H4 HF HJ HE HA
          generalize W6.drew = v2 at *
          refine wpAnyH_take (i := 0) (oi := ({ dst := some 81, op := Op.move (Operand.tmp 1), type := 31, pos := "law.go:71", after := #[], guard := none } : Oper)) (v := ?_) rfl (by kernel_rfl) (by kernel_rfl) (by kernel_rfl) (fun _ _ _ h => h) (Or.inl ⟨by rfl, ?_⟩) hHeld ?_
          rotate_left
          · ((intro w hSw; (try dsimp only at hSw); go_simp); (try with_reducible rfl))
          (try simp only [Act.put, List.setIfInBounds_toArray, List.set_cons_zero, List.set_cons_succ])
          refine wpAnyH_take (i := 1) (oi := ({ dst := some 82, op := Op.indexAddr 31 (Operand.tmp 81) (Operand.const (Value.int IntKind.i64 0)), type := 0, pos := "law.go:71", after := #[{ on := 0, ground := Ground.data }], guard := none } : Oper)) (v := ?_) rfl (by kernel_rfl) (by kernel_rfl) (by kernel_rfl) (fun _ _ _ h => h) (Or.inl ⟨by rfl, ?_⟩) hHeld ?_
          rotate_left
          · ((intro w hSw; (try dsimp only at hSw); go_simp); (try with_reducible rfl))
          (try simp only [Act.put, List.setIfInBounds_toArray, List.set_cons_zero, List.set_cons_succ])
          refine wpAnyH_take (i := 2) (oi := ({ dst := some 83, op := Op.load 32 (Operand.tmp 82), type := 32, pos := "law.go:71", after := #[{ on := 1, ground := Ground.data }], guard := none } : Oper)) (v := .agg C0.toList.toArray) rfl (by kernel_rfl) (by kernel_rfl) (by kernel_rfl) (fun _ _ _ h => h) (yieldsIf_load_mid (by rfl) _ _ rfl b' off' rfl C0.toList _ (fun w' hw' => hw'.out) a_under rfl al) hHeld ?_
          (try simp only [Act.put, List.setIfInBounds_toArray, List.set_cons_zero, List.set_cons_succ])
          refine wpAnyH_take (i := 3) (oi := ({ dst := some 84, op := Op.move (Operand.tmp 2), type := 2, pos := "law.go:71", after := #[], guard := none } : Oper)) (v := ?_) rfl (by kernel_rfl) (by kernel_rfl) (by kernel_rfl) (fun _ _ _ h => h) (Or.inl ⟨by rfl, ?_⟩) hHeld ?_
          rotate_left
          · ((intro w hSw; (try dsimp only at hSw); go_simp); (try with_reducible rfl))
          (try simp only [Act.put, List.setIfInBounds_toArray, List.set_cons_zero, List.set_cons_succ])
          refine wpAnyH_ready (rs := [4, 11]) (by kernel_rfl) (by simp) ?_
          refine AllReadyH.cons (o := ({ dst := some 85, op := Op.buildSlice 30 1 #[(0, Operand.tmp 84)], type := 30, pos := "law.go:71", after := #[{ on := 3, ground := Ground.data }], guard := none } : Oper)) rfl (fun K hK => ?_) (AllReadyH.cons (o := ({ dst := some 16, op := Op.alloc 32, type := 0, pos := "law.go:71", after := #[], guard := none } : Oper)) rfl (fun K hK => ?_) (AllReadyH.nil))
          · go_simp
            have KA3 := Lib.hid (KA2.out.alloc (.cells #[.int .i64 v] 2))
            have RW3 := Lib.hid (RW2.out.below (one_alloc v2 (.cells #[.int .i64 v] 2)))
            have B3 := Lib.hid (B2.out.alloc B2.out.size (.cells #[.int .i64 v] 2))
            have R3 := Lib.hid (R2.out.alloc R2.out.size (.cells #[.int .i64 v] 2))
            have G3 : Hid (Kept (v2.alloc (.cells #[.int .i64 v] 2)) (v2.heap.size) #[.int .i64 v] 2) := Lib.hid (Kept.new (by simp))
            refine hK.out _ _ ?_ (fun hHeld => ?_)
            · exact Lib.hid (BC.out _ R3.out)
            clear hK K
            (try simp only [Act.put, List.setIfInBounds_toArray, List.set_cons_zero, List.set_cons_succ])
            refine wpAnyH_ready (rs := [5, 11]) (by kernel_rfl) (by simp) ?_
            refine AllReadyH.cons (o := ({ dst := some 86, op := Op.call { callee := Callee.value (Operand.func 18), args := #[Operand.tmp 85], argTypes := #[30] }, type := 32, pos := "law.go:71", after := #[{ on := 4, ground := Ground.data }], guard := none } : Oper)) rfl (fun K hK => ?_) (AllReadyH.cons (o := ({ dst := some 16, op := Op.alloc 32, type := 0, pos := "law.go:71", after := #[], guard := none } : Oper)) rfl (fun K hK => ?_) (AllReadyH.nil))
            · go_simp
              (with_reducible refine (CR1.out _ _ G3.out).mono ?_)
              rintro _ v4 ⟨rfl, b4⟩
              have KA4 := Lib.hid (KA3.out.next b4)
              have RW4 := Lib.hid (RW3.out.below b4)
              have B4 := Lib.hid (B3.out.trans (b4.mono B3.out.size))
              have R4 := Lib.hid (R3.out.trans (b4.mono R3.out.size))
              clear b4
              refine hK.out _ _ ?_ (fun hHeld => ?_)
              · exact Lib.hid (BC.out _ R4.out)
              clear hK K
              (try simp only [Act.put, List.setIfInBounds_toArray, List.set_cons_zero, List.set_cons_succ])
              refine wpAnyH_ready (rs := [6, 11]) (by kernel_rfl) (by simp) ?_
              refine AllReadyH.cons (o := ({ dst := some 87, op := Op.buildSlice 31 2 #[(0, Operand.tmp 83), (1, Operand.tmp 86)], type := 31, pos := "law.go:71", after := #[{ on := 2, ground := Ground.data }, { on := 5, ground := Ground.data }], guard := none } : Oper)) rfl (fun K hK => ?_) (AllReadyH.cons (o := ({ dst := some 16, op := Op.alloc 32, type := 0, pos := "law.go:71", after := #[], guard := none } : Oper)) rfl (fun K hK => ?_) (AllReadyH.nil))
              · rw [if_pos (by rfl)]
                refine wp_buildSlice _ _ 2 _ rfl CD ja (.agg Z) rfl hja hjz (by rw [hjs]; decide) (by rw [hjs]; decide) (by rw [hjs]; refine Eq.trans (congrArg (Instr.fill _ _) ?_) hfill; simp [Act.eval]) ?_
                have KA5 := Lib.hid (KA4.out.alloc (.cells CD 32))
                have RW5 := Lib.hid (RW4.out.below (one_alloc v4 (.cells CD 32)))
                have B5 := Lib.hid (B4.out.alloc B4.out.size (.cells CD 32))
                have R5 := Lib.hid (R4.out.alloc R4.out.size (.cells CD 32))
                have G5 : Hid (Kept (v4.alloc (.cells CD 32)) (v4.heap.size) CD 32) := Lib.hid (Kept.new (by simp))
                refine hK.out _ _ ?_ (fun hHeld => ?_)
                · exact Lib.hid (BC.out _ R5.out)
                clear hK K
                (try simp only [Act.put, List.setIfInBounds_toArray, List.set_cons_zero, List.set_cons_succ])
                refine wpAnyH_ready (rs := [7, 11]) (by kernel_rfl) (by simp) ?_
                refine AllReadyH.cons (o := ({ dst := some 88, op := Op.call { callee := Callee.value (Operand.func 17), args := #[Operand.tmp 87], argTypes := #[31] }, type := 40, pos := "law.go:71", after := #[{ on := 6, ground := Ground.data }, { on := 5, ground := Ground.chain }], guard := none } : Oper)) rfl (fun K hK => ?_) (AllReadyH.cons (o := ({ dst := some 16, op := Op.alloc 32, type := 0, pos := "law.go:71", after := #[], guard := none } : Oper)) rfl (fun K hK => ?_) (AllReadyH.nil))
                · go_simp
                  (with_reducible refine (CR2x.out _ _ G5.out).mono ?_)
                  rintro _ v6 ⟨⟨l7, E7, rfl, HE7⟩, b6⟩
                  have KA6 := Lib.hid (KA5.out.next b6)
                  have RW6 := Lib.hid (RW5.out.below b6)
                  have B6 := Lib.hid (B5.out.trans (b6.mono B5.out.size))
                  have R6 := Lib.hid (R5.out.trans (b6.mono R5.out.size))
                  clear b6
                  have ml7 := mgOut_len HE7
                  have a7 := A65.out l7 ml7
                  have z7 : Z.size = (hC l7).size := by rw [zz, hC_size, ml7]
                  have o7 := hC_cells l7
                  have F7 := Lib.hid (FIN.out · l7 E7 · HE7.out)
                  generalize hC l7 = C7 at *
                  clear ml7
                  refine hK.out _ _ ?_ (fun hHeld => ?_)
                  · exact Lib.hid (BC.out _ R6.out)
                  clear hK K
                  (try simp only [Act.put, List.setIfInBounds_toArray, List.set_cons_zero, List.set_cons_succ])
                  refine wpAnyH_take (i := 8) (oi := ({ dst := some 80, op := Op.move (Operand.tmp 88), type := 40, pos := "law.go:71", after := #[{ on := 7, ground := Ground.data }], guard := none } : Oper)) (v := ?_) rfl (by kernel_rfl) (by kernel_rfl) (by kernel_rfl) (fun _ _ _ h => h) (Or.inl ⟨by rfl, ?_⟩) hHeld ?_
                  rotate_left
                  · ((intro w hSw; (try dsimp only at hSw); go_simp); (try with_reducible rfl))
                  (try simp only [Act.put, List.setIfInBounds_toArray, List.set_cons_zero, List.set_cons_succ])
                  refine wpAnyH_take (i := 9) (oi := ({ dst := some 89, op := Op.extract (Operand.tmp 80) 0, type := 32, pos := "law.go:71", after := #[{ on := 8, ground := Ground.data }], guard := none } : Oper)) (v := ?_) rfl (by kernel_rfl) (by kernel_rfl) (by kernel_rfl) (fun _ _ _ h => h) (Or.inl ⟨by rfl, ?_⟩) hHeld ?_
                  rotate_left
                  · ((intro w hSw; (try dsimp only at hSw); go_simp); (try with_reducible rfl))
                  (try simp only [Act.put, List.setIfInBounds_toArray, List.set_cons_zero, List.set_cons_succ])
                  refine wpAnyH_take (i := 10) (oi := ({ dst := some 90, op := Op.extract (Operand.tmp 80) 1, type := 37, pos := "law.go:71", after := #[{ on := 8, ground := Ground.data }, { on := 12, ground := Ground.gcOnly Departure.lateStores }], guard := none } : Oper)) (v := ?_) rfl (by kernel_rfl) (by kernel_rfl) (by kernel_rfl) (fun _ _ _ h => h) (Or.inl ⟨by rfl, ?_⟩) hHeld ?_
                  rotate_left
                  · ((intro w hSw; (try dsimp only at hSw); go_simp); (try with_reducible rfl))
                  (try simp only [Act.put, List.setIfInBounds_toArray, List.set_cons_zero, List.set_cons_succ])
                  refine wpAnyH_ready (rs := [11]) (by kernel_rfl) (by simp) ?_
                  refine AllReadyH.cons (o := ({ dst := some 16, op := Op.alloc 32, type := 0, pos := "law.go:71", after := #[], guard := none } : Oper)) rfl (fun K hK => ?_) (AllReadyH.nil)
                  go_simp
                  have KA7 := Lib.hid (KA6.out.alloc (.cells Z 32))
                  have RW7 := Lib.hid (RW6.out.below (one_alloc v6 (.cells Z 32)))
                  have B7 := Lib.hid (B6.out.alloc B6.out.size (.cells Z 32))
                  have R7 := Lib.hid (R6.out.alloc R6.out.size (.cells Z 32))
                  have A7 : Hid (Kept (v6.alloc (.cells Z 32)) (v6.heap.size) Z 32) := Lib.hid (Kept.new (by simp))
                  have L7 : Hid (w.heap.size ≤ v6.heap.size ∧ v6.heap.size ≠ ga ∧ v2.heap.size ≤ v6.heap.size) := Lib.hid (by have h1 := B6.out.size; have h2 := KA6.out.lt; have h3 := R6.out.size; (try simp at h1 h2 h3); exact ⟨by omega, by omega, by omega⟩)
                  refine hK.out _ _ ?_ (fun hHeld => ?_)
                  · exact Lib.hid (BC.out _ R7.out)
                  clear hK K
                  (try simp only [Act.put, List.setIfInBounds_toArray, List.set_cons_zero, List.set_cons_succ])
                  refine wpAnyH_ready (rs := [12]) (by kernel_rfl) (by simp) ?_
                  refine AllReadyH.cons (o := ({ dst := none, op := Op.store 32 (Operand.tmp 16) (Operand.tmp 89), type := 0, pos := "law.go:71", after := #[{ on := 11, ground := Ground.data }, { on := 9, ground := Ground.data }, { on := 7, ground := Ground.chain }, { on := 0, ground := Ground.phase }, { on := 1, ground := Ground.phase }, { on := 2, ground := Ground.phase }, { on := 3, ground := Ground.phase }, { on := 4, ground := Ground.phase }, { on := 5, ground := Ground.phase }, { on := 6, ground := Ground.phase }, { on := 7, ground := Ground.phase }, { on := 8, ground := Ground.phase }, { on := 9, ground := Ground.phase }, { on := 10, ground := Ground.textOnly Departure.lateStores }, { on := 11, ground := Ground.phase }], guard := none } : Oper)) rfl (fun K hK => ?_) (AllReadyH.nil)
                  rw [if_pos (by rfl)]
                  refine wp_store_row _ _ _ rfl (v6.heap.size) C7 rfl rfl _ Z A7.out a7 z7 o7 ?_
                  have A8 := Lib.hid (A7.out.setRow C7)
                  have B8 := Lib.hid (below_setRow B7.out L7.out.1 C7)
                  have KA8 := Lib.hid (KA7.out.setRow_far L7.out.2.1 C7)
                  have R8 : Hid (Below v2.heap.size v2 (((v6.alloc (.cells Z 32))).setRow (v6.heap.size) C7)) := Lib.hid (below_setRow R7.out L7.out.2.2 C7)
                  have RW8 := Lib.hid (RW2.out.below R8.out)
                  refine hK.out _ _ ?_ (fun hHeld => ?_)
                  · exact Lib.hid (BC.out _ R8.out)
                  clear hK K
                  (try simp only [Act.put, List.setIfInBounds_toArray, List.set_cons_zero, List.set_cons_succ])
                  refine wpAnyH_take (i := 13) (oi := ({ dst := some 17, op := Op.assign (Operand.tmp 90), type := 37, pos := "law.go:71", after := #[{ on := 10, ground := Ground.data }, { on := 12, ground := Ground.chain }, { on := 0, ground := Ground.phase }, { on := 1, ground := Ground.phase }, { on := 2, ground := Ground.phase }, { on := 3, ground := Ground.phase }, { on := 4, ground := Ground.phase }, { on := 5, ground := Ground.phase }, { on := 6, ground := Ground.phase }, { on := 7, ground := Ground.phase }, { on := 8, ground := Ground.phase }, { on := 9, ground := Ground.phase }, { on := 10, ground := Ground.phase }, { on := 11, ground := Ground.phase }, { on := 12, ground := Ground.phase }], guard := none } : Oper)) (v := ?_) rfl (by kernel_rfl) (by kernel_rfl) (by kernel_rfl) (fun _ _ _ h => h) (Or.inl ⟨by rfl, ?_⟩) hHeld ?_
                  rotate_left
                  · ((intro w hSw; (try dsimp only at hSw); go_simp); (try with_reducible rfl))
                  (try simp only [Act.put, List.setIfInBounds_toArray, List.set_cons_zero, List.set_cons_succ])
                  refine wpAnyH_done (by kernel_rfl) ?_ _
                  have FF := Lib.hid (F7.out _ _ A8.out KA8.out RW8.out B8.out)
                  go_wp2_with fail
                  go_meet
                  case rel => exact FF.out
                · go_simp
                  have KA6 := Lib.hid (KA5.out.alloc (.cells Z 32))
                  have RW6 := Lib.hid (RW5.out.below (one_alloc (v4.alloc (.cells CD 32)) (.cells Z 32)))
                  have B6 := Lib.hid (B5.out.alloc B5.out.size (.cells Z 32))
                  have R6 := Lib.hid (R5.out.alloc R5.out.size (.cells Z 32))
                  have G6 := Lib.hid (G5.out.alloc (.cells Z 32))
                  have A6 : Hid (Kept ((v4.alloc (.cells CD 32)).alloc (.cells Z 32)) (v4.heap.size + 1) Z 32) := Lib.hid (Kept.new (by simp))
                  have L6 : Hid (w.heap.size ≤ v4.heap.size + 1 ∧ v4.heap.size + 1 ≠ ga ∧ v2.heap.size ≤ v4.heap.size + 1) := Lib.hid (by have h1 := B5.out.size; have h2 := KA5.out.lt; have h3 := R5.out.size; (try simp at h1 h2 h3); exact ⟨by omega, by omega, by omega⟩)
                  refine hK.out _ _ ?_ (fun hHeld => ?_)
                  · exact Lib.hid (BC.out _ R6.out)
                  clear hK K
                  (try simp only [Act.put, List.setIfInBounds_toArray, List.set_cons_zero, List.set_cons_succ])
                  refine wpAnyH_ready (rs := [7]) (by kernel_rfl) (by simp) ?_
                  refine AllReadyH.cons (o := ({ dst := some 88, op := Op.call { callee := Callee.value (Operand.func 17), args := #[Operand.tmp 87], argTypes := #[31] }, type := 40, pos := "law.go:71", after := #[{ on := 6, ground := Ground.data }, { on := 5, ground := Ground.chain }], guard := none } : Oper)) rfl (fun K hK => ?_) (AllReadyH.nil)
                  go_simp
                  (with_reducible refine (CR2x.out _ _ G6.out).mono ?_)
                  rintro _ v7 ⟨⟨l7, E7, rfl, HE7⟩, b7⟩
                  have KA7 := Lib.hid (KA6.out.next b7)
                  have RW7 := Lib.hid (RW6.out.below b7)
                  have B7 := Lib.hid (B6.out.trans (b7.mono B6.out.size))
                  have R7 := Lib.hid (R6.out.trans (b7.mono R6.out.size))
                  have A7 := Lib.hid (A6.out.next b7)
                  clear b7
                  have ml7 := mgOut_len HE7
                  have a7 := A65.out l7 ml7
                  have z7 : Z.size = (hC l7).size := by rw [zz, hC_size, ml7]
                  have o7 := hC_cells l7
                  have F7 := Lib.hid (FIN.out · l7 E7 · HE7.out)
                  generalize hC l7 = C7 at *
                  clear ml7
                  refine hK.out _ _ ?_ (fun hHeld => ?_)
                  · exact Lib.hid (BC.out _ R7.out)
                  clear hK K
                  (try simp only [Act.put, List.setIfInBounds_toArray, List.set_cons_zero, List.set_cons_succ])
                  refine wpAnyH_take (i := 8) (oi := ({ dst := some 80, op := Op.move (Operand.tmp 88), type := 40, pos := "law.go:71", after := #[{ on := 7, ground := Ground.data }], guard := none } : Oper)) (v := ?_) rfl (by kernel_rfl) (by kernel_rfl) (by kernel_rfl) (fun _ _ _ h => h) (Or.inl ⟨by rfl, ?_⟩) hHeld ?_
                  rotate_left
                  · ((intro w hSw; (try dsimp only at hSw); go_simp); (try with_reducible rfl))
                  (try simp only [Act.put, List.setIfInBounds_toArray, List.set_cons_zero, List.set_cons_succ])
                  refine wpAnyH_take (i := 9) (oi := ({ dst := some 89, op := Op.extract (Operand.tmp 80) 0, type := 32, pos := "law.go:71", after := #[{ on := 8, ground := Ground.data }], guard := none } : Oper)) (v := ?_) rfl (by kernel_rfl) (by kernel_rfl) (by kernel_rfl) (fun _ _ _ h => h) (Or.inl ⟨by rfl, ?_⟩) hHeld ?_
                  rotate_left
                  · ((intro w hSw; (try dsimp only at hSw); go_simp); (try with_reducible rfl))
                  (try simp only [Act.put, List.setIfInBounds_toArray, List.set_cons_zero, List.set_cons_succ])
                  refine wpAnyH_take (i := 10) (oi := ({ dst := some 90, op := Op.extract (Operand.tmp 80) 1, type := 37, pos := "law.go:71", after := #[{ on := 8, ground := Ground.data }, { on := 12, ground := Ground.gcOnly Departure.lateStores }], guard := none } : Oper)) (v := ?_) rfl (by kernel_rfl) (by kernel_rfl) (by kernel_rfl) (fun _ _ _ h => h) (Or.inl ⟨by rfl, ?_⟩) hHeld ?_
                  rotate_left
                  · ((intro w hSw; (try dsimp only at hSw); go_simp); (try with_reducible rfl))
                  (try simp only [Act.put, List.setIfInBounds_toArray, List.set_cons_zero, List.set_cons_succ])
                  refine wpAnyH_ready (rs := [12]) (by kernel_rfl) (by simp) ?_
                  refine AllReadyH.cons (o := ({ dst := none, op := Op.store 32 (Operand.tmp 16) (Operand.tmp 89), type := 0, pos := "law.go:71", after := #[{ on := 11, ground := Ground.data }, { on := 9, ground := Ground.data }, { on := 7, ground := Ground.chain }, { on := 0, ground := Ground.phase }, { on := 1, ground := Ground.phase }, { on := 2, ground := Ground.phase }, { on := 3, ground := Ground.phase }, { on := 4, ground := Ground.phase }, { on := 5, ground := Ground.phase }, { on := 6, ground := Ground.phase }, { on := 7, ground := Ground.phase }, { on := 8, ground := Ground.phase }, { on := 9, ground := Ground.phase }, { on := 10, ground := Ground.textOnly Departure.lateStores }, { on := 11, ground := Ground.phase }], guard := none } : Oper)) rfl (fun K hK => ?_) (AllReadyH.nil)
                  rw [if_pos (by rfl)]
                  refine wp_store_row _ _ _ rfl (v4.heap.size + 1) C7 rfl rfl _ Z A7.out a7 z7 o7 ?_
                  have A8 := Lib.hid (A7.out.setRow C7)
                  have B8 := Lib.hid (below_setRow B7.out L6.out.1 C7)
                  have KA8 := Lib.hid (KA7.out.setRow_far L6.out.2.1 C7)
                  have R8 : Hid (Below v2.heap.size v2 ((v7).setRow (v4.heap.size + 1) C7)) := Lib.hid (below_setRow R7.out L6.out.2.2 C7)
                  have RW8 := Lib.hid (RW2.out.below R8.out)
                  refine hK.out _ _ ?_ (fun hHeld => ?_)
                  · exact Lib.hid (BC.out _ R8.out)
                  clear hK K
                  (try simp only [Act.put, List.setIfInBounds_toArray, List.set_cons_zero, List.set_cons_succ])
                  refine wpAnyH_take (i := 13) (oi := ({ dst := some 17, op := Op.assign (Operand.tmp 90), type := 37, pos := "law.go:71", after := #[{ on := 10, ground := Ground.data }, { on := 12, ground := Ground.chain }, { on := 0, ground := Ground.phase }, { on := 1, ground := Ground.phase }, { on := 2, ground := Ground.phase }, { on := 3, ground := Ground.phase }, { on := 4, ground := Ground.phase }, { on := 5, ground := Ground.phase }, { on := 6, ground := Ground.phase }, { on := 7, ground := Ground.phase }, { on := 8, ground := Ground.phase }, { on := 9, ground := Ground.phase }, { on := 10, ground := Ground.phase }, { on := 11, ground := Ground.phase }, { on := 12, ground := Ground.phase }], guard := none } : Oper)) (v := ?_) rfl (by kernel_rfl) (by kernel_rfl) (by kernel_rfl) (fun _ _ _ h => h) (Or.inl ⟨by rfl, ?_⟩) hHeld ?_
                  rotate_left
                  · ((intro w hSw; (try dsimp only at hSw); go_simp); (try with_reducible rfl))
                  (try simp only [Act.put, List.setIfInBounds_toArray, List.set_cons_zero, List.set_cons_succ])
                  refine wpAnyH_done (by kernel_rfl) ?_ _
                  have FF := Lib.hid (F7.out _ _ A8.out KA8.out RW8.out B8.out)
                  go_wp2_with fail
                  go_meet
                  case rel => exact FF.out
              · go_simp
                have KA5 := Lib.hid (KA4.out.alloc (.cells Z 32))
                have RW5 := Lib.hid (RW4.out.below (one_alloc v4 (.cells Z 32)))
                have B5 := Lib.hid (B4.out.alloc B4.out.size (.cells Z 32))
                have R5 := Lib.hid (R4.out.alloc R4.out.size (.cells Z 32))
                have A5 : Hid (Kept (v4.alloc (.cells Z 32)) (v4.heap.size) Z 32) := Lib.hid (Kept.new (by simp))
                have L5 : Hid (w.heap.size ≤ v4.heap.size ∧ v4.heap.size ≠ ga ∧ v2.heap.size ≤ v4.heap.size) := Lib.hid (by have h1 := B4.out.size; have h2 := KA4.out.lt; have h3 := R4.out.size; (try simp at h1 h2 h3); exact ⟨by omega, by omega, by omega⟩)
                refine hK.out _ _ ?_ (fun hHeld => ?_)
                · exact Lib.hid (BC.out _ R5.out)
                clear hK K
                (try simp only [Act.put, List.setIfInBounds_toArray, List.set_cons_zero, List.set_cons_succ])
                refine wpAnyH_ready (rs := [6]) (by kernel_rfl) (by simp) ?_
                refine AllReadyH.cons (o := ({ dst := some 87, op := Op.buildSlice 31 2 #[(0, Operand.tmp 83), (1, Operand.tmp 86)], type := 31, pos := "law.go:71", after := #[{ on := 2, ground := Ground.data }, { on := 5, ground := Ground.data }], guard := none } : Oper)) rfl (fun K hK => ?_) (AllReadyH.nil)
                rw [if_pos (by rfl)]
                refine wp_buildSlice _ _ 2 _ rfl CD ja (.agg Z) rfl hja hjz (by rw [hjs]; decide) (by rw [hjs]; decide) (by rw [hjs]; refine Eq.trans (congrArg (Instr.fill _ _) ?_) hfill; simp [Act.eval]) ?_
                have KA6 := Lib.hid (KA5.out.alloc (.cells CD 32))
                have RW6 := Lib.hid (RW5.out.below (one_alloc (v4.alloc (.cells Z 32)) (.cells CD 32)))
                have B6 := Lib.hid (B5.out.alloc B5.out.size (.cells CD 32))
                have R6 := Lib.hid (R5.out.alloc R5.out.size (.cells CD 32))
                have A6 := Lib.hid (A5.out.alloc (.cells CD 32))
                have G6 : Hid (Kept ((v4.alloc (.cells Z 32)).alloc (.cells CD 32)) (v4.heap.size + 1) CD 32) := Lib.hid (Kept.new (by simp))
                refine hK.out _ _ ?_ (fun hHeld => ?_)
                · exact Lib.hid (BC.out _ R6.out)
                clear hK K
                (try simp only [Act.put, List.setIfInBounds_toArray, List.set_cons_zero, List.set_cons_succ])
                refine wpAnyH_ready (rs := [7]) (by kernel_rfl) (by simp) ?_
                refine AllReadyH.cons (o := ({ dst := some 88, op := Op.call { callee := Callee.value (Operand.func 17), args := #[Operand.tmp 87], argTypes := #[31] }, type := 40, pos := "law.go:71", after := #[{ on := 6, ground := Ground.data }, { on := 5, ground := Ground.chain }], guard := none } : Oper)) rfl (fun K hK => ?_) (AllReadyH.nil)
                go_simp
                (with_reducible refine (CR2x.out _ _ G6.out).mono ?_)
                rintro _ v7 ⟨⟨l7, E7, rfl, HE7⟩, b7⟩
                have KA7 := Lib.hid (KA6.out.next b7)
                have RW7 := Lib.hid (RW6.out.below b7)
                have B7 := Lib.hid (B6.out.trans (b7.mono B6.out.size))
                have R7 := Lib.hid (R6.out.trans (b7.mono R6.out.size))
                have A7 := Lib.hid (A6.out.next b7)
                clear b7
                have ml7 := mgOut_len HE7
                have a7 := A65.out l7 ml7
                have z7 : Z.size = (hC l7).size := by rw [zz, hC_size, ml7]
                have o7 := hC_cells l7
                have F7 := Lib.hid (FIN.out · l7 E7 · HE7.out)
                generalize hC l7 = C7 at *
                clear ml7
                refine hK.out _ _ ?_ (fun hHeld => ?_)
                · exact Lib.hid (BC.out _ R7.out)
                clear hK K
                (try simp only [Act.put, List.setIfInBounds_toArray, List.set_cons_zero, List.set_cons_succ])
                refine wpAnyH_take (i := 8) (oi := ({ dst := some 80, op := Op.move (Operand.tmp 88), type := 40, pos := "law.go:71", after := #[{ on := 7, ground := Ground.data }], guard := none } : Oper)) (v := ?_) rfl (by kernel_rfl) (by kernel_rfl) (by kernel_rfl) (fun _ _ _ h => h) (Or.inl ⟨by rfl, ?_⟩) hHeld ?_
                rotate_left
                · ((intro w hSw; (try dsimp only at hSw); go_simp); (try with_reducible rfl))
                (try simp only [Act.put, List.setIfInBounds_toArray, List.set_cons_zero, List.set_cons_succ])
                refine wpAnyH_take (i := 9) (oi := ({ dst := some 89, op := Op.extract (Operand.tmp 80) 0, type := 32, pos := "law.go:71", after := #[{ on := 8, ground := Ground.data }], guard := none } : Oper)) (v := ?_) rfl (by kernel_rfl) (by kernel_rfl) (by kernel_rfl) (fun _ _ _ h => h) (Or.inl ⟨by rfl, ?_⟩) hHeld ?_
                rotate_left
                · ((intro w hSw; (try dsimp only at hSw); go_simp); (try with_reducible rfl))
                (try simp only [Act.put, List.setIfInBounds_toArray, List.set_cons_zero, List.set_cons_succ])
                refine wpAnyH_take (i := 10) (oi := ({ dst := some 90, op := Op.extract (Operand.tmp 80) 1, type := 37, pos := "law.go:71", after := #[{ on := 8, ground := Ground.data }, { on := 12, ground := Ground.gcOnly Departure.lateStores }], guard := none } : Oper)) (v := ?_) rfl (by kernel_rfl) (by kernel_rfl) (by kernel_rfl) (fun _ _ _ h => h) (Or.inl ⟨by rfl, ?_⟩) hHeld ?_
                rotate_left
                · ((intro w hSw; (try dsimp only at hSw); go_simp); (try with_reducible rfl))
                (try simp only [Act.put, List.setIfInBounds_toArray, List.set_cons_zero, List.set_cons_succ])
                refine wpAnyH_ready (rs := [12]) (by kernel_rfl) (by simp) ?_
                refine AllReadyH.cons (o := ({ dst := none, op := Op.store 32 (Operand.tmp 16) (Operand.tmp 89), type := 0, pos := "law.go:71", after := #[{ on := 11, ground := Ground.data }, { on := 9, ground := Ground.data }, { on := 7, ground := Ground.chain }, { on := 0, ground := Ground.phase }, { on := 1, ground := Ground.phase }, { on := 2, ground := Ground.phase }, { on := 3, ground := Ground.phase }, { on := 4, ground := Ground.phase }, { on := 5, ground := Ground.phase }, { on := 6, ground := Ground.phase }, { on := 7, ground := Ground.phase }, { on := 8, ground := Ground.phase }, { on := 9, ground := Ground.phase }, { on := 10, ground := Ground.textOnly Departure.lateStores }, { on := 11, ground := Ground.phase }], guard := none } : Oper)) rfl (fun K hK => ?_) (AllReadyH.nil)
                rw [if_pos (by rfl)]
                refine wp_store_row _ _ _ rfl (v4.heap.size) C7 rfl rfl _ Z A7.out a7 z7 o7 ?_
                have A8 := Lib.hid (A7.out.setRow C7)
                have B8 := Lib.hid (below_setRow B7.out L5.out.1 C7)
                have KA8 := Lib.hid (KA7.out.setRow_far L5.out.2.1 C7)
                have R8 : Hid (Below v2.heap.size v2 ((v7).setRow (v4.heap.size) C7)) := Lib.hid (below_setRow R7.out L5.out.2.2 C7)
                have RW8 := Lib.hid (RW2.out.below R8.out)
                refine hK.out _ _ ?_ (fun hHeld => ?_)
                · exact Lib.hid (BC.out _ R8.out)
                clear hK K
                (try simp only [Act.put, List.setIfInBounds_toArray, List.set_cons_zero, List.set_cons_succ])
                refine wpAnyH_take (i := 13) (oi := ({ dst := some 17, op := Op.assign (Operand.tmp 90), type := 37, pos := "law.go:71", after := #[{ on := 10, ground := Ground.data }, { on := 12, ground := Ground.chain }, { on := 0, ground := Ground.phase }, { on := 1, ground := Ground.phase }, { on := 2, ground := Ground.phase }, { on := 3, ground := Ground.phase }, { on := 4, ground := Ground.phase }, { on := 5, ground := Ground.phase }, { on := 6, ground := Ground.phase }, { on := 7, ground := Ground.phase }, { on := 8, ground := Ground.phase }, { on := 9, ground := Ground.phase }, { on := 10, ground := Ground.phase }, { on := 11, ground := Ground.phase }, { on := 12, ground := Ground.phase }], guard := none } : Oper)) (v := ?_) rfl (by kernel_rfl) (by kernel_rfl) (by kernel_rfl) (fun _ _ _ h => h) (Or.inl ⟨by rfl, ?_⟩) hHeld ?_
                rotate_left
                · ((intro w hSw; (try dsimp only at hSw); go_simp); (try with_reducible rfl))
                (try simp only [Act.put, List.setIfInBounds_toArray, List.set_cons_zero, List.set_cons_succ])
                refine wpAnyH_done (by kernel_rfl) ?_ _
                have FF := Lib.hid (F7.out _ _ A8.out KA8.out RW8.out B8.out)
                go_wp2_with fail
                go_meet
                case rel => exact FF.out
            · go_simp
              have KA4 := Lib.hid (KA3.out.alloc (.cells Z 32))
              have RW4 := Lib.hid (RW3.out.below (one_alloc (v2.alloc (.cells #[.int .i64 v] 2)) (.cells Z 32)))
              have B4 := Lib.hid (B3.out.alloc B3.out.size (.cells Z 32))
              have R4 := Lib.hid (R3.out.alloc R3.out.size (.cells Z 32))
              have G4 := Lib.hid (G3.out.alloc (.cells Z 32))
              have A4 : Hid (Kept ((v2.alloc (.cells #[.int .i64 v] 2)).alloc (.cells Z 32)) (v2.heap.size + 1) Z 32) := Lib.hid (Kept.new (by simp))
              have L4 : Hid (w.heap.size ≤ v2.heap.size + 1 ∧ v2.heap.size + 1 ≠ ga ∧ v2.heap.size ≤ v2.heap.size + 1) := Lib.hid (by have h1 := B3.out.size; have h2 := KA3.out.lt; have h3 := R3.out.size; (try simp at h1 h2 h3); exact ⟨by omega, by omega, by omega⟩)
              refine hK.out _ _ ?_ (fun hHeld => ?_)
              · exact Lib.hid (BC.out _ R4.out)
              clear hK K
              (try simp only [Act.put, List.setIfInBounds_toArray, List.set_cons_zero, List.set_cons_succ])
              refine wpAnyH_ready (rs := [5]) (by kernel_rfl) (by simp) ?_
              refine AllReadyH.cons (o := ({ dst := some 86, op := Op.call { callee := Callee.value (Operand.func 18), args := #[Operand.tmp 85], argTypes := #[30] }, type := 32, pos := "law.go:71", after := #[{ on := 4, ground := Ground.data }], guard := none } : Oper)) rfl (fun K hK => ?_) (AllReadyH.nil)
              go_simp
              (with_reducible refine (CR1.out _ _ G4.out).mono ?_)
              rintro _ v5 ⟨rfl, b5⟩
              have KA5 := Lib.hid (KA4.out.next b5)
              have RW5 := Lib.hid (RW4.out.below b5)
              have B5 := Lib.hid (B4.out.trans (b5.mono B4.out.size))
              have R5 := Lib.hid (R4.out.trans (b5.mono R4.out.size))
              have A5 := Lib.hid (A4.out.next b5)
              clear b5
              refine hK.out _ _ ?_ (fun hHeld => ?_)
              · exact Lib.hid (BC.out _ R5.out)
              clear hK K
              (try simp only [Act.put, List.setIfInBounds_toArray, List.set_cons_zero, List.set_cons_succ])
              refine wpAnyH_ready (rs := [6]) (by kernel_rfl) (by simp) ?_
              refine AllReadyH.cons (o := ({ dst := some 87, op := Op.buildSlice 31 2 #[(0, Operand.tmp 83), (1, Operand.tmp 86)], type := 31, pos := "law.go:71", after := #[{ on := 2, ground := Ground.data }, { on := 5, ground := Ground.data }], guard := none } : Oper)) rfl (fun K hK => ?_) (AllReadyH.nil)
              rw [if_pos (by rfl)]
              refine wp_buildSlice _ _ 2 _ rfl CD ja (.agg Z) rfl hja hjz (by rw [hjs]; decide) (by rw [hjs]; decide) (by rw [hjs]; refine Eq.trans (congrArg (Instr.fill _ _) ?_) hfill; simp [Act.eval]) ?_
              have KA6 := Lib.hid (KA5.out.alloc (.cells CD 32))
              have RW6 := Lib.hid (RW5.out.below (one_alloc v5 (.cells CD 32)))
              have B6 := Lib.hid (B5.out.alloc B5.out.size (.cells CD 32))
              have R6 := Lib.hid (R5.out.alloc R5.out.size (.cells CD 32))
              have A6 := Lib.hid (A5.out.alloc (.cells CD 32))
              have G6 : Hid (Kept (v5.alloc (.cells CD 32)) (v5.heap.size) CD 32) := Lib.hid (Kept.new (by simp))
              refine hK.out _ _ ?_ (fun hHeld => ?_)
              · exact Lib.hid (BC.out _ R6.out)
              clear hK K
              (try simp only [Act.put, List.setIfInBounds_toArray, List.set_cons_zero, List.set_cons_succ])
              refine wpAnyH_ready (rs := [7]) (by kernel_rfl) (by simp) ?_
              refine AllReadyH.cons (o := ({ dst := some 88, op := Op.call { callee := Callee.value (Operand.func 17), args := #[Operand.tmp 87], argTypes := #[31] }, type := 40, pos := "law.go:71", after := #[{ on := 6, ground := Ground.data }, { on := 5, ground := Ground.chain }], guard := none } : Oper)) rfl (fun K hK => ?_) (AllReadyH.nil)
              go_simp
              (with_reducible refine (CR2x.out _ _ G6.out).mono ?_)
              rintro _ v7 ⟨⟨l7, E7, rfl, HE7⟩, b7⟩
              have KA7 := Lib.hid (KA6.out.next b7)
              have RW7 := Lib.hid (RW6.out.below b7)
              have B7 := Lib.hid (B6.out.trans (b7.mono B6.out.size))
              have R7 := Lib.hid (R6.out.trans (b7.mono R6.out.size))
              have A7 := Lib.hid (A6.out.next b7)
              clear b7
              have ml7 := mgOut_len HE7
              have a7 := A65.out l7 ml7
              have z7 : Z.size = (hC l7).size := by rw [zz, hC_size, ml7]
              have o7 := hC_cells l7
              have F7 := Lib.hid (FIN.out · l7 E7 · HE7.out)
              generalize hC l7 = C7 at *
              clear ml7
              refine hK.out _ _ ?_ (fun hHeld => ?_)
              · exact Lib.hid (BC.out _ R7.out)
              clear hK K
              (try simp only [Act.put, List.setIfInBounds_toArray, List.set_cons_zero, List.set_cons_succ])
              refine wpAnyH_take (i := 8) (oi := ({ dst := some 80, op := Op.move (Operand.tmp 88), type := 40, pos := "law.go:71", after := #[{ on := 7, ground := Ground.data }], guard := none } : Oper)) (v := ?_) rfl (by kernel_rfl) (by kernel_rfl) (by kernel_rfl) (fun _ _ _ h => h) (Or.inl ⟨by rfl, ?_⟩) hHeld ?_
              rotate_left
              · ((intro w hSw; (try dsimp only at hSw); go_simp); (try with_reducible rfl))
              (try simp only [Act.put, List.setIfInBounds_toArray, List.set_cons_zero, List.set_cons_succ])
              refine wpAnyH_take (i := 9) (oi := ({ dst := some 89, op := Op.extract (Operand.tmp 80) 0, type := 32, pos := "law.go:71", after := #[{ on := 8, ground := Ground.data }], guard := none } : Oper)) (v := ?_) rfl (by kernel_rfl) (by kernel_rfl) (by kernel_rfl) (fun _ _ _ h => h) (Or.inl ⟨by rfl, ?_⟩) hHeld ?_
              rotate_left
              · ((intro w hSw; (try dsimp only at hSw); go_simp); (try with_reducible rfl))
              (try simp only [Act.put, List.setIfInBounds_toArray, List.set_cons_zero, List.set_cons_succ])
              refine wpAnyH_take (i := 10) (oi := ({ dst := some 90, op := Op.extract (Operand.tmp 80) 1, type := 37, pos := "law.go:71", after := #[{ on := 8, ground := Ground.data }, { on := 12, ground := Ground.gcOnly Departure.lateStores }], guard := none } : Oper)) (v := ?_) rfl (by kernel_rfl) (by kernel_rfl) (by kernel_rfl) (fun _ _ _ h => h) (Or.inl ⟨by rfl, ?_⟩) hHeld ?_
              rotate_left
              · ((intro w hSw; (try dsimp only at hSw); go_simp); (try with_reducible rfl))
              (try simp only [Act.put, List.setIfInBounds_toArray, List.set_cons_zero, List.set_cons_succ])
              refine wpAnyH_ready (rs := [12]) (by kernel_rfl) (by simp) ?_
              refine AllReadyH.cons (o := ({ dst := none, op := Op.store 32 (Operand.tmp 16) (Operand.tmp 89), type := 0, pos := "law.go:71", after := #[{ on := 11, ground := Ground.data }, { on := 9, ground := Ground.data }, { on := 7, ground := Ground.chain }, { on := 0, ground := Ground.phase }, { on := 1, ground := Ground.phase }, { on := 2, ground := Ground.phase }, { on := 3, ground := Ground.phase }, { on := 4, ground := Ground.phase }, { on := 5, ground := Ground.phase }, { on := 6, ground := Ground.phase }, { on := 7, ground := Ground.phase }, { on := 8, ground := Ground.phase }, { on := 9, ground := Ground.phase }, { on := 10, ground := Ground.textOnly Departure.lateStores }, { on := 11, ground := Ground.phase }], guard := none } : Oper)) rfl (fun K hK => ?_) (AllReadyH.nil)
              rw [if_pos (by rfl)]
              refine wp_store_row _ _ _ rfl (v2.heap.size + 1) C7 rfl rfl _ Z A7.out a7 z7 o7 ?_
              have A8 := Lib.hid (A7.out.setRow C7)
              have B8 := Lib.hid (below_setRow B7.out L4.out.1 C7)
              have KA8 := Lib.hid (KA7.out.setRow_far L4.out.2.1 C7)
              have R8 : Hid (Below v2.heap.size v2 ((v7).setRow (v2.heap.size + 1) C7)) := Lib.hid (below_setRow R7.out L4.out.2.2 C7)
              have RW8 := Lib.hid (RW2.out.below R8.out)
              refine hK.out _ _ ?_ (fun hHeld => ?_)
              · exact Lib.hid (BC.out _ R8.out)
              clear hK K
              (try simp only [Act.put, List.setIfInBounds_toArray, List.set_cons_zero, List.set_cons_succ])
              refine wpAnyH_take (i := 13) (oi := ({ dst := some 17, op := Op.assign (Operand.tmp 90), type := 37, pos := "law.go:71", after := #[{ on := 10, ground := Ground.data }, { on := 12, ground := Ground.chain }, { on := 0, ground := Ground.phase }, { on := 1, ground := Ground.phase }, { on := 2, ground := Ground.phase }, { on := 3, ground := Ground.phase }, { on := 4, ground := Ground.phase }, { on := 5, ground := Ground.phase }, { on := 6, ground := Ground.phase }, { on := 7, ground := Ground.phase }, { on := 8, ground := Ground.phase }, { on := 9, ground := Ground.phase }, { on := 10, ground := Ground.phase }, { on := 11, ground := Ground.phase }, { on := 12, ground := Ground.phase }], guard := none } : Oper)) (v := ?_) rfl (by kernel_rfl) (by kernel_rfl) (by kernel_rfl) (fun _ _ _ h => h) (Or.inl ⟨by rfl, ?_⟩) hHeld ?_
              rotate_left
              · ((intro w hSw; (try dsimp only at hSw); go_simp); (try with_reducible rfl))
              (try simp only [Act.put, List.setIfInBounds_toArray, List.set_cons_zero, List.set_cons_succ])
              refine wpAnyH_done (by kernel_rfl) ?_ _
              have FF := Lib.hid (F7.out _ _ A8.out KA8.out RW8.out B8.out)
              go_wp2_with fail
              go_meet
              case rel => exact FF.out
          · go_simp
            have KA3 := Lib.hid (KA2.out.alloc (.cells Z 32))
            have RW3 := Lib.hid (RW2.out.below (one_alloc v2 (.cells Z 32)))
            have B3 := Lib.hid (B2.out.alloc B2.out.size (.cells Z 32))
            have R3 := Lib.hid (R2.out.alloc R2.out.size (.cells Z 32))
            have A3 : Hid (Kept (v2.alloc (.cells Z 32)) (v2.heap.size) Z 32) := Lib.hid (Kept.new (by simp))
            have L3 : Hid (w.heap.size ≤ v2.heap.size ∧ v2.heap.size ≠ ga ∧ v2.heap.size ≤ v2.heap.size) := Lib.hid (by have h1 := B2.out.size; have h2 := KA2.out.lt; have h3 := R2.out.size; (try simp at h1 h2 h3); exact ⟨by omega, by omega, by omega⟩)
            refine hK.out _ _ ?_ (fun hHeld => ?_)
            · exact Lib.hid (BC.out _ R3.out)
            clear hK K
            (try simp only [Act.put, List.setIfInBounds_toArray, List.set_cons_zero, List.set_cons_succ])
            refine wpAnyH_ready (rs := [4]) (by kernel_rfl) (by simp) ?_
            refine AllReadyH.cons (o := ({ dst := some 85, op := Op.buildSlice 30 1 #[(0, Operand.tmp 84)], type := 30, pos := "law.go:71", after := #[{ on := 3, ground := Ground.data }], guard := none } : Oper)) rfl (fun K hK => ?_) (AllReadyH.nil)
            go_simp
            have KA4 := Lib.hid (KA3.out.alloc (.cells #[.int .i64 v] 2))
            have RW4 := Lib.hid (RW3.out.below (one_alloc (v2.alloc (.cells Z 32)) (.cells #[.int .i64 v] 2)))
            have B4 := Lib.hid (B3.out.alloc B3.out.size (.cells #[.int .i64 v] 2))
            have R4 := Lib.hid (R3.out.alloc R3.out.size (.cells #[.int .i64 v] 2))
            have A4 := Lib.hid (A3.out.alloc (.cells #[.int .i64 v] 2))
            have G4 : Hid (Kept ((v2.alloc (.cells Z 32)).alloc (.cells #[.int .i64 v] 2)) (v2.heap.size + 1) #[.int .i64 v] 2) := Lib.hid (Kept.new (by simp))
            refine hK.out _ _ ?_ (fun hHeld => ?_)
            · exact Lib.hid (BC.out _ R4.out)
            clear hK K
            (try simp only [Act.put, List.setIfInBounds_toArray, List.set_cons_zero, List.set_cons_succ])
            refine wpAnyH_ready (rs := [5]) (by kernel_rfl) (by simp) ?_
            refine AllReadyH.cons (o := ({ dst := some 86, op := Op.call { callee := Callee.value (Operand.func 18), args := #[Operand.tmp 85], argTypes := #[30] }, type := 32, pos := "law.go:71", after := #[{ on := 4, ground := Ground.data }], guard := none } : Oper)) rfl (fun K hK => ?_) (AllReadyH.nil)
            go_simp
            (with_reducible refine (CR1.out _ _ G4.out).mono ?_)
            rintro _ v5 ⟨rfl, b5⟩
            have KA5 := Lib.hid (KA4.out.next b5)
            have RW5 := Lib.hid (RW4.out.below b5)
            have B5 := Lib.hid (B4.out.trans (b5.mono B4.out.size))
            have R5 := Lib.hid (R4.out.trans (b5.mono R4.out.size))
            have A5 := Lib.hid (A4.out.next b5)
            clear b5
            refine hK.out _ _ ?_ (fun hHeld => ?_)
            · exact Lib.hid (BC.out _ R5.out)
            clear hK K
            (try simp only [Act.put, List.setIfInBounds_toArray, List.set_cons_zero, List.set_cons_succ])
            refine wpAnyH_ready (rs := [6]) (by kernel_rfl) (by simp) ?_
            refine AllReadyH.cons (o := ({ dst := some 87, op := Op.buildSlice 31 2 #[(0, Operand.tmp 83), (1, Operand.tmp 86)], type := 31, pos := "law.go:71", after := #[{ on := 2, ground := Ground.data }, { on := 5, ground := Ground.data }], guard := none } : Oper)) rfl (fun K hK => ?_) (AllReadyH.nil)
            rw [if_pos (by rfl)]
            refine wp_buildSlice _ _ 2 _ rfl CD ja (.agg Z) rfl hja hjz (by rw [hjs]; decide) (by rw [hjs]; decide) (by rw [hjs]; refine Eq.trans (congrArg (Instr.fill _ _) ?_) hfill; simp [Act.eval]) ?_
            have KA6 := Lib.hid (KA5.out.alloc (.cells CD 32))
            have RW6 := Lib.hid (RW5.out.below (one_alloc v5 (.cells CD 32)))
            have B6 := Lib.hid (B5.out.alloc B5.out.size (.cells CD 32))
            have R6 := Lib.hid (R5.out.alloc R5.out.size (.cells CD 32))
            have A6 := Lib.hid (A5.out.alloc (.cells CD 32))
            have G6 : Hid (Kept (v5.alloc (.cells CD 32)) (v5.heap.size) CD 32) := Lib.hid (Kept.new (by simp))
            refine hK.out _ _ ?_ (fun hHeld => ?_)
            · exact Lib.hid (BC.out _ R6.out)
            clear hK K
            (try simp only [Act.put, List.setIfInBounds_toArray, List.set_cons_zero, List.set_cons_succ])
            refine wpAnyH_ready (rs := [7]) (by kernel_rfl) (by simp) ?_
            refine AllReadyH.cons (o := ({ dst := some 88, op := Op.call { callee := Callee.value (Operand.func 17), args := #[Operand.tmp 87], argTypes := #[31] }, type := 40, pos := "law.go:71", after := #[{ on := 6, ground := Ground.data }, { on := 5, ground := Ground.chain }], guard := none } : Oper)) rfl (fun K hK => ?_) (AllReadyH.nil)
            go_simp
            (with_reducible refine (CR2x.out _ _ G6.out).mono ?_)
            rintro _ v7 ⟨⟨l7, E7, rfl, HE7⟩, b7⟩
            have KA7 := Lib.hid (KA6.out.next b7)
            have RW7 := Lib.hid (RW6.out.below b7)
            have B7 := Lib.hid (B6.out.trans (b7.mono B6.out.size))
            have R7 := Lib.hid (R6.out.trans (b7.mono R6.out.size))
            have A7 := Lib.hid (A6.out.next b7)
            clear b7
            have ml7 := mgOut_len HE7
            have a7 := A65.out l7 ml7
            have z7 : Z.size = (hC l7).size := by rw [zz, hC_size, ml7]
            have o7 := hC_cells l7
            have F7 := Lib.hid (FIN.out · l7 E7 · HE7.out)
            generalize hC l7 = C7 at *
            clear ml7
            refine hK.out _ _ ?_ (fun hHeld => ?_)
            · exact Lib.hid (BC.out _ R7.out)
            clear hK K
            (try simp only [Act.put, List.setIfInBounds_toArray, List.set_cons_zero, List.set_cons_succ])
            refine wpAnyH_take (i := 8) (oi := ({ dst := some 80, op := Op.move (Operand.tmp 88), type := 40, pos := "law.go:71", after := #[{ on := 7, ground := Ground.data }], guard := none } : Oper)) (v := ?_) rfl (by kernel_rfl) (by kernel_rfl) (by kernel_rfl) (fun _ _ _ h => h) (Or.inl ⟨by rfl, ?_⟩) hHeld ?_
            rotate_left
            · ((intro w hSw; (try dsimp only at hSw); go_simp); (try with_reducible rfl))
            (try simp only [Act.put, List.setIfInBounds_toArray, List.set_cons_zero, List.set_cons_succ])
            refine wpAnyH_take (i := 9) (oi := ({ dst := some 89, op := Op.extract (Operand.tmp 80) 0, type := 32, pos := "law.go:71", after := #[{ on := 8, ground := Ground.data }], guard := none } : Oper)) (v := ?_) rfl (by kernel_rfl) (by kernel_rfl) (by kernel_rfl) (fun _ _ _ h => h) (Or.inl ⟨by rfl, ?_⟩) hHeld ?_
            rotate_left
            · ((intro w hSw; (try dsimp only at hSw); go_simp); (try with_reducible rfl))
            (try simp only [Act.put, List.setIfInBounds_toArray, List.set_cons_zero, List.set_cons_succ])
            refine wpAnyH_take (i := 10) (oi := ({ dst := some 90, op := Op.extract (Operand.tmp 80) 1, type := 37, pos := "law.go:71", after := #[{ on := 8, ground := Ground.data }, { on := 12, ground := Ground.gcOnly Departure.lateStores }], guard := none } : Oper)) (v := ?_) rfl (by kernel_rfl) (by kernel_rfl) (by kernel_rfl) (fun _ _ _ h => h) (Or.inl ⟨by rfl, ?_⟩) hHeld ?_
            rotate_left
            · ((intro w hSw; (try dsimp only at hSw); go_simp); (try with_reducible rfl))
            (try simp only [Act.put, List.setIfInBounds_toArray, List.set_cons_zero, List.set_cons_succ])
            refine wpAnyH_ready (rs := [12]) (by kernel_rfl) (by simp) ?_
            refine AllReadyH.cons (o := ({ dst := none, op := Op.store 32 (Operand.tmp 16) (Operand.tmp 89), type := 0, pos := "law.go:71", after := #[{ on := 11, ground := Ground.data }, { on := 9, ground := Ground.data }, { on := 7, ground := Ground.chain }, { on := 0, ground := Ground.phase }, { on := 1, ground := Ground.phase }, { on := 2, ground := Ground.phase }, { on := 3, ground := Ground.phase }, { on := 4, ground := Ground.phase }, { on := 5, ground := Ground.phase }, { on := 6, ground := Ground.phase }, { on := 7, ground := Ground.phase }, { on := 8, ground := Ground.phase }, { on := 9, ground := Ground.phase }, { on := 10, ground := Ground.textOnly Departure.lateStores }, { on := 11, ground := Ground.phase }], guard := none } : Oper)) rfl (fun K hK => ?_) (AllReadyH.nil)
            rw [if_pos (by rfl)]
            refine wp_store_row _ _ _ rfl (v2.heap.size) C7 rfl rfl _ Z A7.out a7 z7 o7 ?_
            have A8 := Lib.hid (A7.out.setRow C7)
            have B8 := Lib.hid (below_setRow B7.out L3.out.1 C7)
            have KA8 := Lib.hid (KA7.out.setRow_far L3.out.2.1 C7)
            have R8 : Hid (Below v2.heap.size v2 ((v7).setRow (v2.heap.size) C7)) := Lib.hid (below_setRow R7.out L3.out.2.2 C7)
            have RW8 := Lib.hid (RW2.out.below R8.out)
            refine hK.out _ _ ?_ (fun hHeld => ?_)
            · exact Lib.hid (BC.out _ R8.out)
            clear hK K
            (try simp only [Act.put, List.setIfInBounds_toArray, List.set_cons_zero, List.set_cons_succ])
            refine wpAnyH_take (i := 13) (oi := ({ dst := some 17, op := Op.assign (Operand.tmp 90), type := 37, pos := "law.go:71", after := #[{ on := 10, ground := Ground.data }, { on := 12, ground := Ground.chain }, { on := 0, ground := Ground.phase }, { on := 1, ground := Ground.phase }, { on := 2, ground := Ground.phase }, { on := 3, ground := Ground.phase }, { on := 4, ground := Ground.phase }, { on := 5, ground := Ground.phase }, { on := 6, ground := Ground.phase }, { on := 7, ground := Ground.phase }, { on := 8, ground := Ground.phase }, { on := 9, ground := Ground.phase }, { on := 10, ground := Ground.phase }, { on := 11, ground := Ground.phase }, { on := 12, ground := Ground.phase }], guard := none } : Oper)) (v := ?_) rfl (by kernel_rfl) (by kernel_rfl) (by kernel_rfl) (fun _ _ _ h => h) (Or.inl ⟨by rfl, ?_⟩) hHeld ?_
            rotate_left
            · ((intro w hSw; (try dsimp only at hSw); go_simp); (try with_reducible rfl))
            (try simp only [Act.put, List.setIfInBounds_toArray, List.set_cons_zero, List.set_cons_succ])
            refine wpAnyH_done (by kernel_rfl) ?_ _
            have FF := Lib.hid (F7.out _ _ A8.out KA8.out RW8.out B8.out)
            go_wp2_with fail
            go_meet
            case rel => exact FF.out
        case rest =>
          obtain ⟨g, lr', E', rfl, rfl, he, hh⟩ := hcut
          obtain ⟨rfl, rfl⟩ := mg_det HE.out he.out
          rw [HA.out] at hh
          have BF : Hid (Below w.heap.size w wc.drew) := Lib.hid hh.out.2.2.2.drew
          have hna := HNA.out
          have hsf := hself.out
          have S2 : Hid (Kept wc.drew ga A 33 ∧ Kept wc.drew g A 32 ∧ wc.drew.rangeAt b off C0.toList ∧ wc.drew.rangeAt b' off' C0.toList) := Lib.hid ⟨hh.out.2.1, hh.out.1, HRA.out wc hh.out.2.2.1, HRB.out wc hh.out.2.2.2⟩
          clear hh he HRA HRB HE
          go_upto_region 19 with fail
          refine wp_region_held_drew (S := fun w' => Hid (Kept w' ga A 33 ∧ Kept w' g A 32 ∧ w'.rangeAt b off C0.toList ∧ w'.rangeAt b' off' C0.toList)) (by kernel_rfl) S2 (fun hHeld => ?_)
          generalize wc.drew = v2 at *
          refine wpAnyH_take (i := 0) (oi := ({ dst := some 91, op := Op.load 33 (Operand.tmp 14), type := 33, pos := "law.go:72", after := #[], guard := none } : Oper)) (v := .agg A) rfl (by kernel_rfl) (by kernel_rfl) (by kernel_rfl) (fun _ _ _ h => h) (yieldsIf_row (by rfl) _ _ rfl ga rfl A (fun w' hw' => hw'.out.1) h_under rfl ca) hHeld ?_
          (try simp only [Act.put, List.setIfInBounds_toArray, List.set_cons_zero, List.set_cons_succ])
          refine wpAnyH_take (i := 1) (oi := ({ dst := some 92, op := Op.load 32 (Operand.tmp 16), type := 32, pos := "law.go:72", after := #[], guard := none } : Oper)) (v := .agg A) rfl (by kernel_rfl) (by kernel_rfl) (by kernel_rfl) (fun _ _ _ h => h) (yieldsIf_row (by rfl) _ _ rfl g rfl A (fun w' hw' => hw'.out.2.1) a_under rfl aa) hHeld ?_
          (try simp only [Act.put, List.setIfInBounds_toArray, List.set_cons_zero, List.set_cons_succ])
          refine wpAnyH_take (i := 2) (oi := ({ dst := some 93, op := Op.binOp BinOp.eql 33 (Operand.tmp 91) (Operand.tmp 92) 33, type := 4, pos := "law.go:72", after := #[{ on := 0, ground := Ground.data }, { on := 1, ground := Ground.data }], guard := none } : Oper)) (v := .bool true) rfl (by kernel_rfl) (by kernel_rfl) (by kernel_rfl) (fun _ _ _ h => h) (Or.inl ⟨by rfl, fun w hSw => h_eql_at _ _ _ _ A _ rfl rfl rfl hna⟩) hHeld ?_
          (try simp only [Act.put, List.setIfInBounds_toArray, List.set_cons_zero, List.set_cons_succ])
          refine wpAnyH_take (i := 3) (oi := ({ dst := some 94, op := Op.move (Operand.tmp 93), type := 4, pos := "law.go:72", after := #[{ on := 2, ground := Ground.data }], guard := none } : Oper)) (v := ?_) rfl (by kernel_rfl) (by kernel_rfl) (by kernel_rfl) (fun _ _ _ h => h) (Or.inl ⟨by rfl, ?_⟩) hHeld ?_
          rotate_left
          · ((intro w hSw; (try dsimp only at hSw); go_simp); (try with_reducible rfl))
          (try simp only [Act.put, List.setIfInBounds_toArray, List.set_cons_zero, List.set_cons_succ])
          refine wpAnyH_take (i := 4) (oi := ({ dst := some 95, op := Op.move (Operand.tmp 15), type := 37, pos := "law.go:72", after := #[{ on := 3, ground := Ground.guard }], guard := some (3, true) } : Oper)) (v := ?_) rfl (by kernel_rfl) (by kernel_rfl) (by kernel_rfl) (fun _ _ _ h => h) (Or.inl ⟨by rfl, ?_⟩) hHeld ?_
          rotate_left
          · ((intro w hSw; (try dsimp only at hSw); go_simp); (try with_reducible rfl))
          (try simp only [Act.put, List.setIfInBounds_toArray, List.set_cons_zero, List.set_cons_succ])
          refine wpAnyH_take (i := 5) (oi := ({ dst := some 96, op := Op.move (Operand.tmp 17), type := 37, pos := "law.go:72", after := #[{ on := 3, ground := Ground.guard }], guard := some (3, true) } : Oper)) (v := ?_) rfl (by kernel_rfl) (by kernel_rfl) (by kernel_rfl) (fun _ _ _ h => h) (Or.inl ⟨by rfl, ?_⟩) hHeld ?_
          rotate_left
          · ((intro w hSw; (try dsimp only at hSw); go_simp); (try with_reducible rfl))
          (try simp only [Act.put, List.setIfInBounds_toArray, List.set_cons_zero, List.set_cons_succ])
          refine wpAnyH_take (i := 6) (oi := ({ dst := some 97, op := Op.binOp BinOp.eql 37 (Operand.tmp 95) (Operand.tmp 96) 37, type := 4, pos := "law.go:72", after := #[{ on := 4, ground := Ground.data }, { on := 5, ground := Ground.data }, { on := 3, ground := Ground.guard }], guard := some (3, true) } : Oper)) (v := ?_) rfl (by kernel_rfl) (by kernel_rfl) (by kernel_rfl) (fun _ _ _ h => h) (Or.inl ⟨by rfl, ?_⟩) hHeld ?_
          rotate_left
          · ((intro w hSw; (try dsimp only at hSw); go_simp); (try with_reducible rfl))
          (try simp only [Act.put, List.setIfInBounds_toArray, List.set_cons_zero, List.set_cons_succ])
          refine wpAnyH_take (i := 7) (oi := ({ dst := some 98, op := Op.pick (Operand.tmp 94) (Operand.tmp 97) (Operand.const (Value.bool false)), type := 4, pos := "law.go:72", after := #[{ on := 3, ground := Ground.data }, { on := 6, ground := Ground.data }], guard := none } : Oper)) (v := ?_) rfl (by kernel_rfl) (by kernel_rfl) (by kernel_rfl) (fun _ _ _ h => h) (Or.inl ⟨by rfl, ?_⟩) hHeld ?_
          rotate_left
          · ((intro w hSw; (try dsimp only at hSw); go_simp); (try with_reducible rfl))
          (try simp only [Act.put, List.setIfInBounds_toArray, List.set_cons_zero, List.set_cons_succ])
          refine wpAnyH_take (i := 8) (oi := ({ dst := some 99, op := Op.move (Operand.tmp 98), type := 4, pos := "law.go:72", after := #[{ on := 7, ground := Ground.data }, { on := 3, ground := Ground.chain }], guard := none } : Oper)) (v := ?_) rfl (by kernel_rfl) (by kernel_rfl) (by kernel_rfl) (fun _ _ _ h => h) (Or.inl ⟨by rfl, ?_⟩) hHeld ?_
          rotate_left
          · ((intro w hSw; (try dsimp only at hSw); go_simp); (try with_reducible rfl))
          (try simp only [Act.put, List.setIfInBounds_toArray, List.set_cons_zero, List.set_cons_succ])
          refine wpAnyH_take (i := 9) (oi := ({ dst := some 100, op := Op.move (Operand.tmp 8), type := 36, pos := "law.go:72", after := #[{ on := 8, ground := Ground.guard }], guard := some (8, true) } : Oper)) (v := ?_) rfl (by kernel_rfl) (by kernel_rfl) (by kernel_rfl) (fun _ _ _ h => h) (Or.inl ⟨by rfl, ?_⟩) hHeld ?_
          rotate_left
          · ((intro w hSw; (try dsimp only at hSw); go_simp); (try with_reducible rfl))
          (try simp only [Act.put, List.setIfInBounds_toArray, List.set_cons_zero, List.set_cons_succ])
          refine wpAnyH_take (i := 10) (oi := ({ dst := some 101, op := Op.indexAddr 36 (Operand.tmp 100) (Operand.const (Value.int IntKind.i64 0)), type := 0, pos := "law.go:72", after := #[{ on := 9, ground := Ground.data }, { on := 8, ground := Ground.guard }], guard := some (8, true) } : Oper)) (v := ?_) rfl (by kernel_rfl) (by kernel_rfl) (by kernel_rfl) (fun _ _ _ h => h) (Or.inl ⟨by rfl, ?_⟩) hHeld ?_
          rotate_left
          · ((intro w hSw; (try dsimp only at hSw); go_simp); (try with_reducible rfl))
          (try simp only [Act.put, List.setIfInBounds_toArray, List.set_cons_zero, List.set_cons_succ])
          refine wpAnyH_take (i := 11) (oi := ({ dst := some 102, op := Op.load 33 (Operand.tmp 101), type := 33, pos := "law.go:72", after := #[{ on := 10, ground := Ground.data }, { on := 8, ground := Ground.guard }], guard := some (8, true) } : Oper)) (v := .agg C0.toList.toArray) rfl (by kernel_rfl) (by kernel_rfl) (by kernel_rfl) (fun _ _ _ h => h) (yieldsIf_load_mid (by rfl) _ _ rfl b off rfl C0.toList _ (fun w' hw' => hw'.out.2.2.1) h_under rfl cl) hHeld ?_
          (try simp only [Act.put, List.setIfInBounds_toArray, List.set_cons_zero, List.set_cons_succ])
          refine wpAnyH_take (i := 12) (oi := ({ dst := some 103, op := Op.move (Operand.tmp 1), type := 31, pos := "law.go:72", after := #[{ on := 8, ground := Ground.guard }], guard := some (8, true) } : Oper)) (v := ?_) rfl (by kernel_rfl) (by kernel_rfl) (by kernel_rfl) (fun _ _ _ h => h) (Or.inl ⟨by rfl, ?_⟩) hHeld ?_
          rotate_left
          · ((intro w hSw; (try dsimp only at hSw); go_simp); (try with_reducible rfl))
          (try simp only [Act.put, List.setIfInBounds_toArray, List.set_cons_zero, List.set_cons_succ])
          refine wpAnyH_take (i := 13) (oi := ({ dst := some 104, op := Op.indexAddr 31 (Operand.tmp 103) (Operand.const (Value.int IntKind.i64 0)), type := 0, pos := "law.go:72", after := #[{ on := 12, ground := Ground.data }, { on := 8, ground := Ground.guard }], guard := some (8, true) } : Oper)) (v := ?_) rfl (by kernel_rfl) (by kernel_rfl) (by kernel_rfl) (fun _ _ _ h => h) (Or.inl ⟨by rfl, ?_⟩) hHeld ?_
          rotate_left
          · ((intro w hSw; (try dsimp only at hSw); go_simp); (try with_reducible rfl))
          (try simp only [Act.put, List.setIfInBounds_toArray, List.set_cons_zero, List.set_cons_succ])
          refine wpAnyH_take (i := 14) (oi := ({ dst := some 105, op := Op.load 32 (Operand.tmp 104), type := 32, pos := "law.go:72", after := #[{ on := 13, ground := Ground.data }, { on := 8, ground := Ground.guard }], guard := some (8, true) } : Oper)) (v := .agg C0.toList.toArray) rfl (by kernel_rfl) (by kernel_rfl) (by kernel_rfl) (fun _ _ _ h => h) (yieldsIf_load_mid (by rfl) _ _ rfl b' off' rfl C0.toList _ (fun w' hw' => hw'.out.2.2.2) a_under rfl al) hHeld ?_
          (try simp only [Act.put, List.setIfInBounds_toArray, List.set_cons_zero, List.set_cons_succ])
          refine wpAnyH_take (i := 15) (oi := ({ dst := some 106, op := Op.binOp BinOp.eql 33 (Operand.tmp 102) (Operand.tmp 105) 33, type := 4, pos := "law.go:72", after := #[{ on := 11, ground := Ground.data }, { on := 14, ground := Ground.data }, { on := 8, ground := Ground.guard }], guard := some (8, true) } : Oper)) (v := .bool true) rfl (by kernel_rfl) (by kernel_rfl) (by kernel_rfl) (fun _ _ _ h => h) (Or.inl ⟨by rfl, fun w hSw => h_eql_at _ _ _ _ C0 _ rfl rfl rfl hsf⟩) hHeld ?_
          (try simp only [Act.put, List.setIfInBounds_toArray, List.set_cons_zero, List.set_cons_succ])
          refine wpAnyH_take (i := 16) (oi := ({ dst := some 107, op := Op.pick (Operand.tmp 99) (Operand.tmp 106) (Operand.const (Value.bool false)), type := 4, pos := "law.go:72", after := #[{ on := 8, ground := Ground.data }, { on := 15, ground := Ground.data }], guard := none } : Oper)) (v := ?_) rfl (by kernel_rfl) (by kernel_rfl) (by kernel_rfl) (fun _ _ _ h => h) (Or.inl ⟨by rfl, ?_⟩) hHeld ?_
          rotate_left
          · ((intro w hSw; (try dsimp only at hSw); go_simp); (try with_reducible rfl))
          (try simp only [Act.put, List.setIfInBounds_toArray, List.set_cons_zero, List.set_cons_succ])
          refine wpAnyH_take (i := 17) (oi := ({ dst := some 6, op := Op.assign (Operand.tmp 107), type := 4, pos := "law.go:72", after := #[{ on := 16, ground := Ground.data }, { on := 8, ground := Ground.chain }, { on := 0, ground := Ground.phase }, { on := 1, ground := Ground.phase }, { on := 2, ground := Ground.phase }, { on := 3, ground := Ground.phase }, { on := 4, ground := Ground.phase }, { on := 5, ground := Ground.phase }, { on := 6, ground := Ground.phase }, { on := 7, ground := Ground.phase }, { on := 8, ground := Ground.phase }, { on := 9, ground := Ground.phase }, { on := 10, ground := Ground.phase }, { on := 11, ground := Ground.phase }, { on := 12, ground := Ground.phase }, { on := 13, ground := Ground.phase }, { on := 14, ground := Ground.phase }, { on := 15, ground := Ground.phase }, { on := 16, ground := Ground.phase }], guard := none } : Oper)) (v := ?_) rfl (by kernel_rfl) (by kernel_rfl) (by kernel_rfl) (fun _ _ _ h => h) (Or.inl ⟨by rfl, ?_⟩) hHeld ?_
          rotate_left
          · ((intro w hSw; (try dsimp only at hSw); go_simp); (try with_reducible rfl))
          (try simp only [Act.put, List.setIfInBounds_toArray, List.set_cons_zero, List.set_cons_succ])
          refine wpAnyH_done (by kernel_rfl) ?_ _
          go_wp2
          go_ret
          exact ⟨rfl, BF.out⟩
end Go.Proofs.Ytldgdedfioigiaa
