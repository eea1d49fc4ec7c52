/- Alive of layer 5: of gen_alive05.py. -/
import Derived.Test.YtldgdedfioigiaaAlA
namespace Go.Proofs.Ytldgdedfioigiaa
open Go.RowKit Go.Shelf
set_option linter.unusedVariables false
set_option linter.unusedSimpArgs false
attribute [local go_sem] Oper.semAt_some

set_option maxHeartbeats 2000000 in
set_option maxRecDepth 1000000 in
theorem alive_any (w : World) : Calls Try.prog 8 #[] w fun e w' => e = .returned (.bool true) ∧ Below w.heap.size w w' := by
  have hz := h_zero
  obtain ⟨ie, hie, hiz, his⟩ : ∃ ie, Try.prog.info? 33 = some ie ∧ ie.zero = some (.agg (hC zeros65)) ∧ ie.size = 65 := by
    have e := h_zero0
    cases hq : Try.prog.info? 33 with
    | none => simp [hq] at e
    | some i => simp [hq] at e; exact ⟨i, rfl, e.1, e.2⟩
  have zz : (hC zeros65).size = 65 := by rw [hC_size, zeros65_len]
  have c65 : ∀ l : List Int, l.length = 65 → (Try.prog.info? 33).map (·.size) = some (hC l).size := fun l hl => by rw [hC_size, hl]; exact h_info
  have ci := c65 L0 L0_len
  have cm := c65 LM (sumR_len _)
  have ca := c65 LA (sumR_len _)
  have e0 : (hC zeros65).size = (hC L0).size := by rw [zz, hC_size, L0_len]
  have em : (hC zeros65).size = (hC LM).size := by rw [zz, hC_size]; exact (sumR_len _).symm
  have ea : (hC zeros65).size = (hC LA).size := by rw [zz, hC_size]; exact (sumR_len _).symm
  have o0 := hC_cells L0
  have om := hC_cells LM
  have oa := hC_cells LA
  have hfill := fun cells hc => fill2 (C := hC L0) (D := hC L0) (cells := cells) (by rw [hC_size, L0_len]) (by rw [hC_size, L0_len]) hc
  have COf := Lib.hid al_of
  have CM := Lib.hid al_merge
  have CA := Lib.hid al_add
  have CR := Lib.hid al_rank
  have CT := Lib.hid al_total
  have CF := Lib.hid (fun W => full_any L0 L0_len W)
  have FS := Lib.hid (fun (B n₀ : Nat) (W : World) (hB : B < W.heap.size) (hc : Kept W B (hC L0) 33) => full_stops Fence.wide 7 trivial rfl (by decide) B n₀ L0 L0_len (fun _ => True) (fun _ _ => trivial) W hB hc)
  obtain ⟨Z, hZ⟩ : ∃ Z, hC zeros65 = Z := ⟨_, rfl⟩
  rw [hZ] at hz hiz zz e0 em ea
  obtain ⟨C, hC0⟩ : ∃ C, hC L0 = C := ⟨_, rfl⟩
  rw [hC0] at ci e0 o0 hfill COf CM CA CR CT CF FS
  obtain ⟨M, hM⟩ : ∃ M, hC LM = M := ⟨_, rfl⟩
  rw [hM] at cm em om CM
  obtain ⟨A, hA⟩ : ∃ A, hC LA = A := ⟨_, rfl⟩
  rw [hA] at ca ea oa CA
  have HF := Lib.hid (hfill ((Array.range (2 * 65)).map ((Value.agg Z).cells[· % (Value.agg Z).cells.size]!)) (by simp))
  clear hfill c65
  obtain ⟨CD, hCD⟩ : ∃ CD, C ++ C = CD := ⟨_, rfl⟩
  rw [hCD] at HF CM
  have HC0 := Lib.hid hC0
  have HM := Lib.hid hM
  have HA := Lib.hid hA
  have HIE := Lib.hid (⟨hie, hiz, his⟩ : Try.prog.info? 33 = some ie ∧ ie.zero = some (.agg Z) ∧ ie.size = 65)
  clear hC0 hM hA hZ hCD hie hiz his
  refine (callsIn_wide (n := 8)).1 ?_
  refine callsIn_of_wp_marks Try.func8 rfl trivial ?_ rfl
  refine wpIn_wide.2 ?_
  simp only [Try.ntmps8, List.size_toArray, List.length_cons, List.length_nil, Nat.reduceAdd, Nat.reduceSub, Array.replicate_succ, Array.replicate_zero, List.push_toArray, List.append_toArray, List.nil_append, List.cons_append]
  go_wp2_with fail
  refine (COf.out w.heap.size _ (by exact Kept.new (by simp))).mono ?_
  rintro _ w1 ⟨rfl, b1⟩
  have B1 := Lib.hid (bnext (one_alloc w _) (by simp) b1)
  have T1 : Hid (Kept (w1.alloc (.cells Z 33)) w1.heap.size Z 33) := Lib.hid (Kept.new rfl)
  clear b1
  go_wp2_with (refine wpList_store_row rfl 33 _ _ rfl w1.heap.size C rfl rfl 33 Z T1.out ci e0 o0 ?_)
  rw [World.setRow_alloc_new]
  have G1 : Hid (Kept (w1.alloc (.cells C 33)) w1.heap.size C 33) := Lib.hid (Kept.new rfl)
  have B2 := Lib.hid (B1.out.alloc B1.out.size (.cells C 33))
  clear B1 T1
  generalize w1.alloc (.cells C 33) = W1 at *
  refine (al_b4 _).mono ?_
  rintro _ w2 ⟨rfl, b2⟩
  have B3 := Lib.hid (B2.out.trans (b2.mono B2.out.size))
  have G2 := Lib.hid (G1.out.next b2)
  clear b2 B2 G1
  go_wp2_with fail
  refine (al_b65 _).mono ?_
  rintro _ w3 ⟨rfl, b3⟩
  have P3 : Hid (Kept w3 w2.heap.size #[.int .i64 4, .int .i64 7] 25) := Lib.hid ((Kept.new rfl).next b3)
  have G3 := Lib.hid ((G2.out.alloc _).next b3)
  have B4 := Lib.hid (bnext (B3.out.alloc B3.out.size _) (by have := B3.out.size; simp <;> omega) b3)
  clear b3 B3 G2
  have G4 := Lib.hid (G3.out.alloc (.cells #[.int .i64 0, .int .i64 0] 25))
  have P4 := Lib.hid (P3.out.alloc (.cells #[.int .i64 0, .int .i64 0] 25))
  have B5 := Lib.hid (B4.out.alloc B4.out.size (.cells #[.int .i64 0, .int .i64 0] 25))
  clear G3 P3 B4
  obtain ⟨hie, hiz, his⟩ := HIE.out
  have hfill := HF.out
  have HG4 : Hid (((w3.alloc (.cells #[.int .i64 0, .int .i64 0] 25)).alloc (.cells CD 33)).heap[w3.heap.size + 1]? = some (.cells CD 33 (0, 0))) := Lib.hid (by
    have h := heap_alloc_new (w3.alloc (.cells #[.int .i64 0, .int .i64 0] 25)) (.cells CD 33)
    rw [World.size_alloc] at h
    exact h)
  go_wp2_with (first
    | (refine wpList_load_row rfl 33 _ rfl w1.heap.size rfl 33 C (0, 0) _ G4.out h_under rfl ci ?_)
    | (refine wpList_buildSlice rfl 36 33 2 _ rfl CD ie (.agg Z) rfl hie hiz (by rw [his]; decide) (by rw [his]; decide) (by rw [his]; refine Eq.trans (congrArg (Instr.fill _ _) ?_) hfill; simp only [List.map_toArray, List.map_cons, List.map_nil]; rfl) ?_))
  generalize w3.alloc (.cells #[.int .i64 0, .int .i64 0] 25) = W3 at *
  refine (CM.out (w3.heap.size + 1) _ HG4.out).mono ?_
  rintro _ w4 ⟨rfl, b4⟩
  have G5 := Lib.hid ((G4.out.alloc _).next b4)
  have P5 := Lib.hid ((P4.out.alloc _).next b4)
  have B6 := Lib.hid (bnext (B5.out.alloc B5.out.size _) (by have := B5.out.size; simp <;> omega) b4)
  clear HG4
  have T4 : Hid (Kept (w4.alloc (.cells Z 33)) w4.heap.size Z 33) := Lib.hid (Kept.new rfl)
  have Q4 : Hid (Kept (w4.alloc (.cells M 33)) w4.heap.size M 33) := Lib.hid (Kept.new rfl)
  have G6 := Lib.hid (G5.out.alloc (.cells M 33))
  have P6 := Lib.hid (P5.out.alloc (.cells M 33))
  have B7 := Lib.hid (B6.out.alloc B6.out.size (.cells M 33))
  clear b4 G4 P4 B5 G5 P5 B6 hie hiz his hfill HIE HF CM COf
  go_wp2_with (first
    | (refine wpList_store_row rfl 33 _ _ rfl w4.heap.size M rfl rfl 33 Z T4.out cm em om ?_; rw [World.setRow_alloc_new]; clear T4; generalize w4.alloc (.cells M 33) = W4 at *)
    | (refine wpList_load_row rfl 33 _ rfl w1.heap.size rfl 33 C (0, 0) _ G6.out h_under rfl ci ?_))
  refine (CA.out _).mono ?_
  rintro _ w5 ⟨rfl, b5⟩
  have G7 := Lib.hid (G6.out.next b5)
  have P7 := Lib.hid (P6.out.next b5)
  have M7 := Lib.hid (Q4.out.next b5)
  have B8 := Lib.hid (B7.out.trans (b5.mono B7.out.size))
  have T5 : Hid (Kept (w5.alloc (.cells Z 33)) w5.heap.size Z 33) := Lib.hid (Kept.new rfl)
  have A8 : Hid (Kept (w5.alloc (.cells A 33)) w5.heap.size A 33) := Lib.hid (Kept.new rfl)
  have G8 := Lib.hid (G7.out.alloc (.cells A 33))
  have P8 := Lib.hid (P7.out.alloc (.cells A 33))
  have M8 := Lib.hid (M7.out.alloc (.cells A 33))
  have B9 := Lib.hid (B8.out.alloc B8.out.size (.cells A 33))
  clear b5 G6 P6 Q4 B7 G7 P7 M7 B8 CA
  go_wp2_with (refine wpList_store_row rfl 33 _ _ rfl w5.heap.size A rfl rfl 33 Z T5.out ca ea oa ?_; rw [World.setRow_alloc_new]; clear T5; generalize w5.alloc (.cells A 33) = W5 at *)
  refine Code.wp_mono (fun e a w q => noPan_out q) ?_
  refine wp_region_held_drew (S := fun w' => Hid (Kept w' w1.heap.size C 33)) (by kernel_rfl) (Lib.hid (G8.out.drewN 1)) (fun hHeld => ?_)
  refine wpAnyH_take (i := 0) (oi := ({ dst := some 39, op := Op.load 33 (Operand.tmp 1), type := 33, pos := "law.go:22", after := #[], guard := none } : Oper)) (v := .agg C) rfl (by kernel_rfl) (by kernel_rfl) (by kernel_rfl) (fun _ _ _ h => h) (yieldsIf_row (by rfl) _ _ rfl w1.heap.size rfl C (fun w' hw' => hw'.out) h_under rfl ci) hHeld ?_
  (try simp only [Act.put, List.setIfInBounds_toArray, List.set_cons_zero, List.set_cons_succ])
  refine wpAnyH_ready (rs := [1]) (by kernel_rfl) (by simp) ?_
  refine AllReadyH.cons (o := ({ dst := some 40, op := Op.call { callee := Callee.value (Operand.func 27), args := #[Operand.const (Value.int IntKind.i64 2)], argTypes := #[2] }, type := 47, pos := "law.go:22", after := #[], guard := none } : Oper)) rfl (fun K hK => ?_) AllReadyH.nil
  go_simp
  (with_reducible refine (al_of2 _).mono ?_)
  rintro _ w6 ⟨rfl, b6⟩
  have D6 : Hid (Below W5.heap.size W5 w6) := Lib.hid ((Below.refl W5.heap.size W5).drew.trans (b6.mono (by simp)))
  clear b6
  refine hK.out _ _ ?_ (fun hHeld => ?_)
  · exact Lib.hid (G8.out.next D6.out)
  clear hK K
  (try simp only [Act.put, List.setIfInBounds_toArray, List.set_cons_zero, List.set_cons_succ])
  refine wpAnyH_ready (rs := [2]) (by kernel_rfl) (by simp) ?_
  refine AllReadyH.cons (o := ({ dst := some 41, op := Op.call { callee := Callee.value (Operand.func 24), args := #[Operand.tmp 39, Operand.tmp 40], argTypes := #[33, 47] }, type := 56, pos := "law.go:22", after := #[{ on := 0, ground := Ground.data }, { on := 1, ground := Ground.data }, { on := 1, ground := Ground.chain }], guard := none } : Oper)) rfl (fun K hK => ?_) AllReadyH.nil
  go_simp
  (with_reducible refine (CR.out _).mono ?_)
  rintro _ w7 ⟨rfl, b7⟩
  have D7 : Hid (Below W5.heap.size W5 w7) := Lib.hid (D6.out.trans (b7.mono D6.out.size))
  clear b7 D6
  refine hK.out _ _ ?_ (fun hHeld => ?_)
  · exact Lib.hid (G8.out.next D7.out)
  clear hK K
  (try simp only [Act.put, List.setIfInBounds_toArray, List.set_cons_zero, List.set_cons_succ])
  refine wpAnyH_take (i := 3) (oi := ({ dst := some 38, op := Op.move (Operand.tmp 41), type := 56, pos := "law.go:22", after := #[{ on := 2, ground := Ground.data }], guard := none } : Oper)) (v := ?_) rfl (by kernel_rfl) (by kernel_rfl) (by kernel_rfl) (fun _ _ _ h => h) (Or.inl ⟨by rfl, ?_⟩) hHeld ?_
  rotate_left
  · ((intro w hSw; (try dsimp only at hSw); go_simp); (try with_reducible rfl))
  (try simp only [Act.put, List.setIfInBounds_toArray, List.set_cons_zero, List.set_cons_succ])
  refine wpAnyH_take (i := 4) (oi := ({ dst := some 42, op := Op.extract (Operand.tmp 38) 0, type := 3, pos := "law.go:22", after := #[{ on := 3, ground := Ground.data }], guard := none } : Oper)) (v := ?_) rfl (by kernel_rfl) (by kernel_rfl) (by kernel_rfl) (fun _ _ _ h => h) (Or.inl ⟨by rfl, ?_⟩) hHeld ?_
  rotate_left
  · ((intro w hSw; (try dsimp only at hSw); go_simp); (try with_reducible rfl))
  (try simp only [Act.put, List.setIfInBounds_toArray, List.set_cons_zero, List.set_cons_succ])
  refine wpAnyH_take (i := 5) (oi := ({ dst := some 43, op := Op.extract (Operand.tmp 38) 1, type := 4, pos := "law.go:22", after := #[{ on := 3, ground := Ground.data }, { on := 6, ground := Ground.gcOnly Departure.lateStores }], guard := none } : Oper)) (v := ?_) rfl (by kernel_rfl) (by kernel_rfl) (by kernel_rfl) (fun _ _ _ h => h) (Or.inl ⟨by rfl, ?_⟩) hHeld ?_
  rotate_left
  · ((intro w hSw; (try dsimp only at hSw); go_simp); (try with_reducible rfl))
  (try simp only [Act.put, List.setIfInBounds_toArray, List.set_cons_zero, List.set_cons_succ])
  refine wpAnyH_take (i := 6) (oi := ({ dst := some 10, op := Op.assign (Operand.tmp 42), type := 3, pos := "law.go:22", after := #[{ on := 4, ground := Ground.data }, { on := 2, ground := Ground.chain }, { on := 0, ground := Ground.phase }, { on := 1, ground := Ground.phase }, { on := 2, ground := Ground.phase }, { on := 3, ground := Ground.phase }, { on := 4, ground := Ground.phase }, { on := 5, ground := Ground.textOnly Departure.lateStores }], guard := none } : Oper)) (v := ?_) rfl (by kernel_rfl) (by kernel_rfl) (by kernel_rfl) (fun _ _ _ h => h) (Or.inl ⟨by rfl, ?_⟩) hHeld ?_
  rotate_left
  · ((intro w hSw; (try dsimp only at hSw); go_simp); (try with_reducible rfl))
  (try simp only [Act.put, List.setIfInBounds_toArray, List.set_cons_zero, List.set_cons_succ])
  refine wpAnyH_take (i := 7) (oi := ({ dst := some 11, op := Op.assign (Operand.tmp 43), type := 4, pos := "law.go:22", after := #[{ on := 5, ground := Ground.data }, { on := 6, ground := Ground.chain }, { on := 0, ground := Ground.phase }, { on := 1, ground := Ground.phase }, { on := 2, ground := Ground.phase }, { on := 3, ground := Ground.phase }, { on := 4, ground := Ground.phase }, { on := 5, ground := Ground.phase }, { on := 6, ground := Ground.phase }], guard := none } : Oper)) (v := ?_) rfl (by kernel_rfl) (by kernel_rfl) (by kernel_rfl) (fun _ _ _ h => h) (Or.inl ⟨by rfl, ?_⟩) hHeld ?_
  rotate_left
  · ((intro w hSw; (try dsimp only at hSw); go_simp); (try with_reducible rfl))
  (try simp only [Act.put, List.setIfInBounds_toArray, List.set_cons_zero, List.set_cons_succ])
  refine wpAnyH_done (by kernel_rfl) ?_ _
  refine noPan_normal ?_
  have G9 := Lib.hid (G8.out.next D7.out)
  have P9 := Lib.hid (P8.out.next D7.out)
  have M9 := Lib.hid (M8.out.next D7.out)
  have A9 := Lib.hid (A8.out.next D7.out)
  have BA := Lib.hid (B9.out.trans (D7.out.mono B9.out.size))
  clear G8 P8 M8 A8 B9 D7 CR
  have GA := Lib.hid (G9.out.alloc (.cells #[.int .i64 0] 3))
  have KN : Hid (Kept ((w7.alloc (.cells #[.int .i64 0] 3)).alloc (.cells C 33)) w7.heap.size #[.int .i64 0] 3) := Lib.hid ((Kept.new rfl).alloc _)
  have KF : Hid (Kept ((w7.alloc (.cells #[.int .i64 0] 3)).alloc (.cells C 33)) (w7.heap.size + 1) C 33) := Lib.hid (Kept.new (by simp))
  have GL := Lib.hid (GA.out.alloc (.cells C 33))
  have PL := Lib.hid ((P9.out.alloc (.cells #[.int .i64 0] 3)).alloc (.cells C 33))
  have ML := Lib.hid ((M9.out.alloc (.cells #[.int .i64 0] 3)).alloc (.cells C 33))
  have AL := Lib.hid ((A9.out.alloc (.cells #[.int .i64 0] 3)).alloc (.cells C 33))
  have BL := Lib.hid ((BA.out.alloc BA.out.size (.cells #[.int .i64 0] 3)).alloc (by have := BA.out.size; simp <;> omega) (.cells C 33))
  have SL : Hid (((w7.alloc (.cells #[.int .i64 0] 3)).alloc (.cells C 33)).heap.size = w7.heap.size + 2) := Lib.hid (by simp)
  have gl := G9.out.lt
  have pl := P9.out.lt
  have ml := M9.out.lt
  have al := A9.out.lt
  have wl := BA.out.size
  have HL := Lib.hid (⟨gl, pl, ml, al, wl⟩ : w1.heap.size < w7.heap.size ∧ w2.heap.size < w7.heap.size ∧ w4.heap.size < w7.heap.size ∧ w5.heap.size < w7.heap.size ∧ w.heap.size ≤ w7.heap.size)
  clear gl pl ml al wl G9 P9 M9 A9 BA hHeld
  have heq := fun W => eq_full (w7.heap.size + 1) W
  go_wp2_with (first
    | (refine wpList_load_row rfl 33 _ rfl w1.heap.size rfl 33 C (0, 0) _ GA.out h_under rfl ci ?_)
    | (go_at_call 26; refine (CF.out _).mono ?_; rintro _ _ ⟨rfl, rfl⟩))
  clear heq
  generalize (w7.alloc (.cells #[.int .i64 0] 3)).alloc (.cells C 33) = WL at *
  have LS : w7.heap.size + 1 < WL.heap.size := by have := SL.out; omega
  have LN : w7.heap.size ≤ WL.heap.size := by omega
  refine wpIn_wide.1 (wpIn_rangeFunc_ownG (F := Fence.wide) (n := 8) rfl (by decide) (gf := 46) (lb := #[.pointer (some ⟨w7.heap.size + 1, 0, none⟩)]) rfl trivial (enters_of Try.func46 (by kernel_rfl) rfl)
    (FS.out (w7.heap.size + 1) w7.heap.size WL LS KF.out) belowK_t (belowK_b LN) (Below.refl _ _) (fun _ => rfl)
    (fun pre W => AlI w7.heap.size pre W ∧ Below w7.heap.size WL W)
    (fun _ _ _ => False)
    (OwnFrom.and (Own.from (alI_own _) _) (ownFrom_below LN LN))
    (fun _ _ _ _ _ hs _ _ => hs)
    ⟨KN.out, Below.refl _ _⟩ ?act ?assign ?body ?done ?stop)
  case assign =>
    intro l x W K hK
    gi_wp2
    exact hK
  case body =>
    rintro l pre x W ⟨hI, hB⟩ _
    have hI2 : Kept W w7.heap.size #[.int .i64 (alB pre)] 3 := hI
    have hS : Hid (∀ W', Kept W' w7.heap.size #[.int .i64 (wrap64 (alB pre + wrap64 ((x.1.1 : Int) * x.1.2)))] 3 → AlI w7.heap.size (pre ++ [x]) W') := Lib.hid fun W' h => by unfold AlI; rw [alB_snoc]; exact h
    obtain ⟨⟨b, v⟩, hx⟩ := x
    dsimp only at hS
    have HI := Lib.hid hI2
    have HB := Lib.hid hB
    generalize alB pre = s at *
    obtain ⟨p1, p2, p3⟩ := HI.out.one
    clear hI hI2 hB
    gi_wp2
    exact ⟨(KeepsOthers.setCell _ _ _).from _, (Below.refl _ W).setCell (p := ⟨w7.heap.size, 0, none⟩) (Nat.le_refl _) _, hS.out _ (HI.out.set 0 _), HB.out.setCell (p := ⟨w7.heap.size, 0, none⟩) (Nat.le_refl _) _⟩
  case done =>
    rintro D ys W hD hys ⟨hI, hB⟩ hK
    have h9 := alB_all ys hys
    have hI2 : Kept W w7.heap.size #[.int .i64 (alB ys)] 3 := hI
    rw [h9] at hI2
    obtain ⟨gl, pl, ml, al, wl⟩ := HL.out
    have GW := Lib.hid (GL.out.below hB gl)
    have PW := Lib.hid (PL.out.below hB pl)
    have MW := Lib.hid (ML.out.below hB ml)
    have AW := Lib.hid (AL.out.below hB al)
    have BW := Lib.hid (BL.out.trans (hB.mono wl))
    have HK := Lib.hid hK
    have HD := Lib.hid (⟨hD, (Array.getElem?_eq_some_iff.1 hK).1⟩ : WL.heap.size ≤ D ∧ D < W.heap.size)
    have g0 := cell0 HC0.out L0_len GW.out 0 (by omega) 0 (by decide +kernel)
    have g1 := cell0 HC0.out L0_len GW.out 1 (by omega) 1 (by decide +kernel)
    have g2 := cell0 HC0.out L0_len GW.out 2 (by omega) 2 (by decide +kernel)
    have g4 := cell0 HC0.out L0_len GW.out 4 (by omega) 1 (by decide +kernel)
    have m2 := cell0 HM.out (sumR_len _) MW.out 2 (by omega) 4 (by decide +kernel)
    have a0 := cell0 HA.out (sumR_len _) AW.out 0 (by omega) 1 (by decide +kernel)
    obtain ⟨n1, n2, n3⟩ := Kept.one hI2
    obtain ⟨q1, q2, q3, q4, q5⟩ := PW.out.two
    clear gl pl ml al wl GL PL ML AL BL h9 hys hI hI2 hB hK hD KN KF GA LS SL FS CF HC0 HM HA
    go_wp2_with (first
      | (refine wpList_load_rowG 33 _ rfl w1.heap.size rfl 33 C (0, 0) _ GW.out h_under rfl ci (by rfl) ?_)
      | (go_at_call 23; refine (CT.out _).mono ?_; rintro _ w8 ⟨rfl, b8⟩; have B8 : Hid (Below W.heap.size W w8) := Lib.hid b8; clear b8)
      | (go_at_call 27; refine (al_of4 _).mono ?_; rintro _ w9 ⟨rfl, b9⟩; have B9 : Hid (Below W.heap.size W w9) := Lib.hid (B8.out.trans (b9.mono B8.out.size)); clear b9)
      | (go_at_call 9; refine (al_bucket _).mono ?_; rintro _ w10 ⟨rfl, h10⟩; have B10 : Hid (Below W.heap.size W w10) := Lib.hid (by rw [h10]; exact B9.out); clear h10))
    have K9 : w10.heap[D]? = some (.deferred (some [])) := (B10.out.block D HD.out.2).trans HK.out
    have E9 := BW.out.trans (B10.out.mono BW.out.size)
    refine ⟨by simp, .inl ⟨_, _, rfl, run_takeDeferred K9, ?_⟩⟩
    have h1 := HL.out.2.2.2.2
    have h2 := HD.out.1
    exact ⟨.bool true, by simp [results, Try.f8, go_sem], rfl, E9.trans (belowK_b (w := w) (Nat.le_refl _) w10 D _ _ (by have := BW.out.size; omega) K9 rfl rfl)⟩
  case stop =>
    rintro D c pre W _ _ ⟨h, _⟩ _
end Go.Proofs.Ytldgdedfioigiaa
