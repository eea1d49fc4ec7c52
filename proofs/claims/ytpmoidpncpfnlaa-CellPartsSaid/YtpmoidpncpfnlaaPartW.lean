/- CellParts: the walk; of gen_cparts21.py. -/
import Derived.Test.YtpmoidpncpfnlaaCelN
import Derived.Deep.DeepCutAuto
namespace Go.Proofs.Ytpmoidpncpfnlaa
open Go.RowKit
set_option linter.unusedVariables false
set_option linter.unusedSimpArgs false

def BoolOut (w : World) (e : Ending) (w' : World) : Prop := e = .returned (.bool true) ∧ Below w.heap.size w w'
theorem parts_out (xa : Option Addr) (n c : Nat) (cut : Int) (w : World) (h : (200 : Int) < (n : Int) ∨ cut < 0 ∨ (n : Int) < cut) (hn : n ≤ 9223372036854775807) : Calls Try.prog 5 #[.slice xa n c, .int .i64 cut] w (BoolOut w) := by
  obtain ⟨N, hN⟩ : ∃ N : Int, (n : Int) = N := ⟨_, rfl⟩
  have ARM : ∀ b1 b2 b3 : Bool, decide ((200 : Int) < (n : Int)) = b1 → decide (cut < 0) = b2 → decide ((n : Int) < cut) = b3 → (b1 || b2 || b3) = true → Calls Try.prog 5 #[.slice xa n c, .int .i64 cut] w (BoolOut w) := by
    intro b1 b2 b3 d1 d2 d3 hor
    clear h hN
    cases b1 <;> cases b2 <;> cases b3
    case false.false.false => cases hor
    all_goals
      clear hor
      go_enter Try.func5, Try.ntmps5
      go_wp2_with fail
      refine (alive_any _).mono ?_
      rintro _ w1 ⟨rfl, b1⟩
      have B1 := Lib.hid b1
      clear b1
      go_wp2
      go_ret
      exact ⟨rfl, B1.out⟩
  refine ARM _ _ _ rfl rfl rfl ?_
  rcases h with h | h | h <;> simp [h]
def PtMid (w : World) (F : Array Value) (x : Value) (wx : World) : Prop := ∃ g, x = .pointer (some ⟨g, 0, none⟩) ∧ Hid (Kept wx g F 29 ∧ Below w.heap.size w wx)
def PtK (w : World) (l : List Int) (AF : Array Value) (g5 g7 : Nat) (k : Nat) (wr : World) : Prop := Kept wr g5 AF 29 ∧ Kept wr g7 (foldC (l.take k)).A 29 ∧ Below w.heap.size w wr ∧ g5 < g7
def PtAd (w : World) (AF AK AN : Array Value) (g5 g7 g9 b off k : Nat) (x : Int) (W : World) : Prop := Kept W g5 AF 29 ∧ Kept W g7 AK 29 ∧ Kept W g9 AN 29 ∧ Below w.heap.size w W ∧ W.cell? ⟨b, off + k, none⟩ = some (.int .i64 x) ∧ g5 < g7
def PtAdd (w : World) (AF AK AN : Array Value) (g5 g7 b off k : Nat) (x : Int) (p : Value) (W : World) : Prop := ∃ g9, p = .pointer (some ⟨g9, 0, none⟩) ∧ Hid (PtAd w AF AK AN g5 g7 g9 b off k x W)
def PtRel (w : World) (l : List Int) (AF : Array Value) (g5 g7 : Nat) (i : Value) (wr : World) : Prop := ∃ k : Nat, k ≤ l.length ∧ i = .int .i64 k ∧ Hid (PtK w l AF g5 g7 k wr)
set_option maxHeartbeats 8000000 in
set_option maxRecDepth 1000000 in
theorem parts_main (xa AD : Option Addr) (c t : Nat) (l : List Int) (w : World) (hr : IntRow w xa .i64 l) (hd : IntRow w AD .i64 (l.drop t)) (hin : ∀ x ∈ l, InI x) (hl : l.length ≤ 200) (ht : t ≤ l.length) (hcap : l.length ≤ c)
    (hs1 : ∀ W, (Instr.slice 22 (.slice xa l.length c) none (some (.int .i64 (t : Int))) none).run Try.prog W = .ok (.slice xa t c) W) (hs2 : ∀ W, (Instr.slice 22 (.slice xa l.length c) (some (.int .i64 (t : Int))) none none).run Try.prog W = .ok (.slice AD (l.length - t) (c - t)) W) :
    Calls Try.prog 5 #[.slice xa l.length c, .int .i64 t] w (BoolOut w) := by
  have hz := c_zero
  obtain ⟨Z, hZ⟩ : ∃ Z, ceZ.A = Z := ⟨_, rfl⟩
  have z72 : Z.size = 72 := by rw [← hZ]; exact ce_size _ rfl
  obtain ⟨ie, hie, hiz, his⟩ : ∃ ie, Try.prog.info? 29 = some ie ∧ ie.zero = some (.agg Z) ∧ ie.size = 72 := by
    have e := c_zero0
    rw [hZ] at e
    cases hq : Try.prog.info? 29 with
    | none => simp [hq] at e
    | some i => simp [hq] at e; exact ⟨i, rfl, e.1, e.2⟩
  rw [hZ] at hz
  have HIE := Lib.hid (⟨hie, hiz, his⟩ : Try.prog.info? 29 = some ie ∧ ie.zero = some (.agg Z) ∧ ie.size = 72)
  have hin1 : ∀ x ∈ l.take t, InI x := fun x hx => hin x (List.mem_of_mem_take hx)
  have hin2 : ∀ x ∈ l.drop t, InI x := fun x hx => hin x (List.mem_of_mem_drop hx)
  have ci1 := ceIn_fold _ hin1 (by rw [List.length_take]; omega)
  have ci2 := ceIn_fold _ hin2 (by rw [List.length_drop]; omega)
  have ci0 := ceIn_fold l hin (by omega)
  have CF1 : Hid (∀ W, Below w.heap.size w W → Calls Try.prog 9 #[.slice xa t c] W (Gives (.agg (foldC (l.take t)).A) W)) := Lib.hid fun W hb => by
    have h := cfold_any xa c (l.take t) W ((hr.below hb).take t) hin1 (by rw [List.length_take]; omega)
    rw [List.length_take, Nat.min_eq_left ht] at h
    exact h
  have CF2 : Hid (∀ W, Below w.heap.size w W → Calls Try.prog 9 #[.slice AD (l.length - t) (c - t)] W (Gives (.agg (foldC (l.drop t)).A) W)) := Lib.hid fun W hb => by
    have h := cfold_any AD (c - t) (l.drop t) W (hd.below hb) hin2 (by rw [List.length_drop]; omega)
    rw [List.length_drop] at h
    exact h
  have CM : Hid (∀ W g, W.heap[g]? = some (.cells ((foldC (l.take t)).A ++ (foldC (l.drop t)).A) 29 (0, 0)) → Calls Try.prog 18 #[.slice (some ⟨g, 0, none⟩) 2 2] W (Gives (.tuple #[.agg (foldC l).A, .int .i64 0]) W)) := Lib.hid fun W g hg => (cmerge_any _ 2 [foldC (l.take t), foldC (l.drop t)] W (cs2 ci1.len ci2.len hg) (cin2 ci1 ci2) (by simp)).mono fun e w' h => by
    have := merge_fold hin1 hin2 (by rw [List.length_take, List.length_drop]; omega) h
    rw [List.take_append_drop] at this
    exact this
  have hfill := fill72 (C := (foldC (l.take t)).A) (D := (foldC (l.drop t)).A) (cells := (Array.range (2 * 72)).map ((Value.agg Z).cells[· % (Value.agg Z).cells.size]!)) (ce_size _ ci1.len) (ce_size _ ci2.len) (by simp)
  have CF0 : Hid (∀ W, Below w.heap.size w W → Calls Try.prog 9 #[.slice xa l.length c] W (Gives (.agg (foldC l).A) W)) := Lib.hid fun W hb => cfold_any xa c l W (hr.below hb) hin (by omega)
  have CR0 : Hid (∀ W, Calls Try.prog 12 #[.agg (foldC l).A] W (Gives (.bool true) W)) := Lib.hid fun W => by have := right_any (foldC l) W ci0; rw [rt_fold l hin (by omega)] at this; exact this
  have HEQF : Hid (∀ W, (binOp .eql 29 (.agg (foldC l).A) (.agg (foldC l).A)).run Try.prog W = .ok (.bool true) W) := Lib.hid fun W => c_eql_self (foldC l) ci0.len W
  have hsF : (foldC l).A.size = 72 := ce_size _ ci0.len
  have haF := ce_cells (foldC l)
  have HFILL := Lib.hid hfill
  have HEV := Lib.hid (⟨hr, hin, hl⟩ : IntRow w xa .i64 l ∧ (∀ x ∈ l, InI x) ∧ l.length ≤ 200)
  generalize hA1 : (foldC (l.take t)).A = A1 at *
  generalize hA2 : (foldC (l.drop t)).A = A2 at *
  obtain ⟨AF, hAF⟩ : ∃ x, (foldC l).A = x := ⟨_, rfl⟩
  rw [hAF] at CM hsF haF CF0 CR0 HEQF
  have HAF := Lib.hid hAF
  obtain ⟨CD, hCD⟩ : ∃ CD, A1 ++ A2 = CD := ⟨_, rfl⟩
  rw [hCD] at CM HFILL
  have iF : (Try.prog.info? 29).map (·.size) = some AF.size := by rw [hsF]; exact c_info
  have zF : Z.size = AF.size := by rw [z72, hsF]
  have HZ := Lib.hid hZ
  obtain ⟨n, hn⟩ : ∃ n, l.length = n := ⟨_, rfl⟩
  rw [hn] at CF2 ht hcap CF0 hs1 hs2
  have t1 : (t : Int) ≤ (n : Int) := by omega
  have t2 : (n : Int) ≤ (c : Int) := by omega
  have t3 : (n : Int) ≤ 200 := by omega
  have t4 : decide ((200 : Int) < (n : Int)) = false := decide_eq_false (by omega)
  have t6 : decide ((t : Int) < 0) = false := decide_eq_false (by omega)
  have t5 : decide (n < t) = false := decide_eq_false (by omega)
  have t0 : (0 : Int) ≤ (t : Int) := by omega
  have tc : (t : Int) ≤ (c : Int) := by omega
  have HNN := Lib.hid (⟨hn, trivial⟩ : l.length = n ∧ True)
  have HTN := Lib.hid ht
  clear hr hd hin hin1 hin2 ci1 ci2 ci0 hfill hie hiz his hA1 hA2 hAF hCD hsF hZ z72 hl ht
  rw [hn]
  clear hn
  go_enter Try.func5, Try.ntmps5
  go_wp2_with fail
  refine (alive_any _).mono ?_
  rintro _ w1 ⟨rfl, b1⟩
  have HB1 := Lib.hid b1
  clear b1
  go_upto_region 5 with fail
  go_cut [5, 6] from 26 to 38 (fun x y wx => PtMid w AF x wx ∧ y = .int .i64 0)
  case first =>
    have HB0 : Hid (Below w.heap.size w w1.drew) := Lib.hid HB1.out.drew
    have FX : Hid (∀ W g, Below w1.drew.heap.size w1.drew W → Kept W g AF 29 → PtMid w AF (.pointer (some ⟨g, 0, none⟩)) W) := Lib.hid fun W g hb hk => ⟨g, rfl, Lib.hid ⟨hk, HB0.out.trans (hb.mono HB0.out.size)⟩⟩
    refine wp_region_held_drew (S := fun _ => True) (by kernel_rfl) trivial (fun hHeld => ?_)
    generalize w1.drew = v0 at *
    have A0 : Hid (Below v0.heap.size v0 v0) := Lib.hid (Below.refl _ _)
    -- @h0
    refine wpAnyH_take (i := 0) (oi := ({ dst := some 27, op := Op.move (Operand.tmp 0), type := 22, pos := "law.go:105", after := #[], guard := none } : Oper)) (v := ?_) rfl (by kernel_rfl) (by kernel_rfl) (by kernel_rfl) (fun _ _ _ h => h) (Or.inl ⟨by rfl, ?_⟩) hHeld ?_
    rotate_left
    · ((intro w hSw; (try dsimp only at hSw); go_simp); (try with_reducible rfl))
    (try simp only [Act.put, List.setIfInBounds_toArray, List.set_cons_zero, List.set_cons_succ])
    -- @h1
    refine wpAnyH_take (i := 1) (oi := ({ dst := some 28, op := Op.move (Operand.tmp 1), type := 3, pos := "law.go:105", after := #[], guard := none } : Oper)) (v := ?_) rfl (by kernel_rfl) (by kernel_rfl) (by kernel_rfl) (fun _ _ _ h => h) (Or.inl ⟨by rfl, ?_⟩) hHeld ?_
    rotate_left
    · ((intro w hSw; (try dsimp only at hSw); go_simp); (try with_reducible rfl))
    (try simp only [Act.put, List.setIfInBounds_toArray, List.set_cons_zero, List.set_cons_succ])
    -- @h2
    refine wpAnyH_take (i := 2) (oi := ({ dst := some 29, op := Op.slice 22 (Operand.tmp 27) none (some (Operand.tmp 28)) none, type := 22, pos := "law.go:105", after := #[{ on := 0, ground := Ground.data }, { on := 1, ground := Ground.data }], guard := none } : Oper)) (v := ?_) rfl (by kernel_rfl) (by kernel_rfl) (by kernel_rfl) (fun _ _ _ h => h) (Or.inl ⟨by rfl, ?_⟩) hHeld ?_
    rotate_left
    · ((intro w hSw; (try dsimp only at hSw); go_simp); (try with_reducible rfl))
    (try simp only [Act.put, List.setIfInBounds_toArray, List.set_cons_zero, List.set_cons_succ])
    -- @h4
    refine wpAnyH_take (i := 4) (oi := ({ dst := some 31, op := Op.move (Operand.tmp 0), type := 22, pos := "law.go:105", after := #[], guard := none } : Oper)) (v := ?_) rfl (by kernel_rfl) (by kernel_rfl) (by kernel_rfl) (fun _ _ _ h => h) (Or.inl ⟨by rfl, ?_⟩) hHeld ?_
    rotate_left
    · ((intro w hSw; (try dsimp only at hSw); go_simp); (try with_reducible rfl))
    (try simp only [Act.put, List.setIfInBounds_toArray, List.set_cons_zero, List.set_cons_succ])
    -- @h5
    refine wpAnyH_take (i := 5) (oi := ({ dst := some 32, op := Op.move (Operand.tmp 1), type := 3, pos := "law.go:105", after := #[], guard := none } : Oper)) (v := ?_) rfl (by kernel_rfl) (by kernel_rfl) (by kernel_rfl) (fun _ _ _ h => h) (Or.inl ⟨by rfl, ?_⟩) hHeld ?_
    rotate_left
    · ((intro w hSw; (try dsimp only at hSw); go_simp); (try with_reducible rfl))
    (try simp only [Act.put, List.setIfInBounds_toArray, List.set_cons_zero, List.set_cons_succ])
    -- @h6
    refine wpAnyH_take (i := 6) (oi := ({ dst := some 33, op := Op.slice 22 (Operand.tmp 31) (some (Operand.tmp 32)) none none, type := 22, pos := "law.go:105", after := #[{ on := 4, ground := Ground.data }, { on := 5, ground := Ground.data }], guard := none } : Oper)) (v := ?_) rfl (by kernel_rfl) (by kernel_rfl) (by kernel_rfl) (fun _ _ _ h => h) (Or.inl ⟨by rfl, ?_⟩) hHeld ?_
    rotate_left
    · ((intro w hSw; (try dsimp only at hSw); go_simp); (try with_reducible rfl))
    (try simp only [Act.put, List.setIfInBounds_toArray, List.set_cons_zero, List.set_cons_succ])
    refine wpAnyH_ready (rs := [3, 13]) (by kernel_rfl) (by simp) ?_
    refine AllReadyH.cons (o := ({ dst := some 30, op := Op.call { callee := Callee.value (Operand.func 9), args := #[Operand.tmp 29], argTypes := #[22] }, type := 29, pos := "law.go:105", after := #[{ on := 2, ground := Ground.data }], guard := none } : Oper)) rfl (fun K hK => ?_) (AllReadyH.cons (o := ({ dst := some 5, op := Op.alloc 29, type := 0, pos := "law.go:105", after := #[], guard := none } : Oper)) rfl (fun K hK => ?_) (AllReadyH.nil))
    · go_simp
      (with_reducible refine (CF1.out _ (HB0.out.trans (A0.out.mono HB0.out.size))).mono ?_)
      rintro _ d1 ⟨rfl, b1⟩
      have A1 := tr2 A0 (Lib.hid b1)
      clear b1
      refine hK.out _ _ ?_ (fun hHeld => ?_)
      · trivial
      clear hK K
      (try simp only [Act.put, List.setIfInBounds_toArray, List.set_cons_zero, List.set_cons_succ])
      refine wpAnyH_ready (rs := [7, 13]) (by kernel_rfl) (by simp) ?_
      refine AllReadyH.cons (o := ({ dst := some 34, op := Op.call { callee := Callee.value (Operand.func 9), args := #[Operand.tmp 33], argTypes := #[22] }, type := 29, pos := "law.go:105", after := #[{ on := 6, ground := Ground.data }, { on := 3, ground := Ground.chain }], guard := none } : Oper)) rfl (fun K hK => ?_) (AllReadyH.cons (o := ({ dst := some 5, op := Op.alloc 29, type := 0, pos := "law.go:105", after := #[], guard := none } : Oper)) rfl (fun K hK => ?_) (AllReadyH.nil))
      · go_simp
        (with_reducible refine (CF2.out _ (HB0.out.trans (A1.out.mono HB0.out.size))).mono ?_)
        rintro _ d2 ⟨rfl, b2⟩
        have A2 := tr2 A1 (Lib.hid b2)
        clear b2
        refine hK.out _ _ ?_ (fun hHeld => ?_)
        · trivial
        clear hK K
        (try simp only [Act.put, List.setIfInBounds_toArray, List.set_cons_zero, List.set_cons_succ])
        refine wpAnyH_ready (rs := [8, 13]) (by kernel_rfl) (by simp) ?_
        refine AllReadyH.cons (o := ({ dst := some 35, op := Op.buildSlice 47 2 #[(0, Operand.tmp 30), (1, Operand.tmp 34)], type := 47, pos := "law.go:105", after := #[{ on := 3, ground := Ground.data }, { on := 7, ground := Ground.data }], guard := none } : Oper)) rfl (fun K hK => ?_) (AllReadyH.cons (o := ({ dst := some 5, op := Op.alloc 29, type := 0, pos := "law.go:105", after := #[], guard := none } : Oper)) rfl (fun K hK => ?_) (AllReadyH.nil))
        · rw [if_pos (by rfl)]
          refine wp_buildSlice _ _ 2 _ rfl CD ie (.agg Z) rfl HIE.out.1 HIE.out.2.1 (by rw [HIE.out.2.2]; decide) (by rw [HIE.out.2.2]; decide) (by rw [HIE.out.2.2]; refine Eq.trans (congrArg (Instr.fill _ _) ?_) HFILL.out; simp only [List.map_toArray, List.map_cons, List.map_nil]; rfl) ?_
          have A3 := tr2 A2 (Lib.hid (one_alloc d2 (.cells CD 29)))
          have G3 := heap_alloc_new d2 (.cells CD 29)
          obtain ⟨d3, hd3⟩ : ∃ x, d2.alloc (.cells CD 29) = x := ⟨_, rfl⟩
          rw [hd3] at A3 G3 ⊢
          clear hd3
          refine hK.out _ _ ?_ (fun hHeld => ?_)
          · trivial
          clear hK K
          (try simp only [Act.put, List.setIfInBounds_toArray, List.set_cons_zero, List.set_cons_succ])
          refine wpAnyH_ready (rs := [9, 13]) (by kernel_rfl) (by simp) ?_
          refine AllReadyH.cons (o := ({ dst := some 36, op := Op.call { callee := Callee.value (Operand.func 18), args := #[Operand.tmp 35], argTypes := #[47] }, type := 39, pos := "law.go:105", after := #[{ on := 8, ground := Ground.data }, { on := 7, ground := Ground.chain }], guard := none } : Oper)) rfl (fun K hK => ?_) (AllReadyH.cons (o := ({ dst := some 5, op := Op.alloc 29, type := 0, pos := "law.go:105", after := #[], guard := none } : Oper)) rfl (fun K hK => ?_) (AllReadyH.nil))
          · go_simp
            (with_reducible refine (CM.out _ _ G3).mono ?_)
            rintro _ d4 ⟨rfl, b4⟩
            have A4 := tr2 A3 (Lib.hid b4)
            clear b4
            refine hK.out _ _ ?_ (fun hHeld => ?_)
            · trivial
            clear hK K
            (try simp only [Act.put, List.setIfInBounds_toArray, List.set_cons_zero, List.set_cons_succ])
            -- @h10
            refine wpAnyH_take (i := 10) (oi := ({ dst := some 26, op := Op.move (Operand.tmp 36), type := 39, pos := "law.go:105", after := #[{ on := 9, ground := Ground.data }], guard := none } : Oper)) (v := ?_) rfl (by kernel_rfl) (by kernel_rfl) (by kernel_rfl) (fun _ _ _ h => h) (Or.inl ⟨by rfl, ?_⟩) hHeld ?_
            rotate_left
            · ((intro w hSw; (try dsimp only at hSw); go_simp); (try with_reducible rfl))
            (try simp only [Act.put, List.setIfInBounds_toArray, List.set_cons_zero, List.set_cons_succ])
            -- @h11
            refine wpAnyH_take (i := 11) (oi := ({ dst := some 37, op := Op.extract (Operand.tmp 26) 0, type := 29, pos := "law.go:105", after := #[{ on := 10, ground := Ground.data }], guard := none } : Oper)) (v := ?_) rfl (by kernel_rfl) (by kernel_rfl) (by kernel_rfl) (fun _ _ _ h => h) (Or.inl ⟨by rfl, ?_⟩) hHeld ?_
            rotate_left
            · ((intro w hSw; (try dsimp only at hSw); go_simp); (try with_reducible rfl))
            (try simp only [Act.put, List.setIfInBounds_toArray, List.set_cons_zero, List.set_cons_succ])
            -- @h12
            refine wpAnyH_take (i := 12) (oi := ({ dst := some 38, op := Op.extract (Operand.tmp 26) 1, type := 38, pos := "law.go:105", after := #[{ on := 10, ground := Ground.data }, { on := 14, ground := Ground.gcOnly Departure.lateStores }], guard := none } : Oper)) (v := ?_) rfl (by kernel_rfl) (by kernel_rfl) (by kernel_rfl) (fun _ _ _ h => h) (Or.inl ⟨by rfl, ?_⟩) hHeld ?_
            rotate_left
            · ((intro w hSw; (try dsimp only at hSw); go_simp); (try with_reducible rfl))
            (try simp only [Act.put, List.setIfInBounds_toArray, List.set_cons_zero, List.set_cons_succ])
            refine wpAnyH_ready (rs := [13]) (by kernel_rfl) (by simp) ?_
            refine AllReadyH.cons (o := ({ dst := some 5, op := Op.alloc 29, type := 0, pos := "law.go:105", after := #[], guard := none } : Oper)) rfl (fun K hK => ?_) (AllReadyH.nil)
            go_simp
            have A5 := tr2 A4 (Lib.hid (one_alloc d4 (.cells Z 29)))
            have K5 : Hid (Kept (d4.alloc (.cells Z 29)) d4.heap.size Z 29) := Lib.hid (Kept.new rfl)
            have S5 : v0.heap.size ≤ d4.heap.size := A4.out.size
            refine hK.out _ _ ?_ (fun hHeld => ?_)
            · trivial
            clear hK K
            (try simp only [Act.put, List.setIfInBounds_toArray, List.set_cons_zero, List.set_cons_succ])
            generalize d4.alloc (.cells Z 29) = d5 at *
            refine wpAnyH_ready (rs := [14]) (by kernel_rfl) (by simp) ?_
            refine AllReadyH.cons (o := ({ dst := none, op := Op.store 29 (Operand.tmp 5) (Operand.tmp 37), type := 0, pos := "law.go:105", after := #[{ on := 13, ground := Ground.data }, { on := 11, ground := Ground.data }, { on := 9, ground := Ground.chain }, { on := 0, ground := Ground.phase }, { on := 1, ground := Ground.phase }, { on := 2, ground := Ground.phase }, { on := 3, ground := Ground.phase }, { on := 4, ground := Ground.phase }, { on := 5, ground := Ground.phase }, { on := 6, ground := Ground.phase }, { on := 7, ground := Ground.phase }, { on := 8, ground := Ground.phase }, { on := 9, ground := Ground.phase }, { on := 10, ground := Ground.phase }, { on := 11, ground := Ground.phase }, { on := 12, ground := Ground.textOnly Departure.lateStores }, { on := 13, ground := Ground.phase }], guard := none } : Oper)) rfl (fun K hK => ?_) (AllReadyH.nil)
            rw [if_pos (by rfl)]
            refine wp_store_row _ _ _ rfl d4.heap.size AF rfl rfl _ Z K5.out iF zF haF ?_
            have A6 : Hid (Below v0.heap.size v0 (d5.setRow d4.heap.size AF)) := Lib.hid (below_setRow A5.out S5 AF)
            have K6 := Lib.hid (K5.out.setRow AF)
            refine hK.out _ _ ?_ (fun hHeld => ?_)
            · trivial
            clear hK K
            (try simp only [Act.put, List.setIfInBounds_toArray, List.set_cons_zero, List.set_cons_succ])
            -- @h15
            refine wpAnyH_take (i := 15) (oi := ({ dst := some 6, op := Op.assign (Operand.tmp 38), type := 38, pos := "law.go:105", after := #[{ on := 12, ground := Ground.data }, { on := 14, ground := Ground.chain }, { on := 0, ground := Ground.phase }, { on := 1, ground := Ground.phase }, { on := 2, ground := Ground.phase }, { on := 3, ground := Ground.phase }, { on := 4, ground := Ground.phase }, { on := 5, ground := Ground.phase }, { on := 6, ground := Ground.phase }, { on := 7, ground := Ground.phase }, { on := 8, ground := Ground.phase }, { on := 9, ground := Ground.phase }, { on := 10, ground := Ground.phase }, { on := 11, ground := Ground.phase }, { on := 12, ground := Ground.phase }, { on := 13, ground := Ground.phase }, { on := 14, ground := Ground.phase }], guard := none } : Oper)) (v := ?_) rfl (by kernel_rfl) (by kernel_rfl) (by kernel_rfl) (fun _ _ _ h => h) (Or.inl ⟨by rfl, ?_⟩) hHeld ?_
            rotate_left
            · ((intro w hSw; (try dsimp only at hSw); go_simp); (try with_reducible rfl))
            (try simp only [Act.put, List.setIfInBounds_toArray, List.set_cons_zero, List.set_cons_succ])
            refine wpAnyH_done (by kernel_rfl) ?_ _
            have FF := FX.out _ _ A6.out K6.out
            clear hHeld
            go_wp2_with fail
            go_meet
            case rel => exact ⟨FF, rfl⟩
          · go_simp
            have A4 := tr2 A3 (Lib.hid (one_alloc d3 (.cells Z 29)))
            have K4 : Hid (Kept (d3.alloc (.cells Z 29)) d3.heap.size Z 29) := Lib.hid (Kept.new rfl)
            have S4 : v0.heap.size ≤ d3.heap.size := A3.out.size
            have G4 := (Below.block (one_alloc d3 (.cells Z 29)) _ (Array.getElem?_eq_some_iff.1 G3).1).trans G3
            refine hK.out _ _ ?_ (fun hHeld => ?_)
            · trivial
            clear hK K
            (try simp only [Act.put, List.setIfInBounds_toArray, List.set_cons_zero, List.set_cons_succ])
            generalize d3.alloc (.cells Z 29) = d4 at *
            refine wpAnyH_ready (rs := [9]) (by kernel_rfl) (by simp) ?_
            refine AllReadyH.cons (o := ({ dst := some 36, op := Op.call { callee := Callee.value (Operand.func 18), args := #[Operand.tmp 35], argTypes := #[47] }, type := 39, pos := "law.go:105", after := #[{ on := 8, ground := Ground.data }, { on := 7, ground := Ground.chain }], guard := none } : Oper)) rfl (fun K hK => ?_) (AllReadyH.nil)
            go_simp
            (with_reducible refine (CM.out _ _ G4).mono ?_)
            rintro _ d5 ⟨rfl, b5⟩
            have A5 := tr2 A4 (Lib.hid b5)
            have K5 := Lib.hid (K4.out.next b5)
            clear b5
            refine hK.out _ _ ?_ (fun hHeld => ?_)
            · trivial
            clear hK K
            (try simp only [Act.put, List.setIfInBounds_toArray, List.set_cons_zero, List.set_cons_succ])
            -- @h10
            refine wpAnyH_take (i := 10) (oi := ({ dst := some 26, op := Op.move (Operand.tmp 36), type := 39, pos := "law.go:105", after := #[{ on := 9, ground := Ground.data }], guard := none } : Oper)) (v := ?_) rfl (by kernel_rfl) (by kernel_rfl) (by kernel_rfl) (fun _ _ _ h => h) (Or.inl ⟨by rfl, ?_⟩) hHeld ?_
            rotate_left
            · ((intro w hSw; (try dsimp only at hSw); go_simp); (try with_reducible rfl))
            (try simp only [Act.put, List.setIfInBounds_toArray, List.set_cons_zero, List.set_cons_succ])
            -- @h11
            refine wpAnyH_take (i := 11) (oi := ({ dst := some 37, op := Op.extract (Operand.tmp 26) 0, type := 29, pos := "law.go:105", after := #[{ on := 10, ground := Ground.data }], guard := none } : Oper)) (v := ?_) rfl (by kernel_rfl) (by kernel_rfl) (by kernel_rfl) (fun _ _ _ h => h) (Or.inl ⟨by rfl, ?_⟩) hHeld ?_
            rotate_left
            · ((intro w hSw; (try dsimp only at hSw); go_simp); (try with_reducible rfl))
            (try simp only [Act.put, List.setIfInBounds_toArray, List.set_cons_zero, List.set_cons_succ])
            -- @h12
            refine wpAnyH_take (i := 12) (oi := ({ dst := some 38, op := Op.extract (Operand.tmp 26) 1, type := 38, pos := "law.go:105", after := #[{ on := 10, ground := Ground.data }, { on := 14, ground := Ground.gcOnly Departure.lateStores }], guard := none } : Oper)) (v := ?_) rfl (by kernel_rfl) (by kernel_rfl) (by kernel_rfl) (fun _ _ _ h => h) (Or.inl ⟨by rfl, ?_⟩) hHeld ?_
            rotate_left
            · ((intro w hSw; (try dsimp only at hSw); go_simp); (try with_reducible rfl))
            (try simp only [Act.put, List.setIfInBounds_toArray, List.set_cons_zero, List.set_cons_succ])
            refine wpAnyH_ready (rs := [14]) (by kernel_rfl) (by simp) ?_
            refine AllReadyH.cons (o := ({ dst := none, op := Op.store 29 (Operand.tmp 5) (Operand.tmp 37), type := 0, pos := "law.go:105", after := #[{ on := 13, ground := Ground.data }, { on := 11, ground := Ground.data }, { on := 9, ground := Ground.chain }, { on := 0, ground := Ground.phase }, { on := 1, ground := Ground.phase }, { on := 2, ground := Ground.phase }, { on := 3, ground := Ground.phase }, { on := 4, ground := Ground.phase }, { on := 5, ground := Ground.phase }, { on := 6, ground := Ground.phase }, { on := 7, ground := Ground.phase }, { on := 8, ground := Ground.phase }, { on := 9, ground := Ground.phase }, { on := 10, ground := Ground.phase }, { on := 11, ground := Ground.phase }, { on := 12, ground := Ground.textOnly Departure.lateStores }, { on := 13, ground := Ground.phase }], guard := none } : Oper)) rfl (fun K hK => ?_) (AllReadyH.nil)
            rw [if_pos (by rfl)]
            refine wp_store_row _ _ _ rfl d3.heap.size AF rfl rfl _ Z K5.out iF zF haF ?_
            have A6 : Hid (Below v0.heap.size v0 (d5.setRow d3.heap.size AF)) := Lib.hid (below_setRow A5.out S4 AF)
            have K6 := Lib.hid (K5.out.setRow AF)
            refine hK.out _ _ ?_ (fun hHeld => ?_)
            · trivial
            clear hK K
            (try simp only [Act.put, List.setIfInBounds_toArray, List.set_cons_zero, List.set_cons_succ])
            -- @h15
            refine wpAnyH_take (i := 15) (oi := ({ dst := some 6, op := Op.assign (Operand.tmp 38), type := 38, pos := "law.go:105", after := #[{ on := 12, ground := Ground.data }, { on := 14, ground := Ground.chain }, { on := 0, ground := Ground.phase }, { on := 1, ground := Ground.phase }, { on := 2, ground := Ground.phase }, { on := 3, ground := Ground.phase }, { on := 4, ground := Ground.phase }, { on := 5, ground := Ground.phase }, { on := 6, ground := Ground.phase }, { on := 7, ground := Ground.phase }, { on := 8, ground := Ground.phase }, { on := 9, ground := Ground.phase }, { on := 10, ground := Ground.phase }, { on := 11, ground := Ground.phase }, { on := 12, ground := Ground.phase }, { on := 13, ground := Ground.phase }, { on := 14, ground := Ground.phase }], guard := none } : Oper)) (v := ?_) rfl (by kernel_rfl) (by kernel_rfl) (by kernel_rfl) (fun _ _ _ h => h) (Or.inl ⟨by rfl, ?_⟩) hHeld ?_
            rotate_left
            · ((intro w hSw; (try dsimp only at hSw); go_simp); (try with_reducible rfl))
            (try simp only [Act.put, List.setIfInBounds_toArray, List.set_cons_zero, List.set_cons_succ])
            refine wpAnyH_done (by kernel_rfl) ?_ _
            have FF := FX.out _ _ A6.out K6.out
            clear hHeld
            go_wp2_with fail
            go_meet
            case rel => exact ⟨FF, rfl⟩
        · go_simp
          have A3 := tr2 A2 (Lib.hid (one_alloc d2 (.cells Z 29)))
          have K3 : Hid (Kept (d2.alloc (.cells Z 29)) d2.heap.size Z 29) := Lib.hid (Kept.new rfl)
          have S3 : v0.heap.size ≤ d2.heap.size := A2.out.size
          refine hK.out _ _ ?_ (fun hHeld => ?_)
          · trivial
          clear hK K
          (try simp only [Act.put, List.setIfInBounds_toArray, List.set_cons_zero, List.set_cons_succ])
          generalize d2.alloc (.cells Z 29) = d3 at *
          refine wpAnyH_ready (rs := [8]) (by kernel_rfl) (by simp) ?_
          refine AllReadyH.cons (o := ({ dst := some 35, op := Op.buildSlice 47 2 #[(0, Operand.tmp 30), (1, Operand.tmp 34)], type := 47, pos := "law.go:105", after := #[{ on := 3, ground := Ground.data }, { on := 7, ground := Ground.data }], guard := none } : Oper)) rfl (fun K hK => ?_) (AllReadyH.nil)
          rw [if_pos (by rfl)]
          refine wp_buildSlice _ _ 2 _ rfl CD ie (.agg Z) rfl HIE.out.1 HIE.out.2.1 (by rw [HIE.out.2.2]; decide) (by rw [HIE.out.2.2]; decide) (by rw [HIE.out.2.2]; refine Eq.trans (congrArg (Instr.fill _ _) ?_) HFILL.out; simp only [List.map_toArray, List.map_cons, List.map_nil]; rfl) ?_
          have A4 := tr2 A3 (Lib.hid (one_alloc d3 (.cells CD 29)))
          have G4 := heap_alloc_new d3 (.cells CD 29)
          have K4 := Lib.hid (K3.out.alloc (.cells CD 29))
          obtain ⟨d4, hd4⟩ : ∃ x, d3.alloc (.cells CD 29) = x := ⟨_, rfl⟩
          rw [hd4] at A4 G4 K4 ⊢
          clear hd4
          refine hK.out _ _ ?_ (fun hHeld => ?_)
          · trivial
          clear hK K
          (try simp only [Act.put, List.setIfInBounds_toArray, List.set_cons_zero, List.set_cons_succ])
          refine wpAnyH_ready (rs := [9]) (by kernel_rfl) (by simp) ?_
          refine AllReadyH.cons (o := ({ dst := some 36, op := Op.call { callee := Callee.value (Operand.func 18), args := #[Operand.tmp 35], argTypes := #[47] }, type := 39, pos := "law.go:105", after := #[{ on := 8, ground := Ground.data }, { on := 7, ground := Ground.chain }], guard := none } : Oper)) rfl (fun K hK => ?_) (AllReadyH.nil)
          go_simp
          (with_reducible refine (CM.out _ _ G4).mono ?_)
          rintro _ d5 ⟨rfl, b5⟩
          have A5 := tr2 A4 (Lib.hid b5)
          have K5 := Lib.hid (K4.out.next b5)
          clear b5
          refine hK.out _ _ ?_ (fun hHeld => ?_)
          · trivial
          clear hK K
          (try simp only [Act.put, List.setIfInBounds_toArray, List.set_cons_zero, List.set_cons_succ])
          -- @h10
          refine wpAnyH_take (i := 10) (oi := ({ dst := some 26, op := Op.move (Operand.tmp 36), type := 39, pos := "law.go:105", after := #[{ on := 9, ground := Ground.data }], guard := none } : Oper)) (v := ?_) rfl (by kernel_rfl) (by kernel_rfl) (by kernel_rfl) (fun _ _ _ h => h) (Or.inl ⟨by rfl, ?_⟩) hHeld ?_
          rotate_left
          · ((intro w hSw; (try dsimp only at hSw); go_simp); (try with_reducible rfl))
          (try simp only [Act.put, List.setIfInBounds_toArray, List.set_cons_zero, List.set_cons_succ])
          -- @h11
          refine wpAnyH_take (i := 11) (oi := ({ dst := some 37, op := Op.extract (Operand.tmp 26) 0, type := 29, pos := "law.go:105", after := #[{ on := 10, ground := Ground.data }], guard := none } : Oper)) (v := ?_) rfl (by kernel_rfl) (by kernel_rfl) (by kernel_rfl) (fun _ _ _ h => h) (Or.inl ⟨by rfl, ?_⟩) hHeld ?_
          rotate_left
          · ((intro w hSw; (try dsimp only at hSw); go_simp); (try with_reducible rfl))
          (try simp only [Act.put, List.setIfInBounds_toArray, List.set_cons_zero, List.set_cons_succ])
          -- @h12
          refine wpAnyH_take (i := 12) (oi := ({ dst := some 38, op := Op.extract (Operand.tmp 26) 1, type := 38, pos := "law.go:105", after := #[{ on := 10, ground := Ground.data }, { on := 14, ground := Ground.gcOnly Departure.lateStores }], guard := none } : Oper)) (v := ?_) rfl (by kernel_rfl) (by kernel_rfl) (by kernel_rfl) (fun _ _ _ h => h) (Or.inl ⟨by rfl, ?_⟩) hHeld ?_
          rotate_left
          · ((intro w hSw; (try dsimp only at hSw); go_simp); (try with_reducible rfl))
          (try simp only [Act.put, List.setIfInBounds_toArray, List.set_cons_zero, List.set_cons_succ])
          refine wpAnyH_ready (rs := [14]) (by kernel_rfl) (by simp) ?_
          refine AllReadyH.cons (o := ({ dst := none, op := Op.store 29 (Operand.tmp 5) (Operand.tmp 37), type := 0, pos := "law.go:105", after := #[{ on := 13, ground := Ground.data }, { on := 11, ground := Ground.data }, { on := 9, ground := Ground.chain }, { on := 0, ground := Ground.phase }, { on := 1, ground := Ground.phase }, { on := 2, ground := Ground.phase }, { on := 3, ground := Ground.phase }, { on := 4, ground := Ground.phase }, { on := 5, ground := Ground.phase }, { on := 6, ground := Ground.phase }, { on := 7, ground := Ground.phase }, { on := 8, ground := Ground.phase }, { on := 9, ground := Ground.phase }, { on := 10, ground := Ground.phase }, { on := 11, ground := Ground.phase }, { on := 12, ground := Ground.textOnly Departure.lateStores }, { on := 13, ground := Ground.phase }], guard := none } : Oper)) rfl (fun K hK => ?_) (AllReadyH.nil)
          rw [if_pos (by rfl)]
          refine wp_store_row _ _ _ rfl d2.heap.size AF rfl rfl _ Z K5.out iF zF haF ?_
          have A6 : Hid (Below v0.heap.size v0 (d5.setRow d2.heap.size AF)) := Lib.hid (below_setRow A5.out S3 AF)
          have K6 := Lib.hid (K5.out.setRow AF)
          refine hK.out _ _ ?_ (fun hHeld => ?_)
          · trivial
          clear hK K
          (try simp only [Act.put, List.setIfInBounds_toArray, List.set_cons_zero, List.set_cons_succ])
          -- @h15
          refine wpAnyH_take (i := 15) (oi := ({ dst := some 6, op := Op.assign (Operand.tmp 38), type := 38, pos := "law.go:105", after := #[{ on := 12, ground := Ground.data }, { on := 14, ground := Ground.chain }, { on := 0, ground := Ground.phase }, { on := 1, ground := Ground.phase }, { on := 2, ground := Ground.phase }, { on := 3, ground := Ground.phase }, { on := 4, ground := Ground.phase }, { on := 5, ground := Ground.phase }, { on := 6, ground := Ground.phase }, { on := 7, ground := Ground.phase }, { on := 8, ground := Ground.phase }, { on := 9, ground := Ground.phase }, { on := 10, ground := Ground.phase }, { on := 11, ground := Ground.phase }, { on := 12, ground := Ground.phase }, { on := 13, ground := Ground.phase }, { on := 14, ground := Ground.phase }], guard := none } : Oper)) (v := ?_) rfl (by kernel_rfl) (by kernel_rfl) (by kernel_rfl) (fun _ _ _ h => h) (Or.inl ⟨by rfl, ?_⟩) hHeld ?_
          rotate_left
          · ((intro w hSw; (try dsimp only at hSw); go_simp); (try with_reducible rfl))
          (try simp only [Act.put, List.setIfInBounds_toArray, List.set_cons_zero, List.set_cons_succ])
          refine wpAnyH_done (by kernel_rfl) ?_ _
          have FF := FX.out _ _ A6.out K6.out
          clear hHeld
          go_wp2_with fail
          go_meet
          case rel => exact ⟨FF, rfl⟩
      · go_simp
        have A2 := tr2 A1 (Lib.hid (one_alloc d1 (.cells Z 29)))
        have K2 : Hid (Kept (d1.alloc (.cells Z 29)) d1.heap.size Z 29) := Lib.hid (Kept.new rfl)
        have S2 : v0.heap.size ≤ d1.heap.size := A1.out.size
        refine hK.out _ _ ?_ (fun hHeld => ?_)
        · trivial
        clear hK K
        (try simp only [Act.put, List.setIfInBounds_toArray, List.set_cons_zero, List.set_cons_succ])
        generalize d1.alloc (.cells Z 29) = d2 at *
        refine wpAnyH_ready (rs := [7]) (by kernel_rfl) (by simp) ?_
        refine AllReadyH.cons (o := ({ dst := some 34, op := Op.call { callee := Callee.value (Operand.func 9), args := #[Operand.tmp 33], argTypes := #[22] }, type := 29, pos := "law.go:105", after := #[{ on := 6, ground := Ground.data }, { on := 3, ground := Ground.chain }], guard := none } : Oper)) rfl (fun K hK => ?_) (AllReadyH.nil)
        go_simp
        (with_reducible refine (CF2.out _ (HB0.out.trans (A2.out.mono HB0.out.size))).mono ?_)
        rintro _ d3 ⟨rfl, b3⟩
        have A3 := tr2 A2 (Lib.hid b3)
        have K3 := Lib.hid (K2.out.next b3)
        clear b3
        refine hK.out _ _ ?_ (fun hHeld => ?_)
        · trivial
        clear hK K
        (try simp only [Act.put, List.setIfInBounds_toArray, List.set_cons_zero, List.set_cons_succ])
        refine wpAnyH_ready (rs := [8]) (by kernel_rfl) (by simp) ?_
        refine AllReadyH.cons (o := ({ dst := some 35, op := Op.buildSlice 47 2 #[(0, Operand.tmp 30), (1, Operand.tmp 34)], type := 47, pos := "law.go:105", after := #[{ on := 3, ground := Ground.data }, { on := 7, ground := Ground.data }], guard := none } : Oper)) rfl (fun K hK => ?_) (AllReadyH.nil)
        rw [if_pos (by rfl)]
        refine wp_buildSlice _ _ 2 _ rfl CD ie (.agg Z) rfl HIE.out.1 HIE.out.2.1 (by rw [HIE.out.2.2]; decide) (by rw [HIE.out.2.2]; decide) (by rw [HIE.out.2.2]; refine Eq.trans (congrArg (Instr.fill _ _) ?_) HFILL.out; simp only [List.map_toArray, List.map_cons, List.map_nil]; rfl) ?_
        have A4 := tr2 A3 (Lib.hid (one_alloc d3 (.cells CD 29)))
        have G4 := heap_alloc_new d3 (.cells CD 29)
        have K4 := Lib.hid (K3.out.alloc (.cells CD 29))
        obtain ⟨d4, hd4⟩ : ∃ x, d3.alloc (.cells CD 29) = x := ⟨_, rfl⟩
        rw [hd4] at A4 G4 K4 ⊢
        clear hd4
        refine hK.out _ _ ?_ (fun hHeld => ?_)
        · trivial
        clear hK K
        (try simp only [Act.put, List.setIfInBounds_toArray, List.set_cons_zero, List.set_cons_succ])
        refine wpAnyH_ready (rs := [9]) (by kernel_rfl) (by simp) ?_
        refine AllReadyH.cons (o := ({ dst := some 36, op := Op.call { callee := Callee.value (Operand.func 18), args := #[Operand.tmp 35], argTypes := #[47] }, type := 39, pos := "law.go:105", after := #[{ on := 8, ground := Ground.data }, { on := 7, ground := Ground.chain }], guard := none } : Oper)) rfl (fun K hK => ?_) (AllReadyH.nil)
        go_simp
        (with_reducible refine (CM.out _ _ G4).mono ?_)
        rintro _ d5 ⟨rfl, b5⟩
        have A5 := tr2 A4 (Lib.hid b5)
        have K5 := Lib.hid (K4.out.next b5)
        clear b5
        refine hK.out _ _ ?_ (fun hHeld => ?_)
        · trivial
        clear hK K
        (try simp only [Act.put, List.setIfInBounds_toArray, List.set_cons_zero, List.set_cons_succ])
        -- @h10
        refine wpAnyH_take (i := 10) (oi := ({ dst := some 26, op := Op.move (Operand.tmp 36), type := 39, pos := "law.go:105", after := #[{ on := 9, ground := Ground.data }], guard := none } : Oper)) (v := ?_) rfl (by kernel_rfl) (by kernel_rfl) (by kernel_rfl) (fun _ _ _ h => h) (Or.inl ⟨by rfl, ?_⟩) hHeld ?_
        rotate_left
        · ((intro w hSw; (try dsimp only at hSw); go_simp); (try with_reducible rfl))
        (try simp only [Act.put, List.setIfInBounds_toArray, List.set_cons_zero, List.set_cons_succ])
        -- @h11
        refine wpAnyH_take (i := 11) (oi := ({ dst := some 37, op := Op.extract (Operand.tmp 26) 0, type := 29, pos := "law.go:105", after := #[{ on := 10, ground := Ground.data }], guard := none } : Oper)) (v := ?_) rfl (by kernel_rfl) (by kernel_rfl) (by kernel_rfl) (fun _ _ _ h => h) (Or.inl ⟨by rfl, ?_⟩) hHeld ?_
        rotate_left
        · ((intro w hSw; (try dsimp only at hSw); go_simp); (try with_reducible rfl))
        (try simp only [Act.put, List.setIfInBounds_toArray, List.set_cons_zero, List.set_cons_succ])
        -- @h12
        refine wpAnyH_take (i := 12) (oi := ({ dst := some 38, op := Op.extract (Operand.tmp 26) 1, type := 38, pos := "law.go:105", after := #[{ on := 10, ground := Ground.data }, { on := 14, ground := Ground.gcOnly Departure.lateStores }], guard := none } : Oper)) (v := ?_) rfl (by kernel_rfl) (by kernel_rfl) (by kernel_rfl) (fun _ _ _ h => h) (Or.inl ⟨by rfl, ?_⟩) hHeld ?_
        rotate_left
        · ((intro w hSw; (try dsimp only at hSw); go_simp); (try with_reducible rfl))
        (try simp only [Act.put, List.setIfInBounds_toArray, List.set_cons_zero, List.set_cons_succ])
        refine wpAnyH_ready (rs := [14]) (by kernel_rfl) (by simp) ?_
        refine AllReadyH.cons (o := ({ dst := none, op := Op.store 29 (Operand.tmp 5) (Operand.tmp 37), type := 0, pos := "law.go:105", after := #[{ on := 13, ground := Ground.data }, { on := 11, ground := Ground.data }, { on := 9, ground := Ground.chain }, { on := 0, ground := Ground.phase }, { on := 1, ground := Ground.phase }, { on := 2, ground := Ground.phase }, { on := 3, ground := Ground.phase }, { on := 4, ground := Ground.phase }, { on := 5, ground := Ground.phase }, { on := 6, ground := Ground.phase }, { on := 7, ground := Ground.phase }, { on := 8, ground := Ground.phase }, { on := 9, ground := Ground.phase }, { on := 10, ground := Ground.phase }, { on := 11, ground := Ground.phase }, { on := 12, ground := Ground.textOnly Departure.lateStores }, { on := 13, ground := Ground.phase }], guard := none } : Oper)) rfl (fun K hK => ?_) (AllReadyH.nil)
        rw [if_pos (by rfl)]
        refine wp_store_row _ _ _ rfl d1.heap.size AF rfl rfl _ Z K5.out iF zF haF ?_
        have A6 : Hid (Below v0.heap.size v0 (d5.setRow d1.heap.size AF)) := Lib.hid (below_setRow A5.out S2 AF)
        have K6 := Lib.hid (K5.out.setRow AF)
        refine hK.out _ _ ?_ (fun hHeld => ?_)
        · trivial
        clear hK K
        (try simp only [Act.put, List.setIfInBounds_toArray, List.set_cons_zero, List.set_cons_succ])
        -- @h15
        refine wpAnyH_take (i := 15) (oi := ({ dst := some 6, op := Op.assign (Operand.tmp 38), type := 38, pos := "law.go:105", after := #[{ on := 12, ground := Ground.data }, { on := 14, ground := Ground.chain }, { on := 0, ground := Ground.phase }, { on := 1, ground := Ground.phase }, { on := 2, ground := Ground.phase }, { on := 3, ground := Ground.phase }, { on := 4, ground := Ground.phase }, { on := 5, ground := Ground.phase }, { on := 6, ground := Ground.phase }, { on := 7, ground := Ground.phase }, { on := 8, ground := Ground.phase }, { on := 9, ground := Ground.phase }, { on := 10, ground := Ground.phase }, { on := 11, ground := Ground.phase }, { on := 12, ground := Ground.phase }, { on := 13, ground := Ground.phase }, { on := 14, ground := Ground.phase }], guard := none } : Oper)) (v := ?_) rfl (by kernel_rfl) (by kernel_rfl) (by kernel_rfl) (fun _ _ _ h => h) (Or.inl ⟨by rfl, ?_⟩) hHeld ?_
        rotate_left
        · ((intro w hSw; (try dsimp only at hSw); go_simp); (try with_reducible rfl))
        (try simp only [Act.put, List.setIfInBounds_toArray, List.set_cons_zero, List.set_cons_succ])
        refine wpAnyH_done (by kernel_rfl) ?_ _
        have FF := FX.out _ _ A6.out K6.out
        clear hHeld
        go_wp2_with fail
        go_meet
        case rel => exact ⟨FF, rfl⟩
    · go_simp
      have A1 := tr2 A0 (Lib.hid (one_alloc v0 (.cells Z 29)))
      have K1 : Hid (Kept (v0.alloc (.cells Z 29)) v0.heap.size Z 29) := Lib.hid (Kept.new rfl)
      have S1 : v0.heap.size ≤ v0.heap.size := A0.out.size
      refine hK.out _ _ ?_ (fun hHeld => ?_)
      · trivial
      clear hK K
      (try simp only [Act.put, List.setIfInBounds_toArray, List.set_cons_zero, List.set_cons_succ])
      generalize v0.alloc (.cells Z 29) = d1 at *
      refine wpAnyH_ready (rs := [3]) (by kernel_rfl) (by simp) ?_
      refine AllReadyH.cons (o := ({ dst := some 30, op := Op.call { callee := Callee.value (Operand.func 9), args := #[Operand.tmp 29], argTypes := #[22] }, type := 29, pos := "law.go:105", after := #[{ on := 2, ground := Ground.data }], guard := none } : Oper)) rfl (fun K hK => ?_) (AllReadyH.nil)
      go_simp
      (with_reducible refine (CF1.out _ (HB0.out.trans (A1.out.mono HB0.out.size))).mono ?_)
      rintro _ d2 ⟨rfl, b2⟩
      have A2 := tr2 A1 (Lib.hid b2)
      have K2 := Lib.hid (K1.out.next b2)
      clear b2
      refine hK.out _ _ ?_ (fun hHeld => ?_)
      · trivial
      clear hK K
      (try simp only [Act.put, List.setIfInBounds_toArray, List.set_cons_zero, List.set_cons_succ])
      refine wpAnyH_ready (rs := [7]) (by kernel_rfl) (by simp) ?_
      refine AllReadyH.cons (o := ({ dst := some 34, op := Op.call { callee := Callee.value (Operand.func 9), args := #[Operand.tmp 33], argTypes := #[22] }, type := 29, pos := "law.go:105", after := #[{ on := 6, ground := Ground.data }, { on := 3, ground := Ground.chain }], guard := none } : Oper)) rfl (fun K hK => ?_) (AllReadyH.nil)
      go_simp
      (with_reducible refine (CF2.out _ (HB0.out.trans (A2.out.mono HB0.out.size))).mono ?_)
      rintro _ d3 ⟨rfl, b3⟩
      have A3 := tr2 A2 (Lib.hid b3)
      have K3 := Lib.hid (K2.out.next b3)
      clear b3
      refine hK.out _ _ ?_ (fun hHeld => ?_)
      · trivial
      clear hK K
      (try simp only [Act.put, List.setIfInBounds_toArray, List.set_cons_zero, List.set_cons_succ])
      refine wpAnyH_ready (rs := [8]) (by kernel_rfl) (by simp) ?_
      refine AllReadyH.cons (o := ({ dst := some 35, op := Op.buildSlice 47 2 #[(0, Operand.tmp 30), (1, Operand.tmp 34)], type := 47, pos := "law.go:105", after := #[{ on := 3, ground := Ground.data }, { on := 7, ground := Ground.data }], guard := none } : Oper)) rfl (fun K hK => ?_) (AllReadyH.nil)
      rw [if_pos (by rfl)]
      refine wp_buildSlice _ _ 2 _ rfl CD ie (.agg Z) rfl HIE.out.1 HIE.out.2.1 (by rw [HIE.out.2.2]; decide) (by rw [HIE.out.2.2]; decide) (by rw [HIE.out.2.2]; refine Eq.trans (congrArg (Instr.fill _ _) ?_) HFILL.out; simp only [List.map_toArray, List.map_cons, List.map_nil]; rfl) ?_
      have A4 := tr2 A3 (Lib.hid (one_alloc d3 (.cells CD 29)))
      have G4 := heap_alloc_new d3 (.cells CD 29)
      have K4 := Lib.hid (K3.out.alloc (.cells CD 29))
      obtain ⟨d4, hd4⟩ : ∃ x, d3.alloc (.cells CD 29) = x := ⟨_, rfl⟩
      rw [hd4] at A4 G4 K4 ⊢
      clear hd4
      refine hK.out _ _ ?_ (fun hHeld => ?_)
      · trivial
      clear hK K
      (try simp only [Act.put, List.setIfInBounds_toArray, List.set_cons_zero, List.set_cons_succ])
      refine wpAnyH_ready (rs := [9]) (by kernel_rfl) (by simp) ?_
      refine AllReadyH.cons (o := ({ dst := some 36, op := Op.call { callee := Callee.value (Operand.func 18), args := #[Operand.tmp 35], argTypes := #[47] }, type := 39, pos := "law.go:105", after := #[{ on := 8, ground := Ground.data }, { on := 7, ground := Ground.chain }], guard := none } : Oper)) rfl (fun K hK => ?_) (AllReadyH.nil)
      go_simp
      (with_reducible refine (CM.out _ _ G4).mono ?_)
      rintro _ d5 ⟨rfl, b5⟩
      have A5 := tr2 A4 (Lib.hid b5)
      have K5 := Lib.hid (K4.out.next b5)
      clear b5
      refine hK.out _ _ ?_ (fun hHeld => ?_)
      · trivial
      clear hK K
      (try simp only [Act.put, List.setIfInBounds_toArray, List.set_cons_zero, List.set_cons_succ])
      -- @h10
      refine wpAnyH_take (i := 10) (oi := ({ dst := some 26, op := Op.move (Operand.tmp 36), type := 39, pos := "law.go:105", after := #[{ on := 9, ground := Ground.data }], guard := none } : Oper)) (v := ?_) rfl (by kernel_rfl) (by kernel_rfl) (by kernel_rfl) (fun _ _ _ h => h) (Or.inl ⟨by rfl, ?_⟩) hHeld ?_
      rotate_left
      · ((intro w hSw; (try dsimp only at hSw); go_simp); (try with_reducible rfl))
      (try simp only [Act.put, List.setIfInBounds_toArray, List.set_cons_zero, List.set_cons_succ])
      -- @h11
      refine wpAnyH_take (i := 11) (oi := ({ dst := some 37, op := Op.extract (Operand.tmp 26) 0, type := 29, pos := "law.go:105", after := #[{ on := 10, ground := Ground.data }], guard := none } : Oper)) (v := ?_) rfl (by kernel_rfl) (by kernel_rfl) (by kernel_rfl) (fun _ _ _ h => h) (Or.inl ⟨by rfl, ?_⟩) hHeld ?_
      rotate_left
      · ((intro w hSw; (try dsimp only at hSw); go_simp); (try with_reducible rfl))
      (try simp only [Act.put, List.setIfInBounds_toArray, List.set_cons_zero, List.set_cons_succ])
      -- @h12
      refine wpAnyH_take (i := 12) (oi := ({ dst := some 38, op := Op.extract (Operand.tmp 26) 1, type := 38, pos := "law.go:105", after := #[{ on := 10, ground := Ground.data }, { on := 14, ground := Ground.gcOnly Departure.lateStores }], guard := none } : Oper)) (v := ?_) rfl (by kernel_rfl) (by kernel_rfl) (by kernel_rfl) (fun _ _ _ h => h) (Or.inl ⟨by rfl, ?_⟩) hHeld ?_
      rotate_left
      · ((intro w hSw; (try dsimp only at hSw); go_simp); (try with_reducible rfl))
      (try simp only [Act.put, List.setIfInBounds_toArray, List.set_cons_zero, List.set_cons_succ])
      refine wpAnyH_ready (rs := [14]) (by kernel_rfl) (by simp) ?_
      refine AllReadyH.cons (o := ({ dst := none, op := Op.store 29 (Operand.tmp 5) (Operand.tmp 37), type := 0, pos := "law.go:105", after := #[{ on := 13, ground := Ground.data }, { on := 11, ground := Ground.data }, { on := 9, ground := Ground.chain }, { on := 0, ground := Ground.phase }, { on := 1, ground := Ground.phase }, { on := 2, ground := Ground.phase }, { on := 3, ground := Ground.phase }, { on := 4, ground := Ground.phase }, { on := 5, ground := Ground.phase }, { on := 6, ground := Ground.phase }, { on := 7, ground := Ground.phase }, { on := 8, ground := Ground.phase }, { on := 9, ground := Ground.phase }, { on := 10, ground := Ground.phase }, { on := 11, ground := Ground.phase }, { on := 12, ground := Ground.textOnly Departure.lateStores }, { on := 13, ground := Ground.phase }], guard := none } : Oper)) rfl (fun K hK => ?_) (AllReadyH.nil)
      rw [if_pos (by rfl)]
      refine wp_store_row _ _ _ rfl v0.heap.size AF rfl rfl _ Z K5.out iF zF haF ?_
      have A6 : Hid (Below v0.heap.size v0 (d5.setRow v0.heap.size AF)) := Lib.hid (below_setRow A5.out S1 AF)
      have K6 := Lib.hid (K5.out.setRow AF)
      refine hK.out _ _ ?_ (fun hHeld => ?_)
      · trivial
      clear hK K
      (try simp only [Act.put, List.setIfInBounds_toArray, List.set_cons_zero, List.set_cons_succ])
      -- @h15
      refine wpAnyH_take (i := 15) (oi := ({ dst := some 6, op := Op.assign (Operand.tmp 38), type := 38, pos := "law.go:105", after := #[{ on := 12, ground := Ground.data }, { on := 14, ground := Ground.chain }, { on := 0, ground := Ground.phase }, { on := 1, ground := Ground.phase }, { on := 2, ground := Ground.phase }, { on := 3, ground := Ground.phase }, { on := 4, ground := Ground.phase }, { on := 5, ground := Ground.phase }, { on := 6, ground := Ground.phase }, { on := 7, ground := Ground.phase }, { on := 8, ground := Ground.phase }, { on := 9, ground := Ground.phase }, { on := 10, ground := Ground.phase }, { on := 11, ground := Ground.phase }, { on := 12, ground := Ground.phase }, { on := 13, ground := Ground.phase }, { on := 14, ground := Ground.phase }], guard := none } : Oper)) (v := ?_) rfl (by kernel_rfl) (by kernel_rfl) (by kernel_rfl) (fun _ _ _ h => h) (Or.inl ⟨by rfl, ?_⟩) hHeld ?_
      rotate_left
      · ((intro w hSw; (try dsimp only at hSw); go_simp); (try with_reducible rfl))
      (try simp only [Act.put, List.setIfInBounds_toArray, List.set_cons_zero, List.set_cons_succ])
      refine wpAnyH_done (by kernel_rfl) ?_ _
      have FF := FX.out _ _ A6.out K6.out
      clear hHeld
      go_wp2_with fail
      go_meet
      case rel => exact ⟨FF, rfl⟩
  case rest =>
    obtain ⟨⟨g5, rfl, hh⟩, rfl⟩ := hcut
    obtain ⟨W2, hW2⟩ : ∃ x, x = wc := ⟨_, rfl⟩
    subst hW2
    have K5 := Lib.hid hh.out.1
    have B2 := Lib.hid hh.out.2
    clear hh HB1 CF1 CF2 CM HFILL
    have iZ : (Try.prog.info? 29).map (·.size) = some Z.size := by rw [zF]; exact iF
    have haZ : Z.all (·.oneCell') = true := by rw [← HZ.out]; exact ce_cells _
    go_upto_region 7 with (first
      | refine wpList_cz rfl rfl Z HZ.out ?_
      | refine wpList_store_row rfl 29 _ _ rfl W2.heap.size Z rfl rfl 29 Z (heap_alloc_new W2 _) iZ rfl haZ ?_)
    have J : Below W2.heap.size W2 ((W2.alloc (.cells Z 29)).setRow W2.heap.size Z) := below_setRow (one_alloc _ _) (Nat.le_refl _) _
    have HS : Hid (PtRel w l AF g5 W2.heap.size (.int .i64 0) ((W2.alloc (.cells Z 29)).setRow W2.heap.size Z)) := Lib.hid ⟨0, Nat.zero_le _, rfl, Lib.hid ⟨K5.out.next J, by rw [List.take_zero, foldC_nil, HZ.out]; exact Kept.setRow (Kept.new rfl) _, B2.out.trans (J.mono B2.out.size), by have := K5.out.lt; omega⟩⟩
    have B2x : Hid (w.heap.size ≤ W2.heap.size) := Lib.hid B2.out.size
    clear J K5 B2
    generalize (W2.alloc (.cells Z 29)).setRow W2.heap.size Z = W3 at *
    have HG7 : Hid (w.heap.size ≤ W2.heap.size) := Lib.hid B2x.out
    generalize W2.heap.size = g7 at *
    go_wp2_with fail
    go_loopw [8] (fun i wr => PtRel w l AF g5 g7 i wr) (fun i _ => n - (intOf i).toNat)
    case atStart => exact HS.out
    case round =>
      obtain ⟨k, hk, rfl, K0⟩ := hrel
      have hkn := HNN.out.1
      rw [hkn] at hk
      clear HS
      by_cases hlt : k < n
      · have hkk : (k : Int) < (n : Int) := by omega
        have hk0 : (0 : Int) ≤ (k : Int) := by omega
        obtain ⟨hr, hin, hl⟩ := HEV.out
        have hink : ∀ x ∈ l.take k, InI x := fun x hx => hin x (List.mem_of_mem_take hx)
        have hin1 : ∀ x ∈ l.take (k + 1), InI x := fun x hx => hin x (List.mem_of_mem_take hx)
        have hkl : k < l.length := by omega
        have htk := take_int l k hkl
        have hxi := getD_in hin k hkl
        obtain ⟨b, off, rfl, h1⟩ := hr k hkl
        have hcl : wr.cell? ⟨b, off + k, none⟩ = some (.int .i64 (l.getD k 0)) := (K0.out.2.2.1.cell (World.block_lt_of_cell? w _ h1)).trans h1
        clear h1
        have cik := ceIn_fold _ hink (by rw [List.length_take]; omega)
        have cin1 := ceIn_fold _ hin1 (by rw [List.length_take]; omega)
        have CA : Hid (∀ W, Calls Try.prog 14 #[.agg (foldC (l.take k)).A, .int .i64 (l.getD k 0)] W (Gives (.tuple #[.agg (foldC (l.take (k + 1))).A, .int .i64 0]) W)) := Lib.hid fun W => (cadd_any _ _ W cik hxi).mono fun e w' h => by
          rw [htk]
          exact merge_fold hink (fun x hx => by simp at hx; subst hx; exact hxi) (by rw [List.length_take]; simp; omega) h
        have CRn : Hid (∀ W, Calls Try.prog 12 #[.agg (foldC (l.take (k + 1))).A] W (Gives (.bool true) W)) := Lib.hid fun W => by have := right_any _ W cin1; rw [rt_fold _ hin1 (by rw [List.length_take]; omega)] at this; exact this
        have hmem : l.getD k 0 ∈ l.take (k + 1) := by rw [htk]; exact List.mem_append_right _ (List.mem_singleton.2 rfl)
        have hne : l.take (k + 1) ≠ [] := List.ne_nil_of_mem hmem
        have hmn := (minL_all hne).2 _ hmem
        have hmx := (maxL_all hne).2 _ hmem
        have CE : Hid (∀ W g t, Kept W g (foldC (l.take (k + 1))).A t → W.cell? ⟨g, 3, none⟩ = some (.int .i64 (minL (l.take (k + 1)))) ∧ W.cell? ⟨g, 4, none⟩ = some (.int .i64 (maxL (l.take (k + 1))))) := Lib.hid fun W g t h => ⟨h.cell7.2.2.2.1, h.cell7.2.2.2.2.1⟩
        have FIN : Hid (∀ W, Kept W g5 AF 29 → Kept W g7 (foldC (l.take (k + 1))).A 29 → Below w.heap.size w W → g5 < g7 → PtRel w l AF g5 g7 (.int .i64 ((k : Int) + 1)) W) := Lib.hid fun W h1 h2 h3 h4 => ⟨k + 1, by omega, rfl, Lib.hid ⟨h1, h2, h3, h4⟩⟩
        obtain ⟨x, hx⟩ : ∃ x, l.getD k 0 = x := ⟨_, rfl⟩
        rw [hx] at hcl CA hmn hmx
        generalize minL (l.take (k + 1)) = mn at *
        generalize maxL (l.take (k + 1)) = mx at *
        have d1 : decide (x < mn) = false := decide_eq_false (by omega)
        have d2 : decide (mx < x) = false := decide_eq_false (by omega)
        have sK : (foldC (l.take k)).A.size = 72 := ce_size _ cik.len
        have sN : (foldC (l.take (k + 1))).A.size = 72 := ce_size _ cin1.len
        have haN := ce_cells (foldC (l.take (k + 1)))
        obtain ⟨AK, hAK⟩ : ∃ x, (foldC (l.take k)).A = x := ⟨_, rfl⟩
        obtain ⟨AN, hAN⟩ : ∃ x, (foldC (l.take (k + 1))).A = x := ⟨_, rfl⟩
        have K1 := K0.out
        unfold PtK at K1
        rw [hAK] at CA sK K1
        rw [hAN] at CA CRn CE FIN sN haN
        have iK : (Try.prog.info? 29).map (·.size) = some AK.size := by rw [sK]; exact c_info
        have iN : (Try.prog.info? 29).map (·.size) = some AN.size := by rw [sN]; exact c_info
        have zN : Z.size = AN.size := by
          have h1 := iZ
          rw [c_info] at h1
          injection h1 with h1
          omega
        have kN : AK.size = AN.size := by rw [sK, sN]
        have HLT := Lib.hid hlt
        have HK1 := Lib.hid K1
        clear hmem hne hmn hmx cik cin1 sK sN hxi htk hkl hink hin1 hr hin hl hAK hAN hx K0 K1 hlt hk hkn
        obtain ⟨V, hV⟩ : ∃ x, x = wr := ⟨_, rfl⟩
        subst hV
        go_upto_region 10 with fail
        go_cut [9, 10] from 46 to 54 (fun p e wx => PtAdd w AF AK AN g5 g7 b off k x p wx ∧ e = .int .i64 0)
        case first =>
          have HS0 : Hid (Kept V.drew g5 AF 29 ∧ Kept V.drew g7 AK 29 ∧ Below w.heap.size w V.drew ∧ V.drew.cell? ⟨b, off + k, none⟩ = some (.int .i64 x)) := Lib.hid ⟨HK1.out.1.drewN 1, HK1.out.2.1.drewN 1, HK1.out.2.2.1.drew, hcl⟩
          refine wp_region_held_drew (S := fun W' => Hid (Kept W' g5 AF 29 ∧ Kept W' g7 AK 29 ∧ Below w.heap.size w W' ∧ W'.cell? ⟨b, off + k, none⟩ = some (.int .i64 x))) (by kernel_rfl) HS0 (fun hHeld => ?_)
          have NX : Hid (∀ W W', (Kept W g5 AF 29 ∧ Kept W g7 AK 29 ∧ Below w.heap.size w W ∧ W.cell? ⟨b, off + k, none⟩ = some (.int .i64 x)) → Below W.heap.size W W' → (Kept W' g5 AF 29 ∧ Kept W' g7 AK 29 ∧ Below w.heap.size w W' ∧ W'.cell? ⟨b, off + k, none⟩ = some (.int .i64 x))) := Lib.hid fun W W' h hb => ⟨h.1.next hb, h.2.1.next hb, h.2.2.1.trans (hb.mono h.2.2.1.size), keep1 hb h.2.2.2⟩
          have HG : Hid (g5 < g7) := Lib.hid HK1.out.2.2.2
          clear HK1 hcl
          generalize V.drew = v0 at *
          -- @h0
          refine wpAnyH_take (i := 0) (oi := ({ dst := some 47, op := Op.load 29 (Operand.tmp 7), type := 29, pos := "law.go:108", after := #[], guard := none } : Oper)) (v := .agg AK) rfl (by kernel_rfl) (by kernel_rfl) (by kernel_rfl) (fun _ _ _ h => h) (yieldsIf_row (by rfl) 29 _ rfl g7 rfl AK (fun w' hw' => by exact hw'.out.2.1) Try.underlying29 rfl iK) hHeld ?_
          (try simp only [Act.put, List.setIfInBounds_toArray, List.set_cons_zero, List.set_cons_succ])
          -- @h1
          refine wpAnyH_take (i := 1) (oi := ({ dst := some 48, op := Op.move (Operand.tmp 0), type := 22, pos := "law.go:108", after := #[], guard := none } : Oper)) (v := ?_) rfl (by kernel_rfl) (by kernel_rfl) (by kernel_rfl) (fun _ _ _ h => h) (Or.inl ⟨by rfl, ?_⟩) hHeld ?_
          rotate_left
          · ((intro w hSw; obtain ⟨-, -, -, s1⟩ := hSw.out; go_simp); (try with_reducible rfl))
          (try simp only [Act.put, List.setIfInBounds_toArray, List.set_cons_zero, List.set_cons_succ])
          -- @h2
          refine wpAnyH_take (i := 2) (oi := ({ dst := some 49, op := Op.move (Operand.tmp 8), type := 3, pos := "law.go:108", after := #[], guard := none } : Oper)) (v := ?_) rfl (by kernel_rfl) (by kernel_rfl) (by kernel_rfl) (fun _ _ _ h => h) (Or.inl ⟨by rfl, ?_⟩) hHeld ?_
          rotate_left
          · ((intro w hSw; obtain ⟨-, -, -, s1⟩ := hSw.out; go_simp); (try with_reducible rfl))
          (try simp only [Act.put, List.setIfInBounds_toArray, List.set_cons_zero, List.set_cons_succ])
          -- @h3
          refine wpAnyH_take (i := 3) (oi := ({ dst := some 50, op := Op.indexAddr 22 (Operand.tmp 48) (Operand.tmp 49), type := 0, pos := "law.go:108", after := #[{ on := 1, ground := Ground.data }, { on := 2, ground := Ground.data }], guard := none } : Oper)) (v := ?_) rfl (by kernel_rfl) (by kernel_rfl) (by kernel_rfl) (fun _ _ _ h => h) (Or.inl ⟨by rfl, ?_⟩) hHeld ?_
          rotate_left
          · ((intro w hSw; obtain ⟨-, -, -, s1⟩ := hSw.out; go_simp); (try with_reducible rfl))
          (try simp only [Act.put, List.setIfInBounds_toArray, List.set_cons_zero, List.set_cons_succ])
          -- @h4
          refine wpAnyH_take (i := 4) (oi := ({ dst := some 51, op := Op.load 2 (Operand.tmp 50), type := 2, pos := "law.go:108", after := #[{ on := 3, ground := Ground.data }], guard := none } : Oper)) (v := ?_) rfl (by kernel_rfl) (by kernel_rfl) (by kernel_rfl) (fun _ _ _ h => h) (Or.inl ⟨by rfl, ?_⟩) hHeld ?_
          rotate_left
          · ((intro w hSw; obtain ⟨-, -, -, s1⟩ := hSw.out; go_simp); (try with_reducible rfl))
          (try simp only [Act.put, List.setIfInBounds_toArray, List.set_cons_zero, List.set_cons_succ])
          refine wpAnyH_ready (rs := [5, 9]) (by kernel_rfl) (by simp) ?_
          refine AllReadyH.cons (o := ({ dst := some 52, op := Op.call { callee := Callee.value (Operand.func 14), args := #[Operand.tmp 47, Operand.tmp 51], argTypes := #[29, 2] }, type := 39, pos := "law.go:108", after := #[{ on := 0, ground := Ground.data }, { on := 4, ground := Ground.data }], guard := none } : Oper)) rfl (fun K hK => ?_) (AllReadyH.cons (o := ({ dst := some 9, op := Op.alloc 29, type := 0, pos := "law.go:108", after := #[], guard := none } : Oper)) rfl (fun K hK => ?_) (AllReadyH.nil))
          · go_simp
            (with_reducible refine (CA.out _).mono ?_)
            rintro _ e21 ⟨rfl, bb21⟩
            have P21 := Lib.hid (NX.out _ _ HS0.out bb21)
            clear bb21
            refine hK.out _ _ ?_ (fun hHeld => ?_)
            · exact P21
            clear hK K
            (try simp only [Act.put, List.setIfInBounds_toArray, List.set_cons_zero, List.set_cons_succ])
            -- @h6
            refine wpAnyH_take (i := 6) (oi := ({ dst := some 46, op := Op.move (Operand.tmp 52), type := 39, pos := "law.go:108", after := #[{ on := 5, ground := Ground.data }], guard := none } : Oper)) (v := ?_) rfl (by kernel_rfl) (by kernel_rfl) (by kernel_rfl) (fun _ _ _ h => h) (Or.inl ⟨by rfl, ?_⟩) hHeld ?_
            rotate_left
            · ((intro w hSw; obtain ⟨-, -, -, s1⟩ := hSw.out; go_simp); (try with_reducible rfl))
            (try simp only [Act.put, List.setIfInBounds_toArray, List.set_cons_zero, List.set_cons_succ])
            -- @h7
            refine wpAnyH_take (i := 7) (oi := ({ dst := some 53, op := Op.extract (Operand.tmp 46) 0, type := 29, pos := "law.go:108", after := #[{ on := 6, ground := Ground.data }], guard := none } : Oper)) (v := ?_) rfl (by kernel_rfl) (by kernel_rfl) (by kernel_rfl) (fun _ _ _ h => h) (Or.inl ⟨by rfl, ?_⟩) hHeld ?_
            rotate_left
            · ((intro w hSw; obtain ⟨-, -, -, s1⟩ := hSw.out; go_simp); (try with_reducible rfl))
            (try simp only [Act.put, List.setIfInBounds_toArray, List.set_cons_zero, List.set_cons_succ])
            -- @h8
            refine wpAnyH_take (i := 8) (oi := ({ dst := some 54, op := Op.extract (Operand.tmp 46) 1, type := 38, pos := "law.go:108", after := #[{ on := 6, ground := Ground.data }, { on := 10, ground := Ground.gcOnly Departure.lateStores }], guard := none } : Oper)) (v := ?_) rfl (by kernel_rfl) (by kernel_rfl) (by kernel_rfl) (fun _ _ _ h => h) (Or.inl ⟨by rfl, ?_⟩) hHeld ?_
            rotate_left
            · ((intro w hSw; obtain ⟨-, -, -, s1⟩ := hSw.out; go_simp); (try with_reducible rfl))
            (try simp only [Act.put, List.setIfInBounds_toArray, List.set_cons_zero, List.set_cons_succ])
            refine wpAnyH_ready (rs := [9]) (by kernel_rfl) (by simp) ?_
            refine AllReadyH.cons (o := ({ dst := some 9, op := Op.alloc 29, type := 0, pos := "law.go:108", after := #[], guard := none } : Oper)) rfl (fun K hK => ?_) (AllReadyH.nil)
            go_simp
            have P22 := Lib.hid (NX.out _ _ P21.out (one_alloc e21 (.cells Z 29)))
            have Q22 : Hid (Kept (e21.alloc (.cells Z 29)) e21.heap.size Z 29) := Lib.hid (Kept.new rfl)
            have L22 : Hid (g5 < e21.heap.size ∧ g7 < e21.heap.size ∧ w.heap.size ≤ e21.heap.size ∧ b < e21.heap.size) := Lib.hid ⟨P21.out.1.lt, P21.out.2.1.lt, P21.out.2.2.1.size, World.block_lt_of_cell? e21 _ P21.out.2.2.2⟩
            refine hK.out _ _ ?_ (fun hHeld => ?_)
            · exact P22
            clear hK K
            (try simp only [Act.put, List.setIfInBounds_toArray, List.set_cons_zero, List.set_cons_succ])
            generalize e21.alloc (.cells Z 29) = e22 at *
            refine wpAnyH_ready (rs := [10]) (by kernel_rfl) (by simp) ?_
            refine AllReadyH.cons (o := ({ dst := none, op := Op.store 29 (Operand.tmp 9) (Operand.tmp 53), type := 0, pos := "law.go:108", after := #[{ on := 9, ground := Ground.data }, { on := 7, ground := Ground.data }, { on := 5, ground := Ground.chain }, { on := 0, ground := Ground.phase }, { on := 1, ground := Ground.phase }, { on := 2, ground := Ground.phase }, { on := 3, ground := Ground.phase }, { on := 4, ground := Ground.phase }, { on := 5, ground := Ground.phase }, { on := 6, ground := Ground.phase }, { on := 7, ground := Ground.phase }, { on := 8, ground := Ground.textOnly Departure.lateStores }, { on := 9, ground := Ground.phase }], guard := none } : Oper)) rfl (fun K hK => ?_) (AllReadyH.nil)
            rw [if_pos (by rfl)]
            refine wp_store_row _ _ _ rfl e21.heap.size AN rfl rfl _ Z Q22.out iN zN haN ?_
            have P23 : Hid (Kept (e22.setRow e21.heap.size AN) g5 AF 29 ∧ Kept (e22.setRow e21.heap.size AN) g7 AK 29 ∧ Below w.heap.size w (e22.setRow e21.heap.size AN) ∧ (e22.setRow e21.heap.size AN).cell? ⟨b, off + k, none⟩ = some (.int .i64 x)) := Lib.hid ⟨P22.out.1.setRow_far (by have := L22.out; omega) _, P22.out.2.1.setRow_far (by have := L22.out; omega) _, below_setRow P22.out.2.2.1 L22.out.2.2.1 _, (World.cell?_of_block ((below_setRow (Below.refl e21.heap.size e22) (Nat.le_refl _) AN).block b L22.out.2.2.2)).trans P22.out.2.2.2⟩
            have Q23 := Lib.hid (Q22.out.setRow AN)
            refine hK.out _ _ ?_ (fun hHeld => ?_)
            · exact P23
            clear hK K
            (try simp only [Act.put, List.setIfInBounds_toArray, List.set_cons_zero, List.set_cons_succ])
            -- @h11
            refine wpAnyH_take (i := 11) (oi := ({ dst := some 10, op := Op.assign (Operand.tmp 54), type := 38, pos := "law.go:108", after := #[{ on := 8, ground := Ground.data }, { on := 10, ground := Ground.chain }, { on := 0, ground := Ground.phase }, { on := 1, ground := Ground.phase }, { on := 2, ground := Ground.phase }, { on := 3, ground := Ground.phase }, { on := 4, ground := Ground.phase }, { on := 5, ground := Ground.phase }, { on := 6, ground := Ground.phase }, { on := 7, ground := Ground.phase }, { on := 8, ground := Ground.phase }, { on := 9, ground := Ground.phase }, { on := 10, ground := Ground.phase }], guard := none } : Oper)) (v := ?_) rfl (by kernel_rfl) (by kernel_rfl) (by kernel_rfl) (fun _ _ _ h => h) (Or.inl ⟨by rfl, ?_⟩) hHeld ?_
            rotate_left
            · ((intro w hSw; obtain ⟨-, -, -, s1⟩ := hSw.out; go_simp); (try with_reducible rfl))
            (try simp only [Act.put, List.setIfInBounds_toArray, List.set_cons_zero, List.set_cons_succ])
            refine wpAnyH_done (by kernel_rfl) ?_ _
            have FF : PtAdd w AF AK AN g5 g7 b off k x (.pointer (some ⟨e21.heap.size, 0, none⟩)) _ := ⟨_, rfl, Lib.hid ⟨P23.out.1, P23.out.2.1, Q23.out, P23.out.2.2.1, P23.out.2.2.2, HG.out⟩⟩
            clear hHeld
            go_wp2_with fail
            go_meet
            case rel => exact ⟨FF, rfl⟩
          · go_simp
            have P21 := Lib.hid (NX.out _ _ HS0.out (one_alloc v0 (.cells Z 29)))
            have Q21 : Hid (Kept (v0.alloc (.cells Z 29)) v0.heap.size Z 29) := Lib.hid (Kept.new rfl)
            have L21 : Hid (g5 < v0.heap.size ∧ g7 < v0.heap.size ∧ w.heap.size ≤ v0.heap.size ∧ b < v0.heap.size) := Lib.hid ⟨HS0.out.1.lt, HS0.out.2.1.lt, HS0.out.2.2.1.size, World.block_lt_of_cell? v0 _ HS0.out.2.2.2⟩
            refine hK.out _ _ ?_ (fun hHeld => ?_)
            · exact P21
            clear hK K
            (try simp only [Act.put, List.setIfInBounds_toArray, List.set_cons_zero, List.set_cons_succ])
            generalize v0.alloc (.cells Z 29) = e21 at *
            refine wpAnyH_ready (rs := [5]) (by kernel_rfl) (by simp) ?_
            refine AllReadyH.cons (o := ({ dst := some 52, op := Op.call { callee := Callee.value (Operand.func 14), args := #[Operand.tmp 47, Operand.tmp 51], argTypes := #[29, 2] }, type := 39, pos := "law.go:108", after := #[{ on := 0, ground := Ground.data }, { on := 4, ground := Ground.data }], guard := none } : Oper)) rfl (fun K hK => ?_) (AllReadyH.nil)
            go_simp
            (with_reducible refine (CA.out _).mono ?_)
            rintro _ e22 ⟨rfl, bb22⟩
            have P22 := Lib.hid (NX.out _ _ P21.out bb22)
            have Q22 := Lib.hid (Q21.out.next bb22)
            have S22 : w.heap.size ≤ v0.heap.size := L21.out.2.2.1
            clear bb22
            refine hK.out _ _ ?_ (fun hHeld => ?_)
            · exact P22
            clear hK K
            (try simp only [Act.put, List.setIfInBounds_toArray, List.set_cons_zero, List.set_cons_succ])
            -- @h6
            refine wpAnyH_take (i := 6) (oi := ({ dst := some 46, op := Op.move (Operand.tmp 52), type := 39, pos := "law.go:108", after := #[{ on := 5, ground := Ground.data }], guard := none } : Oper)) (v := ?_) rfl (by kernel_rfl) (by kernel_rfl) (by kernel_rfl) (fun _ _ _ h => h) (Or.inl ⟨by rfl, ?_⟩) hHeld ?_
            rotate_left
            · ((intro w hSw; obtain ⟨-, -, -, s1⟩ := hSw.out; go_simp); (try with_reducible rfl))
            (try simp only [Act.put, List.setIfInBounds_toArray, List.set_cons_zero, List.set_cons_succ])
            -- @h7
            refine wpAnyH_take (i := 7) (oi := ({ dst := some 53, op := Op.extract (Operand.tmp 46) 0, type := 29, pos := "law.go:108", after := #[{ on := 6, ground := Ground.data }], guard := none } : Oper)) (v := ?_) rfl (by kernel_rfl) (by kernel_rfl) (by kernel_rfl) (fun _ _ _ h => h) (Or.inl ⟨by rfl, ?_⟩) hHeld ?_
            rotate_left
            · ((intro w hSw; obtain ⟨-, -, -, s1⟩ := hSw.out; go_simp); (try with_reducible rfl))
            (try simp only [Act.put, List.setIfInBounds_toArray, List.set_cons_zero, List.set_cons_succ])
            -- @h8
            refine wpAnyH_take (i := 8) (oi := ({ dst := some 54, op := Op.extract (Operand.tmp 46) 1, type := 38, pos := "law.go:108", after := #[{ on := 6, ground := Ground.data }, { on := 10, ground := Ground.gcOnly Departure.lateStores }], guard := none } : Oper)) (v := ?_) rfl (by kernel_rfl) (by kernel_rfl) (by kernel_rfl) (fun _ _ _ h => h) (Or.inl ⟨by rfl, ?_⟩) hHeld ?_
            rotate_left
            · ((intro w hSw; obtain ⟨-, -, -, s1⟩ := hSw.out; go_simp); (try with_reducible rfl))
            (try simp only [Act.put, List.setIfInBounds_toArray, List.set_cons_zero, List.set_cons_succ])
            refine wpAnyH_ready (rs := [10]) (by kernel_rfl) (by simp) ?_
            refine AllReadyH.cons (o := ({ dst := none, op := Op.store 29 (Operand.tmp 9) (Operand.tmp 53), type := 0, pos := "law.go:108", after := #[{ on := 9, ground := Ground.data }, { on := 7, ground := Ground.data }, { on := 5, ground := Ground.chain }, { on := 0, ground := Ground.phase }, { on := 1, ground := Ground.phase }, { on := 2, ground := Ground.phase }, { on := 3, ground := Ground.phase }, { on := 4, ground := Ground.phase }, { on := 5, ground := Ground.phase }, { on := 6, ground := Ground.phase }, { on := 7, ground := Ground.phase }, { on := 8, ground := Ground.textOnly Departure.lateStores }, { on := 9, ground := Ground.phase }], guard := none } : Oper)) rfl (fun K hK => ?_) (AllReadyH.nil)
            rw [if_pos (by rfl)]
            refine wp_store_row _ _ _ rfl v0.heap.size AN rfl rfl _ Z Q22.out iN zN haN ?_
            have P23 : Hid (Kept (e22.setRow v0.heap.size AN) g5 AF 29 ∧ Kept (e22.setRow v0.heap.size AN) g7 AK 29 ∧ Below w.heap.size w (e22.setRow v0.heap.size AN) ∧ (e22.setRow v0.heap.size AN).cell? ⟨b, off + k, none⟩ = some (.int .i64 x)) := Lib.hid ⟨P22.out.1.setRow_far (by have := L21.out; omega) _, P22.out.2.1.setRow_far (by have := L21.out; omega) _, below_setRow P22.out.2.2.1 L21.out.2.2.1 _, (World.cell?_of_block ((below_setRow (Below.refl v0.heap.size e22) (Nat.le_refl _) AN).block b L21.out.2.2.2)).trans P22.out.2.2.2⟩
            have Q23 := Lib.hid (Q22.out.setRow AN)
            refine hK.out _ _ ?_ (fun hHeld => ?_)
            · exact P23
            clear hK K
            (try simp only [Act.put, List.setIfInBounds_toArray, List.set_cons_zero, List.set_cons_succ])
            -- @h11
            refine wpAnyH_take (i := 11) (oi := ({ dst := some 10, op := Op.assign (Operand.tmp 54), type := 38, pos := "law.go:108", after := #[{ on := 8, ground := Ground.data }, { on := 10, ground := Ground.chain }, { on := 0, ground := Ground.phase }, { on := 1, ground := Ground.phase }, { on := 2, ground := Ground.phase }, { on := 3, ground := Ground.phase }, { on := 4, ground := Ground.phase }, { on := 5, ground := Ground.phase }, { on := 6, ground := Ground.phase }, { on := 7, ground := Ground.phase }, { on := 8, ground := Ground.phase }, { on := 9, ground := Ground.phase }, { on := 10, ground := Ground.phase }], guard := none } : Oper)) (v := ?_) rfl (by kernel_rfl) (by kernel_rfl) (by kernel_rfl) (fun _ _ _ h => h) (Or.inl ⟨by rfl, ?_⟩) hHeld ?_
            rotate_left
            · ((intro w hSw; obtain ⟨-, -, -, s1⟩ := hSw.out; go_simp); (try with_reducible rfl))
            (try simp only [Act.put, List.setIfInBounds_toArray, List.set_cons_zero, List.set_cons_succ])
            refine wpAnyH_done (by kernel_rfl) ?_ _
            have FF : PtAdd w AF AK AN g5 g7 b off k x (.pointer (some ⟨v0.heap.size, 0, none⟩)) _ := ⟨_, rfl, Lib.hid ⟨P23.out.1, P23.out.2.1, Q23.out, P23.out.2.2.1, P23.out.2.2.2, HG.out⟩⟩
            clear hHeld
            go_wp2_with fail
            go_meet
            case rel => exact ⟨FF, rfl⟩
        case rest =>
          obtain ⟨⟨g9, rfl, hh⟩, rfl⟩ := hcut
          obtain ⟨V2, hV2⟩ : ∃ x, x = wc := ⟨_, rfl⟩
          subst hV2
          have HS1 := hh
          have NX : Hid (∀ W W', PtAd w AF AK AN g5 g7 g9 b off k x W → Below W.heap.size W W' → PtAd w AF AK AN g5 g7 g9 b off k x W') := Lib.hid fun W W' h hb => ⟨h.1.next hb, h.2.1.next hb, h.2.2.1.next hb, h.2.2.2.1.trans (hb.mono h.2.2.2.1.size), keep1 hb h.2.2.2.2.1, h.2.2.2.2.2⟩
          have G7 : Hid (∀ W, PtAd w AF AK AN g5 g7 g9 b off k x W → w.heap.size ≤ g7) := Lib.hid fun _ _ => HG7.out
          clear hh HK1 hcl
          go_upto_region 11 with fail
          refine wp_region_held_drew (S := fun W' => Hid (PtAd w AF AK AN g5 g7 g9 b off k x W')) (by kernel_rfl) (Lib.hid ⟨HS1.out.1.drewN 1, HS1.out.2.1.drewN 1, HS1.out.2.2.1.drewN 1, HS1.out.2.2.2.1.drew, HS1.out.2.2.2.2.1, HS1.out.2.2.2.2.2⟩) (fun hHeld => ?_)
          have T0 : Hid (PtAd w AF AK AN g5 g7 g9 b off k x V2.drew) := Lib.hid ⟨HS1.out.1.drewN 1, HS1.out.2.1.drewN 1, HS1.out.2.2.1.drewN 1, HS1.out.2.2.2.1.drew, HS1.out.2.2.2.2.1, HS1.out.2.2.2.2.2⟩
          clear HS1
          generalize V2.drew = v0 at *
          -- @h0
          refine wpAnyH_take (i := 0) (oi := ({ dst := some 55, op := Op.move (Operand.tmp 10), type := 38, pos := "law.go:109", after := #[], guard := none } : Oper)) (v := ?_) rfl (by kernel_rfl) (by kernel_rfl) (by kernel_rfl) (fun _ _ _ h => h) (Or.inl ⟨by rfl, ?_⟩) hHeld ?_
          rotate_left
          · ((intro w hSw; obtain ⟨-, -, s9, -, s1, -⟩ := hSw.out; obtain ⟨s3, s4⟩ := CE.out _ _ _ s9; go_simp); (try with_reducible rfl))
          (try simp only [Act.put, List.setIfInBounds_toArray, List.set_cons_zero, List.set_cons_succ])
          -- @h1
          refine wpAnyH_take (i := 1) (oi := ({ dst := some 56, op := Op.binOp BinOp.neq 38 (Operand.tmp 55) (Operand.const (Value.int IntKind.i64 0)) 38, type := 4, pos := "law.go:109", after := #[{ on := 0, ground := Ground.data }], guard := none } : Oper)) (v := ?_) rfl (by kernel_rfl) (by kernel_rfl) (by kernel_rfl) (fun _ _ _ h => h) (Or.inl ⟨by rfl, ?_⟩) hHeld ?_
          rotate_left
          · ((intro w hSw; obtain ⟨-, -, s9, -, s1, -⟩ := hSw.out; obtain ⟨s3, s4⟩ := CE.out _ _ _ s9; go_simp); (try with_reducible rfl))
          (try simp only [Act.put, List.setIfInBounds_toArray, List.set_cons_zero, List.set_cons_succ])
          -- @h2
          refine wpAnyH_take (i := 2) (oi := ({ dst := some 57, op := Op.move (Operand.tmp 56), type := 4, pos := "law.go:109", after := #[{ on := 1, ground := Ground.data }], guard := none } : Oper)) (v := ?_) rfl (by kernel_rfl) (by kernel_rfl) (by kernel_rfl) (fun _ _ _ h => h) (Or.inl ⟨by rfl, ?_⟩) hHeld ?_
          rotate_left
          · ((intro w hSw; obtain ⟨-, -, s9, -, s1, -⟩ := hSw.out; obtain ⟨s3, s4⟩ := CE.out _ _ _ s9; go_simp); (try with_reducible rfl))
          (try simp only [Act.put, List.setIfInBounds_toArray, List.set_cons_zero, List.set_cons_succ])
          -- @h3
          refine wpAnyH_take (i := 3) (oi := ({ dst := some 58, op := Op.load 29 (Operand.tmp 9), type := 29, pos := "law.go:109", after := #[{ on := 2, ground := Ground.guard }], guard := some (2, false) } : Oper)) (v := .agg AN) rfl (by kernel_rfl) (by kernel_rfl) (by kernel_rfl) (fun _ _ _ h => h) (yieldsIf_row (by rfl) 29 _ rfl g9 rfl AN (fun w' hw' => by exact hw'.out.2.2.1) Try.underlying29 rfl iN) hHeld ?_
          (try simp only [Act.put, List.setIfInBounds_toArray, List.set_cons_zero, List.set_cons_succ])
          refine wpAnyH_ready (rs := [4]) (by kernel_rfl) (by simp) ?_
          refine AllReadyH.cons (o := ({ dst := some 59, op := Op.call { callee := Callee.value (Operand.func 12), args := #[Operand.tmp 58], argTypes := #[29] }, type := 4, pos := "law.go:109", after := #[{ on := 3, ground := Ground.data }, { on := 2, ground := Ground.chain }, { on := 2, ground := Ground.guard }], guard := some (2, false) } : Oper)) rfl (fun K hK => ?_) (AllReadyH.nil)
          go_simp
          (with_reducible refine (CRn.out _).mono ?_)
          rintro _ e1 ⟨rfl, bb⟩
          have T1 := Lib.hid (NX.out _ _ T0.out bb)
          clear bb T0
          refine hK.out _ _ ?_ (fun hHeld => ?_)
          · exact T1
          clear hK K
          (try simp only [Act.put, List.setIfInBounds_toArray, List.set_cons_zero, List.set_cons_succ])
          -- @h5
          refine wpAnyH_take (i := 5) (oi := ({ dst := some 60, op := Op.unOp UnOp.not 4 (Operand.tmp 59), type := 4, pos := "law.go:109", after := #[{ on := 4, ground := Ground.data }, { on := 2, ground := Ground.guard }], guard := some (2, false) } : Oper)) (v := ?_) rfl (by kernel_rfl) (by kernel_rfl) (by kernel_rfl) (fun _ _ _ h => h) (Or.inl ⟨by rfl, ?_⟩) hHeld ?_
          rotate_left
          · ((intro w hSw; obtain ⟨-, -, s9, -, s1, -⟩ := hSw.out; obtain ⟨s3, s4⟩ := CE.out _ _ _ s9; go_simp); (try with_reducible rfl))
          (try simp only [Act.put, List.setIfInBounds_toArray, List.set_cons_zero, List.set_cons_succ])
          -- @h6
          refine wpAnyH_take (i := 6) (oi := ({ dst := some 61, op := Op.pick (Operand.tmp 57) (Operand.const (Value.bool true)) (Operand.tmp 60), type := 4, pos := "law.go:109", after := #[{ on := 2, ground := Ground.data }, { on := 5, ground := Ground.data }], guard := none } : Oper)) (v := ?_) rfl (by kernel_rfl) (by kernel_rfl) (by kernel_rfl) (fun _ _ _ h => h) (Or.inl ⟨by rfl, ?_⟩) hHeld ?_
          rotate_left
          · ((intro w hSw; obtain ⟨-, -, s9, -, s1, -⟩ := hSw.out; obtain ⟨s3, s4⟩ := CE.out _ _ _ s9; go_simp); (try with_reducible rfl))
          (try simp only [Act.put, List.setIfInBounds_toArray, List.set_cons_zero, List.set_cons_succ])
          -- @h7
          refine wpAnyH_take (i := 7) (oi := ({ dst := some 62, op := Op.move (Operand.tmp 61), type := 4, pos := "law.go:109", after := #[{ on := 6, ground := Ground.data }, { on := 4, ground := Ground.chain }], guard := none } : Oper)) (v := ?_) rfl (by kernel_rfl) (by kernel_rfl) (by kernel_rfl) (fun _ _ _ h => h) (Or.inl ⟨by rfl, ?_⟩) hHeld ?_
          rotate_left
          · ((intro w hSw; obtain ⟨-, -, s9, -, s1, -⟩ := hSw.out; obtain ⟨s3, s4⟩ := CE.out _ _ _ s9; go_simp); (try with_reducible rfl))
          (try simp only [Act.put, List.setIfInBounds_toArray, List.set_cons_zero, List.set_cons_succ])
          -- @h8
          refine wpAnyH_take (i := 8) (oi := ({ dst := some 63, op := Op.fieldAddr 29 (Operand.tmp 9) 2, type := 0, pos := "law.go:109", after := #[{ on := 7, ground := Ground.guard }], guard := some (7, false) } : Oper)) (v := ?_) rfl (by kernel_rfl) (by kernel_rfl) (by kernel_rfl) (fun _ _ _ h => h) (Or.inl ⟨by rfl, ?_⟩) hHeld ?_
          rotate_left
          · ((intro w hSw; obtain ⟨-, -, s9, -, s1, -⟩ := hSw.out; obtain ⟨s3, s4⟩ := CE.out _ _ _ s9; go_simp); (try with_reducible rfl))
          (try simp only [Act.put, List.setIfInBounds_toArray, List.set_cons_zero, List.set_cons_succ])
          -- @h9
          refine wpAnyH_take (i := 9) (oi := ({ dst := some 64, op := Op.load 2 (Operand.tmp 63), type := 2, pos := "law.go:109", after := #[{ on := 8, ground := Ground.data }, { on := 7, ground := Ground.guard }], guard := some (7, false) } : Oper)) (v := ?_) rfl (by kernel_rfl) (by kernel_rfl) (by kernel_rfl) (fun _ _ _ h => h) (Or.inl ⟨by rfl, ?_⟩) hHeld ?_
          rotate_left
          · ((intro w hSw; obtain ⟨-, -, s9, -, s1, -⟩ := hSw.out; obtain ⟨s3, s4⟩ := CE.out _ _ _ s9; go_simp); (try with_reducible rfl))
          (try simp only [Act.put, List.setIfInBounds_toArray, List.set_cons_zero, List.set_cons_succ])
          -- @h10
          refine wpAnyH_take (i := 10) (oi := ({ dst := some 65, op := Op.move (Operand.tmp 0), type := 22, pos := "law.go:109", after := #[{ on := 7, ground := Ground.guard }], guard := some (7, false) } : Oper)) (v := ?_) rfl (by kernel_rfl) (by kernel_rfl) (by kernel_rfl) (fun _ _ _ h => h) (Or.inl ⟨by rfl, ?_⟩) hHeld ?_
          rotate_left
          · ((intro w hSw; obtain ⟨-, -, s9, -, s1, -⟩ := hSw.out; obtain ⟨s3, s4⟩ := CE.out _ _ _ s9; go_simp); (try with_reducible rfl))
          (try simp only [Act.put, List.setIfInBounds_toArray, List.set_cons_zero, List.set_cons_succ])
          -- @h11
          refine wpAnyH_take (i := 11) (oi := ({ dst := some 66, op := Op.move (Operand.tmp 8), type := 3, pos := "law.go:109", after := #[{ on := 7, ground := Ground.guard }], guard := some (7, false) } : Oper)) (v := ?_) rfl (by kernel_rfl) (by kernel_rfl) (by kernel_rfl) (fun _ _ _ h => h) (Or.inl ⟨by rfl, ?_⟩) hHeld ?_
          rotate_left
          · ((intro w hSw; obtain ⟨-, -, s9, -, s1, -⟩ := hSw.out; obtain ⟨s3, s4⟩ := CE.out _ _ _ s9; go_simp); (try with_reducible rfl))
          (try simp only [Act.put, List.setIfInBounds_toArray, List.set_cons_zero, List.set_cons_succ])
          -- @h12
          refine wpAnyH_take (i := 12) (oi := ({ dst := some 67, op := Op.indexAddr 22 (Operand.tmp 65) (Operand.tmp 66), type := 0, pos := "law.go:109", after := #[{ on := 10, ground := Ground.data }, { on := 11, ground := Ground.data }, { on := 7, ground := Ground.guard }], guard := some (7, false) } : Oper)) (v := ?_) rfl (by kernel_rfl) (by kernel_rfl) (by kernel_rfl) (fun _ _ _ h => h) (Or.inl ⟨by rfl, ?_⟩) hHeld ?_
          rotate_left
          · ((intro w hSw; obtain ⟨-, -, s9, -, s1, -⟩ := hSw.out; obtain ⟨s3, s4⟩ := CE.out _ _ _ s9; go_simp); (try with_reducible rfl))
          (try simp only [Act.put, List.setIfInBounds_toArray, List.set_cons_zero, List.set_cons_succ])
          -- @h13
          refine wpAnyH_take (i := 13) (oi := ({ dst := some 68, op := Op.load 2 (Operand.tmp 67), type := 2, pos := "law.go:109", after := #[{ on := 12, ground := Ground.data }, { on := 7, ground := Ground.guard }], guard := some (7, false) } : Oper)) (v := ?_) rfl (by kernel_rfl) (by kernel_rfl) (by kernel_rfl) (fun _ _ _ h => h) (Or.inl ⟨by rfl, ?_⟩) hHeld ?_
          rotate_left
          · ((intro w hSw; obtain ⟨-, -, s9, -, s1, -⟩ := hSw.out; obtain ⟨s3, s4⟩ := CE.out _ _ _ s9; go_simp); (try with_reducible rfl))
          (try simp only [Act.put, List.setIfInBounds_toArray, List.set_cons_zero, List.set_cons_succ])
          -- @h14
          refine wpAnyH_take (i := 14) (oi := ({ dst := some 69, op := Op.binOp BinOp.gtr 2 (Operand.tmp 64) (Operand.tmp 68) 2, type := 4, pos := "law.go:109", after := #[{ on := 9, ground := Ground.data }, { on := 13, ground := Ground.data }, { on := 7, ground := Ground.guard }], guard := some (7, false) } : Oper)) (v := ?_) rfl (by kernel_rfl) (by kernel_rfl) (by kernel_rfl) (fun _ _ _ h => h) (Or.inl ⟨by rfl, ?_⟩) hHeld ?_
          rotate_left
          · ((intro w hSw; obtain ⟨-, -, s9, -, s1, -⟩ := hSw.out; obtain ⟨s3, s4⟩ := CE.out _ _ _ s9; go_simp); (try with_reducible rfl))
          (try simp only [Act.put, List.setIfInBounds_toArray, List.set_cons_zero, List.set_cons_succ])
          -- @h15
          refine wpAnyH_take (i := 15) (oi := ({ dst := some 70, op := Op.pick (Operand.tmp 62) (Operand.const (Value.bool true)) (Operand.tmp 69), type := 4, pos := "law.go:109", after := #[{ on := 7, ground := Ground.data }, { on := 14, ground := Ground.data }], guard := none } : Oper)) (v := ?_) rfl (by kernel_rfl) (by kernel_rfl) (by kernel_rfl) (fun _ _ _ h => h) (Or.inl ⟨by rfl, ?_⟩) hHeld ?_
          rotate_left
          · ((intro w hSw; obtain ⟨-, -, s9, -, s1, -⟩ := hSw.out; obtain ⟨s3, s4⟩ := CE.out _ _ _ s9; go_simp); (try with_reducible rfl))
          (try simp only [Act.put, List.setIfInBounds_toArray, List.set_cons_zero, List.set_cons_succ])
          -- @h16
          refine wpAnyH_take (i := 16) (oi := ({ dst := some 71, op := Op.move (Operand.tmp 70), type := 4, pos := "law.go:109", after := #[{ on := 15, ground := Ground.data }, { on := 7, ground := Ground.chain }], guard := none } : Oper)) (v := ?_) rfl (by kernel_rfl) (by kernel_rfl) (by kernel_rfl) (fun _ _ _ h => h) (Or.inl ⟨by rfl, ?_⟩) hHeld ?_
          rotate_left
          · ((intro w hSw; obtain ⟨-, -, s9, -, s1, -⟩ := hSw.out; obtain ⟨s3, s4⟩ := CE.out _ _ _ s9; go_simp); (try with_reducible rfl))
          (try simp only [Act.put, List.setIfInBounds_toArray, List.set_cons_zero, List.set_cons_succ])
          -- @h17
          refine wpAnyH_take (i := 17) (oi := ({ dst := some 72, op := Op.fieldAddr 29 (Operand.tmp 9) 3, type := 0, pos := "law.go:109", after := #[{ on := 16, ground := Ground.guard }], guard := some (16, false) } : Oper)) (v := ?_) rfl (by kernel_rfl) (by kernel_rfl) (by kernel_rfl) (fun _ _ _ h => h) (Or.inl ⟨by rfl, ?_⟩) hHeld ?_
          rotate_left
          · ((intro w hSw; obtain ⟨-, -, s9, -, s1, -⟩ := hSw.out; obtain ⟨s3, s4⟩ := CE.out _ _ _ s9; go_simp); (try with_reducible rfl))
          (try simp only [Act.put, List.setIfInBounds_toArray, List.set_cons_zero, List.set_cons_succ])
          -- @h18
          refine wpAnyH_take (i := 18) (oi := ({ dst := some 73, op := Op.load 2 (Operand.tmp 72), type := 2, pos := "law.go:109", after := #[{ on := 17, ground := Ground.data }, { on := 16, ground := Ground.guard }], guard := some (16, false) } : Oper)) (v := ?_) rfl (by kernel_rfl) (by kernel_rfl) (by kernel_rfl) (fun _ _ _ h => h) (Or.inl ⟨by rfl, ?_⟩) hHeld ?_
          rotate_left
          · ((intro w hSw; obtain ⟨-, -, s9, -, s1, -⟩ := hSw.out; obtain ⟨s3, s4⟩ := CE.out _ _ _ s9; go_simp); (try with_reducible rfl))
          (try simp only [Act.put, List.setIfInBounds_toArray, List.set_cons_zero, List.set_cons_succ])
          -- @h19
          refine wpAnyH_take (i := 19) (oi := ({ dst := some 74, op := Op.move (Operand.tmp 0), type := 22, pos := "law.go:109", after := #[{ on := 16, ground := Ground.guard }], guard := some (16, false) } : Oper)) (v := ?_) rfl (by kernel_rfl) (by kernel_rfl) (by kernel_rfl) (fun _ _ _ h => h) (Or.inl ⟨by rfl, ?_⟩) hHeld ?_
          rotate_left
          · ((intro w hSw; obtain ⟨-, -, s9, -, s1, -⟩ := hSw.out; obtain ⟨s3, s4⟩ := CE.out _ _ _ s9; go_simp); (try with_reducible rfl))
          (try simp only [Act.put, List.setIfInBounds_toArray, List.set_cons_zero, List.set_cons_succ])
          -- @h20
          refine wpAnyH_take (i := 20) (oi := ({ dst := some 75, op := Op.move (Operand.tmp 8), type := 3, pos := "law.go:109", after := #[{ on := 16, ground := Ground.guard }], guard := some (16, false) } : Oper)) (v := ?_) rfl (by kernel_rfl) (by kernel_rfl) (by kernel_rfl) (fun _ _ _ h => h) (Or.inl ⟨by rfl, ?_⟩) hHeld ?_
          rotate_left
          · ((intro w hSw; obtain ⟨-, -, s9, -, s1, -⟩ := hSw.out; obtain ⟨s3, s4⟩ := CE.out _ _ _ s9; go_simp); (try with_reducible rfl))
          (try simp only [Act.put, List.setIfInBounds_toArray, List.set_cons_zero, List.set_cons_succ])
          -- @h21
          refine wpAnyH_take (i := 21) (oi := ({ dst := some 76, op := Op.indexAddr 22 (Operand.tmp 74) (Operand.tmp 75), type := 0, pos := "law.go:109", after := #[{ on := 19, ground := Ground.data }, { on := 20, ground := Ground.data }, { on := 16, ground := Ground.guard }], guard := some (16, false) } : Oper)) (v := ?_) rfl (by kernel_rfl) (by kernel_rfl) (by kernel_rfl) (fun _ _ _ h => h) (Or.inl ⟨by rfl, ?_⟩) hHeld ?_
          rotate_left
          · ((intro w hSw; obtain ⟨-, -, s9, -, s1, -⟩ := hSw.out; obtain ⟨s3, s4⟩ := CE.out _ _ _ s9; go_simp); (try with_reducible rfl))
          (try simp only [Act.put, List.setIfInBounds_toArray, List.set_cons_zero, List.set_cons_succ])
          -- @h22
          refine wpAnyH_take (i := 22) (oi := ({ dst := some 77, op := Op.load 2 (Operand.tmp 76), type := 2, pos := "law.go:109", after := #[{ on := 21, ground := Ground.data }, { on := 16, ground := Ground.guard }], guard := some (16, false) } : Oper)) (v := ?_) rfl (by kernel_rfl) (by kernel_rfl) (by kernel_rfl) (fun _ _ _ h => h) (Or.inl ⟨by rfl, ?_⟩) hHeld ?_
          rotate_left
          · ((intro w hSw; obtain ⟨-, -, s9, -, s1, -⟩ := hSw.out; obtain ⟨s3, s4⟩ := CE.out _ _ _ s9; go_simp); (try with_reducible rfl))
          (try simp only [Act.put, List.setIfInBounds_toArray, List.set_cons_zero, List.set_cons_succ])
          -- @h23
          refine wpAnyH_take (i := 23) (oi := ({ dst := some 78, op := Op.binOp BinOp.lss 2 (Operand.tmp 73) (Operand.tmp 77) 2, type := 4, pos := "law.go:109", after := #[{ on := 18, ground := Ground.data }, { on := 22, ground := Ground.data }, { on := 16, ground := Ground.guard }], guard := some (16, false) } : Oper)) (v := ?_) rfl (by kernel_rfl) (by kernel_rfl) (by kernel_rfl) (fun _ _ _ h => h) (Or.inl ⟨by rfl, ?_⟩) hHeld ?_
          rotate_left
          · ((intro w hSw; obtain ⟨-, -, s9, -, s1, -⟩ := hSw.out; obtain ⟨s3, s4⟩ := CE.out _ _ _ s9; go_simp); (try with_reducible rfl))
          (try simp only [Act.put, List.setIfInBounds_toArray, List.set_cons_zero, List.set_cons_succ])
          -- @h24
          refine wpAnyH_take (i := 24) (oi := ({ dst := some 79, op := Op.pick (Operand.tmp 71) (Operand.const (Value.bool true)) (Operand.tmp 78), type := 4, pos := "law.go:109", after := #[{ on := 16, ground := Ground.data }, { on := 23, ground := Ground.data }], guard := none } : Oper)) (v := ?_) rfl (by kernel_rfl) (by kernel_rfl) (by kernel_rfl) (fun _ _ _ h => h) (Or.inl ⟨by rfl, ?_⟩) hHeld ?_
          rotate_left
          · ((intro w hSw; obtain ⟨-, -, s9, -, s1, -⟩ := hSw.out; obtain ⟨s3, s4⟩ := CE.out _ _ _ s9; go_simp); (try with_reducible rfl))
          (try simp only [Act.put, List.setIfInBounds_toArray, List.set_cons_zero, List.set_cons_succ])
          refine wpAnyH_done (by kernel_rfl) ?_ _
          clear hHeld NX
          have K9 := Lib.hid T1.out.2.2.1
          have K7 := Lib.hid T1.out.2.1
          have FF := Lib.hid (FIN.out (e1.setRow g7 AN) (T1.out.1.setRow_far (by have := T1.out.2.2.2.2.2; omega) _) (T1.out.2.1.setRow _) (below_setRow T1.out.2.2.2.1 (G7.out e1 T1.out) _) T1.out.2.2.2.2.2)
          clear T1 FIN
          go_wp2_with (first | refine wpList_load_row rfl 29 _ rfl g9 rfl 29 AN (0, 0) _ K9.out Try.underlying29 rfl iN ?_ | refine wpList_store_row rfl 29 _ _ rfl g7 AN rfl rfl 29 AK K7.out iN kN haN ?_)
          go_roundw
          case rel => exact FF.out
          case measure => have := HLT.out; simp [intOf]; omega
      · obtain rfl : k = n := by omega
        have hfin : (foldC (l.take k)).A = AF := by rw [List.take_of_length_le (by rw [hkn]; exact Nat.le_refl _)]; exact HAF.out
        have K1 := K0.out
        unfold PtK at K1
        rw [hfin] at K1
        have HT : Hid (Kept wr.drew g5 AF 29 ∧ Kept wr.drew g7 AF 29 ∧ Below w.heap.size w wr.drew) := Lib.hid ⟨K1.1.drewN 1, K1.2.1.drewN 1, K1.2.2.1.drew⟩
        have NX : Hid (∀ W W', (Kept W g5 AF 29 ∧ Kept W g7 AF 29 ∧ Below w.heap.size w W) → Below W.heap.size W W' → (Kept W' g5 AF 29 ∧ Kept W' g7 AF 29 ∧ Below w.heap.size w W')) := Lib.hid fun W W' h hb => ⟨h.1.next hb, h.2.1.next hb, h.2.2.trans (hb.mono h.2.2.size)⟩
        clear K0 K1 hfin hlt hk hkn
        go_upto_region 14 with fail
        refine wp_region_held_drew (S := fun W' => Hid (Kept W' g5 AF 29 ∧ Kept W' g7 AF 29 ∧ Below w.heap.size w W')) (by kernel_rfl) HT (fun hHeld => ?_)
        generalize wr.drew = v0 at *
        -- @h0
        refine wpAnyH_take (i := 0) (oi := ({ dst := some 81, op := Op.move (Operand.tmp 6), type := 38, pos := "law.go:114", after := #[], guard := none } : Oper)) (v := ?_) rfl (by kernel_rfl) (by kernel_rfl) (by kernel_rfl) (fun _ _ _ h => h) (Or.inl ⟨by rfl, ?_⟩) hHeld ?_
        rotate_left
        · ((intro w hSw; (try dsimp only at hSw); go_simp); (try with_reducible rfl))
        (try simp only [Act.put, List.setIfInBounds_toArray, List.set_cons_zero, List.set_cons_succ])
        -- @h1
        refine wpAnyH_take (i := 1) (oi := ({ dst := some 82, op := Op.binOp BinOp.eql 38 (Operand.tmp 81) (Operand.const (Value.int IntKind.i64 0)) 38, type := 4, pos := "law.go:114", after := #[{ on := 0, ground := Ground.data }], guard := none } : Oper)) (v := ?_) rfl (by kernel_rfl) (by kernel_rfl) (by kernel_rfl) (fun _ _ _ h => h) (Or.inl ⟨by rfl, ?_⟩) hHeld ?_
        rotate_left
        · ((intro w hSw; (try dsimp only at hSw); go_simp); (try with_reducible rfl))
        (try simp only [Act.put, List.setIfInBounds_toArray, List.set_cons_zero, List.set_cons_succ])
        -- @h2
        refine wpAnyH_take (i := 2) (oi := ({ dst := some 83, op := Op.move (Operand.tmp 82), type := 4, pos := "law.go:114", after := #[{ on := 1, ground := Ground.data }], guard := none } : Oper)) (v := ?_) rfl (by kernel_rfl) (by kernel_rfl) (by kernel_rfl) (fun _ _ _ h => h) (Or.inl ⟨by rfl, ?_⟩) hHeld ?_
        rotate_left
        · ((intro w hSw; (try dsimp only at hSw); go_simp); (try with_reducible rfl))
        (try simp only [Act.put, List.setIfInBounds_toArray, List.set_cons_zero, List.set_cons_succ])
        -- @h3
        refine wpAnyH_take (i := 3) (oi := ({ dst := some 84, op := Op.load 29 (Operand.tmp 5), type := 29, pos := "law.go:114", after := #[{ on := 2, ground := Ground.guard }], guard := some (2, true) } : Oper)) (v := .agg AF) rfl (by kernel_rfl) (by kernel_rfl) (by kernel_rfl) (fun _ _ _ h => h) (yieldsIf_row (by rfl) 29 _ rfl g5 rfl AF (fun w' hw' => by exact hw'.out.1) Try.underlying29 rfl iF) hHeld ?_
        (try simp only [Act.put, List.setIfInBounds_toArray, List.set_cons_zero, List.set_cons_succ])
        -- @h4
        refine wpAnyH_take (i := 4) (oi := ({ dst := some 85, op := Op.load 29 (Operand.tmp 7), type := 29, pos := "law.go:114", after := #[{ on := 2, ground := Ground.guard }], guard := some (2, true) } : Oper)) (v := .agg AF) rfl (by kernel_rfl) (by kernel_rfl) (by kernel_rfl) (fun _ _ _ h => h) (yieldsIf_row (by rfl) 29 _ rfl g7 rfl AF (fun w' hw' => by exact hw'.out.2.1) Try.underlying29 rfl iF) hHeld ?_
        (try simp only [Act.put, List.setIfInBounds_toArray, List.set_cons_zero, List.set_cons_succ])
        -- @h5
        refine wpAnyH_take (i := 5) (oi := ({ dst := some 86, op := Op.binOp BinOp.eql 29 (Operand.tmp 84) (Operand.tmp 85) 29, type := 4, pos := "law.go:114", after := #[{ on := 3, ground := Ground.data }, { on := 4, ground := Ground.data }, { on := 2, ground := Ground.guard }], guard := some (2, true) } : Oper)) (v := .bool true) rfl (by kernel_rfl) (by kernel_rfl) (by kernel_rfl) (fun _ _ _ h => h) (Or.inl ⟨by rfl, fun w hSw => c_eql_at _ _ _ _ _ w rfl (by rfl) (by rfl) HEQF.out⟩) hHeld ?_
        (try simp only [Act.put, List.setIfInBounds_toArray, List.set_cons_zero, List.set_cons_succ])
        -- @h6
        refine wpAnyH_take (i := 6) (oi := ({ dst := some 87, op := Op.pick (Operand.tmp 83) (Operand.tmp 86) (Operand.const (Value.bool false)), type := 4, pos := "law.go:114", after := #[{ on := 2, ground := Ground.data }, { on := 5, ground := Ground.data }], guard := none } : Oper)) (v := ?_) rfl (by kernel_rfl) (by kernel_rfl) (by kernel_rfl) (fun _ _ _ h => h) (Or.inl ⟨by rfl, ?_⟩) hHeld ?_
        rotate_left
        · ((intro w hSw; (try dsimp only at hSw); go_simp); (try with_reducible rfl))
        (try simp only [Act.put, List.setIfInBounds_toArray, List.set_cons_zero, List.set_cons_succ])
        -- @h7
        refine wpAnyH_take (i := 7) (oi := ({ dst := some 88, op := Op.move (Operand.tmp 87), type := 4, pos := "law.go:114", after := #[{ on := 6, ground := Ground.data }, { on := 2, ground := Ground.chain }], guard := none } : Oper)) (v := ?_) rfl (by kernel_rfl) (by kernel_rfl) (by kernel_rfl) (fun _ _ _ h => h) (Or.inl ⟨by rfl, ?_⟩) hHeld ?_
        rotate_left
        · ((intro w hSw; (try dsimp only at hSw); go_simp); (try with_reducible rfl))
        (try simp only [Act.put, List.setIfInBounds_toArray, List.set_cons_zero, List.set_cons_succ])
        -- @h8
        refine wpAnyH_take (i := 8) (oi := ({ dst := some 89, op := Op.load 29 (Operand.tmp 5), type := 29, pos := "law.go:114", after := #[{ on := 7, ground := Ground.guard }], guard := some (7, true) } : Oper)) (v := .agg AF) rfl (by kernel_rfl) (by kernel_rfl) (by kernel_rfl) (fun _ _ _ h => h) (yieldsIf_row (by rfl) 29 _ rfl g5 rfl AF (fun w' hw' => by exact hw'.out.1) Try.underlying29 rfl iF) hHeld ?_
        (try simp only [Act.put, List.setIfInBounds_toArray, List.set_cons_zero, List.set_cons_succ])
        -- @h9
        refine wpAnyH_take (i := 9) (oi := ({ dst := some 90, op := Op.move (Operand.tmp 0), type := 22, pos := "law.go:114", after := #[{ on := 7, ground := Ground.guard }], guard := some (7, true) } : Oper)) (v := ?_) rfl (by kernel_rfl) (by kernel_rfl) (by kernel_rfl) (fun _ _ _ h => h) (Or.inl ⟨by rfl, ?_⟩) hHeld ?_
        rotate_left
        · ((intro w hSw; (try dsimp only at hSw); go_simp); (try with_reducible rfl))
        (try simp only [Act.put, List.setIfInBounds_toArray, List.set_cons_zero, List.set_cons_succ])
        refine wpAnyH_ready (rs := [10]) (by kernel_rfl) (by simp) ?_
        refine AllReadyH.cons (o := ({ dst := some 91, op := Op.call { callee := Callee.value (Operand.func 9), args := #[Operand.tmp 90], argTypes := #[22] }, type := 29, pos := "law.go:114", after := #[{ on := 9, ground := Ground.data }, { on := 7, ground := Ground.chain }, { on := 7, ground := Ground.guard }], guard := some (7, true) } : Oper)) rfl (fun K hK => ?_) (AllReadyH.nil)
        go_simp
        (with_reducible refine (CF0.out _ HT.out.2.2).mono ?_)
        rintro _ y1 ⟨rfl, bb⟩
        have T1 := Lib.hid (NX.out _ _ HT.out bb)
        clear bb
        refine hK.out _ _ ?_ (fun hHeld => ?_)
        · exact T1
        clear hK K
        (try simp only [Act.put, List.setIfInBounds_toArray, List.set_cons_zero, List.set_cons_succ])
        -- @h11
        refine wpAnyH_take (i := 11) (oi := ({ dst := some 92, op := Op.binOp BinOp.eql 29 (Operand.tmp 89) (Operand.tmp 91) 29, type := 4, pos := "law.go:114", after := #[{ on := 8, ground := Ground.data }, { on := 10, ground := Ground.data }, { on := 7, ground := Ground.guard }], guard := some (7, true) } : Oper)) (v := .bool true) rfl (by kernel_rfl) (by kernel_rfl) (by kernel_rfl) (fun _ _ _ h => h) (Or.inl ⟨by rfl, fun w hSw => c_eql_at _ _ _ _ _ w rfl (by rfl) (by rfl) HEQF.out⟩) hHeld ?_
        (try simp only [Act.put, List.setIfInBounds_toArray, List.set_cons_zero, List.set_cons_succ])
        -- @h12
        refine wpAnyH_take (i := 12) (oi := ({ dst := some 93, op := Op.pick (Operand.tmp 88) (Operand.tmp 92) (Operand.const (Value.bool false)), type := 4, pos := "law.go:114", after := #[{ on := 7, ground := Ground.data }, { on := 11, ground := Ground.data }], guard := none } : Oper)) (v := ?_) rfl (by kernel_rfl) (by kernel_rfl) (by kernel_rfl) (fun _ _ _ h => h) (Or.inl ⟨by rfl, ?_⟩) hHeld ?_
        rotate_left
        · ((intro w hSw; (try dsimp only at hSw); go_simp); (try with_reducible rfl))
        (try simp only [Act.put, List.setIfInBounds_toArray, List.set_cons_zero, List.set_cons_succ])
        -- @h13
        refine wpAnyH_take (i := 13) (oi := ({ dst := some 94, op := Op.move (Operand.tmp 93), type := 4, pos := "law.go:114", after := #[{ on := 12, ground := Ground.data }, { on := 10, ground := Ground.chain }], guard := none } : Oper)) (v := ?_) rfl (by kernel_rfl) (by kernel_rfl) (by kernel_rfl) (fun _ _ _ h => h) (Or.inl ⟨by rfl, ?_⟩) hHeld ?_
        rotate_left
        · ((intro w hSw; (try dsimp only at hSw); go_simp); (try with_reducible rfl))
        (try simp only [Act.put, List.setIfInBounds_toArray, List.set_cons_zero, List.set_cons_succ])
        -- @h14
        refine wpAnyH_take (i := 14) (oi := ({ dst := some 95, op := Op.load 29 (Operand.tmp 5), type := 29, pos := "law.go:114", after := #[{ on := 13, ground := Ground.guard }], guard := some (13, true) } : Oper)) (v := .agg AF) rfl (by kernel_rfl) (by kernel_rfl) (by kernel_rfl) (fun _ _ _ h => h) (yieldsIf_row (by rfl) 29 _ rfl g5 rfl AF (fun w' hw' => by exact hw'.out.1) Try.underlying29 rfl iF) hHeld ?_
        (try simp only [Act.put, List.setIfInBounds_toArray, List.set_cons_zero, List.set_cons_succ])
        refine wpAnyH_ready (rs := [15]) (by kernel_rfl) (by simp) ?_
        refine AllReadyH.cons (o := ({ dst := some 96, op := Op.call { callee := Callee.value (Operand.func 12), args := #[Operand.tmp 95], argTypes := #[29] }, type := 4, pos := "law.go:114", after := #[{ on := 14, ground := Ground.data }, { on := 13, ground := Ground.chain }, { on := 13, ground := Ground.guard }], guard := some (13, true) } : Oper)) rfl (fun K hK => ?_) (AllReadyH.nil)
        go_simp
        (with_reducible refine (CR0.out _).mono ?_)
        rintro _ y2 ⟨rfl, bb⟩
        have T2 := Lib.hid (NX.out _ _ T1.out bb)
        clear bb
        refine hK.out _ _ ?_ (fun hHeld => ?_)
        · exact T2
        clear hK K
        (try simp only [Act.put, List.setIfInBounds_toArray, List.set_cons_zero, List.set_cons_succ])
        -- @h16
        refine wpAnyH_take (i := 16) (oi := ({ dst := some 97, op := Op.pick (Operand.tmp 94) (Operand.tmp 96) (Operand.const (Value.bool false)), type := 4, pos := "law.go:114", after := #[{ on := 13, ground := Ground.data }, { on := 15, ground := Ground.data }], guard := none } : Oper)) (v := ?_) rfl (by kernel_rfl) (by kernel_rfl) (by kernel_rfl) (fun _ _ _ h => h) (Or.inl ⟨by rfl, ?_⟩) hHeld ?_
        rotate_left
        · ((intro w hSw; (try dsimp only at hSw); go_simp); (try with_reducible rfl))
        (try simp only [Act.put, List.setIfInBounds_toArray, List.set_cons_zero, List.set_cons_succ])
        -- @h17
        refine wpAnyH_take (i := 17) (oi := ({ dst := some 4, op := Op.assign (Operand.tmp 97), type := 4, pos := "law.go:114", after := #[{ on := 16, ground := Ground.data }, { on := 15, ground := Ground.chain }, { on := 0, ground := Ground.phase }, { on := 1, ground := Ground.phase }, { on := 2, ground := Ground.phase }, { on := 3, ground := Ground.phase }, { on := 4, ground := Ground.phase }, { on := 5, ground := Ground.phase }, { on := 6, ground := Ground.phase }, { on := 7, ground := Ground.phase }, { on := 8, ground := Ground.phase }, { on := 9, ground := Ground.phase }, { on := 10, ground := Ground.phase }, { on := 11, ground := Ground.phase }, { on := 12, ground := Ground.phase }, { on := 13, ground := Ground.phase }, { on := 14, ground := Ground.phase }, { on := 15, ground := Ground.phase }, { on := 16, ground := Ground.phase }], guard := none } : Oper)) (v := ?_) rfl (by kernel_rfl) (by kernel_rfl) (by kernel_rfl) (fun _ _ _ h => h) (Or.inl ⟨by rfl, ?_⟩) hHeld ?_
        rotate_left
        · ((intro w hSw; (try dsimp only at hSw); go_simp); (try with_reducible rfl))
        (try simp only [Act.put, List.setIfInBounds_toArray, List.set_cons_zero, List.set_cons_succ])
        refine wpAnyH_done (by kernel_rfl) ?_ _
        have TT := T2.out.2.2
        clear hHeld
        go_wp2
        go_ret
        exact ⟨rfl, TT⟩

end Go.Proofs.Ytpmoidpncpfnlaa
