/- HistParts for every input: of gen_parts05.py. -/
import Derived.Test.YtldgdedfioigiaaAlive
import Derived.Test.YtldgdedfioigiaaOrdM
import Derived.Test.YtldgdedfioigiaaPartM
import Derived.Test.YtldgdedfioigiaaEqA
import Derived.Deep.DeepCutAuto
namespace Go.Proofs.Ytldgdedfioigiaa
open Go.RowKit
set_option linter.unusedVariables false
set_option linter.unusedSimpArgs false

def AtRow (w : World) (C : Array Value) (p q : Value) (wx : World) : Prop := ∃ g : Nat, p = .pointer (some ⟨g, 0, none⟩) ∧ q = .int .i64 0 ∧ Hid (w.heap.size ≤ g ∧ Kept wx g C 33 ∧ Below w.heap.size w wx)
def PaRel (l : List Int) (w : World) (ga gh : Nat) (C : Array Value) (i : Value) (wr : World) : Prop := ∃ k : Nat, k ≤ l.length ∧ i = .int .i64 k ∧ Hid (Kept wr ga C 33) ∧ Hid (Kept wr gh (hC (cntL (l.take k))) 33) ∧ Hid (Below w.heap.size w wr)
def PaIn (w : World) (ga gh : Nat) (C D E : Array Value) (p q : Value) (wx : World) : Prop := ∃ g : Nat, p = .pointer (some ⟨g, 0, none⟩) ∧ q = .int .i64 0 ∧ Hid (w.heap.size ≤ g ∧ g ≠ ga ∧ g ≠ gh ∧ Kept wx g E 33 ∧ Kept wx ga C 33 ∧ Kept wx gh D 33 ∧ Below w.heap.size w wx)
set_option maxHeartbeats 1000000 in
set_option maxRecDepth 1000000 in
theorem parts_any (a a2 : Option Addr) (c cut : Nat) (l : List Int) (w : World) (hr : IntRow w a .i64 l) (hr2 : IntRow w a2 .i64 (l.drop cut)) (hin : ∀ x ∈ l, InI x) (hl : l.length ≤ 200) (hcut : cut ≤ l.length) (hlc : l.length ≤ c)
    (hs1 : ∀ W, (Instr.slice 30 (.slice a l.length c) none (some (.int .i64 (cut : Int))) none).run Try.prog W = .ok (.slice a cut c) W)
    (hs2 : ∀ W, (Instr.slice 30 (.slice a l.length c) (some (.int .i64 (cut : Int))) none none).run Try.prog W = .ok (.slice a2 (l.length - cut) (c - cut)) W) :
    Calls Try.prog 6 #[.slice a l.length c, .int .i64 (cut : Int)] w fun e w' => e = .returned (.bool true) ∧ Below w.heap.size w w' := by
  have hz := h_zero
  have HR := Lib.hid hr
  have HN := Lib.hid hin
  have HLL := Lib.hid hl
  have in1 : ∀ x ∈ l.take cut, InI x := fun x hx => hin x (List.mem_of_mem_take hx)
  have in2' : ∀ x ∈ l.drop cut, InI x := fun x hx => hin x (List.mem_of_mem_drop hx)
  have n1 : (l.take cut).length = cut := by rw [List.length_take]; omega
  have n2 : (l.drop cut).length = l.length - cut := List.length_drop
  have COf := Lib.hid (fun (W : World) (hb : Below w.heap.size w W) => hof_any a c l W (hr.below hb) hin (by omega))
  have CO1 := Lib.hid (fun (W : World) (hb : Below w.heap.size w W) => hof_any a c (l.take cut) W ((hr.below hb).take cut) in1 (by omega))
  have CO2 := Lib.hid (fun (W : World) (hb : Below w.heap.size w W) => hof_any a2 (c - cut) (l.drop cut) W (hr2.below hb) in2' (by omega))
  rw [n1] at CO1
  rw [n2] at CO2
  have CM : Hid (∀ (W : World) (b : Nat), Kept W b (hC (cntL (l.take cut)) ++ hC (cntL (l.drop cut))) 33 → Calls Try.prog 16 #[.slice (some ⟨b, 0, none⟩) 2 2] W (Gives (.tuple #[.agg (hC (cntL l)), .int .i64 0]) W)) := Lib.hid fun W b hb =>
    (merge_any _ 2 [cntL (l.take cut), cntL (l.drop cut)] W (rows2 (cntL_len _) (cntL_len _) hb) (all2 (cntL_len _) (cntL_len _)) (by simp) (in2 (cntL_in _ (by omega)) (cntL_in _ (by omega)))).mono fun e w' h => by
      have := mg_cnt (by omega) h
      rwa [List.take_append_drop] at this
  have ci : (Try.prog.info? 33).map (·.size) = some (hC (cntL l)).size := by rw [hC_size, cntL_len]; exact h_info
  have e0 : (hC zeros65).size = (hC (cntL l)).size := by rw [hC_size, hC_size, zeros65_len, cntL_len]
  have o0 := hC_cells (cntL l)
  have hgd := h_guard
  have HE := Lib.hid (fun W => (h_eql (cntL_len l) (cntL_len l) W).trans (by rw [decide_eq_true rfl]))
  have CA : Hid (∀ (k : Nat) (hk : k < l.length) (W : World), Calls Try.prog 19 #[.agg (hC (cntL (l.take k))), .int .i64 (l.getD k 0)] W (Gives (.tuple #[.agg (hC (cntL (l.take (k + 1)))), .int .i64 0]) W)) := Lib.hid fun k hk W =>
    (add_any (cntL (l.take k)) (l.getD k 0) W (cntL_len _) (cntL_in _ (by rw [List.length_take]; omega)) (getD_in hin k hk)).mono fun e w' h => by
      have := mg_cnt (by rw [List.length_take, List.length_singleton]; omega) h
      rwa [← take_int l k hk] at this
  have CT := Lib.hid (fun W => (total_any (cntL l) W (cntL_len _) (cntL_in l (by omega))).mono fun e w' h => by rw [cnt_all l hin] at h; exact h)
  have CW := Lib.hid (fun (W : World) => wof_any (l.length : Int) W (by unfold InI; omega))
  unfold wI at CT CW
  generalize hiW (l.length : Int) = X1 at CT CW
  generalize loW (l.length : Int) = X2 at CT CW
  have q1 : ¬ (200 : Int) < (l.length : Int) := by omega
  have q2 : ¬ (cut : Int) < 0 := by omega
  have q3 : ¬ (l.length : Int) < (cut : Int) := by omega
  obtain ⟨ie, hie, hiz, his⟩ : ∃ ie, Try.prog.info? 33 = some ie ∧ ie.zero = some (.agg (hC zeros65)) ∧ ie.size = 65 := by
    have e := h_zero0
    cases hq : Try.prog.info? 33 with
    | none => simp [hq] at e
    | some i => simp [hq] at e; exact ⟨i, rfl, e.1, e.2⟩
  have hfill := fun cells hc => fill2 (C := hC (cntL (l.take cut))) (D := hC (cntL (l.drop cut))) (cells := cells) (by rw [hC_size, cntL_len]) (by rw [hC_size, cntL_len]) hc
  have zz : (hC zeros65).size = 65 := by rw [hC_size, zeros65_len]
  have HZ0 : Hid (hC zeros65 = hC (cntL (l.take 0))) := Lib.hid (by rw [List.take_zero, cntL_nil])
  generalize hC zeros65 = Z at *
  have HF := Lib.hid (hfill ((Array.range (2 * 65)).map ((Value.agg Z).cells[· % (Value.agg Z).cells.size]!)) (by simp))
  clear hfill hr hr2 hin hl hcut hlc in1 in2' n1 n2
  obtain ⟨C, hC0⟩ : ∃ C, hC (cntL l) = C := ⟨_, rfl⟩
  have HCL := Lib.hid hC0
  rw [hC0] at COf CM ci e0 o0 HE CT
  generalize hC (cntL (l.take cut)) = C1 at *
  generalize hC (cntL (l.drop cut)) = C2 at *
  obtain ⟨CD, hCD⟩ : ∃ CD, C1 ++ C2 = CD := ⟨_, rfl⟩
  rw [hCD] at HF CM
  clear hC0 hCD
  have hfill := HF.out
  clear HF
  go_enter Try.func6, Try.ntmps6
  go_wp2_with fail
  refine (alive_any _).mono ?_
  rintro _ w1 ⟨rfl, b1⟩
  have B1 := Lib.hid b1
  clear b1
  go_upto_region 5 with fail
  go_cut [5, 6] (fun p q wx => AtRow w C p q wx)
  case first =>
    have FIN : Hid (∀ (g : Nat) (W : World), w.heap.size ≤ g → Kept W g C 33 → Below w.heap.size w W → AtRow w C (.pointer (some ⟨g, 0, none⟩)) (.int .i64 0) W) := Lib.hid fun g W h1 h2 h3 => ⟨g, rfl, rfl, Lib.hid ⟨h1, h2, h3⟩⟩
    have B2 : Hid (Below w.heap.size w w1.drew) := Lib.hid B1.out.drew
    refine wp_region_held_drew (S := fun w' => True) (by kernel_rfl) trivial (fun hHeld => ?_)
    generalize w1.drew = v2 at *
    refine wpAnyH_take (i := 0) (oi := ({ dst := some 27, op := Op.move (Operand.tmp 0), type := 30, pos := "law.go:124", after := #[], guard := none } : Oper)) (v := ?_) rfl (by kernel_rfl) (by kernel_rfl) (by kernel_rfl) (fun _ _ _ h => h) (Or.inl ⟨by rfl, ?_⟩) hHeld ?_
    rotate_left
    · ((intro w hSw; (try dsimp only at hSw); go_simp); (try with_reducible rfl))
    (try simp only [Act.put, List.setIfInBounds_toArray, List.set_cons_zero, List.set_cons_succ])
    refine wpAnyH_take (i := 1) (oi := ({ dst := some 28, op := Op.move (Operand.tmp 1), type := 3, pos := "law.go:124", after := #[], guard := none } : Oper)) (v := ?_) rfl (by kernel_rfl) (by kernel_rfl) (by kernel_rfl) (fun _ _ _ h => h) (Or.inl ⟨by rfl, ?_⟩) hHeld ?_
    rotate_left
    · ((intro w hSw; (try dsimp only at hSw); go_simp); (try with_reducible rfl))
    (try simp only [Act.put, List.setIfInBounds_toArray, List.set_cons_zero, List.set_cons_succ])
    refine wpAnyH_take (i := 2) (oi := ({ dst := some 29, op := Op.slice 30 (Operand.tmp 27) none (some (Operand.tmp 28)) none, type := 30, pos := "law.go:124", after := #[{ on := 0, ground := Ground.data }, { on := 1, ground := Ground.data }], guard := none } : Oper)) (v := ?_) rfl (by kernel_rfl) (by kernel_rfl) (by kernel_rfl) (fun _ _ _ h => h) (Or.inl ⟨by rfl, ?_⟩) hHeld ?_
    rotate_left
    · ((intro w hSw; (try dsimp only at hSw); go_simp); (try with_reducible rfl))
    (try simp only [Act.put, List.setIfInBounds_toArray, List.set_cons_zero, List.set_cons_succ])
    refine wpAnyH_take (i := 4) (oi := ({ dst := some 31, op := Op.move (Operand.tmp 0), type := 30, pos := "law.go:124", after := #[], guard := none } : Oper)) (v := ?_) rfl (by kernel_rfl) (by kernel_rfl) (by kernel_rfl) (fun _ _ _ h => h) (Or.inl ⟨by rfl, ?_⟩) hHeld ?_
    rotate_left
    · ((intro w hSw; (try dsimp only at hSw); go_simp); (try with_reducible rfl))
    (try simp only [Act.put, List.setIfInBounds_toArray, List.set_cons_zero, List.set_cons_succ])
    refine wpAnyH_take (i := 5) (oi := ({ dst := some 32, op := Op.move (Operand.tmp 1), type := 3, pos := "law.go:124", after := #[], guard := none } : Oper)) (v := ?_) rfl (by kernel_rfl) (by kernel_rfl) (by kernel_rfl) (fun _ _ _ h => h) (Or.inl ⟨by rfl, ?_⟩) hHeld ?_
    rotate_left
    · ((intro w hSw; (try dsimp only at hSw); go_simp); (try with_reducible rfl))
    (try simp only [Act.put, List.setIfInBounds_toArray, List.set_cons_zero, List.set_cons_succ])
    refine wpAnyH_take (i := 6) (oi := ({ dst := some 33, op := Op.slice 30 (Operand.tmp 31) (some (Operand.tmp 32)) none none, type := 30, pos := "law.go:124", after := #[{ on := 4, ground := Ground.data }, { on := 5, ground := Ground.data }], guard := none } : Oper)) (v := ?_) rfl (by kernel_rfl) (by kernel_rfl) (by kernel_rfl) (fun _ _ _ h => h) (Or.inl ⟨by rfl, ?_⟩) hHeld ?_
    rotate_left
    · ((intro w hSw; (try dsimp only at hSw); go_simp); (try with_reducible rfl))
    (try simp only [Act.put, List.setIfInBounds_toArray, List.set_cons_zero, List.set_cons_succ])
    refine wpAnyH_ready (rs := [3, 13]) (by kernel_rfl) (by simp) ?_
    refine AllReadyH.cons (o := ({ dst := some 30, op := Op.call { callee := Callee.value (Operand.func 14), args := #[Operand.tmp 29], argTypes := #[30] }, type := 33, pos := "law.go:124", after := #[{ on := 2, ground := Ground.data }], guard := none } : Oper)) rfl (fun K hK => ?_) (AllReadyH.cons (o := ({ dst := some 5, op := Op.alloc 33, type := 0, pos := "law.go:124", after := #[], guard := none } : Oper)) rfl (fun K hK => ?_) (AllReadyH.nil))
    · go_simp
      (with_reducible refine (CO1.out _ B2.out).mono ?_)
      rintro _ v3 ⟨rfl, b3⟩
      have B3 := Lib.hid (B2.out.trans (b3.mono B2.out.size))
      clear b3
      refine hK.out _ _ ?_ (fun hHeld => ?_)
      · trivial
      clear hK K
      (try simp only [Act.put, List.setIfInBounds_toArray, List.set_cons_zero, List.set_cons_succ])
      refine wpAnyH_ready (rs := [7, 13]) (by kernel_rfl) (by simp) ?_
      refine AllReadyH.cons (o := ({ dst := some 34, op := Op.call { callee := Callee.value (Operand.func 14), args := #[Operand.tmp 33], argTypes := #[30] }, type := 33, pos := "law.go:124", after := #[{ on := 6, ground := Ground.data }, { on := 3, ground := Ground.chain }], guard := none } : Oper)) rfl (fun K hK => ?_) (AllReadyH.cons (o := ({ dst := some 5, op := Op.alloc 33, type := 0, pos := "law.go:124", after := #[], guard := none } : Oper)) rfl (fun K hK => ?_) (AllReadyH.nil))
      · go_simp
        (with_reducible refine (CO2.out _ B3.out).mono ?_)
        rintro _ v4 ⟨rfl, b4⟩
        have B4 := Lib.hid (B3.out.trans (b4.mono B3.out.size))
        clear b4
        refine hK.out _ _ ?_ (fun hHeld => ?_)
        · trivial
        clear hK K
        (try simp only [Act.put, List.setIfInBounds_toArray, List.set_cons_zero, List.set_cons_succ])
        refine wpAnyH_ready (rs := [8, 13]) (by kernel_rfl) (by simp) ?_
        refine AllReadyH.cons (o := ({ dst := some 35, op := Op.buildSlice 36 2 #[(0, Operand.tmp 30), (1, Operand.tmp 34)], type := 36, pos := "law.go:124", after := #[{ on := 3, ground := Ground.data }, { on := 7, ground := Ground.data }], guard := none } : Oper)) rfl (fun K hK => ?_) (AllReadyH.cons (o := ({ dst := some 5, op := Op.alloc 33, type := 0, pos := "law.go:124", after := #[], guard := none } : Oper)) rfl (fun K hK => ?_) (AllReadyH.nil))
        · rw [if_pos (by rfl)]
          refine wp_buildSlice _ _ 2 _ rfl CD ie (.agg Z) rfl hie hiz (by rw [his]; decide) (by rw [his]; decide) (by rw [his]; refine Eq.trans (congrArg (Instr.fill _ _) ?_) hfill; simp [Act.eval]) ?_
          have G5 : Hid (Kept (v4.alloc (.cells CD 33)) (v4.heap.size) CD 33) := Lib.hid (Kept.new (by simp))
          have B5 := Lib.hid (B4.out.alloc B4.out.size (.cells CD 33))
          refine hK.out _ _ ?_ (fun hHeld => ?_)
          · trivial
          clear hK K
          (try simp only [Act.put, List.setIfInBounds_toArray, List.set_cons_zero, List.set_cons_succ])
          refine wpAnyH_ready (rs := [9, 13]) (by kernel_rfl) (by simp) ?_
          refine AllReadyH.cons (o := ({ dst := some 36, op := Op.call { callee := Callee.value (Operand.func 16), args := #[Operand.tmp 35], argTypes := #[36] }, type := 38, pos := "law.go:124", after := #[{ on := 8, ground := Ground.data }, { on := 7, ground := Ground.chain }], guard := none } : Oper)) rfl (fun K hK => ?_) (AllReadyH.cons (o := ({ dst := some 5, op := Op.alloc 33, type := 0, pos := "law.go:124", after := #[], guard := none } : Oper)) rfl (fun K hK => ?_) (AllReadyH.nil))
          · go_simp
            (with_reducible refine (CM.out _ _ G5.out).mono ?_)
            rintro _ v6 ⟨rfl, b6⟩
            have B6 := Lib.hid (B5.out.trans (b6.mono B5.out.size))
            clear b6
            refine hK.out _ _ ?_ (fun hHeld => ?_)
            · trivial
            clear hK K
            (try simp only [Act.put, List.setIfInBounds_toArray, List.set_cons_zero, List.set_cons_succ])
            refine wpAnyH_take (i := 10) (oi := ({ dst := some 26, op := Op.move (Operand.tmp 36), type := 38, pos := "law.go:124", after := #[{ on := 9, ground := Ground.data }], guard := none } : Oper)) (v := ?_) rfl (by kernel_rfl) (by kernel_rfl) (by kernel_rfl) (fun _ _ _ h => h) (Or.inl ⟨by rfl, ?_⟩) hHeld ?_
            rotate_left
            · ((intro w hSw; (try dsimp only at hSw); go_simp); (try with_reducible rfl))
            (try simp only [Act.put, List.setIfInBounds_toArray, List.set_cons_zero, List.set_cons_succ])
            refine wpAnyH_take (i := 11) (oi := ({ dst := some 37, op := Op.extract (Operand.tmp 26) 0, type := 33, pos := "law.go:124", after := #[{ on := 10, ground := Ground.data }], guard := none } : Oper)) (v := ?_) rfl (by kernel_rfl) (by kernel_rfl) (by kernel_rfl) (fun _ _ _ h => h) (Or.inl ⟨by rfl, ?_⟩) hHeld ?_
            rotate_left
            · ((intro w hSw; (try dsimp only at hSw); go_simp); (try with_reducible rfl))
            (try simp only [Act.put, List.setIfInBounds_toArray, List.set_cons_zero, List.set_cons_succ])
            refine wpAnyH_take (i := 12) (oi := ({ dst := some 38, op := Op.extract (Operand.tmp 26) 1, type := 37, pos := "law.go:124", after := #[{ on := 10, ground := Ground.data }, { on := 14, ground := Ground.gcOnly Departure.lateStores }], guard := none } : Oper)) (v := ?_) rfl (by kernel_rfl) (by kernel_rfl) (by kernel_rfl) (fun _ _ _ h => h) (Or.inl ⟨by rfl, ?_⟩) hHeld ?_
            rotate_left
            · ((intro w hSw; (try dsimp only at hSw); go_simp); (try with_reducible rfl))
            (try simp only [Act.put, List.setIfInBounds_toArray, List.set_cons_zero, List.set_cons_succ])
            refine wpAnyH_ready (rs := [13]) (by kernel_rfl) (by simp) ?_
            refine AllReadyH.cons (o := ({ dst := some 5, op := Op.alloc 33, type := 0, pos := "law.go:124", after := #[], guard := none } : Oper)) rfl (fun K hK => ?_) (AllReadyH.nil)
            go_simp
            have A7 : Hid (Kept (v6.alloc (.cells Z 33)) (v6.heap.size) Z 33) := Lib.hid (Kept.new (by simp))
            have L7 : Hid (w.heap.size ≤ v6.heap.size) := Lib.hid (by have := B6.out.size; (try simp at this); omega)
            have B7 := Lib.hid (B6.out.alloc B6.out.size (.cells Z 33))
            have G7 := Lib.hid (G5.out.alloc (.cells Z 33))
            refine hK.out _ _ ?_ (fun hHeld => ?_)
            · trivial
            clear hK K
            (try simp only [Act.put, List.setIfInBounds_toArray, List.set_cons_zero, List.set_cons_succ])
            refine wpAnyH_ready (rs := [14]) (by kernel_rfl) (by simp) ?_
            refine AllReadyH.cons (o := ({ dst := none, op := Op.store 33 (Operand.tmp 5) (Operand.tmp 37), type := 0, pos := "law.go:124", after := #[{ on := 13, ground := Ground.data }, { on := 11, ground := Ground.data }, { on := 9, ground := Ground.chain }, { on := 0, ground := Ground.phase }, { on := 1, ground := Ground.phase }, { on := 2, ground := Ground.phase }, { on := 3, ground := Ground.phase }, { on := 4, ground := Ground.phase }, { on := 5, ground := Ground.phase }, { on := 6, ground := Ground.phase }, { on := 7, ground := Ground.phase }, { on := 8, ground := Ground.phase }, { on := 9, ground := Ground.phase }, { on := 10, ground := Ground.phase }, { on := 11, ground := Ground.phase }, { on := 12, ground := Ground.textOnly Departure.lateStores }, { on := 13, ground := Ground.phase }], guard := none } : Oper)) rfl (fun K hK => ?_) (AllReadyH.nil)
            rw [if_pos (by rfl)]
            refine wp_store_row _ _ _ rfl (v6.heap.size) C rfl rfl _ Z A7.out ci e0 o0 ?_
            have A8 := Lib.hid (A7.out.setRow C)
            have B8 := Lib.hid (below_setRow B7.out L7.out C)
            refine hK.out _ _ ?_ (fun hHeld => ?_)
            · trivial
            clear hK K
            (try simp only [Act.put, List.setIfInBounds_toArray, List.set_cons_zero, List.set_cons_succ])
            refine wpAnyH_take (i := 15) (oi := ({ dst := some 6, op := Op.assign (Operand.tmp 38), type := 37, pos := "law.go:124", after := #[{ on := 12, ground := Ground.data }, { on := 14, ground := Ground.chain }, { on := 0, ground := Ground.phase }, { on := 1, ground := Ground.phase }, { on := 2, ground := Ground.phase }, { on := 3, ground := Ground.phase }, { on := 4, ground := Ground.phase }, { on := 5, ground := Ground.phase }, { on := 6, ground := Ground.phase }, { on := 7, ground := Ground.phase }, { on := 8, ground := Ground.phase }, { on := 9, ground := Ground.phase }, { on := 10, ground := Ground.phase }, { on := 11, ground := Ground.phase }, { on := 12, ground := Ground.phase }, { on := 13, ground := Ground.phase }, { on := 14, ground := Ground.phase }], guard := none } : Oper)) (v := ?_) rfl (by kernel_rfl) (by kernel_rfl) (by kernel_rfl) (fun _ _ _ h => h) (Or.inl ⟨by rfl, ?_⟩) hHeld ?_
            rotate_left
            · ((intro w hSw; (try dsimp only at hSw); go_simp); (try with_reducible rfl))
            (try simp only [Act.put, List.setIfInBounds_toArray, List.set_cons_zero, List.set_cons_succ])
            refine wpAnyH_done (by kernel_rfl) ?_ _
            have FF := Lib.hid (FIN.out _ _ L7.out A8.out B8.out)
            go_wp2_with fail
            go_meet
            case rel => exact FF.out
          · go_simp
            have A6 : Hid (Kept ((v4.alloc (.cells CD 33)).alloc (.cells Z 33)) (v4.heap.size + 1) Z 33) := Lib.hid (Kept.new (by simp))
            have L6 : Hid (w.heap.size ≤ v4.heap.size + 1) := Lib.hid (by have := B5.out.size; (try simp at this); omega)
            have B6 := Lib.hid (B5.out.alloc B5.out.size (.cells Z 33))
            have G6 := Lib.hid (G5.out.alloc (.cells Z 33))
            refine hK.out _ _ ?_ (fun hHeld => ?_)
            · trivial
            clear hK K
            (try simp only [Act.put, List.setIfInBounds_toArray, List.set_cons_zero, List.set_cons_succ])
            refine wpAnyH_ready (rs := [9]) (by kernel_rfl) (by simp) ?_
            refine AllReadyH.cons (o := ({ dst := some 36, op := Op.call { callee := Callee.value (Operand.func 16), args := #[Operand.tmp 35], argTypes := #[36] }, type := 38, pos := "law.go:124", after := #[{ on := 8, ground := Ground.data }, { on := 7, ground := Ground.chain }], guard := none } : Oper)) rfl (fun K hK => ?_) (AllReadyH.nil)
            go_simp
            (with_reducible refine (CM.out _ _ G6.out).mono ?_)
            rintro _ v7 ⟨rfl, b7⟩
            have B7 := Lib.hid (B6.out.trans (b7.mono B6.out.size))
            have A7 := Lib.hid (A6.out.next b7)
            clear b7
            refine hK.out _ _ ?_ (fun hHeld => ?_)
            · trivial
            clear hK K
            (try simp only [Act.put, List.setIfInBounds_toArray, List.set_cons_zero, List.set_cons_succ])
            refine wpAnyH_take (i := 10) (oi := ({ dst := some 26, op := Op.move (Operand.tmp 36), type := 38, pos := "law.go:124", after := #[{ on := 9, ground := Ground.data }], guard := none } : Oper)) (v := ?_) rfl (by kernel_rfl) (by kernel_rfl) (by kernel_rfl) (fun _ _ _ h => h) (Or.inl ⟨by rfl, ?_⟩) hHeld ?_
            rotate_left
            · ((intro w hSw; (try dsimp only at hSw); go_simp); (try with_reducible rfl))
            (try simp only [Act.put, List.setIfInBounds_toArray, List.set_cons_zero, List.set_cons_succ])
            refine wpAnyH_take (i := 11) (oi := ({ dst := some 37, op := Op.extract (Operand.tmp 26) 0, type := 33, pos := "law.go:124", after := #[{ on := 10, ground := Ground.data }], guard := none } : Oper)) (v := ?_) rfl (by kernel_rfl) (by kernel_rfl) (by kernel_rfl) (fun _ _ _ h => h) (Or.inl ⟨by rfl, ?_⟩) hHeld ?_
            rotate_left
            · ((intro w hSw; (try dsimp only at hSw); go_simp); (try with_reducible rfl))
            (try simp only [Act.put, List.setIfInBounds_toArray, List.set_cons_zero, List.set_cons_succ])
            refine wpAnyH_take (i := 12) (oi := ({ dst := some 38, op := Op.extract (Operand.tmp 26) 1, type := 37, pos := "law.go:124", after := #[{ on := 10, ground := Ground.data }, { on := 14, ground := Ground.gcOnly Departure.lateStores }], guard := none } : Oper)) (v := ?_) rfl (by kernel_rfl) (by kernel_rfl) (by kernel_rfl) (fun _ _ _ h => h) (Or.inl ⟨by rfl, ?_⟩) hHeld ?_
            rotate_left
            · ((intro w hSw; (try dsimp only at hSw); go_simp); (try with_reducible rfl))
            (try simp only [Act.put, List.setIfInBounds_toArray, List.set_cons_zero, List.set_cons_succ])
            refine wpAnyH_ready (rs := [14]) (by kernel_rfl) (by simp) ?_
            refine AllReadyH.cons (o := ({ dst := none, op := Op.store 33 (Operand.tmp 5) (Operand.tmp 37), type := 0, pos := "law.go:124", after := #[{ on := 13, ground := Ground.data }, { on := 11, ground := Ground.data }, { on := 9, ground := Ground.chain }, { on := 0, ground := Ground.phase }, { on := 1, ground := Ground.phase }, { on := 2, ground := Ground.phase }, { on := 3, ground := Ground.phase }, { on := 4, ground := Ground.phase }, { on := 5, ground := Ground.phase }, { on := 6, ground := Ground.phase }, { on := 7, ground := Ground.phase }, { on := 8, ground := Ground.phase }, { on := 9, ground := Ground.phase }, { on := 10, ground := Ground.phase }, { on := 11, ground := Ground.phase }, { on := 12, ground := Ground.textOnly Departure.lateStores }, { on := 13, ground := Ground.phase }], guard := none } : Oper)) rfl (fun K hK => ?_) (AllReadyH.nil)
            rw [if_pos (by rfl)]
            refine wp_store_row _ _ _ rfl (v4.heap.size + 1) C rfl rfl _ Z A7.out ci e0 o0 ?_
            have A8 := Lib.hid (A7.out.setRow C)
            have B8 := Lib.hid (below_setRow B7.out L6.out C)
            refine hK.out _ _ ?_ (fun hHeld => ?_)
            · trivial
            clear hK K
            (try simp only [Act.put, List.setIfInBounds_toArray, List.set_cons_zero, List.set_cons_succ])
            refine wpAnyH_take (i := 15) (oi := ({ dst := some 6, op := Op.assign (Operand.tmp 38), type := 37, pos := "law.go:124", after := #[{ on := 12, ground := Ground.data }, { on := 14, ground := Ground.chain }, { on := 0, ground := Ground.phase }, { on := 1, ground := Ground.phase }, { on := 2, ground := Ground.phase }, { on := 3, ground := Ground.phase }, { on := 4, ground := Ground.phase }, { on := 5, ground := Ground.phase }, { on := 6, ground := Ground.phase }, { on := 7, ground := Ground.phase }, { on := 8, ground := Ground.phase }, { on := 9, ground := Ground.phase }, { on := 10, ground := Ground.phase }, { on := 11, ground := Ground.phase }, { on := 12, ground := Ground.phase }, { on := 13, ground := Ground.phase }, { on := 14, ground := Ground.phase }], guard := none } : Oper)) (v := ?_) rfl (by kernel_rfl) (by kernel_rfl) (by kernel_rfl) (fun _ _ _ h => h) (Or.inl ⟨by rfl, ?_⟩) hHeld ?_
            rotate_left
            · ((intro w hSw; (try dsimp only at hSw); go_simp); (try with_reducible rfl))
            (try simp only [Act.put, List.setIfInBounds_toArray, List.set_cons_zero, List.set_cons_succ])
            refine wpAnyH_done (by kernel_rfl) ?_ _
            have FF := Lib.hid (FIN.out _ _ L6.out A8.out B8.out)
            go_wp2_with fail
            go_meet
            case rel => exact FF.out
        · go_simp
          have A5 : Hid (Kept (v4.alloc (.cells Z 33)) (v4.heap.size) Z 33) := Lib.hid (Kept.new (by simp))
          have L5 : Hid (w.heap.size ≤ v4.heap.size) := Lib.hid (by have := B4.out.size; (try simp at this); omega)
          have B5 := Lib.hid (B4.out.alloc B4.out.size (.cells Z 33))
          refine hK.out _ _ ?_ (fun hHeld => ?_)
          · trivial
          clear hK K
          (try simp only [Act.put, List.setIfInBounds_toArray, List.set_cons_zero, List.set_cons_succ])
          refine wpAnyH_ready (rs := [8]) (by kernel_rfl) (by simp) ?_
          refine AllReadyH.cons (o := ({ dst := some 35, op := Op.buildSlice 36 2 #[(0, Operand.tmp 30), (1, Operand.tmp 34)], type := 36, pos := "law.go:124", after := #[{ on := 3, ground := Ground.data }, { on := 7, ground := Ground.data }], guard := none } : Oper)) rfl (fun K hK => ?_) (AllReadyH.nil)
          rw [if_pos (by rfl)]
          refine wp_buildSlice _ _ 2 _ rfl CD ie (.agg Z) rfl hie hiz (by rw [his]; decide) (by rw [his]; decide) (by rw [his]; refine Eq.trans (congrArg (Instr.fill _ _) ?_) hfill; simp [Act.eval]) ?_
          have G6 : Hid (Kept ((v4.alloc (.cells Z 33)).alloc (.cells CD 33)) (v4.heap.size + 1) CD 33) := Lib.hid (Kept.new (by simp))
          have B6 := Lib.hid (B5.out.alloc B5.out.size (.cells CD 33))
          have A6 := Lib.hid (A5.out.alloc (.cells CD 33))
          refine hK.out _ _ ?_ (fun hHeld => ?_)
          · trivial
          clear hK K
          (try simp only [Act.put, List.setIfInBounds_toArray, List.set_cons_zero, List.set_cons_succ])
          refine wpAnyH_ready (rs := [9]) (by kernel_rfl) (by simp) ?_
          refine AllReadyH.cons (o := ({ dst := some 36, op := Op.call { callee := Callee.value (Operand.func 16), args := #[Operand.tmp 35], argTypes := #[36] }, type := 38, pos := "law.go:124", after := #[{ on := 8, ground := Ground.data }, { on := 7, ground := Ground.chain }], guard := none } : Oper)) rfl (fun K hK => ?_) (AllReadyH.nil)
          go_simp
          (with_reducible refine (CM.out _ _ G6.out).mono ?_)
          rintro _ v7 ⟨rfl, b7⟩
          have B7 := Lib.hid (B6.out.trans (b7.mono B6.out.size))
          have A7 := Lib.hid (A6.out.next b7)
          clear b7
          refine hK.out _ _ ?_ (fun hHeld => ?_)
          · trivial
          clear hK K
          (try simp only [Act.put, List.setIfInBounds_toArray, List.set_cons_zero, List.set_cons_succ])
          refine wpAnyH_take (i := 10) (oi := ({ dst := some 26, op := Op.move (Operand.tmp 36), type := 38, pos := "law.go:124", after := #[{ on := 9, ground := Ground.data }], guard := none } : Oper)) (v := ?_) rfl (by kernel_rfl) (by kernel_rfl) (by kernel_rfl) (fun _ _ _ h => h) (Or.inl ⟨by rfl, ?_⟩) hHeld ?_
          rotate_left
          · ((intro w hSw; (try dsimp only at hSw); go_simp); (try with_reducible rfl))
          (try simp only [Act.put, List.setIfInBounds_toArray, List.set_cons_zero, List.set_cons_succ])
          refine wpAnyH_take (i := 11) (oi := ({ dst := some 37, op := Op.extract (Operand.tmp 26) 0, type := 33, pos := "law.go:124", after := #[{ on := 10, ground := Ground.data }], guard := none } : Oper)) (v := ?_) rfl (by kernel_rfl) (by kernel_rfl) (by kernel_rfl) (fun _ _ _ h => h) (Or.inl ⟨by rfl, ?_⟩) hHeld ?_
          rotate_left
          · ((intro w hSw; (try dsimp only at hSw); go_simp); (try with_reducible rfl))
          (try simp only [Act.put, List.setIfInBounds_toArray, List.set_cons_zero, List.set_cons_succ])
          refine wpAnyH_take (i := 12) (oi := ({ dst := some 38, op := Op.extract (Operand.tmp 26) 1, type := 37, pos := "law.go:124", after := #[{ on := 10, ground := Ground.data }, { on := 14, ground := Ground.gcOnly Departure.lateStores }], guard := none } : Oper)) (v := ?_) rfl (by kernel_rfl) (by kernel_rfl) (by kernel_rfl) (fun _ _ _ h => h) (Or.inl ⟨by rfl, ?_⟩) hHeld ?_
          rotate_left
          · ((intro w hSw; (try dsimp only at hSw); go_simp); (try with_reducible rfl))
          (try simp only [Act.put, List.setIfInBounds_toArray, List.set_cons_zero, List.set_cons_succ])
          refine wpAnyH_ready (rs := [14]) (by kernel_rfl) (by simp) ?_
          refine AllReadyH.cons (o := ({ dst := none, op := Op.store 33 (Operand.tmp 5) (Operand.tmp 37), type := 0, pos := "law.go:124", after := #[{ on := 13, ground := Ground.data }, { on := 11, ground := Ground.data }, { on := 9, ground := Ground.chain }, { on := 0, ground := Ground.phase }, { on := 1, ground := Ground.phase }, { on := 2, ground := Ground.phase }, { on := 3, ground := Ground.phase }, { on := 4, ground := Ground.phase }, { on := 5, ground := Ground.phase }, { on := 6, ground := Ground.phase }, { on := 7, ground := Ground.phase }, { on := 8, ground := Ground.phase }, { on := 9, ground := Ground.phase }, { on := 10, ground := Ground.phase }, { on := 11, ground := Ground.phase }, { on := 12, ground := Ground.textOnly Departure.lateStores }, { on := 13, ground := Ground.phase }], guard := none } : Oper)) rfl (fun K hK => ?_) (AllReadyH.nil)
          rw [if_pos (by rfl)]
          refine wp_store_row _ _ _ rfl (v4.heap.size) C rfl rfl _ Z A7.out ci e0 o0 ?_
          have A8 := Lib.hid (A7.out.setRow C)
          have B8 := Lib.hid (below_setRow B7.out L5.out C)
          refine hK.out _ _ ?_ (fun hHeld => ?_)
          · trivial
          clear hK K
          (try simp only [Act.put, List.setIfInBounds_toArray, List.set_cons_zero, List.set_cons_succ])
          refine wpAnyH_take (i := 15) (oi := ({ dst := some 6, op := Op.assign (Operand.tmp 38), type := 37, pos := "law.go:124", after := #[{ on := 12, ground := Ground.data }, { on := 14, ground := Ground.chain }, { on := 0, ground := Ground.phase }, { on := 1, ground := Ground.phase }, { on := 2, ground := Ground.phase }, { on := 3, ground := Ground.phase }, { on := 4, ground := Ground.phase }, { on := 5, ground := Ground.phase }, { on := 6, ground := Ground.phase }, { on := 7, ground := Ground.phase }, { on := 8, ground := Ground.phase }, { on := 9, ground := Ground.phase }, { on := 10, ground := Ground.phase }, { on := 11, ground := Ground.phase }, { on := 12, ground := Ground.phase }, { on := 13, ground := Ground.phase }, { on := 14, ground := Ground.phase }], guard := none } : Oper)) (v := ?_) rfl (by kernel_rfl) (by kernel_rfl) (by kernel_rfl) (fun _ _ _ h => h) (Or.inl ⟨by rfl, ?_⟩) hHeld ?_
          rotate_left
          · ((intro w hSw; (try dsimp only at hSw); go_simp); (try with_reducible rfl))
          (try simp only [Act.put, List.setIfInBounds_toArray, List.set_cons_zero, List.set_cons_succ])
          refine wpAnyH_done (by kernel_rfl) ?_ _
          have FF := Lib.hid (FIN.out _ _ L5.out A8.out B8.out)
          go_wp2_with fail
          go_meet
          case rel => exact FF.out
      · go_simp
        have A4 : Hid (Kept (v3.alloc (.cells Z 33)) (v3.heap.size) Z 33) := Lib.hid (Kept.new (by simp))
        have L4 : Hid (w.heap.size ≤ v3.heap.size) := Lib.hid (by have := B3.out.size; (try simp at this); omega)
        have B4 := Lib.hid (B3.out.alloc B3.out.size (.cells Z 33))
        refine hK.out _ _ ?_ (fun hHeld => ?_)
        · trivial
        clear hK K
        (try simp only [Act.put, List.setIfInBounds_toArray, List.set_cons_zero, List.set_cons_succ])
        refine wpAnyH_ready (rs := [7]) (by kernel_rfl) (by simp) ?_
        refine AllReadyH.cons (o := ({ dst := some 34, op := Op.call { callee := Callee.value (Operand.func 14), args := #[Operand.tmp 33], argTypes := #[30] }, type := 33, pos := "law.go:124", after := #[{ on := 6, ground := Ground.data }, { on := 3, ground := Ground.chain }], guard := none } : Oper)) rfl (fun K hK => ?_) (AllReadyH.nil)
        go_simp
        (with_reducible refine (CO2.out _ B4.out).mono ?_)
        rintro _ v5 ⟨rfl, b5⟩
        have B5 := Lib.hid (B4.out.trans (b5.mono B4.out.size))
        have A5 := Lib.hid (A4.out.next b5)
        clear b5
        refine hK.out _ _ ?_ (fun hHeld => ?_)
        · trivial
        clear hK K
        (try simp only [Act.put, List.setIfInBounds_toArray, List.set_cons_zero, List.set_cons_succ])
        refine wpAnyH_ready (rs := [8]) (by kernel_rfl) (by simp) ?_
        refine AllReadyH.cons (o := ({ dst := some 35, op := Op.buildSlice 36 2 #[(0, Operand.tmp 30), (1, Operand.tmp 34)], type := 36, pos := "law.go:124", after := #[{ on := 3, ground := Ground.data }, { on := 7, ground := Ground.data }], guard := none } : Oper)) rfl (fun K hK => ?_) (AllReadyH.nil)
        rw [if_pos (by rfl)]
        refine wp_buildSlice _ _ 2 _ rfl CD ie (.agg Z) rfl hie hiz (by rw [his]; decide) (by rw [his]; decide) (by rw [his]; refine Eq.trans (congrArg (Instr.fill _ _) ?_) hfill; simp [Act.eval]) ?_
        have G6 : Hid (Kept (v5.alloc (.cells CD 33)) (v5.heap.size) CD 33) := Lib.hid (Kept.new (by simp))
        have B6 := Lib.hid (B5.out.alloc B5.out.size (.cells CD 33))
        have A6 := Lib.hid (A5.out.alloc (.cells CD 33))
        refine hK.out _ _ ?_ (fun hHeld => ?_)
        · trivial
        clear hK K
        (try simp only [Act.put, List.setIfInBounds_toArray, List.set_cons_zero, List.set_cons_succ])
        refine wpAnyH_ready (rs := [9]) (by kernel_rfl) (by simp) ?_
        refine AllReadyH.cons (o := ({ dst := some 36, op := Op.call { callee := Callee.value (Operand.func 16), args := #[Operand.tmp 35], argTypes := #[36] }, type := 38, pos := "law.go:124", after := #[{ on := 8, ground := Ground.data }, { on := 7, ground := Ground.chain }], guard := none } : Oper)) rfl (fun K hK => ?_) (AllReadyH.nil)
        go_simp
        (with_reducible refine (CM.out _ _ G6.out).mono ?_)
        rintro _ v7 ⟨rfl, b7⟩
        have B7 := Lib.hid (B6.out.trans (b7.mono B6.out.size))
        have A7 := Lib.hid (A6.out.next b7)
        clear b7
        refine hK.out _ _ ?_ (fun hHeld => ?_)
        · trivial
        clear hK K
        (try simp only [Act.put, List.setIfInBounds_toArray, List.set_cons_zero, List.set_cons_succ])
        refine wpAnyH_take (i := 10) (oi := ({ dst := some 26, op := Op.move (Operand.tmp 36), type := 38, pos := "law.go:124", after := #[{ on := 9, ground := Ground.data }], guard := none } : Oper)) (v := ?_) rfl (by kernel_rfl) (by kernel_rfl) (by kernel_rfl) (fun _ _ _ h => h) (Or.inl ⟨by rfl, ?_⟩) hHeld ?_
        rotate_left
        · ((intro w hSw; (try dsimp only at hSw); go_simp); (try with_reducible rfl))
        (try simp only [Act.put, List.setIfInBounds_toArray, List.set_cons_zero, List.set_cons_succ])
        refine wpAnyH_take (i := 11) (oi := ({ dst := some 37, op := Op.extract (Operand.tmp 26) 0, type := 33, pos := "law.go:124", after := #[{ on := 10, ground := Ground.data }], guard := none } : Oper)) (v := ?_) rfl (by kernel_rfl) (by kernel_rfl) (by kernel_rfl) (fun _ _ _ h => h) (Or.inl ⟨by rfl, ?_⟩) hHeld ?_
        rotate_left
        · ((intro w hSw; (try dsimp only at hSw); go_simp); (try with_reducible rfl))
        (try simp only [Act.put, List.setIfInBounds_toArray, List.set_cons_zero, List.set_cons_succ])
        refine wpAnyH_take (i := 12) (oi := ({ dst := some 38, op := Op.extract (Operand.tmp 26) 1, type := 37, pos := "law.go:124", after := #[{ on := 10, ground := Ground.data }, { on := 14, ground := Ground.gcOnly Departure.lateStores }], guard := none } : Oper)) (v := ?_) rfl (by kernel_rfl) (by kernel_rfl) (by kernel_rfl) (fun _ _ _ h => h) (Or.inl ⟨by rfl, ?_⟩) hHeld ?_
        rotate_left
        · ((intro w hSw; (try dsimp only at hSw); go_simp); (try with_reducible rfl))
        (try simp only [Act.put, List.setIfInBounds_toArray, List.set_cons_zero, List.set_cons_succ])
        refine wpAnyH_ready (rs := [14]) (by kernel_rfl) (by simp) ?_
        refine AllReadyH.cons (o := ({ dst := none, op := Op.store 33 (Operand.tmp 5) (Operand.tmp 37), type := 0, pos := "law.go:124", after := #[{ on := 13, ground := Ground.data }, { on := 11, ground := Ground.data }, { on := 9, ground := Ground.chain }, { on := 0, ground := Ground.phase }, { on := 1, ground := Ground.phase }, { on := 2, ground := Ground.phase }, { on := 3, ground := Ground.phase }, { on := 4, ground := Ground.phase }, { on := 5, ground := Ground.phase }, { on := 6, ground := Ground.phase }, { on := 7, ground := Ground.phase }, { on := 8, ground := Ground.phase }, { on := 9, ground := Ground.phase }, { on := 10, ground := Ground.phase }, { on := 11, ground := Ground.phase }, { on := 12, ground := Ground.textOnly Departure.lateStores }, { on := 13, ground := Ground.phase }], guard := none } : Oper)) rfl (fun K hK => ?_) (AllReadyH.nil)
        rw [if_pos (by rfl)]
        refine wp_store_row _ _ _ rfl (v3.heap.size) C rfl rfl _ Z A7.out ci e0 o0 ?_
        have A8 := Lib.hid (A7.out.setRow C)
        have B8 := Lib.hid (below_setRow B7.out L4.out C)
        refine hK.out _ _ ?_ (fun hHeld => ?_)
        · trivial
        clear hK K
        (try simp only [Act.put, List.setIfInBounds_toArray, List.set_cons_zero, List.set_cons_succ])
        refine wpAnyH_take (i := 15) (oi := ({ dst := some 6, op := Op.assign (Operand.tmp 38), type := 37, pos := "law.go:124", after := #[{ on := 12, ground := Ground.data }, { on := 14, ground := Ground.chain }, { on := 0, ground := Ground.phase }, { on := 1, ground := Ground.phase }, { on := 2, ground := Ground.phase }, { on := 3, ground := Ground.phase }, { on := 4, ground := Ground.phase }, { on := 5, ground := Ground.phase }, { on := 6, ground := Ground.phase }, { on := 7, ground := Ground.phase }, { on := 8, ground := Ground.phase }, { on := 9, ground := Ground.phase }, { on := 10, ground := Ground.phase }, { on := 11, ground := Ground.phase }, { on := 12, ground := Ground.phase }, { on := 13, ground := Ground.phase }, { on := 14, ground := Ground.phase }], guard := none } : Oper)) (v := ?_) rfl (by kernel_rfl) (by kernel_rfl) (by kernel_rfl) (fun _ _ _ h => h) (Or.inl ⟨by rfl, ?_⟩) hHeld ?_
        rotate_left
        · ((intro w hSw; (try dsimp only at hSw); go_simp); (try with_reducible rfl))
        (try simp only [Act.put, List.setIfInBounds_toArray, List.set_cons_zero, List.set_cons_succ])
        refine wpAnyH_done (by kernel_rfl) ?_ _
        have FF := Lib.hid (FIN.out _ _ L4.out A8.out B8.out)
        go_wp2_with fail
        go_meet
        case rel => exact FF.out
    · go_simp
      have A3 : Hid (Kept (v2.alloc (.cells Z 33)) (v2.heap.size) Z 33) := Lib.hid (Kept.new (by simp))
      have L3 : Hid (w.heap.size ≤ v2.heap.size) := Lib.hid (by have := B2.out.size; (try simp at this); omega)
      have B3 := Lib.hid (B2.out.alloc B2.out.size (.cells Z 33))
      refine hK.out _ _ ?_ (fun hHeld => ?_)
      · trivial
      clear hK K
      (try simp only [Act.put, List.setIfInBounds_toArray, List.set_cons_zero, List.set_cons_succ])
      refine wpAnyH_ready (rs := [3]) (by kernel_rfl) (by simp) ?_
      refine AllReadyH.cons (o := ({ dst := some 30, op := Op.call { callee := Callee.value (Operand.func 14), args := #[Operand.tmp 29], argTypes := #[30] }, type := 33, pos := "law.go:124", after := #[{ on := 2, ground := Ground.data }], guard := none } : Oper)) rfl (fun K hK => ?_) (AllReadyH.nil)
      go_simp
      (with_reducible refine (CO1.out _ B3.out).mono ?_)
      rintro _ v4 ⟨rfl, b4⟩
      have B4 := Lib.hid (B3.out.trans (b4.mono B3.out.size))
      have A4 := Lib.hid (A3.out.next b4)
      clear b4
      refine hK.out _ _ ?_ (fun hHeld => ?_)
      · trivial
      clear hK K
      (try simp only [Act.put, List.setIfInBounds_toArray, List.set_cons_zero, List.set_cons_succ])
      refine wpAnyH_ready (rs := [7]) (by kernel_rfl) (by simp) ?_
      refine AllReadyH.cons (o := ({ dst := some 34, op := Op.call { callee := Callee.value (Operand.func 14), args := #[Operand.tmp 33], argTypes := #[30] }, type := 33, pos := "law.go:124", after := #[{ on := 6, ground := Ground.data }, { on := 3, ground := Ground.chain }], guard := none } : Oper)) rfl (fun K hK => ?_) (AllReadyH.nil)
      go_simp
      (with_reducible refine (CO2.out _ B4.out).mono ?_)
      rintro _ v5 ⟨rfl, b5⟩
      have B5 := Lib.hid (B4.out.trans (b5.mono B4.out.size))
      have A5 := Lib.hid (A4.out.next b5)
      clear b5
      refine hK.out _ _ ?_ (fun hHeld => ?_)
      · trivial
      clear hK K
      (try simp only [Act.put, List.setIfInBounds_toArray, List.set_cons_zero, List.set_cons_succ])
      refine wpAnyH_ready (rs := [8]) (by kernel_rfl) (by simp) ?_
      refine AllReadyH.cons (o := ({ dst := some 35, op := Op.buildSlice 36 2 #[(0, Operand.tmp 30), (1, Operand.tmp 34)], type := 36, pos := "law.go:124", after := #[{ on := 3, ground := Ground.data }, { on := 7, ground := Ground.data }], guard := none } : Oper)) rfl (fun K hK => ?_) (AllReadyH.nil)
      rw [if_pos (by rfl)]
      refine wp_buildSlice _ _ 2 _ rfl CD ie (.agg Z) rfl hie hiz (by rw [his]; decide) (by rw [his]; decide) (by rw [his]; refine Eq.trans (congrArg (Instr.fill _ _) ?_) hfill; simp [Act.eval]) ?_
      have G6 : Hid (Kept (v5.alloc (.cells CD 33)) (v5.heap.size) CD 33) := Lib.hid (Kept.new (by simp))
      have B6 := Lib.hid (B5.out.alloc B5.out.size (.cells CD 33))
      have A6 := Lib.hid (A5.out.alloc (.cells CD 33))
      refine hK.out _ _ ?_ (fun hHeld => ?_)
      · trivial
      clear hK K
      (try simp only [Act.put, List.setIfInBounds_toArray, List.set_cons_zero, List.set_cons_succ])
      refine wpAnyH_ready (rs := [9]) (by kernel_rfl) (by simp) ?_
      refine AllReadyH.cons (o := ({ dst := some 36, op := Op.call { callee := Callee.value (Operand.func 16), args := #[Operand.tmp 35], argTypes := #[36] }, type := 38, pos := "law.go:124", after := #[{ on := 8, ground := Ground.data }, { on := 7, ground := Ground.chain }], guard := none } : Oper)) rfl (fun K hK => ?_) (AllReadyH.nil)
      go_simp
      (with_reducible refine (CM.out _ _ G6.out).mono ?_)
      rintro _ v7 ⟨rfl, b7⟩
      have B7 := Lib.hid (B6.out.trans (b7.mono B6.out.size))
      have A7 := Lib.hid (A6.out.next b7)
      clear b7
      refine hK.out _ _ ?_ (fun hHeld => ?_)
      · trivial
      clear hK K
      (try simp only [Act.put, List.setIfInBounds_toArray, List.set_cons_zero, List.set_cons_succ])
      refine wpAnyH_take (i := 10) (oi := ({ dst := some 26, op := Op.move (Operand.tmp 36), type := 38, pos := "law.go:124", after := #[{ on := 9, ground := Ground.data }], guard := none } : Oper)) (v := ?_) rfl (by kernel_rfl) (by kernel_rfl) (by kernel_rfl) (fun _ _ _ h => h) (Or.inl ⟨by rfl, ?_⟩) hHeld ?_
      rotate_left
      · ((intro w hSw; (try dsimp only at hSw); go_simp); (try with_reducible rfl))
      (try simp only [Act.put, List.setIfInBounds_toArray, List.set_cons_zero, List.set_cons_succ])
      refine wpAnyH_take (i := 11) (oi := ({ dst := some 37, op := Op.extract (Operand.tmp 26) 0, type := 33, pos := "law.go:124", after := #[{ on := 10, ground := Ground.data }], guard := none } : Oper)) (v := ?_) rfl (by kernel_rfl) (by kernel_rfl) (by kernel_rfl) (fun _ _ _ h => h) (Or.inl ⟨by rfl, ?_⟩) hHeld ?_
      rotate_left
      · ((intro w hSw; (try dsimp only at hSw); go_simp); (try with_reducible rfl))
      (try simp only [Act.put, List.setIfInBounds_toArray, List.set_cons_zero, List.set_cons_succ])
      refine wpAnyH_take (i := 12) (oi := ({ dst := some 38, op := Op.extract (Operand.tmp 26) 1, type := 37, pos := "law.go:124", after := #[{ on := 10, ground := Ground.data }, { on := 14, ground := Ground.gcOnly Departure.lateStores }], guard := none } : Oper)) (v := ?_) rfl (by kernel_rfl) (by kernel_rfl) (by kernel_rfl) (fun _ _ _ h => h) (Or.inl ⟨by rfl, ?_⟩) hHeld ?_
      rotate_left
      · ((intro w hSw; (try dsimp only at hSw); go_simp); (try with_reducible rfl))
      (try simp only [Act.put, List.setIfInBounds_toArray, List.set_cons_zero, List.set_cons_succ])
      refine wpAnyH_ready (rs := [14]) (by kernel_rfl) (by simp) ?_
      refine AllReadyH.cons (o := ({ dst := none, op := Op.store 33 (Operand.tmp 5) (Operand.tmp 37), type := 0, pos := "law.go:124", after := #[{ on := 13, ground := Ground.data }, { on := 11, ground := Ground.data }, { on := 9, ground := Ground.chain }, { on := 0, ground := Ground.phase }, { on := 1, ground := Ground.phase }, { on := 2, ground := Ground.phase }, { on := 3, ground := Ground.phase }, { on := 4, ground := Ground.phase }, { on := 5, ground := Ground.phase }, { on := 6, ground := Ground.phase }, { on := 7, ground := Ground.phase }, { on := 8, ground := Ground.phase }, { on := 9, ground := Ground.phase }, { on := 10, ground := Ground.phase }, { on := 11, ground := Ground.phase }, { on := 12, ground := Ground.textOnly Departure.lateStores }, { on := 13, ground := Ground.phase }], guard := none } : Oper)) rfl (fun K hK => ?_) (AllReadyH.nil)
      rw [if_pos (by rfl)]
      refine wp_store_row _ _ _ rfl (v2.heap.size) C rfl rfl _ Z A7.out ci e0 o0 ?_
      have A8 := Lib.hid (A7.out.setRow C)
      have B8 := Lib.hid (below_setRow B7.out L3.out C)
      refine hK.out _ _ ?_ (fun hHeld => ?_)
      · trivial
      clear hK K
      (try simp only [Act.put, List.setIfInBounds_toArray, List.set_cons_zero, List.set_cons_succ])
      refine wpAnyH_take (i := 15) (oi := ({ dst := some 6, op := Op.assign (Operand.tmp 38), type := 37, pos := "law.go:124", after := #[{ on := 12, ground := Ground.data }, { on := 14, ground := Ground.chain }, { on := 0, ground := Ground.phase }, { on := 1, ground := Ground.phase }, { on := 2, ground := Ground.phase }, { on := 3, ground := Ground.phase }, { on := 4, ground := Ground.phase }, { on := 5, ground := Ground.phase }, { on := 6, ground := Ground.phase }, { on := 7, ground := Ground.phase }, { on := 8, ground := Ground.phase }, { on := 9, ground := Ground.phase }, { on := 10, ground := Ground.phase }, { on := 11, ground := Ground.phase }, { on := 12, ground := Ground.phase }, { on := 13, ground := Ground.phase }, { on := 14, ground := Ground.phase }], guard := none } : Oper)) (v := ?_) rfl (by kernel_rfl) (by kernel_rfl) (by kernel_rfl) (fun _ _ _ h => h) (Or.inl ⟨by rfl, ?_⟩) hHeld ?_
      rotate_left
      · ((intro w hSw; (try dsimp only at hSw); go_simp); (try with_reducible rfl))
      (try simp only [Act.put, List.setIfInBounds_toArray, List.set_cons_zero, List.set_cons_succ])
      refine wpAnyH_done (by kernel_rfl) ?_ _
      have FF := Lib.hid (FIN.out _ _ L3.out A8.out B8.out)
      go_wp2_with fail
      go_meet
      case rel => exact FF.out
  case rest =>
    obtain ⟨ga, rfl, rfl, hh⟩ := hcut
    obtain ⟨la, ka, ba⟩ := hh.out
    have KA := Lib.hid ka
    have BA := Lib.hid ba
    have LA' := Lib.hid la
    clear hh ka ba la B1 CO1 CO2 CM hfill hie hiz his hs1 hs2
    obtain ⟨v0, hv0⟩ : ∃ x, x = wc := ⟨_, rfl⟩
    subst hv0
    have TZ : Hid (Kept (v0.alloc (.cells Z 33)) v0.heap.size Z 33) := Lib.hid (Kept.new rfl)
    have KA1 := Lib.hid (KA.out.alloc (.cells Z 33))
    have BA1 := Lib.hid (BA.out.alloc BA.out.size (.cells Z 33))
    have gl : w.heap.size ≤ v0.heap.size := BA.out.size
    have glt : ga < v0.heap.size := KA.out.lt
    have zi : (Try.prog.info? 33).map (·.size) = some Z.size := by rw [zz]; exact h_info
    have zo : Z.all (·.oneCell') = true := by rw [HZ0.out]; exact hC_cells _
    clear KA BA
    go_wp2_with (refine wpList_store_row rfl 33 _ _ rfl v0.heap.size Z rfl rfl 33 Z TZ.out zi rfl zo ?_; rw [World.setRow_alloc_new]; generalize v0.alloc (.cells Z 33) = V0 at *)
    obtain ⟨gh, hgh⟩ : ∃ g, v0.heap.size = g := ⟨_, rfl⟩
    rw [hgh] at TZ gl glt
    (try rw [hgh])
    clear hgh
    have START : Hid (PaRel l w ga gh C (.int .i64 0) V0) := Lib.hid ⟨0, Nat.zero_le _, rfl, KA1, Lib.hid (by rw [← HZ0.out]; exact TZ.out), BA1⟩
    clear KA1 BA1 TZ zi zo
    go_loopw [8] (fun i wr => PaRel l w ga gh C i wr) (fun i _ => l.length - (intOf i).toNat)
    case atStart => exact START.out
    case round =>
      obtain ⟨k, hk, rfl, KA, KH, BB⟩ := hrel
      clear START
      by_cases hlt : k < l.length
      · have HK := Lib.hid hlt
        have CAk := Lib.hid (CA.out k hlt)
        obtain ⟨b, off, rfl, hc0⟩ := HR.out k hlt
        have hc := (BB.out.cell (World.block_lt_of_cell? w _ hc0)).trans hc0
        have hkk : (k : Int) < (l.length : Int) := by omega
        have d1 : (Try.prog.info? 33).map (·.size) = some (hC (cntL (l.take k))).size := by rw [hC_size, cntL_len]; exact h_info
        have d2 : (Try.prog.info? 33).map (·.size) = some (hC (cntL (l.take (k + 1)))).size := by rw [hC_size, cntL_len]; exact h_info
        have d3 : Z.size = (hC (cntL (l.take (k + 1)))).size := by rw [zz, hC_size, cntL_len]
        have d4 : (hC (cntL (l.take k))).size = (hC (cntL (l.take (k + 1)))).size := by rw [hC_size, hC_size, cntL_len, cntL_len]
        have d5 := hC_cells (cntL (l.take (k + 1)))
        have F : Hid (∀ W, Kept W ga C 33 → Kept W gh (hC (cntL (l.take (k + 1)))) 33 → Below w.heap.size w W → PaRel l w ga gh C (.int .i64 ((k : Int) + 1)) W) := Lib.hid fun W h1 h2 h3 => ⟨k + 1, hlt, rfl, Lib.hid h1, Lib.hid h2, Lib.hid h3⟩
        obtain ⟨v, hv⟩ : ∃ v, l.getD k 0 = v := ⟨_, rfl⟩
        rw [hv] at hc CAk
        generalize hC (cntL (l.take k)) = D at *
        generalize hC (cntL (l.take (k + 1))) = E at *
        have e3 : wrap64 ((k : Int) + 1) = (k : Int) + 1 := IntWalk.wrap64_in _ (by have := HLL.out; omega)
        clear hlt hk hc0 hv
        obtain ⟨v0, hv0⟩ : ∃ x, x = wr := ⟨_, rfl⟩
        subst hv0
        go_upto_region 10 with fail
        go_cut [9, 10] (fun p q wx => PaIn w ga gh C D E p q wx)
        case first =>
          have FIN : Hid (∀ (g : Nat) (W : World), w.heap.size ≤ g → g ≠ ga → g ≠ gh → Kept W g E 33 → Kept W ga C 33 → Kept W gh D 33 → Below w.heap.size w W → PaIn w ga gh C D E (.pointer (some ⟨g, 0, none⟩)) (.int .i64 0) W) := Lib.hid fun g W h1 h2 h3 h4 h5 h6 h7 => ⟨g, rfl, rfl, Lib.hid ⟨h1, h2, h3, h4, h5, h6, h7⟩⟩
          have B2 : Hid (Below w.heap.size w v0.drew) := Lib.hid BB.out.drew
          have KA2 : Hid (Kept v0.drew ga C 33) := Lib.hid (KA.out.drewN 1)
          have KH2 : Hid (Kept v0.drew gh D 33) := Lib.hid (KH.out.drewN 1)
          have hc2 : v0.drew.cell? ⟨b, off + k, none⟩ = some (.int .i64 v) := hc
          have BC : Hid (∀ W, Below v0.drew.heap.size v0.drew W → W.cell? ⟨b, off + k, none⟩ = some (.int .i64 v)) := Lib.hid fun W h => (h.cell (World.block_lt_of_cell? _ _ hc2)).trans hc2
          refine wp_region_held_drew (S := fun w' => Hid (Kept w' gh D 33) ∧ w'.cell? ⟨b, off + k, none⟩ = some (.int .i64 v)) (by kernel_rfl) ⟨KH2, hc2⟩ (fun hHeld => ?_)
          clear hc hc2
          have R2 : Hid (Below v0.drew.heap.size v0.drew v0.drew) := Lib.hid (Below.refl _ _)
          generalize v0.drew = v2 at *
          refine wpAnyH_take (i := 0) (oi := ({ dst := some 47, op := Op.load 33 (Operand.tmp 7), type := 33, pos := "law.go:127", after := #[], guard := none } : Oper)) (v := .agg D) rfl (by kernel_rfl) (by kernel_rfl) (by kernel_rfl) (fun _ _ _ h => h) (yieldsIf_row (by rfl) _ _ rfl gh rfl D (fun w' hw' => hw'.1.out) h_under rfl d1) hHeld ?_
          (try simp only [Act.put, List.setIfInBounds_toArray, List.set_cons_zero, List.set_cons_succ])
          refine wpAnyH_take (i := 1) (oi := ({ dst := some 48, op := Op.move (Operand.tmp 0), type := 30, pos := "law.go:127", after := #[], guard := none } : Oper)) (v := ?_) rfl (by kernel_rfl) (by kernel_rfl) (by kernel_rfl) (fun _ _ _ h => h) (Or.inl ⟨by rfl, ?_⟩) hHeld ?_
          rotate_left
          · ((intro w hSw; obtain ⟨-, hSc⟩ := hSw; go_simp); (try with_reducible rfl))
          (try simp only [Act.put, List.setIfInBounds_toArray, List.set_cons_zero, List.set_cons_succ])
          refine wpAnyH_take (i := 2) (oi := ({ dst := some 49, op := Op.move (Operand.tmp 8), type := 3, pos := "law.go:127", after := #[], guard := none } : Oper)) (v := ?_) rfl (by kernel_rfl) (by kernel_rfl) (by kernel_rfl) (fun _ _ _ h => h) (Or.inl ⟨by rfl, ?_⟩) hHeld ?_
          rotate_left
          · ((intro w hSw; obtain ⟨-, hSc⟩ := hSw; go_simp); (try with_reducible rfl))
          (try simp only [Act.put, List.setIfInBounds_toArray, List.set_cons_zero, List.set_cons_succ])
          refine wpAnyH_take (i := 3) (oi := ({ dst := some 50, op := Op.indexAddr 30 (Operand.tmp 48) (Operand.tmp 49), type := 0, pos := "law.go:127", after := #[{ on := 1, ground := Ground.data }, { on := 2, ground := Ground.data }], guard := none } : Oper)) (v := ?_) rfl (by kernel_rfl) (by kernel_rfl) (by kernel_rfl) (fun _ _ _ h => h) (Or.inl ⟨by rfl, ?_⟩) hHeld ?_
          rotate_left
          · ((intro w hSw; obtain ⟨-, hSc⟩ := hSw; go_simp); (try with_reducible rfl))
          (try simp only [Act.put, List.setIfInBounds_toArray, List.set_cons_zero, List.set_cons_succ])
          refine wpAnyH_take (i := 4) (oi := ({ dst := some 51, op := Op.load 2 (Operand.tmp 50), type := 2, pos := "law.go:127", after := #[{ on := 3, ground := Ground.data }], guard := none } : Oper)) (v := ?_) rfl (by kernel_rfl) (by kernel_rfl) (by kernel_rfl) (fun _ _ _ h => h) (Or.inl ⟨by rfl, ?_⟩) hHeld ?_
          rotate_left
          · ((intro w hSw; obtain ⟨-, hSc⟩ := hSw; go_simp); (try with_reducible rfl))
          (try simp only [Act.put, List.setIfInBounds_toArray, List.set_cons_zero, List.set_cons_succ])
          refine wpAnyH_ready (rs := [5, 9]) (by kernel_rfl) (by simp) ?_
          refine AllReadyH.cons (o := ({ dst := some 52, op := Op.call { callee := Callee.value (Operand.func 19), args := #[Operand.tmp 47, Operand.tmp 51], argTypes := #[33, 2] }, type := 38, pos := "law.go:127", after := #[{ on := 0, ground := Ground.data }, { on := 4, ground := Ground.data }], guard := none } : Oper)) rfl (fun K hK => ?_) (AllReadyH.cons (o := ({ dst := some 9, op := Op.alloc 33, type := 0, pos := "law.go:127", after := #[], guard := none } : Oper)) rfl (fun K hK => ?_) (AllReadyH.nil))
          · go_simp
            (with_reducible refine (CAk.out _).mono ?_)
            rintro _ v3 ⟨rfl, b3⟩
            have KA3 := Lib.hid (KA2.out.next b3)
            have KH3 := Lib.hid (KH2.out.next b3)
            have B3 := Lib.hid (B2.out.trans (b3.mono B2.out.size))
            have R3 := Lib.hid (R2.out.trans (b3.mono R2.out.size))
            clear b3
            refine hK.out _ _ ?_ (fun hHeld => ?_)
            · exact ⟨KH3, BC.out _ R3.out⟩
            clear hK K
            (try simp only [Act.put, List.setIfInBounds_toArray, List.set_cons_zero, List.set_cons_succ])
            refine wpAnyH_take (i := 6) (oi := ({ dst := some 46, op := Op.move (Operand.tmp 52), type := 38, pos := "law.go:127", after := #[{ on := 5, ground := Ground.data }], guard := none } : Oper)) (v := ?_) rfl (by kernel_rfl) (by kernel_rfl) (by kernel_rfl) (fun _ _ _ h => h) (Or.inl ⟨by rfl, ?_⟩) hHeld ?_
            rotate_left
            · ((intro w hSw; obtain ⟨-, hSc⟩ := hSw; go_simp); (try with_reducible rfl))
            (try simp only [Act.put, List.setIfInBounds_toArray, List.set_cons_zero, List.set_cons_succ])
            refine wpAnyH_take (i := 7) (oi := ({ dst := some 53, op := Op.extract (Operand.tmp 46) 0, type := 33, pos := "law.go:127", after := #[{ on := 6, ground := Ground.data }], guard := none } : Oper)) (v := ?_) rfl (by kernel_rfl) (by kernel_rfl) (by kernel_rfl) (fun _ _ _ h => h) (Or.inl ⟨by rfl, ?_⟩) hHeld ?_
            rotate_left
            · ((intro w hSw; obtain ⟨-, hSc⟩ := hSw; go_simp); (try with_reducible rfl))
            (try simp only [Act.put, List.setIfInBounds_toArray, List.set_cons_zero, List.set_cons_succ])
            refine wpAnyH_take (i := 8) (oi := ({ dst := some 54, op := Op.extract (Operand.tmp 46) 1, type := 37, pos := "law.go:127", after := #[{ on := 6, ground := Ground.data }, { on := 10, ground := Ground.gcOnly Departure.lateStores }], guard := none } : Oper)) (v := ?_) rfl (by kernel_rfl) (by kernel_rfl) (by kernel_rfl) (fun _ _ _ h => h) (Or.inl ⟨by rfl, ?_⟩) hHeld ?_
            rotate_left
            · ((intro w hSw; obtain ⟨-, hSc⟩ := hSw; go_simp); (try with_reducible rfl))
            (try simp only [Act.put, List.setIfInBounds_toArray, List.set_cons_zero, List.set_cons_succ])
            refine wpAnyH_ready (rs := [9]) (by kernel_rfl) (by simp) ?_
            refine AllReadyH.cons (o := ({ dst := some 9, op := Op.alloc 33, type := 0, pos := "law.go:127", after := #[], guard := none } : Oper)) rfl (fun K hK => ?_) (AllReadyH.nil)
            go_simp
            have A4 : Hid (Kept (v3.alloc (.cells Z 33)) (v3.heap.size) Z 33) := Lib.hid (Kept.new (by simp))
            have L4 : Hid (w.heap.size ≤ v3.heap.size ∧ v3.heap.size ≠ ga ∧ v3.heap.size ≠ gh ∧ v2.heap.size ≤ v3.heap.size) := Lib.hid (by have h1 := B3.out.size; have h2 := KA3.out.lt; have h3 := KH3.out.lt; exact ⟨h1, by omega, by omega, R3.out.size⟩)
            have KA4 := Lib.hid (KA3.out.alloc (.cells Z 33))
            have KH4 := Lib.hid (KH3.out.alloc (.cells Z 33))
            have B4 := Lib.hid (B3.out.alloc B3.out.size (.cells Z 33))
            have R4 := Lib.hid (R3.out.alloc R3.out.size (.cells Z 33))
            refine hK.out _ _ ?_ (fun hHeld => ?_)
            · exact ⟨KH4, BC.out _ R4.out⟩
            clear hK K
            (try simp only [Act.put, List.setIfInBounds_toArray, List.set_cons_zero, List.set_cons_succ])
            refine wpAnyH_ready (rs := [10]) (by kernel_rfl) (by simp) ?_
            refine AllReadyH.cons (o := ({ dst := none, op := Op.store 33 (Operand.tmp 9) (Operand.tmp 53), type := 0, pos := "law.go:127", after := #[{ on := 9, ground := Ground.data }, { on := 7, ground := Ground.data }, { on := 5, ground := Ground.chain }, { on := 0, ground := Ground.phase }, { on := 1, ground := Ground.phase }, { on := 2, ground := Ground.phase }, { on := 3, ground := Ground.phase }, { on := 4, ground := Ground.phase }, { on := 5, ground := Ground.phase }, { on := 6, ground := Ground.phase }, { on := 7, ground := Ground.phase }, { on := 8, ground := Ground.textOnly Departure.lateStores }, { on := 9, ground := Ground.phase }], guard := none } : Oper)) rfl (fun K hK => ?_) (AllReadyH.nil)
            rw [if_pos (by rfl)]
            refine wp_store_row _ _ _ rfl (v3.heap.size) E rfl rfl _ Z A4.out d2 d3 d5 ?_
            have A5 := Lib.hid (A4.out.setRow E)
            have B5 := Lib.hid (below_setRow B4.out L4.out.1 E)
            have KA5 := Lib.hid (KA4.out.setRow_far L4.out.2.1 E)
            have KH5 := Lib.hid (KH4.out.setRow_far L4.out.2.2.1 E)
            have R5 : Hid (Below v2.heap.size v2 (((v3.alloc (.cells Z 33))).setRow (v3.heap.size) E)) := Lib.hid (below_setRow R4.out L4.out.2.2.2 E)
            refine hK.out _ _ ?_ (fun hHeld => ?_)
            · exact ⟨KH5, BC.out _ R5.out⟩
            clear hK K
            (try simp only [Act.put, List.setIfInBounds_toArray, List.set_cons_zero, List.set_cons_succ])
            refine wpAnyH_take (i := 11) (oi := ({ dst := some 10, op := Op.assign (Operand.tmp 54), type := 37, pos := "law.go:127", after := #[{ on := 8, ground := Ground.data }, { on := 10, ground := Ground.chain }, { on := 0, ground := Ground.phase }, { on := 1, ground := Ground.phase }, { on := 2, ground := Ground.phase }, { on := 3, ground := Ground.phase }, { on := 4, ground := Ground.phase }, { on := 5, ground := Ground.phase }, { on := 6, ground := Ground.phase }, { on := 7, ground := Ground.phase }, { on := 8, ground := Ground.phase }, { on := 9, ground := Ground.phase }, { on := 10, ground := Ground.phase }], guard := none } : Oper)) (v := ?_) rfl (by kernel_rfl) (by kernel_rfl) (by kernel_rfl) (fun _ _ _ h => h) (Or.inl ⟨by rfl, ?_⟩) hHeld ?_
            rotate_left
            · ((intro w hSw; obtain ⟨-, hSc⟩ := hSw; go_simp); (try with_reducible rfl))
            (try simp only [Act.put, List.setIfInBounds_toArray, List.set_cons_zero, List.set_cons_succ])
            refine wpAnyH_done (by kernel_rfl) ?_ _
            have FF := Lib.hid (FIN.out _ _ L4.out.1 L4.out.2.1 L4.out.2.2.1 A5.out KA5.out KH5.out B5.out)
            go_wp2_with fail
            go_meet
            case rel => exact FF.out
          · go_simp
            have A3 : Hid (Kept (v2.alloc (.cells Z 33)) (v2.heap.size) Z 33) := Lib.hid (Kept.new (by simp))
            have L3 : Hid (w.heap.size ≤ v2.heap.size ∧ v2.heap.size ≠ ga ∧ v2.heap.size ≠ gh ∧ v2.heap.size ≤ v2.heap.size) := Lib.hid (by have h1 := B2.out.size; have h2 := KA2.out.lt; have h3 := KH2.out.lt; exact ⟨h1, by omega, by omega, R2.out.size⟩)
            have KA3 := Lib.hid (KA2.out.alloc (.cells Z 33))
            have KH3 := Lib.hid (KH2.out.alloc (.cells Z 33))
            have B3 := Lib.hid (B2.out.alloc B2.out.size (.cells Z 33))
            have R3 := Lib.hid (R2.out.alloc R2.out.size (.cells Z 33))
            refine hK.out _ _ ?_ (fun hHeld => ?_)
            · exact ⟨KH3, BC.out _ R3.out⟩
            clear hK K
            (try simp only [Act.put, List.setIfInBounds_toArray, List.set_cons_zero, List.set_cons_succ])
            refine wpAnyH_ready (rs := [5]) (by kernel_rfl) (by simp) ?_
            refine AllReadyH.cons (o := ({ dst := some 52, op := Op.call { callee := Callee.value (Operand.func 19), args := #[Operand.tmp 47, Operand.tmp 51], argTypes := #[33, 2] }, type := 38, pos := "law.go:127", after := #[{ on := 0, ground := Ground.data }, { on := 4, ground := Ground.data }], guard := none } : Oper)) rfl (fun K hK => ?_) (AllReadyH.nil)
            go_simp
            (with_reducible refine (CAk.out _).mono ?_)
            rintro _ v4 ⟨rfl, b4⟩
            have KA4 := Lib.hid (KA3.out.next b4)
            have KH4 := Lib.hid (KH3.out.next b4)
            have B4 := Lib.hid (B3.out.trans (b4.mono B3.out.size))
            have R4 := Lib.hid (R3.out.trans (b4.mono R3.out.size))
            have A4 := Lib.hid (A3.out.next b4)
            clear b4
            refine hK.out _ _ ?_ (fun hHeld => ?_)
            · exact ⟨KH4, BC.out _ R4.out⟩
            clear hK K
            (try simp only [Act.put, List.setIfInBounds_toArray, List.set_cons_zero, List.set_cons_succ])
            refine wpAnyH_take (i := 6) (oi := ({ dst := some 46, op := Op.move (Operand.tmp 52), type := 38, pos := "law.go:127", after := #[{ on := 5, ground := Ground.data }], guard := none } : Oper)) (v := ?_) rfl (by kernel_rfl) (by kernel_rfl) (by kernel_rfl) (fun _ _ _ h => h) (Or.inl ⟨by rfl, ?_⟩) hHeld ?_
            rotate_left
            · ((intro w hSw; obtain ⟨-, hSc⟩ := hSw; go_simp); (try with_reducible rfl))
            (try simp only [Act.put, List.setIfInBounds_toArray, List.set_cons_zero, List.set_cons_succ])
            refine wpAnyH_take (i := 7) (oi := ({ dst := some 53, op := Op.extract (Operand.tmp 46) 0, type := 33, pos := "law.go:127", after := #[{ on := 6, ground := Ground.data }], guard := none } : Oper)) (v := ?_) rfl (by kernel_rfl) (by kernel_rfl) (by kernel_rfl) (fun _ _ _ h => h) (Or.inl ⟨by rfl, ?_⟩) hHeld ?_
            rotate_left
            · ((intro w hSw; obtain ⟨-, hSc⟩ := hSw; go_simp); (try with_reducible rfl))
            (try simp only [Act.put, List.setIfInBounds_toArray, List.set_cons_zero, List.set_cons_succ])
            refine wpAnyH_take (i := 8) (oi := ({ dst := some 54, op := Op.extract (Operand.tmp 46) 1, type := 37, pos := "law.go:127", after := #[{ on := 6, ground := Ground.data }, { on := 10, ground := Ground.gcOnly Departure.lateStores }], guard := none } : Oper)) (v := ?_) rfl (by kernel_rfl) (by kernel_rfl) (by kernel_rfl) (fun _ _ _ h => h) (Or.inl ⟨by rfl, ?_⟩) hHeld ?_
            rotate_left
            · ((intro w hSw; obtain ⟨-, hSc⟩ := hSw; go_simp); (try with_reducible rfl))
            (try simp only [Act.put, List.setIfInBounds_toArray, List.set_cons_zero, List.set_cons_succ])
            refine wpAnyH_ready (rs := [10]) (by kernel_rfl) (by simp) ?_
            refine AllReadyH.cons (o := ({ dst := none, op := Op.store 33 (Operand.tmp 9) (Operand.tmp 53), type := 0, pos := "law.go:127", after := #[{ on := 9, ground := Ground.data }, { on := 7, ground := Ground.data }, { on := 5, ground := Ground.chain }, { on := 0, ground := Ground.phase }, { on := 1, ground := Ground.phase }, { on := 2, ground := Ground.phase }, { on := 3, ground := Ground.phase }, { on := 4, ground := Ground.phase }, { on := 5, ground := Ground.phase }, { on := 6, ground := Ground.phase }, { on := 7, ground := Ground.phase }, { on := 8, ground := Ground.textOnly Departure.lateStores }, { on := 9, ground := Ground.phase }], guard := none } : Oper)) rfl (fun K hK => ?_) (AllReadyH.nil)
            rw [if_pos (by rfl)]
            refine wp_store_row _ _ _ rfl (v2.heap.size) E rfl rfl _ Z A4.out d2 d3 d5 ?_
            have A5 := Lib.hid (A4.out.setRow E)
            have B5 := Lib.hid (below_setRow B4.out L3.out.1 E)
            have KA5 := Lib.hid (KA4.out.setRow_far L3.out.2.1 E)
            have KH5 := Lib.hid (KH4.out.setRow_far L3.out.2.2.1 E)
            have R5 : Hid (Below v2.heap.size v2 ((v4).setRow (v2.heap.size) E)) := Lib.hid (below_setRow R4.out L3.out.2.2.2 E)
            refine hK.out _ _ ?_ (fun hHeld => ?_)
            · exact ⟨KH5, BC.out _ R5.out⟩
            clear hK K
            (try simp only [Act.put, List.setIfInBounds_toArray, List.set_cons_zero, List.set_cons_succ])
            refine wpAnyH_take (i := 11) (oi := ({ dst := some 10, op := Op.assign (Operand.tmp 54), type := 37, pos := "law.go:127", after := #[{ on := 8, ground := Ground.data }, { on := 10, ground := Ground.chain }, { on := 0, ground := Ground.phase }, { on := 1, ground := Ground.phase }, { on := 2, ground := Ground.phase }, { on := 3, ground := Ground.phase }, { on := 4, ground := Ground.phase }, { on := 5, ground := Ground.phase }, { on := 6, ground := Ground.phase }, { on := 7, ground := Ground.phase }, { on := 8, ground := Ground.phase }, { on := 9, ground := Ground.phase }, { on := 10, ground := Ground.phase }], guard := none } : Oper)) (v := ?_) rfl (by kernel_rfl) (by kernel_rfl) (by kernel_rfl) (fun _ _ _ h => h) (Or.inl ⟨by rfl, ?_⟩) hHeld ?_
            rotate_left
            · ((intro w hSw; obtain ⟨-, hSc⟩ := hSw; go_simp); (try with_reducible rfl))
            (try simp only [Act.put, List.setIfInBounds_toArray, List.set_cons_zero, List.set_cons_succ])
            refine wpAnyH_done (by kernel_rfl) ?_ _
            have FF := Lib.hid (FIN.out _ _ L3.out.1 L3.out.2.1 L3.out.2.2.1 A5.out KA5.out KH5.out B5.out)
            go_wp2_with fail
            go_meet
            case rel => exact FF.out
        case rest =>
          obtain ⟨g, rfl, rfl, hh⟩ := hcut
          obtain ⟨h1, h2, h3, h4, h5, h6, h7⟩ := hh.out
          have K4 := Lib.hid h4
          have K6 := Lib.hid h6
          have FF : Hid (PaRel l w ga gh C (.int .i64 ((k : Int) + 1)) (wc.setRow gh E)) := Lib.hid (F.out _ (h5.setRow_far (by omega) _) (h6.setRow _) (below_setRow h7 (by omega) _))
          clear hh h1 h2 h3 h4 h5 h6 h7 KA KH BB F CAk hc
          obtain ⟨v3, hv3⟩ : ∃ x, x = wc := ⟨_, rfl⟩
          subst hv3
          go_upto_region 13 with fail
          go_wp2_with (first
            | (refine wpList_load_row rfl 33 _ rfl g rfl 33 E (0, 0) _ K4.out h_under rfl d2 ?_)
            | (refine wpList_store_row rfl 33 _ _ rfl gh E rfl rfl 33 D K6.out d2 d4 d5 ?_; generalize v3.setRow gh E = V3 at *; clear hz K4 K6 d1 d2 d3 d4 d5 hkk HE HR))
          go_roundw
          case rel => rw [e3]; exact FF.out
          case measure => have := HK.out; rw [e3]; simp [intOf]; omega
      · obtain rfl : k = l.length := by omega
        rw [List.take_length] at KH
        have hkk : ¬ (l.length : Int) < (l.length : Int) := by omega
        rw [HCL.out] at KH
        clear hlt hk CA
        obtain ⟨v0, hv0⟩ : ∃ x, x = wr := ⟨_, rfl⟩
        subst hv0
        go_upto_region 14 with fail
        have B2 : Hid (Below w.heap.size w v0.drew) := Lib.hid BB.out.drew
        have KA2 : Hid (Kept v0.drew ga C 33) := Lib.hid (KA.out.drewN 1)
        have KH2 : Hid (Kept v0.drew gh C 33) := Lib.hid (KH.out.drewN 1)
        have R2 : Hid (Below v0.drew.heap.size v0.drew v0.drew) := Lib.hid (Below.refl _ _)
        have he := HE.out
        refine wp_region_held_drew (S := fun w' => Hid (Kept w' ga C 33 ∧ Kept w' gh C 33)) (by kernel_rfl) (Lib.hid ⟨KA2.out, KH2.out⟩) (fun hHeld => ?_)
        clear KA KH BB
        generalize v0.drew = v2 at *
        refine wpAnyH_take (i := 0) (oi := ({ dst := some 58, op := Op.move (Operand.tmp 6), type := 37, pos := "law.go:133", after := #[], guard := none } : Oper)) (v := ?_) rfl (by kernel_rfl) (by kernel_rfl) (by kernel_rfl) (fun _ _ _ h => h) (Or.inl ⟨by rfl, ?_⟩) hHeld ?_
        rotate_left
        · ((intro w hSw; (try dsimp only at hSw); go_simp); (try with_reducible rfl))
        (try simp only [Act.put, List.setIfInBounds_toArray, List.set_cons_zero, List.set_cons_succ])
        refine wpAnyH_take (i := 1) (oi := ({ dst := some 59, op := Op.binOp BinOp.eql 37 (Operand.tmp 58) (Operand.const (Value.int IntKind.i64 0)) 37, type := 4, pos := "law.go:133", after := #[{ on := 0, ground := Ground.data }], guard := none } : Oper)) (v := ?_) rfl (by kernel_rfl) (by kernel_rfl) (by kernel_rfl) (fun _ _ _ h => h) (Or.inl ⟨by rfl, ?_⟩) hHeld ?_
        rotate_left
        · ((intro w hSw; (try dsimp only at hSw); go_simp); (try with_reducible rfl))
        (try simp only [Act.put, List.setIfInBounds_toArray, List.set_cons_zero, List.set_cons_succ])
        refine wpAnyH_take (i := 2) (oi := ({ dst := some 60, op := Op.move (Operand.tmp 59), type := 4, pos := "law.go:133", after := #[{ on := 1, ground := Ground.data }], guard := none } : Oper)) (v := ?_) rfl (by kernel_rfl) (by kernel_rfl) (by kernel_rfl) (fun _ _ _ h => h) (Or.inl ⟨by rfl, ?_⟩) hHeld ?_
        rotate_left
        · ((intro w hSw; (try dsimp only at hSw); go_simp); (try with_reducible rfl))
        (try simp only [Act.put, List.setIfInBounds_toArray, List.set_cons_zero, List.set_cons_succ])
        refine wpAnyH_take (i := 3) (oi := ({ dst := some 61, op := Op.load 33 (Operand.tmp 5), type := 33, pos := "law.go:133", after := #[{ on := 2, ground := Ground.guard }], guard := some (2, true) } : Oper)) (v := .agg C) rfl (by kernel_rfl) (by kernel_rfl) (by kernel_rfl) (fun _ _ _ h => h) (yieldsIf_row (by rfl) _ _ rfl ga rfl C (fun w' hw' => hw'.out.1) h_under rfl ci) hHeld ?_
        (try simp only [Act.put, List.setIfInBounds_toArray, List.set_cons_zero, List.set_cons_succ])
        refine wpAnyH_take (i := 4) (oi := ({ dst := some 62, op := Op.move (Operand.tmp 0), type := 30, pos := "law.go:133", after := #[{ on := 2, ground := Ground.guard }], guard := some (2, true) } : Oper)) (v := ?_) rfl (by kernel_rfl) (by kernel_rfl) (by kernel_rfl) (fun _ _ _ h => h) (Or.inl ⟨by rfl, ?_⟩) hHeld ?_
        rotate_left
        · ((intro w hSw; (try dsimp only at hSw); go_simp); (try with_reducible rfl))
        (try simp only [Act.put, List.setIfInBounds_toArray, List.set_cons_zero, List.set_cons_succ])
        refine wpAnyH_ready (rs := [5]) (by kernel_rfl) (by simp) ?_
        refine AllReadyH.cons (o := ({ dst := some 63, op := Op.call { callee := Callee.value (Operand.func 14), args := #[Operand.tmp 62], argTypes := #[30] }, type := 33, pos := "law.go:133", after := #[{ on := 4, ground := Ground.data }, { on := 2, ground := Ground.chain }, { on := 2, ground := Ground.guard }], guard := some (2, true) } : Oper)) rfl (fun K hK => ?_) (AllReadyH.nil)
        go_simp
        (with_reducible refine (COf.out _ B2.out).mono ?_)
        rintro _ v3 ⟨rfl, b3⟩
        have KA3 := Lib.hid (KA2.out.next b3)
        have KH3 := Lib.hid (KH2.out.next b3)
        have B3 := Lib.hid (B2.out.trans (b3.mono B2.out.size))
        have R3 := Lib.hid (R2.out.trans (b3.mono R2.out.size))
        clear b3
        refine hK.out _ _ ?_ (fun hHeld => ?_)
        · exact Lib.hid ⟨KA3.out, KH3.out⟩
        clear hK K
        (try simp only [Act.put, List.setIfInBounds_toArray, List.set_cons_zero, List.set_cons_succ])
        refine wpAnyH_take (i := 6) (oi := ({ dst := some 64, op := Op.binOp BinOp.eql 33 (Operand.tmp 61) (Operand.tmp 63) 33, type := 4, pos := "law.go:133", after := #[{ on := 3, ground := Ground.data }, { on := 5, ground := Ground.data }, { on := 2, ground := Ground.guard }], guard := some (2, true) } : Oper)) (v := ?_) rfl (by kernel_rfl) (by kernel_rfl) (by kernel_rfl) (fun _ _ _ h => h) (Or.inl ⟨by rfl, ?_⟩) hHeld ?_
        rotate_left
        · ((intro w hSw; (try dsimp only at hSw); go_simp); (try with_reducible rfl))
        (try simp only [Act.put, List.setIfInBounds_toArray, List.set_cons_zero, List.set_cons_succ])
        refine wpAnyH_take (i := 7) (oi := ({ dst := some 65, op := Op.pick (Operand.tmp 60) (Operand.tmp 64) (Operand.const (Value.bool false)), type := 4, pos := "law.go:133", after := #[{ on := 2, ground := Ground.data }, { on := 6, ground := Ground.data }], guard := none } : Oper)) (v := ?_) rfl (by kernel_rfl) (by kernel_rfl) (by kernel_rfl) (fun _ _ _ h => h) (Or.inl ⟨by rfl, ?_⟩) hHeld ?_
        rotate_left
        · ((intro w hSw; (try dsimp only at hSw); go_simp); (try with_reducible rfl))
        (try simp only [Act.put, List.setIfInBounds_toArray, List.set_cons_zero, List.set_cons_succ])
        refine wpAnyH_take (i := 8) (oi := ({ dst := some 66, op := Op.move (Operand.tmp 65), type := 4, pos := "law.go:133", after := #[{ on := 7, ground := Ground.data }, { on := 5, ground := Ground.chain }], guard := none } : Oper)) (v := ?_) rfl (by kernel_rfl) (by kernel_rfl) (by kernel_rfl) (fun _ _ _ h => h) (Or.inl ⟨by rfl, ?_⟩) hHeld ?_
        rotate_left
        · ((intro w hSw; (try dsimp only at hSw); go_simp); (try with_reducible rfl))
        (try simp only [Act.put, List.setIfInBounds_toArray, List.set_cons_zero, List.set_cons_succ])
        refine wpAnyH_take (i := 9) (oi := ({ dst := some 67, op := Op.load 33 (Operand.tmp 5), type := 33, pos := "law.go:133", after := #[{ on := 8, ground := Ground.guard }], guard := some (8, true) } : Oper)) (v := .agg C) rfl (by kernel_rfl) (by kernel_rfl) (by kernel_rfl) (fun _ _ _ h => h) (yieldsIf_row (by rfl) _ _ rfl ga rfl C (fun w' hw' => hw'.out.1) h_under rfl ci) hHeld ?_
        (try simp only [Act.put, List.setIfInBounds_toArray, List.set_cons_zero, List.set_cons_succ])
        refine wpAnyH_take (i := 10) (oi := ({ dst := some 68, op := Op.load 33 (Operand.tmp 7), type := 33, pos := "law.go:133", after := #[{ on := 8, ground := Ground.guard }], guard := some (8, true) } : Oper)) (v := .agg C) rfl (by kernel_rfl) (by kernel_rfl) (by kernel_rfl) (fun _ _ _ h => h) (yieldsIf_row (by rfl) _ _ rfl gh rfl C (fun w' hw' => hw'.out.2) h_under rfl ci) hHeld ?_
        (try simp only [Act.put, List.setIfInBounds_toArray, List.set_cons_zero, List.set_cons_succ])
        refine wpAnyH_take (i := 11) (oi := ({ dst := some 69, op := Op.binOp BinOp.eql 33 (Operand.tmp 67) (Operand.tmp 68) 33, type := 4, pos := "law.go:133", after := #[{ on := 9, ground := Ground.data }, { on := 10, ground := Ground.data }, { on := 8, ground := Ground.guard }], guard := some (8, true) } : Oper)) (v := ?_) rfl (by kernel_rfl) (by kernel_rfl) (by kernel_rfl) (fun _ _ _ h => h) (Or.inl ⟨by rfl, ?_⟩) hHeld ?_
        rotate_left
        · ((intro w hSw; (try dsimp only at hSw); go_simp); (try with_reducible rfl))
        (try simp only [Act.put, List.setIfInBounds_toArray, List.set_cons_zero, List.set_cons_succ])
        refine wpAnyH_take (i := 12) (oi := ({ dst := some 70, op := Op.pick (Operand.tmp 66) (Operand.tmp 69) (Operand.const (Value.bool false)), type := 4, pos := "law.go:133", after := #[{ on := 8, ground := Ground.data }, { on := 11, ground := Ground.data }], guard := none } : Oper)) (v := ?_) rfl (by kernel_rfl) (by kernel_rfl) (by kernel_rfl) (fun _ _ _ h => h) (Or.inl ⟨by rfl, ?_⟩) hHeld ?_
        rotate_left
        · ((intro w hSw; (try dsimp only at hSw); go_simp); (try with_reducible rfl))
        (try simp only [Act.put, List.setIfInBounds_toArray, List.set_cons_zero, List.set_cons_succ])
        refine wpAnyH_take (i := 13) (oi := ({ dst := some 71, op := Op.move (Operand.tmp 70), type := 4, pos := "law.go:133", after := #[{ on := 12, ground := Ground.data }, { on := 8, ground := Ground.chain }], guard := none } : Oper)) (v := ?_) rfl (by kernel_rfl) (by kernel_rfl) (by kernel_rfl) (fun _ _ _ h => h) (Or.inl ⟨by rfl, ?_⟩) hHeld ?_
        rotate_left
        · ((intro w hSw; (try dsimp only at hSw); go_simp); (try with_reducible rfl))
        (try simp only [Act.put, List.setIfInBounds_toArray, List.set_cons_zero, List.set_cons_succ])
        refine wpAnyH_take (i := 14) (oi := ({ dst := some 72, op := Op.load 33 (Operand.tmp 5), type := 33, pos := "law.go:133", after := #[{ on := 13, ground := Ground.guard }], guard := some (13, true) } : Oper)) (v := .agg C) rfl (by kernel_rfl) (by kernel_rfl) (by kernel_rfl) (fun _ _ _ h => h) (yieldsIf_row (by rfl) _ _ rfl ga rfl C (fun w' hw' => hw'.out.1) h_under rfl ci) hHeld ?_
        (try simp only [Act.put, List.setIfInBounds_toArray, List.set_cons_zero, List.set_cons_succ])
        refine wpAnyH_take (i := 16) (oi := ({ dst := some 74, op := Op.move (Operand.tmp 0), type := 30, pos := "law.go:133", after := #[{ on := 13, ground := Ground.guard }], guard := some (13, true) } : Oper)) (v := ?_) rfl (by kernel_rfl) (by kernel_rfl) (by kernel_rfl) (fun _ _ _ h => h) (Or.inl ⟨by rfl, ?_⟩) hHeld ?_
        rotate_left
        · ((intro w hSw; (try dsimp only at hSw); go_simp); (try with_reducible rfl))
        (try simp only [Act.put, List.setIfInBounds_toArray, List.set_cons_zero, List.set_cons_succ])
        refine wpAnyH_take (i := 17) (oi := ({ dst := some 75, op := Op.call { callee := Callee.builtin Builtin.len, args := #[Operand.tmp 74], argTypes := #[30] }, type := 3, pos := "law.go:133", after := #[{ on := 16, ground := Ground.data }, { on := 13, ground := Ground.guard }], guard := some (13, true) } : Oper)) (v := ?_) rfl (by kernel_rfl) (by kernel_rfl) (by kernel_rfl) (fun _ _ _ h => h) (Or.inl ⟨by rfl, ?_⟩) hHeld ?_
        rotate_left
        · ((intro w hSw; (try dsimp only at hSw); go_simp); (try with_reducible rfl))
        (try simp only [Act.put, List.setIfInBounds_toArray, List.set_cons_zero, List.set_cons_succ])
        refine wpAnyH_ready (rs := [15]) (by kernel_rfl) (by simp) ?_
        refine AllReadyH.cons (o := ({ dst := some 73, op := Op.call { callee := Callee.value (Operand.func 23), args := #[Operand.tmp 72], argTypes := #[33] }, type := 47, pos := "law.go:133", after := #[{ on := 14, ground := Ground.data }, { on := 13, ground := Ground.chain }, { on := 13, ground := Ground.guard }], guard := some (13, true) } : Oper)) rfl (fun K hK => ?_) (AllReadyH.nil)
        go_simp
        (with_reducible refine (CT.out _).mono ?_)
        rintro _ v4 ⟨rfl, b4⟩
        have KA4 := Lib.hid (KA3.out.next b4)
        have KH4 := Lib.hid (KH3.out.next b4)
        have B4 := Lib.hid (B3.out.trans (b4.mono B3.out.size))
        have R4 := Lib.hid (R3.out.trans (b4.mono R3.out.size))
        clear b4
        refine hK.out _ _ ?_ (fun hHeld => ?_)
        · exact Lib.hid ⟨KA4.out, KH4.out⟩
        clear hK K
        (try simp only [Act.put, List.setIfInBounds_toArray, List.set_cons_zero, List.set_cons_succ])
        refine wpAnyH_ready (rs := [18]) (by kernel_rfl) (by simp) ?_
        refine AllReadyH.cons (o := ({ dst := some 76, op := Op.call { callee := Callee.value (Operand.func 27), args := #[Operand.tmp 75], argTypes := #[2] }, type := 47, pos := "law.go:133", after := #[{ on := 17, ground := Ground.data }, { on := 15, ground := Ground.chain }, { on := 13, ground := Ground.guard }], guard := some (13, true) } : Oper)) rfl (fun K hK => ?_) (AllReadyH.nil)
        go_simp
        (with_reducible refine (CW.out _).mono ?_)
        rintro _ v5 ⟨rfl, b5⟩
        have KA5 := Lib.hid (KA4.out.next b5)
        have KH5 := Lib.hid (KH4.out.next b5)
        have B5 := Lib.hid (B4.out.trans (b5.mono B4.out.size))
        have R5 := Lib.hid (R4.out.trans (b5.mono R4.out.size))
        clear b5
        refine hK.out _ _ ?_ (fun hHeld => ?_)
        · exact Lib.hid ⟨KA5.out, KH5.out⟩
        clear hK K
        (try simp only [Act.put, List.setIfInBounds_toArray, List.set_cons_zero, List.set_cons_succ])
        refine wpAnyH_take (i := 19) (oi := ({ dst := some 77, op := Op.binOp BinOp.eql 47 (Operand.tmp 73) (Operand.tmp 76) 47, type := 4, pos := "law.go:133", after := #[{ on := 15, ground := Ground.data }, { on := 18, ground := Ground.data }, { on := 13, ground := Ground.guard }], guard := some (13, true) } : Oper)) (v := .bool true) rfl (by kernel_rfl) (by kernel_rfl) (by kernel_rfl) (fun _ _ _ h => h) (Or.inl ⟨by rfl, fun w hSw => w_eql_at _ _ _ _ X1 X2 _ rfl rfl rfl⟩) hHeld ?_
        (try simp only [Act.put, List.setIfInBounds_toArray, List.set_cons_zero, List.set_cons_succ])
        refine wpAnyH_take (i := 20) (oi := ({ dst := some 78, op := Op.pick (Operand.tmp 71) (Operand.tmp 77) (Operand.const (Value.bool false)), type := 4, pos := "law.go:133", after := #[{ on := 13, ground := Ground.data }, { on := 19, ground := Ground.data }], guard := none } : Oper)) (v := ?_) rfl (by kernel_rfl) (by kernel_rfl) (by kernel_rfl) (fun _ _ _ h => h) (Or.inl ⟨by rfl, ?_⟩) hHeld ?_
        rotate_left
        · ((intro w hSw; (try dsimp only at hSw); go_simp); (try with_reducible rfl))
        (try simp only [Act.put, List.setIfInBounds_toArray, List.set_cons_zero, List.set_cons_succ])
        refine wpAnyH_take (i := 21) (oi := ({ dst := some 4, op := Op.assign (Operand.tmp 78), type := 4, pos := "law.go:133", after := #[{ on := 20, ground := Ground.data }, { on := 18, ground := Ground.chain }, { on := 0, ground := Ground.phase }, { on := 1, ground := Ground.phase }, { on := 2, ground := Ground.phase }, { on := 3, ground := Ground.phase }, { on := 4, ground := Ground.phase }, { on := 5, ground := Ground.phase }, { on := 6, ground := Ground.phase }, { on := 7, ground := Ground.phase }, { on := 8, ground := Ground.phase }, { on := 9, ground := Ground.phase }, { on := 10, ground := Ground.phase }, { on := 11, ground := Ground.phase }, { on := 12, ground := Ground.phase }, { on := 13, ground := Ground.phase }, { on := 14, ground := Ground.phase }, { on := 15, ground := Ground.phase }, { on := 16, ground := Ground.phase }, { on := 17, ground := Ground.phase }, { on := 18, ground := Ground.phase }, { on := 19, ground := Ground.phase }, { on := 20, ground := Ground.phase }], guard := none } : Oper)) (v := ?_) rfl (by kernel_rfl) (by kernel_rfl) (by kernel_rfl) (fun _ _ _ h => h) (Or.inl ⟨by rfl, ?_⟩) hHeld ?_
        rotate_left
        · ((intro w hSw; (try dsimp only at hSw); go_simp); (try with_reducible rfl))
        (try simp only [Act.put, List.setIfInBounds_toArray, List.set_cons_zero, List.set_cons_succ])
        refine wpAnyH_done (by kernel_rfl) ?_ _
        have BE := B5
        go_wp2
        go_ret
        exact ⟨rfl, BE.out⟩
end Go.Proofs.Ytldgdedfioigiaa
