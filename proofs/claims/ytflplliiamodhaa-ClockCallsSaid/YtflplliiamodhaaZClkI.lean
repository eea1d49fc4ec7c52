import Derived.Test.YtflplliiamodhaaZClkH
/- Clock.Clone, Set. -/
namespace Go.Proofs.Ytflplliiamodhaa
open Go.RowKit
set_option linter.unusedVariables false
set_option linter.unusedSimpArgs false

theorem owns_base {w : World} {base base' e size n : Nat} {v : Value} {xs : List Value} (hb : base' ≤ base) (h : w.ownsRow base e size v n xs) : w.ownsRow base' e size v n xs := by
  obtain ⟨h1, h2⟩ := h
  refine ⟨h1, ?_⟩
  rcases h2 with h2 | ⟨g, cap, cur, e1, e2, e3⟩
  · exact .inl h2
  · exact .inr ⟨g, cap, cur, e1, Nat.le_trans hb e2, e3⟩
theorem cell_set2 {w : World} {g i j : Nat} {u u' v : Value} {p : Addr} (h : w.cell? p = some v) (hp : p.block ≠ g) : ((w.setCell ⟨g, i, none⟩ u).setCell ⟨g, j, none⟩ u').cell? p = some v := by
  rw [World.cell?_of_block (Below.heap_setCell _ ⟨g, j, none⟩ u' p.block hp), World.cell?_of_block (Below.heap_setCell _ ⟨g, i, none⟩ u p.block hp)]
  exact h
def CkCloneOut (c : Ck) (w : World) (e : Ending) (w' : World) : Prop := ∃ g' v', e = .returned (.pointer (some ⟨g', 0, none⟩)) ∧ w.heap.size ≤ g' ∧ (∀ k, v'.ownBlock = some k → w.heap.size ≤ k) ∧ CkO w' g' v' c ∧ Below w.heap.size w w'
set_option maxHeartbeats 2000000 in
set_option maxRecDepth 100000 in
theorem ckclone_any (g : Nat) (v : Value) (c : Ck) (w : World) (h : CkO w g v c) (hl : c.L.length ≤ 8) : Calls Try.prog 33 #[.pointer (some ⟨g, 0, none⟩)] w (CkCloneOut c w) := by
  obtain ⟨a, cap, rfl, -, -, -, hn, hq⟩ := QuadRow.own h.2.1
  have CC : Hid (∀ W, Below w.heap.size w W → Calls Try.prog 59 #[.slice a c.L.length cap] W (SCloneOut c.L W)) := Lib.hid fun W hb => sclone_any a cap c.L W (hq.below hb) (fun e => by
    rcases h.2.1.2 with ⟨_, h1⟩ | ⟨b, cap', cur, h1, _⟩
    · exact List.eq_nil_of_length_eq_zero h1
    · subst e; cases h1) (by omega)
  have H := Lib.hid h
  have HL := Lib.hid hl
  obtain ⟨rho, need, streak, held, L⟩ := c
  dsimp only at *
  obtain ⟨x1, x2, x3, x4, x5, -⟩ := h.1.five
  clear h hq hn hl
  go_enter Try.func33, Try.ntmps33
  go_upto_region 1 with fail
  have B1 : Hid (Below w.heap.size w w.drew) := Lib.hid (Below.refl _ _).drew
  refine wp_region_held_drew (S := fun w' => w'.cell? ⟨g, 0, none⟩ = some (.int .i64 rho) ∧ w'.cell? ⟨g, 1, none⟩ = some (.slice a L.length cap) ∧ w'.cell? ⟨g, 2, none⟩ = some (.int .i64 need) ∧ w'.cell? ⟨g, 3, none⟩ = some (.int .i64 streak) ∧ w'.cell? ⟨g, 4, none⟩ = some (.bool held)) (by kernel_rfl) ⟨x1, x2, x3, x4, x5⟩ (fun hHeld => ?_)
  have KS : Hid (∀ W, Below w.heap.size w W → W.cell? ⟨g, 0, none⟩ = some (.int .i64 rho) ∧ W.cell? ⟨g, 1, none⟩ = some (.slice a L.length cap) ∧ W.cell? ⟨g, 2, none⟩ = some (.int .i64 need) ∧ W.cell? ⟨g, 3, none⟩ = some (.int .i64 streak) ∧ W.cell? ⟨g, 4, none⟩ = some (.bool held)) := Lib.hid fun W hb => keep5 hb ⟨x1, x2, x3, x4, x5⟩
  clear x1 x2 x3 x4 x5
  generalize w.drew = v2 at *
  refine wpAnyH_take (i := 0) (oi := ({ dst := some 3, op := Op.move (Operand.tmp 0), type := 24, pos := "clock.go:151", after := #[], guard := none } : Oper)) (v := ?_) rfl (by kernel_rfl) (by kernel_rfl) (by kernel_rfl) (fun _ _ _ h => h) (Or.inl ⟨by rfl, ?_⟩) hHeld ?_
  rotate_left
  · ((intro w hSw; obtain ⟨s1, s2, s3, s4, s5⟩ := hSw; go_simp); (try with_reducible rfl))
  (try simp only [Act.put, List.setIfInBounds_toArray, List.set_cons_zero, List.set_cons_succ])
  refine wpAnyH_take (i := 1) (oi := ({ dst := some 4, op := Op.nilCheck (Operand.tmp 3), type := 0, pos := "clock.go:151", after := #[{ on := 0, ground := Ground.data }], guard := none } : Oper)) (v := ?_) rfl (by kernel_rfl) (by kernel_rfl) (by kernel_rfl) (fun _ _ _ h => h) (Or.inl ⟨by rfl, ?_⟩) hHeld ?_
  rotate_left
  · ((intro w hSw; obtain ⟨s1, s2, s3, s4, s5⟩ := hSw; go_simp); (try with_reducible rfl))
  (try simp only [Act.put, List.setIfInBounds_toArray, List.set_cons_zero, List.set_cons_succ])
  refine wpAnyH_take (i := 2) (oi := ({ dst := some 5, op := Op.fieldAddr 78 (Operand.tmp 4) 0, type := 0, pos := "clock.go:151", after := #[{ on := 1, ground := Ground.data }], guard := none } : Oper)) (v := ?_) rfl (by kernel_rfl) (by kernel_rfl) (by kernel_rfl) (fun _ _ _ h => h) (Or.inl ⟨by rfl, ?_⟩) hHeld ?_
  rotate_left
  · ((intro w hSw; obtain ⟨s1, s2, s3, s4, s5⟩ := hSw; go_simp); (try with_reducible rfl))
  (try simp only [Act.put, List.setIfInBounds_toArray, List.set_cons_zero, List.set_cons_succ])
  refine wpAnyH_take (i := 3) (oi := ({ dst := some 6, op := Op.load 2 (Operand.tmp 5), type := 2, pos := "clock.go:151", after := #[{ on := 2, ground := Ground.data }], guard := none } : Oper)) (v := ?_) rfl (by kernel_rfl) (by kernel_rfl) (by kernel_rfl) (fun _ _ _ h => h) (Or.inl ⟨by rfl, ?_⟩) hHeld ?_
  rotate_left
  · ((intro w hSw; obtain ⟨s1, s2, s3, s4, s5⟩ := hSw; go_simp); (try with_reducible rfl))
  (try simp only [Act.put, List.setIfInBounds_toArray, List.set_cons_zero, List.set_cons_succ])
  refine wpAnyH_take (i := 4) (oi := ({ dst := some 7, op := Op.move (Operand.tmp 0), type := 24, pos := "clock.go:151", after := #[], guard := none } : Oper)) (v := ?_) rfl (by kernel_rfl) (by kernel_rfl) (by kernel_rfl) (fun _ _ _ h => h) (Or.inl ⟨by rfl, ?_⟩) hHeld ?_
  rotate_left
  · ((intro w hSw; obtain ⟨s1, s2, s3, s4, s5⟩ := hSw; go_simp); (try with_reducible rfl))
  (try simp only [Act.put, List.setIfInBounds_toArray, List.set_cons_zero, List.set_cons_succ])
  refine wpAnyH_take (i := 5) (oi := ({ dst := some 8, op := Op.nilCheck (Operand.tmp 7), type := 0, pos := "clock.go:151", after := #[{ on := 4, ground := Ground.data }], guard := none } : Oper)) (v := ?_) rfl (by kernel_rfl) (by kernel_rfl) (by kernel_rfl) (fun _ _ _ h => h) (Or.inl ⟨by rfl, ?_⟩) hHeld ?_
  rotate_left
  · ((intro w hSw; obtain ⟨s1, s2, s3, s4, s5⟩ := hSw; go_simp); (try with_reducible rfl))
  (try simp only [Act.put, List.setIfInBounds_toArray, List.set_cons_zero, List.set_cons_succ])
  refine wpAnyH_take (i := 6) (oi := ({ dst := some 9, op := Op.fieldAddr 78 (Operand.tmp 8) 1, type := 0, pos := "clock.go:151", after := #[{ on := 5, ground := Ground.data }], guard := none } : Oper)) (v := ?_) rfl (by kernel_rfl) (by kernel_rfl) (by kernel_rfl) (fun _ _ _ h => h) (Or.inl ⟨by rfl, ?_⟩) hHeld ?_
  rotate_left
  · ((intro w hSw; obtain ⟨s1, s2, s3, s4, s5⟩ := hSw; go_simp); (try with_reducible rfl))
  (try simp only [Act.put, List.setIfInBounds_toArray, List.set_cons_zero, List.set_cons_succ])
  refine wpAnyH_take (i := 7) (oi := ({ dst := some 10, op := Op.load 22 (Operand.tmp 9), type := 22, pos := "clock.go:151", after := #[{ on := 6, ground := Ground.data }], guard := none } : Oper)) (v := ?_) rfl (by kernel_rfl) (by kernel_rfl) (by kernel_rfl) (fun _ _ _ h => h) (Or.inl ⟨by rfl, ?_⟩) hHeld ?_
  rotate_left
  · ((intro w hSw; obtain ⟨s1, s2, s3, s4, s5⟩ := hSw; go_simp); (try with_reducible rfl))
  (try simp only [Act.put, List.setIfInBounds_toArray, List.set_cons_zero, List.set_cons_succ])
  refine wpAnyH_take (i := 9) (oi := ({ dst := some 12, op := Op.move (Operand.tmp 0), type := 24, pos := "clock.go:151", after := #[], guard := none } : Oper)) (v := ?_) rfl (by kernel_rfl) (by kernel_rfl) (by kernel_rfl) (fun _ _ _ h => h) (Or.inl ⟨by rfl, ?_⟩) hHeld ?_
  rotate_left
  · ((intro w hSw; obtain ⟨s1, s2, s3, s4, s5⟩ := hSw; go_simp); (try with_reducible rfl))
  (try simp only [Act.put, List.setIfInBounds_toArray, List.set_cons_zero, List.set_cons_succ])
  refine wpAnyH_take (i := 10) (oi := ({ dst := some 13, op := Op.nilCheck (Operand.tmp 12), type := 0, pos := "clock.go:151", after := #[{ on := 9, ground := Ground.data }], guard := none } : Oper)) (v := ?_) rfl (by kernel_rfl) (by kernel_rfl) (by kernel_rfl) (fun _ _ _ h => h) (Or.inl ⟨by rfl, ?_⟩) hHeld ?_
  rotate_left
  · ((intro w hSw; obtain ⟨s1, s2, s3, s4, s5⟩ := hSw; go_simp); (try with_reducible rfl))
  (try simp only [Act.put, List.setIfInBounds_toArray, List.set_cons_zero, List.set_cons_succ])
  refine wpAnyH_take (i := 11) (oi := ({ dst := some 14, op := Op.fieldAddr 78 (Operand.tmp 13) 2, type := 0, pos := "clock.go:151", after := #[{ on := 10, ground := Ground.data }], guard := none } : Oper)) (v := ?_) rfl (by kernel_rfl) (by kernel_rfl) (by kernel_rfl) (fun _ _ _ h => h) (Or.inl ⟨by rfl, ?_⟩) hHeld ?_
  rotate_left
  · ((intro w hSw; obtain ⟨s1, s2, s3, s4, s5⟩ := hSw; go_simp); (try with_reducible rfl))
  (try simp only [Act.put, List.setIfInBounds_toArray, List.set_cons_zero, List.set_cons_succ])
  refine wpAnyH_take (i := 12) (oi := ({ dst := some 15, op := Op.load 76 (Operand.tmp 14), type := 76, pos := "clock.go:151", after := #[{ on := 11, ground := Ground.data }], guard := none } : Oper)) (v := ?_) rfl (by kernel_rfl) (by kernel_rfl) (by kernel_rfl) (fun _ _ _ h => h) (Or.inl ⟨by rfl, ?_⟩) hHeld ?_
  rotate_left
  · ((intro w hSw; obtain ⟨s1, s2, s3, s4, s5⟩ := hSw; go_simp); (try with_reducible rfl))
  (try simp only [Act.put, List.setIfInBounds_toArray, List.set_cons_zero, List.set_cons_succ])
  refine wpAnyH_ready (rs := [8]) (by kernel_rfl) (by simp) ?_
  refine AllReadyH.cons (o := ({ dst := some 11, op := Op.call { callee := Callee.value (Operand.func 59), args := #[Operand.tmp 10], argTypes := #[22] }, type := 22, pos := "clock.go:151", after := #[{ on := 7, ground := Ground.data }], guard := none } : Oper)) rfl (fun K hK => ?_) (AllReadyH.nil)
  go_simp
  (with_reducible refine (CC.out _ B1.out).mono ?_)
  rintro _ w3 ⟨a3, c3, rfl, o3, b3⟩
  have O3 := Lib.hid o3
  have B3 := Lib.hid (B1.out.trans (b3.mono B1.out.size))
  clear o3 b3
  refine hK.out _ _ ?_ (fun hHeld => ?_)
  · exact KS.out _ B3.out
  clear hK K
  (try simp only [Act.put, List.setIfInBounds_toArray, List.set_cons_zero, List.set_cons_succ])
  refine wpAnyH_take (i := 13) (oi := ({ dst := some 16, op := Op.build 78 #[(0, Operand.tmp 6), (1, Operand.tmp 11), (2, Operand.tmp 15)], type := 78, pos := "clock.go:151", after := #[{ on := 3, ground := Ground.data }, { on := 8, ground := Ground.data }, { on := 12, ground := Ground.data }], guard := none } : Oper)) (v := ?_) rfl (by kernel_rfl) (by kernel_rfl) (by kernel_rfl) (fun _ _ _ h => h) (Or.inl ⟨by rfl, ?_⟩) hHeld ?_
  rotate_left
  · ((intro w hSw; obtain ⟨s1, s2, s3, s4, s5⟩ := hSw; go_simp); (try with_reducible rfl))
  (try simp only [Act.put, List.setIfInBounds_toArray, List.set_cons_zero, List.set_cons_succ])
  refine wpAnyH_ready (rs := [14]) (by kernel_rfl) (by simp) ?_
  refine AllReadyH.cons (o := ({ dst := some 17, op := Op.box 78 (Operand.tmp 16), type := 24, pos := "clock.go:151", after := #[{ on := 13, ground := Ground.data }], guard := none } : Oper)) rfl (fun K hK => ?_) (AllReadyH.nil)
  go_simp
  refine hK.out _ _ ?_ (fun hHeld => ?_)
  · exact KS.out _ (B3.out.alloc B3.out.size _)
  clear hK K
  (try simp only [Act.put, List.setIfInBounds_toArray, List.set_cons_zero, List.set_cons_succ])
  refine wpAnyH_take (i := 15) (oi := ({ dst := some 2, op := Op.assign (Operand.tmp 17), type := 24, pos := "clock.go:151", after := #[{ on := 14, ground := Ground.data }, { on := 8, ground := Ground.chain }, { on := 0, ground := Ground.phase }, { on := 1, ground := Ground.phase }, { on := 2, ground := Ground.phase }, { on := 3, ground := Ground.phase }, { on := 4, ground := Ground.phase }, { on := 5, ground := Ground.phase }, { on := 6, ground := Ground.phase }, { on := 7, ground := Ground.phase }, { on := 8, ground := Ground.phase }, { on := 9, ground := Ground.phase }, { on := 10, ground := Ground.phase }, { on := 11, ground := Ground.phase }, { on := 12, ground := Ground.phase }, { on := 13, ground := Ground.phase }, { on := 14, ground := Ground.phase }], guard := none } : Oper)) (v := ?_) rfl (by kernel_rfl) (by kernel_rfl) (by kernel_rfl) (fun _ _ _ h => h) (Or.inl ⟨by rfl, ?_⟩) hHeld ?_
  rotate_left
  · ((intro w hSw; obtain ⟨s1, s2, s3, s4, s5⟩ := hSw; go_simp); (try with_reducible rfl))
  (try simp only [Act.put, List.setIfInBounds_toArray, List.set_cons_zero, List.set_cons_succ])
  refine wpAnyH_done (by kernel_rfl) ?_ _
  clear hHeld
  have FF : Hid (CkCloneOut ⟨rho, need, streak, held, L⟩ w (.returned (.pointer (some ⟨w3.heap.size, 0, none⟩))) (w3.alloc (.cells #[.int .i64 rho, .slice a3 L.length c3, .int .i64 need, .int .i64 streak, .bool held] 78))) := Lib.hid
    ⟨w3.heap.size, .slice a3 L.length c3, rfl, B3.out.size, fun k hk => Nat.le_trans B1.out.size (O3.out.lt k hk).1, ⟨Kept.new rfl, (owns_base (Nat.zero_le _) O3.out).alloc _, fun e => by have := (O3.out.lt _ e).2; omega⟩, B3.out.alloc B3.out.size _⟩
  clear KS B3 B1 O3
  go_wp2
  go_ret
  exact FF.out
def SetRel (L : List Sm) (w : World) (i : Value) (wr : World) : Prop := ∃ k : Nat, k ≤ L.length ∧ i = .int .i64 k ∧ Hid (Below w.heap.size w wr)
def SetOut (g : Nat) (v : Value) (c : Ck) (hd : Bool) (st : Int) (L : List Sm) (w : World) (e : Ending) (w' : World) : Prop := ∃ v', e = .returned (.int .i64 0) ∧ CkO w' g v' ⟨c.rho, c.need, st, hd, L⟩ ∧ KpC g v w w' ∧ Fr v v' w
set_option maxHeartbeats 2000000 in
set_option maxRecDepth 100000 in
theorem ckset_any (g : Nat) (v : Value) (c : Ck) (hd : Bool) (st : Int) (x : Option Addr) (xc : Nat) (L : List Sm) (w : World) (h : CkO w g v c) (hx : QuadRow w x L) (hxn : x = none → L = []) (hxg : ∀ b o, x = some ⟨b, o, none⟩ → b ≠ g) (hl : L.length ≤ 8) (hst : 0 ≤ st) (hr : ∀ s ∈ L, rgtS s = true) :
    Calls Try.prog 34 #[.pointer (some ⟨g, 0, none⟩), .bool hd, .int .i64 st, .slice x L.length xc] w (SetOut g v c hd st L w) := by
  have HX := Lib.hid hx
  have HL := Lib.hid hl
  have H := Lib.hid h
  have HR := Lib.hid hr
  have CC : Hid (∀ W, QuadRow W x L → Calls Try.prog 59 #[.slice x L.length xc] W (SCloneOut L W)) := Lib.hid fun W hq => sclone_any x xc L W hq hxn (by omega)
  have q1 : ¬ (8 : Int) < (L.length : Int) := by omega
  have q2 : ¬ st < 0 := by omega
  have START : Hid (SetRel L w (.int .i64 0) w) := Lib.hid ⟨0, Nat.zero_le _, rfl, Lib.hid (Below.refl _ _)⟩
  clear h hx hl hr hxn hst
  go_enter Try.func34, Try.ntmps34
  go_wp2
  go_loopw [20] (fun i wr => SetRel L w i wr) (fun i _ => L.length - (intOf i).toNat)
  case atStart => exact START.out
  case round =>
    obtain ⟨k, hk, rfl, BB⟩ := hrel
    clear START
    by_cases hlt : k < L.length
    · have HLT := Lib.hid hlt
      obtain ⟨b, off, rfl, d1, d2, d3, d4⟩ := (HX.out.below BB.out) k hlt
      have hkk : (k : Int) < (L.length : Int) := by omega
      have hk0 : (0 : Int) ≤ (k : Int) := by omega
      have e2 : wrap64 ((k : Int) + 1) = (k : Int) + 1 := IntWalk.wrap64_in _ (by have := HL.out; omega)
      have hrk : rgtS (L.getD k smZ) = true := HR.out _ (by
        rw [List.getD_eq_getElem?_getD, List.getElem?_eq_getElem hlt]
        exact List.getElem_mem hlt)
      obtain ⟨⟨sa, sg, ss, sc⟩, hs⟩ : ∃ s, L.getD k smZ = s := ⟨_, rfl⟩
      rw [hs] at d1 d2 d3 d4 hrk
      dsimp only at d1 d2 d3 d4
      have CR := Lib.hid (srgt_any sa sg ss sc)
      rw [hrk] at CR
      have F : Hid (∀ W, Below w.heap.size w W → SetRel L w (.int .i64 ((k : Int) + 1)) W) := Lib.hid fun W h2 => ⟨k + 1, hlt, rfl, Lib.hid h2⟩
      obtain ⟨v0, hv0⟩ : ∃ x, x = wr := ⟨_, rfl⟩
      subst hv0
      have KX : Hid (Kept (v0.alloc (.cells #[.int .i64 sa, .int .i64 sg, .int .i64 ss, .int .i64 sc] 33)) v0.heap.size #[.int .i64 sa, .int .i64 sg, .int .i64 ss, .int .i64 sc] 33) := Lib.hid (Kept.new rfl)
      have BX := Lib.hid (BB.out.alloc BB.out.size (.cells #[.int .i64 sa, .int .i64 sg, .int .i64 ss, .int .i64 sc] 33))
      obtain ⟨k1, k2, k3, k4, -⟩ := KX.out.four
      clear hlt hk hs hrk BB
      go_wp2_with fail
      refine (CR.out _).mono ?_
      rintro _ w2 ⟨rfl, b2⟩
      have FF := Lib.hid (F.out w2 (BX.out.trans (b2.mono BX.out.size)))
      clear b2 F BX d1 d2 d3 d4 k1 k2 k3 k4
      go_wp2
      go_roundw
      case rel => (try rw [e2]); exact FF.out
      case measure => have := HLT.out; (try rw [e2]); simp [intOf]; omega
    · obtain rfl : k = L.length := by omega
      obtain ⟨v0, hv0⟩ : ∃ x, x = wr := ⟨_, rfl⟩
      subst hv0
      have H0 := Lib.hid (H.out.below BB.out)
      obtain ⟨x1, x2, x3, x4, x5, f1, f2, f3, f4, f5, -⟩ := H0.out.1.five
      have G1 : Hid (CkO ((v0.setCell ⟨g, 4, none⟩ (.bool hd)).setCell ⟨g, 3, none⟩ (.int .i64 st)) g v { c with held := hd, streak := st } ∧ KpC g v w ((v0.setCell ⟨g, 4, none⟩ (.bool hd)).setCell ⟨g, 3, none⟩ (.int .i64 st))) := Lib.hid ⟨(H0.out.setHeld hd).setStreak st, ((KpC.below BB.out).set 4 _).set 3 _⟩
      obtain ⟨-, -, -, z4, -, -, -, -, u4, -⟩ := (H0.out.setHeld hd).1.five
      have QX : Hid (QuadRow ((v0.setCell ⟨g, 4, none⟩ (.bool hd)).setCell ⟨g, 3, none⟩ (.int .i64 st)) x L) := Lib.hid (by
        intro j hj
        obtain ⟨b, off, e, d1, d2, d3, d4⟩ := (HX.out.below BB.out) j hj
        exact ⟨b, off, e, cell_set2 d1 (hxg b off e), cell_set2 d2 (hxg b off e), cell_set2 d3 (hxg b off e), cell_set2 d4 (hxg b off e)⟩)
      clear hlt hk
      go_upto_region 10 with fail
      generalize (v0.setCell ⟨g, 4, none⟩ (.bool hd)).setCell ⟨g, 3, none⟩ (.int .i64 st) = V at *
      clear x1 x2 x3 x4 x5 f1 f2 f3 f4 f5 z4 u4 H0 BB
      go_wp2_with fail
      refine (CC.out _ QX.out).mono ?_
      rintro _ w2 ⟨a2, c2, rfl, o2, b2⟩
      have H2 := G1.out.1.below b2
      have FF : Hid (SetOut g v c hd st L w (.returned (.int .i64 0)) (w2.setCell ⟨g, 1, none⟩ (.slice a2 L.length c2))) := Lib.hid ⟨_, rfl, CkO.setRow (c := { c with held := hd, streak := st }) H2.1 rfl (owns_base (Nat.zero_le _) o2) (fun e => by have := (o2.lt _ e).1; have := G1.out.1.1.lt; omega), (G1.out.2.step b2).set 1 _, fun k hk => .inr (by have := (o2.lt k hk).1; have := G1.out.2.size; omega)⟩
      obtain ⟨y1, y2, y3, y4, y5, f1, f2, f3, f4, f5, -⟩ := H2.1.five
      clear H2 o2 b2 G1 QX
      go_wp2
      go_ret
      exact FF.out
end Go.Proofs.Ytflplliiamodhaa
