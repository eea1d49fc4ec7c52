/- HistOrder for every input: of gen_ord05.py. -/
import Derived.Test.YtldgdedfioigiaaAlive
import Derived.Test.YtldgdedfioigiaaOrdM
namespace Go.Proofs.Ytldgdedfioigiaa
open Go.RowKit
set_option linter.unusedVariables false
set_option linter.unusedSimpArgs false

def OrdRel (l : List Int) (w : World) (g : Nat) (C : Array Value) (i : Value) (wr : World) : Prop := ∃ k : Nat, k ≤ l.length ∧ i = .int .i64 k ∧ Hid (Kept wr g C 33) ∧ Hid (Below w.heap.size w wr)
def OrdIn (l : List Int) (w : World) (g b : Nat) (C : Array Value) (p q i : Value) (wr : World) : Prop := ∃ j : Nat, j ≤ l.length ∧ p = .int .i64 (lowN (l.take j) b : Int) ∧ q = .int .i64 (inN (l.take j) b : Int) ∧ i = .int .i64 j ∧ Hid (Kept wr g C 33) ∧ Hid (Below w.heap.size w wr)
theorem lowN_le (l : List Int) (b : Nat) : lowN l b ≤ l.length := List.countP_le_length
theorem inN_le (l : List Int) (b : Nat) : inN l b ≤ l.length := List.countP_le_length
set_option maxHeartbeats 4000000 in
set_option maxRecDepth 1000000 in
theorem order_any (a : Option Addr) (c : Nat) (l : List Int) (w : World) (hr : IntRow w a .i64 l) (hin : ∀ x ∈ l, InI x) (hl : l.length ≤ 60) :
    Calls Try.prog 7 #[.slice a l.length c] w fun e w' => e = .returned (.bool true) ∧ Below w.heap.size w w' := by
  have hz := h_zero
  have HR := Lib.hid hr
  have HN := Lib.hid hin
  have HLL := Lib.hid hl
  have COf := Lib.hid (fun (W : World) (hb : Below w.heap.size w W) => hof_any a c l W (hr.below hb) hin (by omega))
  have ci : (Try.prog.info? 33).map (·.size) = some (hC (cntL l)).size := by rw [hC_size, cntL_len]; exact h_info
  have e0 : (hC zeros65).size = (hC (cntL l)).size := by rw [hC_size, hC_size, zeros65_len, cntL_len]
  have o0 := hC_cells (cntL l)
  have CW := Lib.hid (fun (k : Nat) (hk : k ≤ 60) (W : World) => wof_any (k : Int) W (by unfold InI; omega))
  have CR := Lib.hid (fun (k : Nat) (hk : k < l.length) (W : World) => (rank_any (cntL l) (k : Int) W (cntL_len _) (cntL_in l (by omega)) (by unfold InW; omega)).mono fun e w' h => rk_order hin hk h)
  have CE := Lib.hid (fun (W : World) => (rank_any (cntL l) (l.length : Int) W (cntL_len _) (cntL_in l (by omega)) (by unfold InW; omega)).mono fun e w' h => rk_beyond hin h)
  generalize hC zeros65 = Z at *
  generalize hC (cntL l) = C at *
  unfold wI at CW CR CE
  have hle : ¬ (60 : Int) < (l.length : Int) := by omega
  clear hr hin hl
  go_enter Try.func7, Try.ntmps7
  go_wp2_with fail
  refine (alive_any _).mono ?_
  rintro _ w1 ⟨rfl, b1⟩
  have B1 := Lib.hid b1
  clear b1
  go_wp2_with fail
  refine (COf.out _ B1.out).mono ?_
  rintro _ w2 ⟨rfl, b2⟩
  have B2 := Lib.hid (B1.out.trans (b2.mono B1.out.size))
  clear b2 B1
  have T2 : Hid (Kept (w2.alloc (.cells Z 33)) w2.heap.size Z 33) := Lib.hid (Kept.new rfl)
  have G3 : Hid (Kept (w2.alloc (.cells C 33)) w2.heap.size C 33) := Lib.hid (Kept.new rfl)
  have B3 := Lib.hid (B2.out.alloc B2.out.size (.cells C 33))
  have gl : w.heap.size ≤ w2.heap.size := B2.out.size
  clear B2 COf
  go_wp2_with (refine wpList_store_row rfl 33 _ _ rfl w2.heap.size C rfl rfl 33 Z T2.out ci e0 o0 ?_; rw [World.setRow_alloc_new]; clear T2; generalize w2.alloc (.cells C 33) = W3 at *)
  obtain ⟨g, hg⟩ : ∃ g, w2.heap.size = g := ⟨_, rfl⟩
  rw [hg] at G3 gl
  (try rw [hg])
  clear hz e0 o0 hg
  go_loopw [4] (fun i wr => OrdRel l w g C i wr) (fun i _ => l.length - (intOf i).toNat)
  case atStart => exact ⟨0, Nat.zero_le _, rfl, G3, B3⟩
  case round =>
    obtain ⟨k, hk, rfl, G4, B4⟩ := hrel
    by_cases hlt : k < l.length
    · have HK := Lib.hid hlt
      have CWk := Lib.hid (CW.out k (by have := HLL.out; omega))
      have CRk := Lib.hid (CR.out k hlt)
      have hkk : (k : Int) < (l.length : Int) := by omega
      clear hlt hk CW CR CE
      go_wp2_with fail
      refine Code.wp_mono (fun e a w q => noPan_out q) ?_
      refine wp_region_held_drew (S := fun w' => Hid (Kept w' g C 33)) (by kernel_rfl) (Lib.hid (G4.out.drewN 1)) (fun hHeld => ?_)
      refine wpAnyH_take (i := 0) (oi := ({ dst := some 27, op := Op.load 33 (Operand.tmp 3), type := 33, pos := "law.go:146", after := #[], guard := none } : Oper)) (v := .agg C) rfl (by kernel_rfl) (by kernel_rfl) (by kernel_rfl) (fun _ _ _ h => h) (yieldsIf_row (by rfl) _ _ rfl g rfl C (fun w' hw' => hw'.out) h_under rfl ci) hHeld ?_
      (try simp only [Act.put, List.setIfInBounds_toArray, List.set_cons_zero, List.set_cons_succ])
      refine wpAnyH_take (i := 1) (oi := ({ dst := some 28, op := Op.move (Operand.tmp 4), type := 3, pos := "law.go:146", after := #[], guard := none } : Oper)) (v := ?_) rfl (by kernel_rfl) (by kernel_rfl) (by kernel_rfl) (fun _ _ _ h => h) (Or.inl ⟨by rfl, ?_⟩) hHeld ?_
      rotate_left
      · ((intro w hSw; (try dsimp only at hSw); go_simp); (try with_reducible rfl))
      (try simp only [Act.put, List.setIfInBounds_toArray, List.set_cons_zero, List.set_cons_succ])
      refine wpAnyH_ready (rs := [2]) (by kernel_rfl) (by simp) ?_
      refine AllReadyH.cons (o := ({ dst := some 29, op := Op.call { callee := Callee.value (Operand.func 27), args := #[Operand.tmp 28], argTypes := #[2] }, type := 47, pos := "law.go:146", after := #[{ on := 1, ground := Ground.data }], guard := none } : Oper)) rfl (fun K hK => ?_) AllReadyH.nil
      go_simp
      (with_reducible refine (CWk.out _).mono ?_)
      rintro _ v1 ⟨rfl, b1⟩
      have D1 : Hid (Below wr.heap.size wr v1) := Lib.hid ((Below.refl wr.heap.size wr).drew.trans (b1.mono (by simp)))
      clear b1
      refine hK.out _ _ ?_ (fun hHeld => ?_)
      · exact Lib.hid (G4.out.next D1.out)
      clear hK K
      (try simp only [Act.put, List.setIfInBounds_toArray, List.set_cons_zero, List.set_cons_succ])
      refine wpAnyH_ready (rs := [3]) (by kernel_rfl) (by simp) ?_
      refine AllReadyH.cons (o := ({ dst := some 30, op := Op.call { callee := Callee.value (Operand.func 24), args := #[Operand.tmp 27, Operand.tmp 29], argTypes := #[33, 47] }, type := 56, pos := "law.go:146", after := #[{ on := 0, ground := Ground.data }, { on := 2, ground := Ground.data }, { on := 2, ground := Ground.chain }], guard := none } : Oper)) rfl (fun K hK => ?_) AllReadyH.nil
      go_simp
      (with_reducible refine (CRk.out _).mono ?_)
      rintro _ v2 ⟨b, hb, rfl, l1, l2, b2⟩
      have D2 : Hid (Below wr.heap.size wr v2) := Lib.hid (D1.out.trans (b2.mono D1.out.size))
      clear b2 D1
      have HL := Lib.hid (⟨hb, l1, l2⟩ : b < 65 ∧ lowN l b ≤ k ∧ k < lowN l b + inN l b)
      clear hb l1 l2
      refine hK.out _ _ ?_ (fun hHeld => ?_)
      · exact Lib.hid (G4.out.next D2.out)
      clear hK K
      (try simp only [Act.put, List.setIfInBounds_toArray, List.set_cons_zero, List.set_cons_succ])
      refine wpAnyH_take (i := 4) (oi := ({ dst := some 26, op := Op.move (Operand.tmp 30), type := 56, pos := "law.go:146", after := #[{ on := 3, ground := Ground.data }], guard := none } : Oper)) (v := ?_) rfl (by kernel_rfl) (by kernel_rfl) (by kernel_rfl) (fun _ _ _ h => h) (Or.inl ⟨by rfl, ?_⟩) hHeld ?_
      rotate_left
      · ((intro w hSw; (try dsimp only at hSw); go_simp); (try with_reducible rfl))
      (try simp only [Act.put, List.setIfInBounds_toArray, List.set_cons_zero, List.set_cons_succ])
      refine wpAnyH_take (i := 5) (oi := ({ dst := some 31, op := Op.extract (Operand.tmp 26) 0, type := 3, pos := "law.go:146", after := #[{ on := 4, ground := Ground.data }], guard := none } : Oper)) (v := ?_) rfl (by kernel_rfl) (by kernel_rfl) (by kernel_rfl) (fun _ _ _ h => h) (Or.inl ⟨by rfl, ?_⟩) hHeld ?_
      rotate_left
      · ((intro w hSw; (try dsimp only at hSw); go_simp); (try with_reducible rfl))
      (try simp only [Act.put, List.setIfInBounds_toArray, List.set_cons_zero, List.set_cons_succ])
      refine wpAnyH_take (i := 6) (oi := ({ dst := some 32, op := Op.extract (Operand.tmp 26) 1, type := 4, pos := "law.go:146", after := #[{ on := 4, ground := Ground.data }, { on := 7, ground := Ground.gcOnly Departure.lateStores }], guard := none } : Oper)) (v := ?_) rfl (by kernel_rfl) (by kernel_rfl) (by kernel_rfl) (fun _ _ _ h => h) (Or.inl ⟨by rfl, ?_⟩) hHeld ?_
      rotate_left
      · ((intro w hSw; (try dsimp only at hSw); go_simp); (try with_reducible rfl))
      (try simp only [Act.put, List.setIfInBounds_toArray, List.set_cons_zero, List.set_cons_succ])
      refine wpAnyH_take (i := 7) (oi := ({ dst := some 5, op := Op.assign (Operand.tmp 31), type := 3, pos := "law.go:146", after := #[{ on := 5, ground := Ground.data }, { on := 3, ground := Ground.chain }, { on := 0, ground := Ground.phase }, { on := 1, ground := Ground.phase }, { on := 2, ground := Ground.phase }, { on := 3, ground := Ground.phase }, { on := 4, ground := Ground.phase }, { on := 5, ground := Ground.phase }, { on := 6, ground := Ground.textOnly Departure.lateStores }], guard := none } : Oper)) (v := ?_) rfl (by kernel_rfl) (by kernel_rfl) (by kernel_rfl) (fun _ _ _ h => h) (Or.inl ⟨by rfl, ?_⟩) hHeld ?_
      rotate_left
      · ((intro w hSw; (try dsimp only at hSw); go_simp); (try with_reducible rfl))
      (try simp only [Act.put, List.setIfInBounds_toArray, List.set_cons_zero, List.set_cons_succ])
      refine wpAnyH_take (i := 8) (oi := ({ dst := some 6, op := Op.assign (Operand.tmp 32), type := 4, pos := "law.go:146", after := #[{ on := 6, ground := Ground.data }, { on := 7, ground := Ground.chain }, { on := 0, ground := Ground.phase }, { on := 1, ground := Ground.phase }, { on := 2, ground := Ground.phase }, { on := 3, ground := Ground.phase }, { on := 4, ground := Ground.phase }, { on := 5, ground := Ground.phase }, { on := 6, ground := Ground.phase }, { on := 7, ground := Ground.phase }], guard := none } : Oper)) (v := ?_) rfl (by kernel_rfl) (by kernel_rfl) (by kernel_rfl) (fun _ _ _ h => h) (Or.inl ⟨by rfl, ?_⟩) hHeld ?_
      rotate_left
      · ((intro w hSw; (try dsimp only at hSw); go_simp); (try with_reducible rfl))
      (try simp only [Act.put, List.setIfInBounds_toArray, List.set_cons_zero, List.set_cons_succ])
      refine wpAnyH_done (by kernel_rfl) ?_ _
      refine noPan_normal ?_
      have B5 := Lib.hid (B4.out.trans (D2.out.mono B4.out.size))
      have G5 := Lib.hid (G4.out.next D2.out)
      clear G4 B4 D2 hHeld CWk CRk hkk G3 B3
      go_wp2_with fail
      obtain ⟨wx, hwx⟩ : ∃ x, x = v2 := ⟨_, rfl⟩
      subst hwx
      go_loopw [7, 8, 9] (fun p q i wr => OrdIn l w g b C p q i wr) (fun _ _ i _ => l.length - (intOf i).toNat)
      case atStart => exact ⟨0, Nat.zero_le _, by simp [lowN], by simp [inN], rfl, G5, B5⟩
      case round =>
        obtain ⟨j, hj, rfl, rfl, rfl, G6, B6⟩ := hrel
        clear G5 B5
        have hl6 := HLL.out
        by_cases hjl : j < l.length
        · obtain ⟨bb, off, rfl, hc⟩ := (HR.out.below B6.out) j hjl
          have hv := getD_of_all l HN.out j hjl
          have s1 := lowN_snoc l j b hjl
          have s2 := inN_snoc l j b hjl
          have i1 := lowN_le (l.take j) b
          have i2 := inN_le (l.take j) b
          rw [List.length_take] at i1 i2
          have F : Hid (∀ P Q : Int, P = (lowN (l.take (j + 1)) b : Int) → Q = (inN (l.take (j + 1)) b : Int) → OrdIn l w g b C (.int .i64 P) (.int .i64 Q) (.int .i64 ((j : Int) + 1)) wr) := Lib.hid fun P Q hP hQ => ⟨j + 1, hjl, by rw [hP], by rw [hQ], rfl, G6, B6⟩
          obtain ⟨v, hv'⟩ : ∃ v, l.getD j 0 = v := ⟨_, rfl⟩
          rw [hv'] at hc hv s1 s2
          have CB := Lib.hid (fun W => bucket_any v W hv)
          obtain ⟨n, hn⟩ : ∃ n, bkt v = n := ⟨_, rfl⟩
          rw [hn] at CB s1 s2
          have jj : (j : Int) < (l.length : Int) := by omega
          obtain ⟨P, hP⟩ : ∃ P : Int, (lowN (l.take j) b : Int) = P := ⟨_, rfl⟩
          obtain ⟨Q, hQ⟩ : ∃ Q : Int, (inN (l.take j) b : Int) = Q := ⟨_, rfl⟩
          have e1 : wrap64 (P + 1) = P + 1 := IntWalk.wrap64_in _ (by omega)
          have e2 : wrap64 (Q + 1) = Q + 1 := IntWalk.wrap64_in _ (by omega)
          have HJ := Lib.hid hjl
          obtain ⟨N, hN⟩ : ∃ N : Int, (n : Int) = N := ⟨_, rfl⟩
          obtain ⟨Bb, hBb⟩ : ∃ B : Int, (b : Int) = B := ⟨_, rfl⟩
          rw [hP, hQ]
          rw [hN] at CB
          rw [hBb]
          by_cases c1 : n < b
          · have f := Lib.hid (F.out (P + 1) Q (by rw [s1, if_pos c1]; omega) (by rw [s2, if_neg (by omega)]; omega))
            have d1 : decide (N < Bb) = true := decide_eq_true (by omega)
            have d2 : (N == Bb) = false := beq_eq_false_iff_ne.mpr (by omega)
            clear F s1 s2 i1 i2 c1 hv hP hQ hj hjl hl6 hN hBb hn hv'
            go_wp2_with fail
            refine (CB.out _).mono ?_
            rintro _ _ ⟨rfl, rfl⟩
            go_wp2
            go_roundw
            case rel => rw [e1]; exact f.out
            case measure => have := HJ.out; simp [intOf]; omega
          · by_cases c2 : n = b
            · have f := Lib.hid (F.out P (Q + 1) (by rw [s1, if_neg c1]; omega) (by rw [s2, if_pos c2]; omega))
              have d1 : decide (N < Bb) = false := decide_eq_false (by omega)
              have d2 : (N == Bb) = true := beq_iff_eq.mpr (by omega)
              clear F s1 s2 i1 i2 c1 c2 hv hP hQ hj hjl hl6 hN hBb hn hv'
              go_wp2_with fail
              refine (CB.out _).mono ?_
              rintro _ _ ⟨rfl, rfl⟩
              go_wp2
              go_roundw
              case rel => rw [e2]; exact f.out
              case measure => have := HJ.out; simp [intOf]; omega
            · have f := Lib.hid (F.out P Q (by rw [s1, if_neg c1]; omega) (by rw [s2, if_neg c2]; omega))
              have d1 : decide (N < Bb) = false := decide_eq_false (by omega)
              have d2 : (N == Bb) = false := beq_eq_false_iff_ne.mpr (by omega)
              clear F s1 s2 i1 i2 c1 c2 hv hP hQ hj hjl hl6 hN hBb hn hv'
              go_wp2_with fail
              refine (CB.out _).mono ?_
              rintro _ _ ⟨rfl, rfl⟩
              go_wp2
              go_roundw
              case rel => exact f.out
              case measure => have := HJ.out; simp [intOf]; omega
        · obtain rfl : j = l.length := by omega
          obtain ⟨t1, t2, t3⟩ := HL.out
          have i1 := lowN_le l b
          have i2 := inN_le l b
          have hkl := HK.out
          rw [List.take_length]
          obtain ⟨P, hP⟩ : ∃ P : Int, (lowN l b : Int) = P := ⟨_, rfl⟩
          obtain ⟨Q, hQ⟩ : ∃ Q : Int, (inN l b : Int) = Q := ⟨_, rfl⟩
          rw [hP, hQ]
          have d1 : decide ((k : Int) < P) = false := decide_eq_false (by omega)
          have e1 : wrap64 (P + Q) = P + Q := IntWalk.wrap64_in _ (by omega)
          have d2 : decide (P + Q ≤ (k : Int)) = false := decide_eq_false (by omega)
          have f : Hid (OrdRel l w g C (.int .i64 ((k : Int) + 1)) wr) := Lib.hid ⟨k + 1, hkl, rfl, G6, B6⟩
          have e3 : wrap64 ((k : Int) + 1) = (k : Int) + 1 := IntWalk.wrap64_in _ (by omega)
          clear t1 t2 t3 i1 i2 hkl hP hQ hj hjl hl6
          go_wp2
          go_roundw
          case rel => rw [e3]; exact f.out
          case measure => rw [e3]; have := HK.out; simp [intOf]; omega
    · obtain rfl : k = l.length := by omega
      have CWl := Lib.hid (CW.out l.length HLL.out)
      clear hlt hk CW CR G3 B3
      go_wp2_with fail
      refine Code.wp_mono (fun e a w q => noPan_out q) ?_
      refine wp_region_held_drew (S := fun w' => Hid (Kept w' g C 33)) (by kernel_rfl) (Lib.hid (G4.out.drewN 1)) (fun hHeld => ?_)
      refine wpAnyH_take (i := 0) (oi := ({ dst := some 69, op := Op.load 33 (Operand.tmp 3), type := 33, pos := "law.go:162", after := #[], guard := none } : Oper)) (v := .agg C) rfl (by kernel_rfl) (by kernel_rfl) (by kernel_rfl) (fun _ _ _ h => h) (yieldsIf_row (by rfl) _ _ rfl g rfl C (fun w' hw' => hw'.out) h_under rfl ci) hHeld ?_
      (try simp only [Act.put, List.setIfInBounds_toArray, List.set_cons_zero, List.set_cons_succ])
      refine wpAnyH_take (i := 1) (oi := ({ dst := some 70, op := Op.move (Operand.tmp 0), type := 30, pos := "law.go:162", after := #[], guard := none } : Oper)) (v := ?_) rfl (by kernel_rfl) (by kernel_rfl) (by kernel_rfl) (fun _ _ _ h => h) (Or.inl ⟨by rfl, ?_⟩) hHeld ?_
      rotate_left
      · ((intro w hSw; (try dsimp only at hSw); go_simp); (try with_reducible rfl))
      (try simp only [Act.put, List.setIfInBounds_toArray, List.set_cons_zero, List.set_cons_succ])
      refine wpAnyH_take (i := 2) (oi := ({ dst := some 71, op := Op.call { callee := Callee.builtin Builtin.len, args := #[Operand.tmp 70], argTypes := #[30] }, type := 3, pos := "law.go:162", after := #[{ on := 1, ground := Ground.data }], guard := none } : Oper)) (v := ?_) rfl (by kernel_rfl) (by kernel_rfl) (by kernel_rfl) (fun _ _ _ h => h) (Or.inl ⟨by rfl, ?_⟩) hHeld ?_
      rotate_left
      · ((intro w hSw; (try dsimp only at hSw); go_simp); (try with_reducible rfl))
      (try simp only [Act.put, List.setIfInBounds_toArray, List.set_cons_zero, List.set_cons_succ])
      refine wpAnyH_ready (rs := [3]) (by kernel_rfl) (by simp) ?_
      refine AllReadyH.cons (o := ({ dst := some 72, op := Op.call { callee := Callee.value (Operand.func 27), args := #[Operand.tmp 71], argTypes := #[2] }, type := 47, pos := "law.go:162", after := #[{ on := 2, ground := Ground.data }], guard := none } : Oper)) rfl (fun K hK => ?_) AllReadyH.nil
      go_simp
      (with_reducible refine (CWl.out _).mono ?_)
      rintro _ v1 ⟨rfl, b1⟩
      have D1 : Hid (Below wr.heap.size wr v1) := Lib.hid ((Below.refl wr.heap.size wr).drew.trans (b1.mono (by simp)))
      clear b1
      refine hK.out _ _ ?_ (fun hHeld => ?_)
      · exact Lib.hid (G4.out.next D1.out)
      clear hK K
      (try simp only [Act.put, List.setIfInBounds_toArray, List.set_cons_zero, List.set_cons_succ])
      refine wpAnyH_ready (rs := [4]) (by kernel_rfl) (by simp) ?_
      refine AllReadyH.cons (o := ({ dst := some 73, op := Op.call { callee := Callee.value (Operand.func 24), args := #[Operand.tmp 69, Operand.tmp 72], argTypes := #[33, 47] }, type := 56, pos := "law.go:162", after := #[{ on := 0, ground := Ground.data }, { on := 3, ground := Ground.data }, { on := 3, ground := Ground.chain }], guard := none } : Oper)) rfl (fun K hK => ?_) AllReadyH.nil
      go_simp
      (with_reducible refine (CE.out _).mono ?_)
      rintro _ v2 ⟨rfl, b2⟩
      have D2 : Hid (Below wr.heap.size wr v2) := Lib.hid (D1.out.trans (b2.mono D1.out.size))
      clear b2 D1
      refine hK.out _ _ ?_ (fun hHeld => ?_)
      · exact Lib.hid (G4.out.next D2.out)
      clear hK K
      (try simp only [Act.put, List.setIfInBounds_toArray, List.set_cons_zero, List.set_cons_succ])
      refine wpAnyH_take (i := 5) (oi := ({ dst := some 68, op := Op.move (Operand.tmp 73), type := 56, pos := "law.go:162", after := #[{ on := 4, ground := Ground.data }], guard := none } : Oper)) (v := ?_) rfl (by kernel_rfl) (by kernel_rfl) (by kernel_rfl) (fun _ _ _ h => h) (Or.inl ⟨by rfl, ?_⟩) hHeld ?_
      rotate_left
      · ((intro w hSw; (try dsimp only at hSw); go_simp); (try with_reducible rfl))
      (try simp only [Act.put, List.setIfInBounds_toArray, List.set_cons_zero, List.set_cons_succ])
      refine wpAnyH_take (i := 6) (oi := ({ dst := some 74, op := Op.extract (Operand.tmp 68) 0, type := 3, pos := "law.go:162", after := #[{ on := 5, ground := Ground.data }], guard := none } : Oper)) (v := ?_) rfl (by kernel_rfl) (by kernel_rfl) (by kernel_rfl) (fun _ _ _ h => h) (Or.inl ⟨by rfl, ?_⟩) hHeld ?_
      rotate_left
      · ((intro w hSw; (try dsimp only at hSw); go_simp); (try with_reducible rfl))
      (try simp only [Act.put, List.setIfInBounds_toArray, List.set_cons_zero, List.set_cons_succ])
      refine wpAnyH_take (i := 7) (oi := ({ dst := some 75, op := Op.extract (Operand.tmp 68) 1, type := 4, pos := "law.go:162", after := #[{ on := 5, ground := Ground.data }, { on := 8, ground := Ground.gcOnly Departure.lateStores }], guard := none } : Oper)) (v := ?_) rfl (by kernel_rfl) (by kernel_rfl) (by kernel_rfl) (fun _ _ _ h => h) (Or.inl ⟨by rfl, ?_⟩) hHeld ?_
      rotate_left
      · ((intro w hSw; (try dsimp only at hSw); go_simp); (try with_reducible rfl))
      (try simp only [Act.put, List.setIfInBounds_toArray, List.set_cons_zero, List.set_cons_succ])
      refine wpAnyH_take (i := 8) (oi := ({ dst := some 11, op := Op.assign (Operand.tmp 74), type := 3, pos := "law.go:162", after := #[{ on := 6, ground := Ground.data }, { on := 4, ground := Ground.chain }, { on := 0, ground := Ground.phase }, { on := 1, ground := Ground.phase }, { on := 2, ground := Ground.phase }, { on := 3, ground := Ground.phase }, { on := 4, ground := Ground.phase }, { on := 5, ground := Ground.phase }, { on := 6, ground := Ground.phase }, { on := 7, ground := Ground.textOnly Departure.lateStores }], guard := none } : Oper)) (v := ?_) rfl (by kernel_rfl) (by kernel_rfl) (by kernel_rfl) (fun _ _ _ h => h) (Or.inl ⟨by rfl, ?_⟩) hHeld ?_
      rotate_left
      · ((intro w hSw; (try dsimp only at hSw); go_simp); (try with_reducible rfl))
      (try simp only [Act.put, List.setIfInBounds_toArray, List.set_cons_zero, List.set_cons_succ])
      refine wpAnyH_take (i := 9) (oi := ({ dst := some 12, op := Op.assign (Operand.tmp 75), type := 4, pos := "law.go:162", after := #[{ on := 7, ground := Ground.data }, { on := 8, ground := Ground.chain }, { on := 0, ground := Ground.phase }, { on := 1, ground := Ground.phase }, { on := 2, ground := Ground.phase }, { on := 3, ground := Ground.phase }, { on := 4, ground := Ground.phase }, { on := 5, ground := Ground.phase }, { on := 6, ground := Ground.phase }, { on := 7, ground := Ground.phase }, { on := 8, ground := Ground.phase }], guard := none } : Oper)) (v := ?_) rfl (by kernel_rfl) (by kernel_rfl) (by kernel_rfl) (fun _ _ _ h => h) (Or.inl ⟨by rfl, ?_⟩) hHeld ?_
      rotate_left
      · ((intro w hSw; (try dsimp only at hSw); go_simp); (try with_reducible rfl))
      (try simp only [Act.put, List.setIfInBounds_toArray, List.set_cons_zero, List.set_cons_succ])
      refine wpAnyH_done (by kernel_rfl) ?_ _
      refine noPan_normal ?_
      have B5 := Lib.hid (B4.out.trans (D2.out.mono B4.out.size))
      clear G4 B4 D2 hHeld
      go_wp2
      go_ret
      exact ⟨rfl, B5.out⟩
end Go.Proofs.Ytldgdedfioigiaa
