/- DriftSound, walked, for every input. -/
import Derived.Test.YtodjlnfpigmegaaAlive
namespace Go.Proofs.Ytodjlnfpigmegaa
open Go.RowKit
set_option linter.unusedVariables false

theorem sl_great (x : Option Addr) (xc : Nat) (n r : Int) (m : Nat) (w : World) (hm : (m : Int) = n) (d0 : decide (30 < n) = true) :
    Calls Try.prog 4 #[.int .i64 r, .slice x m xc] w fun e w' => e = .returned (.bool true) ∧ Below w.heap.size w w' := by
  go_enter Try.func4, Try.ntmps4
  go_wp2_with fail
  refine (alive_any _).mono ?_
  rintro _ w1 ⟨rfl, hb1⟩
  go_wp2
  go_ret
  exact ⟨rfl, hb1⟩
theorem sl_none (x : Option Addr) (xc : Nat) (n r : Int) (m : Nat) (w : World) (hm : (m : Int) = n) (d0 : decide (30 < n) = false) (C : Hid (∀ W, Below w.heap.size w W → Calls Try.prog 10 #[.int .i64 r, .slice x m xc] W (Gives (.bool false) W))) :
    Calls Try.prog 4 #[.int .i64 r, .slice x m xc] w fun e w' => e = .returned (.bool true) ∧ Below w.heap.size w w' := by
  go_enter Try.func4, Try.ntmps4
  go_wp2_with fail
  refine (alive_any _).mono ?_
  rintro _ w1 ⟨rfl, hb1⟩
  have B1 := Lib.hid hb1
  go_wp2_with fail
  refine (C.out _ B1.out).mono ?_
  rintro _ w2 ⟨rfl, hb2⟩
  have B2 := Lib.hid (bnext B1.out B1.out.size hb2)
  clear hb1 hb2 B1
  go_wp2
  go_ret
  exact ⟨rfl, B2.out⟩
def SoRel (n : Nat) (w : World) (i : Value) (wr : World) : Prop := ∃ k : Nat, k ≤ n ∧ i = .int .i64 k ∧ Hid (Below w.heap.size w wr)
def PairFact (r : Int) (p q : Int × Int) : Prop := ∃ X D a b : Int, IntKind.i64.wrap (q.2 - p.2) = X ∧ IntKind.i64.wrap (q.1 - p.1) = D ∧ Hid (∀ W, Calls Try.prog 7 #[.int .i64 X, .int .i64 r] W (Gives (.tuple #[.int .i64 a, .int .i64 0]) W)) ∧ Hid (∀ W, Calls Try.prog 8 #[.int .i64 X, .int .i64 r] W (Gives (.tuple #[.int .i64 b, .int .i64 0]) W)) ∧ decide (D < a) = false ∧ decide (b < D) = false
theorem pair_fact {r : Int} {l : List (Int × Int)} (h1 : 0 ≤ r) (h2 : r ≤ 100000) (h : okAll r l) (hs : ∀ p ∈ l, InT p) {p q : Int × Int} (hp : p ∈ l) (hq : q ∈ l) : PairFact r p q := by
  obtain ⟨a1, a2⟩ := sound_any h1 h2 h hp hq
  obtain ⟨⟨p1, p2⟩, p3, p4⟩ := hs p hp
  obtain ⟨⟨q1, q2⟩, q3, q4⟩ := hs q hq
  have e : lowE (q.2 - p.2) r = 0 := if_pos (by omega)
  refine ⟨q.2 - p.2, q.1 - p.1, lowI (q.2 - p.2) r, highI (q.2 - p.2) r, by rw [IntKind.wrap_i64]; omega, by rw [IntKind.wrap_i64]; omega, ?_, ?_, decide_eq_false (by omega), decide_eq_false (by omega)⟩
  · exact Lib.hid fun W => al_low _ _ _ _ W (if_pos e) e
  · exact Lib.hid fun W => al_high _ _ _ _ W (by unfold InI; omega) (if_pos e) e
set_option maxHeartbeats 8000000 in
theorem sl_loop (x : Option Addr) (xc : Nat) (l : List (Int × Int)) (r : Int) (w : World) (hx : PairRow w x l) (hl : l.length ≤ 30)
    (C : Hid (∀ W, Below w.heap.size w W → Calls Try.prog 10 #[.int .i64 r, .slice x l.length xc] W (Gives (.bool true) W)))
    (PF : Hid (∀ i j, i < l.length → j < l.length → PairFact r (l.getD i (0, 0)) (l.getD j (0, 0)))) :
    Calls Try.prog 4 #[.int .i64 r, .slice x l.length xc] w fun e w' => e = .returned (.bool true) ∧ Below w.heap.size w w' := by
  have HX := Lib.hid hx
  have d0 : decide (30 < (l.length : Int)) = false := decide_eq_false (by omega)
  clear hx
  go_enter Try.func4, Try.ntmps4
  go_wp2_with fail
  refine (alive_any _).mono ?_
  rintro _ w1 ⟨rfl, hb1⟩
  have B1 := Lib.hid hb1
  go_wp2_with fail
  refine (C.out _ B1.out).mono ?_
  rintro _ w2 ⟨rfl, hb2⟩
  have B2 := Lib.hid (bnext B1.out B1.out.size hb2)
  clear hb1 hb2 B1 C
  go_wp2
  go_loopw [5] (fun i wr => SoRel l.length w i wr) (fun i _ => l.length - (intOf i).toNat)
  case atStart => exact ⟨0, Nat.zero_le _, rfl, B2⟩
  case round =>
    obtain ⟨k, hk, rfl, B0⟩ := hrel
    by_cases hlt : k < l.length
    · have HLT := Lib.hid hlt
      have F : Hid (∀ w' v, v = .int .i64 ((k : Int) + 1) → Below w.heap.size w w' → SoRel l.length w v w') := Lib.hid fun w' v hv hb => ⟨k + 1, hlt, hv, Lib.hid hb⟩
      obtain ⟨wx, hwx⟩ : ∃ x, x = wr := ⟨_, rfl⟩
      subst hwx
      go_wp2
      go_loopw [6] (fun i wr => SoRel l.length w i wr) (fun i _ => l.length - (intOf i).toNat)
      case atStart => exact ⟨0, Nat.zero_le _, rfl, B0⟩
      case round =>
        obtain ⟨j, hj, rfl, B3⟩ := hrel
        by_cases hjt : j < l.length
        · obtain ⟨b, off, ea, h1, h2⟩ := HX.out k HLT.out
          obtain ⟨b', off', ea', h3, h4⟩ := HX.out j hjt
          subst ea
          cases ea'
          have c1 := (B3.out.cell (World.block_lt_of_cell? w _ h1)).trans h1
          have c2 := (B3.out.cell (World.block_lt_of_cell? w _ h2)).trans h2
          have c3 := (B3.out.cell (World.block_lt_of_cell? w _ h3)).trans h3
          have c4 := (B3.out.cell (World.block_lt_of_cell? w _ h4)).trans h4
          obtain ⟨X, D, a, bb, e1, e2, CL, CH, d1, d2⟩ := PF.out k j HLT.out hjt
          generalize (l.getD k (0, 0)).1 = p1 at *
          generalize (l.getD k (0, 0)).2 = p2 at *
          generalize (l.getD j (0, 0)).1 = q1 at *
          generalize (l.getD j (0, 0)).2 = q2 at *
          have F2 : Hid (∀ w' v, v = .int .i64 ((j : Int) + 1) → Below w.heap.size w w' → SoRel l.length w v w') := Lib.hid fun w' v hv hb => ⟨j + 1, hjt, hv, Lib.hid hb⟩
          have HJT := Lib.hid hjt
          have hkl : (k : Int) < (l.length : Int) := by omega
          have hjl : (j : Int) < (l.length : Int) := by omega
          have SS : Hid (Below w.heap.size w wr.drew) ∧ wr.drew.cell? ⟨b, off + k * 2, none⟩ = some (.int .i64 p1) ∧ wr.drew.cell? ⟨b, off + k * 2 + 1, none⟩ = some (.int .i64 p2) ∧ wr.drew.cell? ⟨b, off + j * 2, none⟩ = some (.int .i64 q1) ∧ wr.drew.cell? ⟨b, off + j * 2 + 1, none⟩ = some (.int .i64 q2) := ⟨Lib.hid (below_drewN B3.out 1), c1, c2, c3, c4⟩
          clear h1 h2 h3 h4 c1 c2 c3 c4 hlt hjt hk hj
          go_wp2
          have HLD := Lib.hid SS
          clear SS
          have SS := HLD.out
          go_region_held3 (fun w' => Hid (Below w.heap.size w w') ∧ w'.cell? ⟨b, off + k * 2, none⟩ = some (.int .i64 p1) ∧ w'.cell? ⟨b, off + k * 2 + 1, none⟩ = some (.int .i64 p2) ∧ w'.cell? ⟨b, off + j * 2, none⟩ = some (.int .i64 q1) ∧ w'.cell? ⟨b, off + j * 2 + 1, none⟩ = some (.int .i64 q2))
            (first | exact SS | go_keep)
            (fail)
          all_goals
            go_wp2
            clear SS
            have SS := (show Hid (Below w.heap.size w wr.drew.drew) ∧ wr.drew.drew.cell? ⟨b, off + k * 2, none⟩ = some (.int .i64 p1) ∧ wr.drew.drew.cell? ⟨b, off + k * 2 + 1, none⟩ = some (.int .i64 p2) ∧ wr.drew.drew.cell? ⟨b, off + j * 2, none⟩ = some (.int .i64 q1) ∧ wr.drew.drew.cell? ⟨b, off + j * 2 + 1, none⟩ = some (.int .i64 q2) from ⟨Lib.hid (below_drewN HLD.out.1.out 1), HLD.out.2⟩)
            have HL2 := Lib.hid SS
            clear SS HLD
            have SS := HL2.out
            go_region_held3 (fun w' => Hid (Below w.heap.size w w') ∧ w'.cell? ⟨b, off + k * 2, none⟩ = some (.int .i64 p1) ∧ w'.cell? ⟨b, off + k * 2 + 1, none⟩ = some (.int .i64 p2) ∧ w'.cell? ⟨b, off + j * 2, none⟩ = some (.int .i64 q1) ∧ w'.cell? ⟨b, off + j * 2 + 1, none⟩ = some (.int .i64 q2))
              (first | exact SS | go_keep)
              (fail)
            all_goals
              have B4 := SS.1
              clear SS HL2 e1 e2
              go_wp2_with fail
              refine (CL.out _).mono ?_
              rintro _ w3 ⟨rfl, hb3⟩
              have B5 := Lib.hid (bnext B4.out B4.out.size hb3)
              clear hb3
              go_wp2_with fail
              refine (CH.out _).mono ?_
              rintro _ w4 ⟨rfl, hb4⟩
              have B6 := Lib.hid (bnext B5.out B5.out.size hb4)
              have F3 := Lib.hid (F2.out w4 _ rfl B6.out)
              clear hb4 F2 B4 B5
              go_wp2
              go_roundw
              case rel => exact F3.out
              case measure => have := HJT.out; simp [intOf]; omega
        · have F := Lib.hid (F.out wr _ rfl B3.out)
          go_wp2
          go_roundw
          case rel => exact F.out
          case measure => have := HLT.out; simp [intOf]; omega
    · go_wp2
      go_ret
      exact ⟨rfl, B0.out⟩
end Go.Proofs.Ytodjlnfpigmegaa
