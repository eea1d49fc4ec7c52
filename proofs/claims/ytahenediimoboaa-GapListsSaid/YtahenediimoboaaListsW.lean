/- GapLists, walked. -/
import Derived.Test.YtahenediimoboaaListE
import Derived.Test.YtahenediimoboaaKeep
import Derived.Deep.RegionHeld3
import Derived.Deep.QuietTactic
import Derived.BigQuiet
namespace Go.Proofs.Ytahenediimoboaa
open Go.RowKit
set_option linter.unusedVariables false

def LsPost (w : World) (e : Ending) (w' : World) : Prop := e = .returned (.bool true) ∧ Below w.heap.size w w'
theorem lists_far (x : Option Addr) (n xc : Nat) (w : World) (h : 100 < n) (hn : n ≤ 9223372036854775807) :
    Calls Try.prog 4 #[.slice x n xc] w (LsPost w) := by
  have h1 : (100 : Int) < (n : Int) := by omega
  clear h
  go_enter Try.func4, Try.ntmps4
  go_wp2_with fail
  refine (alive_any _).mono ?_
  rintro _ w1 ⟨rfl, b1⟩
  have B1 := Lib.hid b1
  clear b1
  go_wp2
  go_ret
  exact ⟨rfl, B1.out⟩
def LsRel (l : List (Int × Int)) (W : World) (i : Value) (wr : World) : Prop := ∃ k n : Nat, k ≤ l.length ∧ i = .int .i64 k ∧ wr = W.drewN n
set_option maxHeartbeats 4000000 in
set_option maxRecDepth 10000 in
theorem lists_near (x : Option Addr) (xc : Nat) (l : List (Int × Int)) (w : World) (hx : PairRow w x l) (hxn : x = none → xc = 0) (hl : l.length ≤ 100) (hin : ∀ p ∈ l, InP p) :
    Calls Try.prog 4 #[.slice x l.length xc] w (LsPost w) := by
  obtain ⟨i0, hi, hz0, hz1, hz2⟩ := info_parts2 info_gap
  have HX := Lib.hid hx
  have HN := Lib.hid hxn
  have h100 : ¬ (100 : Int) < (l.length : Int) := by omega
  have hc1 : 0 + l.length ≤ maxLen := by unfold maxLen; omega
  have hc2 : (0 + l.length) * 16 ≤ 140737488355328 := by omega
  have CM := Lib.hid (fun W x' c' (h : PairRow W x' l) => meet_any x' c' l W h (by omega))
  have CH := Lib.hid (fun W x' c' (h : PairRow W x' l) => hull_any x' c' l W h (by omega))
  have CRM := Lib.hid (fun W x' c' (h : PairRow W x' l) => rmeet_any x' c' l W h (by omega))
  have CRH := Lib.hid (fun W x' c' (h : PairRow W x' l) => rhull_any x' c' l W h (by omega) hin)
  have CA := Lib.hid (fun W (h : Below w.heap.size w W) => all_any x xc l W (HX.out.below h) (by omega))
  generalize combL l (l.foldl opM fullP) = L1 at *
  generalize combH l (l.foldl opM fullP) = H1 at *
  generalize combE l (l.foldl opM fullP) = E1 at *
  generalize combL l (l.foldl opH noneP) = L2 at *
  generalize combH l (l.foldl opH noneP) = H2 at *
  generalize combE l (l.foldl opH noneP) = E2 at *
  clear hx hxn hin
  go_enter Try.func4, Try.ntmps4
  go_wp2_with fail
  refine (alive_any _).mono ?_
  rintro _ w1 ⟨rfl, b1⟩
  have B1 := Lib.hid b1
  clear b1
  have G1 : Hid ((w1.alloc (Obj.cells #[] 23)).ownsRow w1.heap.size 23 2 (.slice (some ⟨w1.heap.size, 0, none⟩) 0 0) 0 []) := Lib.hid (World.ownsRow_made _ #[] 0 (Nat.le_refl _) (by unfold maxLen; omega) rfl)
  have A1 : Hid (Below w1.heap.size w1 (w1.alloc (Obj.cells #[] 23))) := Lib.hid ((Below.refl _ _).alloc (Nat.le_refl _) _)
  have R1 := Lib.hid ((HX.out.below B1.out).below A1.out)
  go_wp2_with (at_builtin; refine wpList_appendPairs rfl _ _ 43 rfl w1 23 i0 (.agg #[.int .i64 0, .int .i64 0]) 16 Try.underlying43 hi hz0 hz1 hz2 rfl _ _ _ rfl G1.out x xc l rfl HN.out R1.out hc1 hc2 A1.out ?_)
  intro v2 w2 o2 b2
  obtain ⟨a2, c2, rfl, -, -, -, -, r2⟩ := PairRow.own (d := l) (by simpa using o2)
  have R2 := Lib.hid r2
  have B2 : Hid (Below w.heap.size w w2) := Lib.hid (bnext B1.out B1.out.size b2)
  clear o2 b2 r2 G1 A1 R1 hc1 hc2
  go_wp2_with fail
  refine (CM.out _ _ _ R2.out).mono ?_
  rintro _ w3 ⟨rfl, b3⟩
  have B3 : Hid (Below w.heap.size w w3) := Lib.hid (bnext B2.out B2.out.size b3)
  have R3 := Lib.hid (PairRow.below (R2.out.below b3) (one_alloc w3 (.cells #[.int .i64 L1, .int .i64 H1] 23)))
  have Ka := Lib.hid (Kept.new (w := w3) (cs := #[.int .i64 L1, .int .i64 H1]) (t := 23) rfl)
  have B3' := Lib.hid (B3.out.alloc B3.out.size (.cells #[.int .i64 L1, .int .i64 H1] 23))
  clear b3 R2
  go_wp2_with fail
  refine (CH.out _ _ _ R3.out).mono ?_
  rintro _ w4 ⟨rfl, b4⟩
  have Ka4 := Lib.hid ((Ka.out.next b4).alloc (.cells #[.int .i64 L2, .int .i64 H2] 23))
  have Kb4 := Lib.hid (Kept.new (w := w4) (cs := #[.int .i64 L2, .int .i64 H2]) (t := 23) rfl)
  have R4 := Lib.hid (PairRow.below (R3.out.below b4) (one_alloc w4 (.cells #[.int .i64 L2, .int .i64 H2] 23)))
  have B4 : Hid (Below w.heap.size w w4) := Lib.hid (bnext B3'.out B3'.out.size b4)
  have B4' := Lib.hid (B4.out.alloc B4.out.size (.cells #[.int .i64 L2, .int .i64 H2] 23))
  clear b4 R3 Ka B3 B3'
  go_wp2_with fail
  refine (CA.out _ B4'.out).mono ?_
  rintro _ w5 ⟨v5, rfl, o5, b5⟩
  obtain ⟨a5, c5, rfl, -, -, -, -, r5⟩ := PairRow.own o5
  have P5 := Lib.hid r5
  have Ka5 := Lib.hid (Ka4.out.next b5)
  have Kb5 := Lib.hid (Kb4.out.next b5)
  have R5 := Lib.hid (R4.out.below b5)
  have B5 : Hid (Below w.heap.size w w5) := Lib.hid (bnext B4'.out B4'.out.size b5)
  clear o5 r5 b5 Ka4 Kb4 R4 B4 B4'
  go_wp2_with fail
  refine (CRM.out _ _ _ P5.out).mono ?_
  rintro _ w6 ⟨rfl, b6⟩
  have Ka6 := Lib.hid ((Ka5.out.next b6).alloc (.cells #[.int .i64 L1, .int .i64 H1] 31))
  have Kb6 := Lib.hid ((Kb5.out.next b6).alloc (.cells #[.int .i64 L1, .int .i64 H1] 31))
  have Kc6 := Lib.hid (Kept.new (w := w6) (cs := #[.int .i64 L1, .int .i64 H1]) (t := 31) rfl)
  have R6 := Lib.hid (PairRow.below (R5.out.below b6) (one_alloc w6 (.cells #[.int .i64 L1, .int .i64 H1] 31)))
  have B6 : Hid (Below w.heap.size w w6) := Lib.hid (bnext B5.out B5.out.size b6)
  have B6' := Lib.hid (B6.out.alloc B6.out.size (.cells #[.int .i64 L1, .int .i64 H1] 31))
  clear b6 P5 Ka5 Kb5 R5 B5 B6
  go_wp2_with fail
  refine (CA.out _ B6'.out).mono ?_
  rintro _ w7 ⟨v7, rfl, o7, b7⟩
  obtain ⟨a7, c7, rfl, -, -, -, -, r7⟩ := PairRow.own o7
  have P7 := Lib.hid r7
  have Ka7 := Lib.hid (Ka6.out.next b7)
  have Kb7 := Lib.hid (Kb6.out.next b7)
  have Kc7 := Lib.hid (Kc6.out.next b7)
  have R7 := Lib.hid (R6.out.below b7)
  have B7 : Hid (Below w.heap.size w w7) := Lib.hid (bnext B6'.out B6'.out.size b7)
  clear o7 r7 b7 Ka6 Kb6 Kc6 R6 B6'
  go_wp2_with fail
  refine (CRH.out _ _ _ P7.out).mono ?_
  rintro _ w8 ⟨rfl, b8⟩
  have Ka8 := Lib.hid ((Ka7.out.next b8).alloc (.cells #[.int .i64 L2, .int .i64 H2] 31))
  have Kb8 := Lib.hid ((Kb7.out.next b8).alloc (.cells #[.int .i64 L2, .int .i64 H2] 31))
  have Kc8 := Lib.hid ((Kc7.out.next b8).alloc (.cells #[.int .i64 L2, .int .i64 H2] 31))
  have Kd8 := Lib.hid (Kept.new (w := w8) (cs := #[.int .i64 L2, .int .i64 H2]) (t := 31) rfl)
  have R8 := Lib.hid (PairRow.below (R7.out.below b8) (one_alloc w8 (.cells #[.int .i64 L2, .int .i64 H2] 31)))
  have B8 : Hid (Below w.heap.size w w8) := Lib.hid (bnext B7.out B7.out.size b8)
  have B9 := Lib.hid (B8.out.alloc B8.out.size (.cells #[.int .i64 L2, .int .i64 H2] 31))
  clear b8 P7 Ka7 Kb7 Kc7 R7 B7 B8 h100
  have X9 := Lib.hid (HX.out.below B9.out)
  go_wp2
  go_loopw [12] (fun i wr => LsRel l (w8.alloc (.cells #[.int .i64 L2, .int .i64 H2] 31)) i wr) (fun i _ => l.length - (intOf i).toNat)
  case atStart => exact ⟨0, 0, Nat.zero_le _, rfl, rfl⟩
  case round =>
    obtain ⟨k, n, hk, rfl, rfl⟩ := hrel
    by_cases hlt : k < l.length
    · obtain ⟨b1, o1, rfl, c1, c2⟩ := R8.out k hlt
      obtain ⟨b2, o2, rfl, d1, d2⟩ := X9.out k hlt
      generalize l.getD k (0, 0) = z at c1 c2 d1 d2
      obtain ⟨p, q⟩ := z
      have hk0 : (0 : Int) ≤ (k : Int) := by omega
      have hk1 : (k : Int) < (l.length : Int) := by omega
      generalize w8.alloc (.cells #[.int .i64 L2, .int .i64 H2] 31) = W9 at *
      go_wp2
      go_quiet (fail)
      go_wp2
      go_roundw
      case rel => exact ⟨k + 1, _, hlt, by go_num, rfl⟩
      case measure => simp [intOf]; omega
    · obtain rfl : k = l.length := by omega
      obtain ⟨ka1, ka2, -, -, kal⟩ := Ka8.out.two
      obtain ⟨kb1, kb2, -, -, kbl⟩ := Kb8.out.two
      obtain ⟨kc1, kc2, -, -, kcl⟩ := Kc8.out.two
      obtain ⟨kd1, kd2, -, -, kdl⟩ := Kd8.out.two
      generalize w8.alloc (.cells #[.int .i64 L2, .int .i64 H2] 31) = W9 at *
      have O1 : Hid (∀ W, Calls Try.prog 12 #[.agg #[.int .i64 L1, .int .i64 H1]] W (Gives (.agg #[.int .i64 L1, .int .i64 H1]) W)) := Lib.hid fun W => of_any L1 H1 W
      have O2 : Hid (∀ W, Calls Try.prog 12 #[.agg #[.int .i64 L2, .int .i64 H2]] W (Gives (.agg #[.int .i64 L2, .int .i64 H2]) W)) := Lib.hid fun W => of_any L2 H2 W
      clear CM CH CRM CRH CA R8 X9 Ka8 Kb8 Kc8 Kd8
      go_wp2
      go_region_held3 (fun w' => Hid (Below w.heap.size w w') ∧ w'.cell? ⟨w3.heap.size, 0, none⟩ = some (.int .i64 L1) ∧ w'.cell? ⟨w3.heap.size, 1, none⟩ = some (.int .i64 H1) ∧ w'.cell? ⟨w4.heap.size, 0, none⟩ = some (.int .i64 L2) ∧ w'.cell? ⟨w4.heap.size, 1, none⟩ = some (.int .i64 H2) ∧ w'.cell? ⟨w6.heap.size, 0, none⟩ = some (.int .i64 L1) ∧ w'.cell? ⟨w6.heap.size, 1, none⟩ = some (.int .i64 H1) ∧ w'.cell? ⟨w8.heap.size, 0, none⟩ = some (.int .i64 L2) ∧ w'.cell? ⟨w8.heap.size, 1, none⟩ = some (.int .i64 H2))
        (first | exact keepB8 hb7 (by assumption) | exact ⟨Lib.hid ⟨B9.out.os, B9.out.tape, B9.out.output, B9.out.size, B9.out.block⟩, ka1, ka2, kb1, kb2, kc1, kc2, kd1, kd2⟩)
        (first | (go_at_call 12; (first | (with_reducible refine (O1.out _).mono ?_) | (with_reducible refine (O2.out _).mono ?_)); rintro e w7 ⟨rfl, hb7⟩))
      rename_i HH
      have B10 := Lib.hid HH.1.out
      clear HH
      go_wp2
      go_ret
      exact ⟨rfl, B10.out⟩
end Go.Proofs.Ytahenediimoboaa
