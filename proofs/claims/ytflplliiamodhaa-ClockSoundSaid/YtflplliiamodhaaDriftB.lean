/- drift.sound, weighed, the two closures of keeps: for every list of points. -/
import Derived.Test.YtflplliiamodhaaDriftA
import Derived.Test.YtflplliiamodhaaWideC
import Derived.Test.YtflplliiamodhaaWideE
import Derived.Deep.RegionHeld3
namespace Go.Proofs.Ytflplliiamodhaa
open Go.RowKit
set_option linter.unusedVariables false

/-- the points of a list lie one beside another behind an address, two cells each -/
def PairRow (w : World) (a : Option Addr) (l : List (Int × Int)) : Prop := ∀ j, j < l.length → ∃ b off, a = some ⟨b, off, none⟩ ∧ w.cell? ⟨b, off + j * 2, none⟩ = some (.int .i64 (l.getD j (0, 0)).1) ∧ w.cell? ⟨b, off + j * 2 + 1, none⟩ = some (.int .i64 (l.getD j (0, 0)).2)
theorem PairRow.below {w w' : World} {a : Option Addr} {l : List (Int × Int)} (h : PairRow w a l) (hb : Below w.heap.size w w') : PairRow w' a l := fun j hj => by
  obtain ⟨b, off, e, h1, h2⟩ := h j hj
  exact ⟨b, off, e, (hb.cell (World.block_lt_of_cell? w _ h1)).trans h1, (hb.cell (World.block_lt_of_cell? w _ h2)).trans h2⟩
def SndRel (l : List (Int × Int)) (w : World) (i : Value) (wr : World) : Prop := ∃ k : Nat, k ≤ l.length ∧ i = .int .i64 k ∧ Hid (∀ j, j < k → InT (l.getD j (0, 0))) ∧ Hid (Below w.heap.size w wr)
set_option maxHeartbeats 4000000 in
theorem snd_any (x : Option Addr) (xc : Nat) (l : List (Int × Int)) (w : World) (hx : PairRow w x l) (hl : l.length ≤ 4000000000) :
    Calls Try.prog 56 #[.slice x l.length xc] w (Gives (.bool (decide (soundP l))) w) := by
  have HX := Lib.hid hx
  clear hx
  go_enter Try.func56, Try.ntmps56
  go_wp2
  go_loopw [7] (fun i wr => SndRel l w i wr) (fun i _ => l.length - (intOf i).toNat)
  case atStart => exact ⟨0, Nat.zero_le _, rfl, Lib.hid (fun j hj => by omega), Lib.hid (Below.refl _ _)⟩
  case round =>
    obtain ⟨k, hk, rfl, HV, B0⟩ := hrel
    by_cases hlt : k < l.length
    · obtain ⟨b, off, rfl, h1, h2⟩ := HX.out k hlt
      have c1 := (B0.out.cell (World.block_lt_of_cell? w _ h1)).trans h1
      have c2 := (B0.out.cell (World.block_lt_of_cell? w _ h2)).trans h2
      obtain ⟨p, hp⟩ : ∃ p, (l.getD k (0, 0)).1 = p := ⟨_, rfl⟩
      obtain ⟨q, hq⟩ : ∃ q, (l.getD k (0, 0)).2 = q := ⟨_, rfl⟩
      rw [hp] at c1
      rw [hq] at c2
      have fin1 : timeB p = true → timeB q = true → ∀ w', Hid (Below w.heap.size w w') → SndRel l w (.int .i64 ((k : Int) + 1)) w' := fun t1 t2 w' a3 =>
        ⟨k + 1, hlt, rfl, Lib.hid (fun j hj => by
          by_cases e : j = k
          · rw [e]; exact ⟨by rw [hp]; exact of_decide_eq_true t1, by rw [hq]; exact of_decide_eq_true t2⟩
          · exact HV.out j (by omega)), a3⟩
      have fin2 : (timeB p = false ∨ timeB q = false) → Hid (decide (soundP l) = false) := fun h => Lib.hid (decide_eq_false fun hs => by
        obtain ⟨s1, s2⟩ := hs k hlt
        rw [hp] at s1
        rw [hq] at s2
        rcases h with h | h
        · exact of_decide_eq_false h s1
        · exact of_decide_eq_false h s2)
      have F1 := Lib.hid fin1
      have F2 := Lib.hid fin2
      have B1 := Lib.hid (B0.out.alloc B0.out.size (.cells #[.int .i64 p, .int .i64 q] 59))
      have KP : Hid (Kept (wr.alloc (.cells #[.int .i64 p, .int .i64 q] 59)) wr.heap.size #[.int .i64 p, .int .i64 q] 59) := Lib.hid (Kept.new rfl)
      clear fin1 fin2 hp hq h1 h2
      cases t1 : timeB p
      · have C1 := Lib.hid fun W => istime_any p false t1 W
        have F := Lib.hid (F2.out (.inl t1))
        clear F1 F2 t1
        go_wp2_with fail
        refine (C1.out _).mono ?_
        rintro _ w1 ⟨rfl, hb1⟩
        have B2 := Lib.hid (bnext B1.out B1.out.size hb1)
        clear hb1 c1 c2
        go_wp2
        go_ret
        exact ⟨ret_bool F.out.out.symm, B2.out⟩
      · have C1 := Lib.hid fun W => istime_any p true t1 W
        cases t2 : timeB q
        · have C2 := Lib.hid fun W => istime_any q false t2 W
          have F := Lib.hid (F2.out (.inr t2))
          clear F1 F2 t1 t2
          go_wp2_with fail
          refine (C1.out _).mono ?_
          rintro _ w1 ⟨rfl, hb1⟩
          have B2 := Lib.hid (bnext B1.out B1.out.size hb1)
          have K2 := Lib.hid (KP.out.next hb1)
          clear hb1 c1 c2
          obtain ⟨k1, k2, -, -, kl⟩ := K2.out.two
          go_wp2_with fail
          refine (C2.out _).mono ?_
          rintro _ w2 ⟨rfl, hb2⟩
          have B3 := Lib.hid (bnext B2.out B2.out.size hb2)
          clear hb2 k1 k2 kl
          go_wp2
          go_ret
          exact ⟨ret_bool F.out.out.symm, B3.out⟩
        · have C2 := Lib.hid fun W => istime_any q true t2 W
          have F := Lib.hid (F1.out t1 t2)
          clear F1 F2 t1 t2
          go_wp2_with fail
          refine (C1.out _).mono ?_
          rintro _ w1 ⟨rfl, hb1⟩
          have B2 := Lib.hid (bnext B1.out B1.out.size hb1)
          have K2 := Lib.hid (KP.out.next hb1)
          clear hb1 c1 c2
          obtain ⟨k1, k2, -, -, kl⟩ := K2.out.two
          go_wp2_with fail
          refine (C2.out _).mono ?_
          rintro _ w2 ⟨rfl, hb2⟩
          have B3 := Lib.hid (bnext B2.out B2.out.size hb2)
          have F := Lib.hid (F.out w2 B3)
          clear hb2 k1 k2 kl
          go_wp2
          go_roundw
          case rel => exact F.out
          case measure => simp [intOf]; omega
    · have F : Hid (decide (soundP l) = true) := Lib.hid (decide_eq_true fun j hj => HV.out j (by omega))
      go_wp2
      go_ret
      exact ⟨ret_bool F.out.symm, B0.out⟩
end Go.Proofs.Ytflplliiamodhaa
