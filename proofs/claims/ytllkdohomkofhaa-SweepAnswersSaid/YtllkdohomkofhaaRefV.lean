/- noonmarkref17: Votes, right; noonmarkref03's Right; noonmarklaw17.of: for every input. Of gen_refv17.py. -/
import Derived.Test.YtllkdohomkofhaaSwW
namespace Go.Proofs.Ytllkdohomkofhaa
open Go.RowKit
set_option linter.unusedVariables false

theorem ref_right_any (a b : Int) (w : World) : Calls Try.prog 23 #[.agg #[.int .i64 a, .int .i64 b]] w (Gives (.bool (decide (a ≤ b))) w) := by
  go_enter Try.func23, Try.ntmps23
  go_wp2
  go_ret
  exact gives_bool rfl (one_alloc _ _)
set_option maxHeartbeats 1000000 in
theorem rvotes_any (x : Int) (xa : Option Addr) (xc : Nat) (l : List (Int × Int)) (w : World) (hx : PairRow w xa l) (hl : l.length ≤ 4000000000) :
    Calls Try.prog 14 #[.int .i64 x, .slice xa l.length xc] w (Gives (.int .i64 (votes l x : Int)) w) := by
  have HX := Lib.hid hx
  have HL := Lib.hid hl
  clear hx hl
  go_enter Try.func14, Try.ntmps14
  go_wp2
  go_loopw [5, 6] (fun n i wr => VoRel l x w n i wr) (fun _ i _ => l.length - (intOf i).toNat)
  case atStart => exact ⟨0, Nat.zero_le _, rfl, rfl, Lib.hid (Below.refl _ _)⟩
  case round =>
    obtain ⟨k, hk, rfl, rfl, HB⟩ := hrel
    by_cases hlt : k < l.length
    · have HLT := Lib.hid hlt
      obtain ⟨b, off, rfl, q1, q2⟩ := HX.out k hlt
      have c1 := (HB.out.cell (World.block_lt_of_cell? w _ q1)).trans q1
      have c2 := (HB.out.cell (World.block_lt_of_cell? w _ q2)).trans q2
      have hsn := votes_snoc l x k hlt
      have hle := votes_le (l.take k) x
      rw [List.length_take] at hle
      have hkk : (k : Int) < (l.length : Int) := by omega
      have hll := HL.out
      obtain ⟨⟨p, q⟩, hpq⟩ : ∃ pq, l.getD k (0, 0) = pq := ⟨_, rfl⟩
      rw [hpq] at c1 c2 hsn
      dsimp only at c1 c2
      have C1 := Lib.hid c1
      have C2 := Lib.hid c2
      have F : Hid (∀ n W, n = (votes (l.take (k + 1)) x : Int) → Below w.heap.size w W → VoRel l x w (.int .i64 n) (.int .i64 ((k : Int) + 1)) W) := Lib.hid fun n W hn hb => ⟨k + 1, hlt, rfl, by rw [hn], Lib.hid hb⟩
      generalize (votes (l.take k) x) = V at *
      have e1 : wrap64 ((V : Int) + 1) = (V : Int) + 1 := IntWalk.wrap64_in _ (by omega)
      have e2 : wrap64 ((k : Int) + 1) = (k : Int) + 1 := IntWalk.wrap64_in _ (by omega)
      by_cases h0 : p ≤ q
      · have d0 := decide_eq_true h0
        by_cases hp : p ≤ x
        · by_cases hq : x ≤ q
          · have hb : hasB x (p, q) = true := decide_eq_true (by dsimp only; omega)
            rw [if_pos hb] at hsn
            have G := Lib.hid (fun W hb => F.out ((V : Int) + 1) W (by omega) hb)
            clear h0
            clear hsn hle hll hpq hb F hlt hk q1 q2
            go_wp2_with fail
            refine (ref_right_any p q _).mono ?_
            rintro _ w2 ⟨rfl, b2⟩
            rw [d0]
            have GG := Lib.hid (G.out w2 (bnext HB.out HB.out.size b2))
            have c1 := (b2.cell (World.block_lt_of_cell? _ _ C1.out)).trans C1.out
            have c2 := (b2.cell (World.block_lt_of_cell? _ _ C2.out)).trans C2.out
            clear b2 d0 G C1 C2
            go_wp2
            go_roundw
            case rel => (try rw [e1]); (try rw [e2]); exact GG.out
            case measure => have := HLT.out; (try rw [e2]); simp [intOf]; omega
          · have hb : hasB x (p, q) = false := decide_eq_false (by dsimp only; omega)
            rw [hb, if_neg (by simp)] at hsn
            have G := Lib.hid (fun W hb => F.out ((V : Int)) W (by omega) hb)
            clear h0
            clear hsn hle hll hpq hb F hlt hk q1 q2
            go_wp2_with fail
            refine (ref_right_any p q _).mono ?_
            rintro _ w2 ⟨rfl, b2⟩
            rw [d0]
            have GG := Lib.hid (G.out w2 (bnext HB.out HB.out.size b2))
            have c1 := (b2.cell (World.block_lt_of_cell? _ _ C1.out)).trans C1.out
            have c2 := (b2.cell (World.block_lt_of_cell? _ _ C2.out)).trans C2.out
            clear b2 d0 G C1 C2
            go_wp2
            go_roundw
            case rel => (try rw [e2]); exact GG.out
            case measure => have := HLT.out; (try rw [e2]); simp [intOf]; omega
        · have hb : hasB x (p, q) = false := decide_eq_false (by dsimp only; omega)
          rw [hb, if_neg (by simp)] at hsn
          have G := Lib.hid (fun W hb => F.out ((V : Int)) W (by omega) hb)
          clear h0
          clear hsn hle hll hpq hb F hlt hk q1 q2
          go_wp2_with fail
          refine (ref_right_any p q _).mono ?_
          rintro _ w2 ⟨rfl, b2⟩
          rw [d0]
          have GG := Lib.hid (G.out w2 (bnext HB.out HB.out.size b2))
          have c1 := (b2.cell (World.block_lt_of_cell? _ _ C1.out)).trans C1.out
          have c2 := (b2.cell (World.block_lt_of_cell? _ _ C2.out)).trans C2.out
          clear b2 d0 G C1 C2
          go_wp2
          go_roundw
          case rel => (try rw [e2]); exact GG.out
          case measure => have := HLT.out; (try rw [e2]); simp [intOf]; omega
      · have hb : hasB x (p, q) = false := decide_eq_false (by dsimp only; omega)
        rw [hb, if_neg (by simp)] at hsn
        have G := Lib.hid (fun W hb => F.out ((V : Int)) W (by omega) hb)
        have d0 := decide_eq_false h0
        clear hsn hle hll hpq hb F hlt hk q1 q2
        go_wp2_with fail
        refine (ref_right_any p q _).mono ?_
        rintro _ w2 ⟨rfl, b2⟩
        rw [d0]
        have GG := Lib.hid (G.out w2 (bnext HB.out HB.out.size b2))
        have c1 := (b2.cell (World.block_lt_of_cell? _ _ C1.out)).trans C1.out
        have c2 := (b2.cell (World.block_lt_of_cell? _ _ C2.out)).trans C2.out
        clear b2 d0 G C1 C2
        go_wp2
        go_roundw
        case rel => (try rw [e2]); exact GG.out
        case measure => have := HLT.out; (try rw [e2]); simp [intOf]; omega
    · obtain rfl : k = l.length := by omega
      rw [List.take_length]
      clear hlt hk
      go_wp2
      go_ret
      exact ⟨rfl, HB.out⟩
def RgRel (l : List (Int × Int)) (w : World) (n i : Value) (wr : World) : Prop := ∃ k : Nat, k ≤ l.length ∧ i = .int .i64 k ∧ n = .int .i64 (rights (l.take k) : Int) ∧ Hid (Below w.heap.size w wr)
set_option maxHeartbeats 1000000 in
theorem rright_any (xa : Option Addr) (xc : Nat) (l : List (Int × Int)) (w : World) (hx : PairRow w xa l) (hl : l.length ≤ 4000000000) :
    Calls Try.prog 24 #[.slice xa l.length xc] w (Gives (.int .i64 (rights l : Int)) w) := by
  have HX := Lib.hid hx
  have HL := Lib.hid hl
  clear hx hl
  go_enter Try.func24, Try.ntmps24
  go_wp2
  go_loopw [3, 4] (fun n i wr => RgRel l w n i wr) (fun _ i _ => l.length - (intOf i).toNat)
  case atStart => exact ⟨0, Nat.zero_le _, rfl, rfl, Lib.hid (Below.refl _ _)⟩
  case round =>
    obtain ⟨k, hk, rfl, rfl, HB⟩ := hrel
    by_cases hlt : k < l.length
    · have HLT := Lib.hid hlt
      obtain ⟨b, off, rfl, q1, q2⟩ := HX.out k hlt
      have c1 := (HB.out.cell (World.block_lt_of_cell? w _ q1)).trans q1
      have c2 := (HB.out.cell (World.block_lt_of_cell? w _ q2)).trans q2
      have hsn := rights_snoc l k hlt
      have hle := rights_le (l.take k)
      rw [List.length_take] at hle
      have hkk : (k : Int) < (l.length : Int) := by omega
      have hll := HL.out
      obtain ⟨⟨p, q⟩, hpq⟩ : ∃ pq, l.getD k (0, 0) = pq := ⟨_, rfl⟩
      rw [hpq] at c1 c2 hsn
      dsimp only at c1 c2
      have C1 := Lib.hid c1
      have C2 := Lib.hid c2
      have F : Hid (∀ n W, n = (rights (l.take (k + 1)) : Int) → Below w.heap.size w W → RgRel l w (.int .i64 n) (.int .i64 ((k : Int) + 1)) W) := Lib.hid fun n W hn hb => ⟨k + 1, hlt, rfl, by rw [hn], Lib.hid hb⟩
      generalize (rights (l.take k)) = V at *
      have e1 : wrap64 ((V : Int) + 1) = (V : Int) + 1 := IntWalk.wrap64_in _ (by omega)
      have e2 : wrap64 ((k : Int) + 1) = (k : Int) + 1 := IntWalk.wrap64_in _ (by omega)
      by_cases h0 : p ≤ q
      · have d0 := decide_eq_true h0
        rw [if_pos h0] at hsn
        have G := Lib.hid (fun W hb => F.out ((V : Int) + 1) W (by omega) hb)
        clear h0 hsn hle hll hpq F hlt hk q1 q2
        go_wp2_with fail
        refine (ref_right_any p q _).mono ?_
        rintro _ w2 ⟨rfl, b2⟩
        rw [d0]
        have GG := Lib.hid (G.out w2 (bnext HB.out HB.out.size b2))
        have c1 := (b2.cell (World.block_lt_of_cell? _ _ C1.out)).trans C1.out
        have c2 := (b2.cell (World.block_lt_of_cell? _ _ C2.out)).trans C2.out
        clear b2 d0 G C1 C2
        go_wp2
        go_roundw
        case rel => (try rw [e1]); (try rw [e2]); exact GG.out
        case measure => have := HLT.out; (try rw [e2]); simp [intOf]; omega
      · have d0 := decide_eq_false h0
        rw [if_neg h0] at hsn
        have G := Lib.hid (fun W hb => F.out ((V : Int)) W (by omega) hb)
        clear h0 hsn hle hll hpq F hlt hk q1 q2
        go_wp2_with fail
        refine (ref_right_any p q _).mono ?_
        rintro _ w2 ⟨rfl, b2⟩
        rw [d0]
        have GG := Lib.hid (G.out w2 (bnext HB.out HB.out.size b2))
        have c1 := (b2.cell (World.block_lt_of_cell? _ _ C1.out)).trans C1.out
        have c2 := (b2.cell (World.block_lt_of_cell? _ _ C2.out)).trans C2.out
        clear b2 d0 G C1 C2
        go_wp2
        go_roundw
        case rel => (try rw [e2]); exact GG.out
        case measure => have := HLT.out; (try rw [e2]); simp [intOf]; omega
    · obtain rfl : k = l.length := by omega
      rw [List.take_length]
      clear hlt hk
      go_wp2
      go_ret
      exact ⟨rfl, HB.out⟩
end Go.Proofs.Ytllkdohomkofhaa
