/- end.compare, Votes: for every input. -/
import Derived.Test.YtllkdohomkofhaaSwB
import Derived.Shelf.SlSortCmp.NoneTotal
import Derived.Lib.SliceRun
namespace Go.Proofs.Ytllkdohomkofhaa
open Go.RowKit
set_option linter.unusedVariables false

def ordI (x y : Int) : Int := if x < y then -1 else if y < x then 1 else 0
theorem cmpI_any (x y : Int) (w : World) : Calls Try.prog 34 #[.int .i64 x, .int .i64 y] w fun e w' => e = .returned (.int .i64 (ordI x y)) ∧ w = w' := by
  have h : (decide (x < y) = true ∧ ordI x y = -1) ∨ (decide (x < y) = false ∧ decide (y < x) = true ∧ ordI x y = 1) ∨ (decide (x < y) = false ∧ decide (y < x) = false ∧ ordI x y = 0) := by
    unfold ordI
    by_cases h1 : x < y <;> by_cases h2 : y < x <;> simp [h1, h2]
  rcases h with ⟨d1, e⟩ | ⟨d1, d2, e⟩ | ⟨d1, d2, e⟩
  all_goals
    rw [e]
    clear e
    go_enter Try.func34, Try.ntmps34
    go_wp2
    go_ret
    exact ⟨rfl, rfl⟩
def cfE (a b : Ev) : Int := if ordI a.1 b.1 ≠ 0 ∨ a.2 = b.2 then ordI a.1 b.1 else if a.2 = true then 1 else -1
def encE (e : Ev) : List Value := [.int .i64 e.1, .bool e.2]
def GrownOut (v : Int) (W : World) (e : Ending) (w' : World) : Prop := e = .returned (.int .i64 v) ∧ ∃ q os', w' = Go.Sort.grow (W.drewN q) os'
set_option maxHeartbeats 1000000 in
theorem cmpE_any (p q : Ev) (W : World) : Calls Try.prog 31 #[.agg (encE p).toArray, .agg (encE q).toArray] W (GrownOut (cfE p q) W) := by
  obtain ⟨a, b⟩ := p
  obtain ⟨c, d⟩ := q
  have C := Lib.hid (fun W => cmpI_any a c W)
  unfold encE cfE
  dsimp only
  have fin : ∀ r, GrownOut r W (.returned (.int .i64 r)) ((W.alloc (.cells #[.int .i64 a, .bool b] 53)).alloc (.cells #[.int .i64 c, .bool d] 53)) := fun r => ⟨rfl, 0, #[.cells #[.int .i64 a, .bool b] 53, .cells #[.int .i64 c, .bool d] 53], by
    rw [Go.Sort.alloc_eq_grow, Go.Sort.alloc_eq_grow, Go.Sort.grow_grow]
    rfl⟩
  have Fin := Lib.hid fin
  clear fin
  obtain ⟨o, ho⟩ : ∃ o, ordI a c = o := ⟨_, rfl⟩
  rw [ho] at C ⊢
  clear ho
  by_cases h0 : o = 0
  · subst h0
    cases b <;> cases d <;> simp
    all_goals
      go_enter Try.func31, Try.ntmps31
      go_wp2_with fail
      refine (C.out _).mono ?_
      rintro _ _ ⟨rfl, rfl⟩
      go_wp2
      go_ret
      exact Fin.out _
  · have hd : (o != 0) = true := by simp [h0]
    rw [if_pos (.inl h0)]
    clear h0
    go_enter Try.func31, Try.ntmps31
    go_wp2_with fail
    refine (C.out _).mono ?_
    rintro _ _ ⟨rfl, rfl⟩
    go_wp2
    go_ret
    exact Fin.out _
theorem votes_snoc (l : List (Int × Int)) (x : Int) (k : Nat) (hk : k < l.length) : votes (l.take (k + 1)) x = votes (l.take k) x + (if hasB x (l.getD k (0, 0)) = true then 1 else 0) := by
  unfold votes
  rw [take_pair l k hk, List.countP_append]
  simp [List.countP_cons]
theorem votes_le (l : List (Int × Int)) (x : Int) : votes l x ≤ l.length := List.countP_le_length
def VoRel (l : List (Int × Int)) (x : Int) (w : World) (n i : Value) (wr : World) : Prop := ∃ k : Nat, k ≤ l.length ∧ i = .int .i64 k ∧ n = .int .i64 (votes (l.take k) x : Int) ∧ Hid (Below w.heap.size w wr)
set_option maxHeartbeats 1000000 in
theorem votes_any (x : Int) (xa : Option Addr) (xc : Nat) (l : List (Int × Int)) (w : World) (hx : PairRow w xa l) (hl : l.length ≤ 4000000000) :
    Calls Try.prog 13 #[.int .i64 x, .slice xa l.length xc] w (Gives (.int .i64 (votes l x : Int)) w) := by
  have HX := Lib.hid hx
  have HL := Lib.hid hl
  clear hx hl
  go_enter Try.func13, Try.ntmps13
  go_wp2
  go_loopw [5, 10] (fun n i wr => VoRel l x w n i wr) (fun _ i _ => l.length - (intOf i).toNat)
  case atStart => exact ⟨0, Nat.zero_le _, rfl, rfl, Lib.hid (Below.refl _ _)⟩
  case round =>
    obtain ⟨k, hk, rfl, rfl, HB⟩ := hrel
    by_cases hlt : k < l.length
    · have HLT := Lib.hid hlt
      obtain ⟨b, off, rfl, q1, q2⟩ := HX.out k hlt
      have c1 := (HB.out.cell (World.block_lt_of_cell? w _ q1)).trans q1
      have c2 := (HB.out.cell (World.block_lt_of_cell? w _ q2)).trans q2
      have hsn := votes_snoc l x k hlt
      have hle := votes_le (l.take k) x
      rw [List.length_take] at hle
      have hkk : (k : Int) < (l.length : Int) := by omega
      have hll := HL.out
      obtain ⟨⟨p, q⟩, hpq⟩ : ∃ pq, l.getD k (0, 0) = pq := ⟨_, rfl⟩
      rw [hpq] at c1 c2 hsn
      dsimp only at c1 c2
      have CH := Lib.hid (fun r hr W => has_any p q x r hr W)
      have F : Hid (∀ n W, n = (votes (l.take (k + 1)) x : Int) → Below w.heap.size w W → VoRel l x w (.int .i64 n) (.int .i64 ((k : Int) + 1)) W) := Lib.hid fun n W hn hb => ⟨k + 1, hlt, rfl, by rw [hn], Lib.hid hb⟩
      generalize (votes (l.take k) x) = V at *
      have e1 : wrap64 ((V : Int) + 1) = (V : Int) + 1 := IntWalk.wrap64_in _ (by omega)
      have e2 : wrap64 ((k : Int) + 1) = (k : Int) + 1 := IntWalk.wrap64_in _ (by omega)
      by_cases hh : p ≤ x ∧ x ≤ q
      · have hb : hasB x (p, q) = true := hasB_iff.2 hh
        rw [if_pos hb] at hsn
        have C1 := Lib.hid (fun W => CH.out true (decide_eq_true hh) W)
        have G := Lib.hid (fun W hb => F.out ((V : Int) + 1) W (by omega) hb)
        clear hsn hle hll hpq hh hb CH F hlt hk q1 q2
        go_wp2_with fail
        refine (C1.out _).mono ?_
        rintro _ w2 ⟨rfl, b2⟩
        have GG := Lib.hid (G.out w2 (bnext (HB.out.alloc HB.out.size _) (by have := HB.out.size; simp <;> omega) b2))
        clear b2
        go_wp2
        go_roundw
        case rel => (try rw [e1]); (try rw [e2]); exact GG.out
        case measure => have := HLT.out; (try rw [e2]); simp [intOf]; omega
      · have hb : hasB x (p, q) = false := decide_eq_false hh
        rw [hb, if_neg (by simp)] at hsn
        have C1 := Lib.hid (fun W => CH.out false (decide_eq_false hh) W)
        have G := Lib.hid (fun W hb => F.out (V : Int) W (by omega) hb)
        clear hsn hle hll hpq hh hb CH F hlt hk q1 q2
        go_wp2_with fail
        refine (C1.out _).mono ?_
        rintro _ w2 ⟨rfl, b2⟩
        have GG := Lib.hid (G.out w2 (bnext (HB.out.alloc HB.out.size _) (by have := HB.out.size; simp <;> omega) b2))
        clear b2
        go_wp2
        go_roundw
        case rel => (try rw [e2]); exact GG.out
        case measure => have := HLT.out; (try rw [e2]); simp [intOf]; omega
    · obtain rfl : k = l.length := by omega
      rw [List.take_length]
      clear hlt hk
      go_wp2
      go_ret
      exact ⟨rfl, HB.out⟩
end Go.Proofs.Ytllkdohomkofhaa
