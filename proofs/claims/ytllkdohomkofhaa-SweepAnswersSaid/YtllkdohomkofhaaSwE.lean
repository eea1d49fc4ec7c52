/- sweep.ends: for every list. -/
import Derived.Test.YtllkdohomkofhaaSwS
namespace Go.Proofs.Ytllkdohomkofhaa
open Go.RowKit
set_option linter.unusedVariables false

theorem endsL_snoc (l : List (Int × Int)) (k : Nat) (hk : k < l.length) : endsL (l.take (k + 1)) = endsL (l.take k) ++ (if (l.getD k (0, 0)).1 ≤ (l.getD k (0, 0)).2 then [((l.getD k (0, 0)).1, false), ((l.getD k (0, 0)).2, true)] else []) := by
  unfold endsL
  rw [take_pair l k hk, List.flatMap_append]
  simp
theorem endsL_len (l : List (Int × Int)) : (endsL l).length ≤ 2 * l.length := by
  induction l with
  | nil => exact Nat.le_refl _
  | cons p l ih =>
    unfold endsL at *
    rw [List.flatMap_cons, List.length_append, List.length_cons]
    have h : (if p.1 ≤ p.2 then [(p.1, false), (p.2, true)] else ([] : List Ev)).length ≤ 2 := by split <;> simp
    omega
theorem own_shape {w : World} {base e size n : Nat} {v : Value} {xs : List Value} (h : w.ownsRow base e size v n xs) : ∃ a cap, v = .slice a n cap ∧ ∀ ad, a = some ad → base ≤ ad.block := by
  rcases h.2 with ⟨rfl, h0⟩ | ⟨g, cap, cur, rfl, hb, -⟩
  · exact ⟨none, 0, by rw [h0], fun ad e => by cases e⟩
  · exact ⟨_, cap, rfl, fun ad e => by cases e; exact hb⟩
def EnRel (l : List (Int × Int)) (w : World) (v i : Value) (wr : World) : Prop := ∃ k : Nat, k ≤ l.length ∧ i = .int .i64 k ∧ Hid (wr.ownsRow w.heap.size 53 2 v (endsL (l.take k)).length (cellsE (endsL (l.take k)))) ∧ Hid (Below w.heap.size w wr)
def EndsOut (l : List (Int × Int)) (w : World) (e : Ending) (w' : World) : Prop := ∃ a cap s, e = .returned (.slice a (s : List Ev).length cap) ∧ s.Perm (endsL l) ∧ sortE s ∧ EvRow w' a s ∧ Below w.heap.size w w' ∧ ∀ ad, a = some ad → w.heap.size ≤ ad.block
set_option maxHeartbeats 1000000 in
theorem ends_any (x : Option Addr) (xc : Nat) (l : List (Int × Int)) (w : World) (hx : PairRow w x l) (hl : l.length ≤ 100000000) :
    Calls Try.prog 29 #[.slice x l.length xc] w (EndsOut l w) := by
  obtain ⟨i0, hi, hz0, hz1, hz2⟩ := info_parts2 info_end
  have HX := Lib.hid hx
  have HL := Lib.hid hl
  have CS := Lib.hid (fun a cap B W ho => sort_any a cap B (endsL l) W ho (by have := endsL_len l; omega))
  have S0 : Hid (EnRel l w (.slice none 0 0) (.int .i64 0) w) := Lib.hid ⟨0, Nat.zero_le _, rfl, Lib.hid (World.ownsRow_nil _ _ _ _), Lib.hid (Below.refl _ _)⟩
  clear hx hl
  go_enter Try.func29, Try.ntmps29
  go_wp2
  go_loopw [3, 8] (fun v i wr => EnRel l w v i wr) (fun _ i _ => l.length - (intOf i).toNat)
  case atStart => exact S0.out
  case round =>
    obtain ⟨k, hk, rfl, HO, HB⟩ := hrel
    clear S0
    by_cases hlt : k < l.length
    · have HLT := Lib.hid hlt
      obtain ⟨b, off, rfl, q1, q2⟩ := HX.out k hlt
      have c1 := (HB.out.cell (World.block_lt_of_cell? w _ q1)).trans q1
      have c2 := (HB.out.cell (World.block_lt_of_cell? w _ q2)).trans q2
      have hsn := endsL_snoc l k hlt
      have hle := endsL_len (l.take k)
      rw [List.length_take] at hle
      have hkk : (k : Int) < (l.length : Int) := by omega
      have hll := HL.out
      have e2 : wrap64 ((k : Int) + 1) = (k : Int) + 1 := IntWalk.wrap64_in _ (by omega)
      obtain ⟨⟨p, q⟩, hpq⟩ : ∃ pq, l.getD k (0, 0) = pq := ⟨_, rfl⟩
      rw [hpq] at c1 c2 hsn
      dsimp only at c1 c2 hsn
      have F : Hid (∀ v W, W.ownsRow w.heap.size 53 2 v (endsL (l.take (k + 1))).length (cellsE (endsL (l.take (k + 1)))) → Below w.heap.size w W → EnRel l w v (.int .i64 ((k : Int) + 1)) W) := Lib.hid fun v W h1 h2 => ⟨k + 1, hlt, rfl, Lib.hid h1, Lib.hid h2⟩
      have hc1 : (endsL (l.take k)).length + 2 ≤ maxLen := by unfold maxLen; omega
      have hc2 : ((endsL (l.take k)).length + 2) * 16 ≤ 140737488355328 := by omega
      have CR := Lib.hid (fun W => right_any p q W)
      obtain ⟨vv, hvv⟩ : ∃ x, x = u3 := ⟨_, rfl⟩
      subst hvv
      obtain ⟨ax, cx, rfl, -⟩ := own_shape HO.out
      by_cases hh : p ≤ q
      · rw [if_pos hh] at hsn
        rw [decide_eq_true hh] at CR
        have HSN := Lib.hid hsn
        clear hle hll hpq hh hlt hk q1 q2 hsn
        have KB : Hid (Kept (wr.alloc (.cells #[.int .i64 p, .int .i64 q] 25)) wr.heap.size #[.int .i64 p, .int .i64 q] 25) := Lib.hid (Kept.new rfl)
        go_wp2_with fail
        refine (CR.out _).mono ?_
        rintro _ w2 ⟨rfl, b2⟩
        have O2 := Lib.hid (owns_below (owns_below HO.out (one_alloc wr (.cells #[.int .i64 p, .int .i64 q] 25))) b2)
        have B2 := Lib.hid ((HB.out.alloc HB.out.size (.cells #[.int .i64 p, .int .i64 q] 25)).trans (b2.mono (by have := HB.out.size; simp <;> omega)))
        have K2 := Lib.hid (KB.out.next b2)
        obtain ⟨y1, y2, y3, y4, y5⟩ := K2.out.two
        have O3 := Lib.hid (owns_below O2.out (one_alloc w2 (.cells #[.int .i64 p, .bool false, .int .i64 q, .bool true] 53)))
        have B3 := Lib.hid (B2.out.alloc B2.out.size (.cells #[.int .i64 p, .bool false, .int .i64 q, .bool true] 53))
        have K3 : Hid (Kept (w2.alloc (.cells #[.int .i64 p, .bool false, .int .i64 q, .bool true] 53)) w2.heap.size #[.int .i64 p, .bool false, .int .i64 q, .bool true] 53) := Lib.hid (Kept.new rfl)
        clear b2 KB
        go_wp2_with (at_builtin; refine wpList_appendTwo rfl _ _ 60 rfl w 53 i0 (.agg #[.int .i64 0, .bool false]) 16 Try.underlying60 hi hz0 hz1 hz2 rfl _ _ _ rfl O3.out w2.heap.size p q 53 rfl K3.out hc1 hc2 B3.out ?_)
        intro v4 w4 o4 b4
        have GG := Lib.hid (F.out v4 w4 (by rw [HSN.out, List.length_append, cellsE_append]; exact o4) b4)
        clear o4 b4 O2 O3 B2 B3 K2 K3 HO HB
        go_wp2
        go_roundw
        case rel => (try rw [e2]); exact GG.out
        case measure => have := HLT.out; (try rw [e2]); simp [intOf]; omega
      · rw [if_neg hh, List.append_nil] at hsn
        rw [decide_eq_false hh] at CR
        have HSN := Lib.hid hsn
        clear hle hll hpq hh hlt hk q1 q2 hsn
        go_wp2_with fail
        refine (CR.out _).mono ?_
        rintro _ w2 ⟨rfl, b2⟩
        have O2 := Lib.hid (owns_below (owns_below HO.out (one_alloc wr (.cells #[.int .i64 p, .int .i64 q] 25))) b2)
        have B2 := Lib.hid ((HB.out.alloc HB.out.size (.cells #[.int .i64 p, .int .i64 q] 25)).trans (b2.mono (by have := HB.out.size; simp <;> omega)))
        have GG := Lib.hid (F.out _ w2 (by rw [HSN.out]; exact O2.out) B2.out)
        clear b2 O2 B2 HO HB
        go_wp2
        go_roundw
        case rel => (try rw [e2]); exact GG.out
        case measure => have := HLT.out; (try rw [e2]); simp [intOf]; omega
    · obtain rfl : k = l.length := by omega
      rw [List.take_length] at HO
      obtain ⟨vv, hvv⟩ : ∃ x, x = u3 := ⟨_, rfl⟩
      subst hvv
      obtain ⟨ax, cx, rfl, hax⟩ := own_shape HO.out
      have HAX := Lib.hid hax
      clear hax
      have C2 := Lib.hid (CS.out ax cx _ _ HO.out)
      clear hlt hk CS
      go_wp2_with fail
      refine C2.out.mono ?_
      rintro _ w2 ⟨rfl, s, h1, h2, h3, h4⟩
      have FF : Hid (EndsOut l w (.returned (.slice ax (endsL l).length cx)) w2) := Lib.hid ⟨ax, cx, s, by rw [h1.length_eq], h1, h2, h3, HB.out.trans h4, HAX.out⟩
      clear h1 h2 h3 h4
      go_wp2
      go_ret
      exact FF.out
end Go.Proofs.Ytllkdohomkofhaa
