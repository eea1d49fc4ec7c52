/- drift.Honest, Least: for every list of points. -/
import Derived.Test.YtflplliiamodhaaDriftF
import Derived.Test.YtflplliiamodhaaDriftG
namespace Go.Proofs.Ytflplliiamodhaa
open Go.RowKit
set_option linter.unusedVariables false

def hon (r : Int) (l : List (Int × Int)) : Bool := rateB r && (decide (soundP l) && decide (okAll r l))
theorem hon_iff {r : Int} {l : List (Int × Int)} : hon r l = true ↔ (0 ≤ r ∧ r ≤ 100000) ∧ soundP l ∧ okAll r l := by
  unfold hon rateB
  rw [Bool.and_eq_true, Bool.and_eq_true, decide_eq_true_iff, decide_eq_true_iff, decide_eq_true_iff]
theorem sound_perm {s l : List (Int × Int)} (h : s.Perm l) (hs : soundP l) : soundP s := sound_iff.2 fun p hp => sound_iff.1 hs p (h.mem_iff.1 hp)
theorem keep_dec {r : Int} {s l : List (Int × Int)} (hp : s.Perm l) (hs : sortedP s) : keepB r s = decide (okAll r l) := by
  rw [Bool.eq_iff_iff, decide_eq_true_iff]
  exact keep_iff hp hs
set_option maxHeartbeats 2000000 in
theorem honest_any (x : Option Addr) (xc : Nat) (l : List (Int × Int)) (r : Int) (w : World) (hx : PairRow w x l) (hn : x = none → l = []) (hl : l.length ≤ 4000000000) :
    Calls Try.prog 21 #[.int .i64 r, .slice x l.length xc] w (Gives (.bool (hon r l)) w) := by
  cases h1 : rateB r
  · have C1 := Lib.hid fun W => israte_any r false h1 W
    have F : Hid (hon r l = false) := Lib.hid (by unfold hon; rw [h1]; rfl)
    clear hx hn h1
    go_enter Try.func21, Try.ntmps21
    go_wp2_with fail
    refine (C1.out _).mono ?_
    rintro _ w1 ⟨rfl, hb1⟩
    go_wp2
    go_ret
    exact ⟨ret_bool F.out.symm, hb1⟩
  · have C1 := Lib.hid fun W => israte_any r true h1 W
    obtain ⟨r1, r2⟩ := rate_yes h1
    have C2 := Lib.hid fun W (hb : Below w.heap.size w W) => snd_any x xc l W (hx.below hb) hl
    cases h2 : decide (soundP l)
    · have F : Hid (hon r l = false) := Lib.hid (by unfold hon; rw [h1, h2]; rfl)
      rw [h2] at C2
      clear hx hn h1 h2 r1 r2
      go_enter Try.func21, Try.ntmps21
      go_wp2_with fail
      refine (C1.out _).mono ?_
      rintro _ w1 ⟨rfl, hb1⟩
      have B1 := Lib.hid hb1
      clear hb1
      go_wp2_with fail
      refine (C2.out _ B1.out).mono ?_
      rintro _ w2 ⟨rfl, hb2⟩
      have B2 := Lib.hid (bnext B1.out B1.out.size hb2)
      clear hb2
      go_wp2
      go_ret
      exact ⟨ret_bool F.out.symm, B2.out⟩
    · have F : Hid (hon r l = decide (okAll r l)) := Lib.hid (by unfold hon; rw [h1, h2]; rfl)
      have hs := of_decide_eq_true h2
      have C3 := Lib.hid fun W (hb : Below w.heap.size w W) => bytime_any x xc l W (hx.below hb) hn hl
      have C4 : Hid (∀ (W : World) (a : Option Addr) (cap : Nat) (s : List (Int × Int)), s.Perm l → sortedP s → PairRow W a s → Calls Try.prog 57 #[.int .i64 r, .slice a s.length cap] W (Gives (.bool (decide (okAll r l))) W)) := Lib.hid fun W a cap s hp hso hr => by
        have h := keeps_any a cap s r W hr (by rw [hp.length_eq]; exact hl) (sound_perm hp hs) r1 r2
        rwa [keep_dec hp hso] at h
      rw [h2] at C2
      clear hx hn h1 h2 r1 r2 hs
      go_enter Try.func21, Try.ntmps21
      go_wp2_with fail
      refine (C1.out _).mono ?_
      rintro _ w1 ⟨rfl, hb1⟩
      have B1 := Lib.hid hb1
      clear hb1
      go_wp2_with fail
      refine (C2.out _ B1.out).mono ?_
      rintro _ w2 ⟨rfl, hb2⟩
      have B2 := Lib.hid (bnext B1.out B1.out.size hb2)
      clear hb2
      go_wp2_with fail
      refine (C3.out _ B2.out).mono ?_
      rintro _ w3 ⟨a, cap, s, rfl, hp, hso, hr, hb3⟩
      have B3 := Lib.hid (bnext B2.out B2.out.size hb3)
      have C5 := Lib.hid (C4.out w3 a cap s hp hso hr)
      clear hb3 hp hso hr
      go_wp2_with fail
      refine C5.out.mono ?_
      rintro _ w4 ⟨rfl, hb4⟩
      have B4 := Lib.hid (bnext B3.out B3.out.size hb4)
      clear hb4
      go_wp2
      go_ret
      exact ⟨ret_bool F.out.symm, B4.out⟩
def SrRel (p : Nat → Bool) (w : World) (s5 s6 : Value) (wr : World) : Prop := ∃ lo hi : Nat, s5 = .int .i64 lo ∧ s6 = .int .i64 hi ∧ lo ≤ hi ∧ hi ≤ 100001 ∧ Hid (∀ i, i < lo → p i = false) ∧ Hid (∀ i, hi ≤ i → i < 100001 → p i = true) ∧ Hid (Below w.heap.size w wr)
def SrOut (p : Nat → Bool) (w : World) (e : Ending) (w' : World) : Prop := (∃ n : Nat, e = .returned (.int .i64 n) ∧ n ≤ 100001 ∧ Hid (∀ i, i < n → p i = false) ∧ Hid (∀ i, n ≤ i → i < 100001 → p i = true)) ∧ Below w.heap.size w w'
def LeastOut (l : List (Int × Int)) (w : World) (e : Ending) (w' : World) : Prop := (∃ v ok, e = .returned (.tuple #[.int .i64 v, .bool ok]) ∧ ((ok = true ∧ Hid (soundP l ∧ 0 ≤ v ∧ v ≤ 100000 ∧ okAll v l ∧ ∀ i, 0 ≤ i → i < v → ¬ okAll i l)) ∨ (ok = false ∧ v = 0 ∧ Hid (soundP l → ∀ i, 0 ≤ i → i ≤ 100000 → ¬ okAll i l)))) ∧ Below w.heap.size w w'
end Go.Proofs.Ytflplliiamodhaa
