/- DriftRates, for every input. -/
import Derived.Test.YtodjlnfpigmegaaRatesW
namespace Go.Proofs.Ytodjlnfpigmegaa
open Go.RowKit
set_option linter.unusedVariables false

theorem row_none {w : World} {l : List (Int × Int)} (h : PairRow w none l) : l = [] := by
  cases l with
  | nil => rfl
  | cons y ys => obtain ⟨_, _, e1, _⟩ := h 0 (by simp); cases e1
theorem least_ex (l : List (Int × Int)) (n : Nat) (h : okAll (n : Int) l) : ∃ v : Nat, v ≤ n ∧ okAll (v : Int) l ∧ ∀ i : Nat, i < v → ¬ okAll (i : Int) l := by
  induction n using Nat.strongRecOn with
  | _ n ih =>
    by_cases k : ∃ i : Nat, i < n ∧ okAll (i : Int) l
    · obtain ⟨i, h1, h2⟩ := k
      obtain ⟨v, a, b, c⟩ := ih i h1 h2
      exact ⟨v, by omega, b, c⟩
    · exact ⟨n, Nat.le_refl _, h, fun i hi ho => k ⟨i, hi, ho⟩⟩
theorem hon_yes {r : Int} {l : List (Int × Int)} (h1 : 0 ≤ r) (h2 : r ≤ 100000) (hs : soundP l) (ho : okAll r l) : hon r l = true := hon_iff.2 ⟨⟨h1, h2⟩, hs, ho⟩
theorem hon_no {r : Int} {l : List (Int × Int)} (ho : ¬ okAll r l) : hon r l = false := by
  cases h : hon r l with
  | false => rfl
  | true => exact absurd (hon_iff.1 h).2.2 ho
theorem driftrates_any (x : Option Addr) (xc : Nat) (l : List (Int × Int)) (r m s : Int) (w : World) (hx : PairRow w x l) (hlc : l.length ≤ xc) (hcm : xc ≤ 9223372036854775807) :
    Calls Try.prog 5 #[.int .i64 r, .int .i64 m, .slice x l.length xc, .int .i64 s] w fun e w' => e = .returned (.bool true) ∧ Below w.heap.size w w' := by
  have hn : x = none → l = [] := fun e => by subst e; exact row_none hx
  by_cases hg : 30 < (l.length : Int)
  · exact rt_great x xc _ r m s l.length w rfl (decide_eq_true hg)
  · have H : ∀ t b, hon t l = b → HonAt x xc l.length t b w := fun t b hb W hW => by
      have h := honest_any x xc l t W (hx.below hW) hn (by omega)
      rwa [hb] at h
    cases hh : hon r l
    · exact rt_none x xc _ r m s l.length w rfl (decide_eq_false hg) (Lib.hid (H r false hh))
    · obtain ⟨⟨h1, h2⟩, hs, ho⟩ := hon_iff.1 hh
      obtain ⟨R, rfl⟩ := Int.eq_ofNat_of_zero_le h1
      obtain ⟨v, v1, v2, v3⟩ := least_ex l R ho
      have C := Lib.hid (H _ true hh)
      have M : Hid (MoreP x xc l.length (R : Int) m w) := Lib.hid (by
        by_cases m1 : (R : Int) ≤ m
        · by_cases m2 : m ≤ 100000
          · exact .inr (.inr ⟨decide_eq_true m1, decide_eq_true m2, H m true (hon_yes (by omega) m2 hs (ok_mono ho m1))⟩)
          · exact .inr (.inl ⟨decide_eq_true m1, decide_eq_false m2⟩)
        · exact .inl (decide_eq_false m1))
      have L : Hid (∀ W, Below w.heap.size w W → Calls Try.prog 11 #[.slice x l.length xc] W (Gives (.tuple #[.int .i64 (v : Int), .bool true]) W)) := Lib.hid fun W hW => by
        refine (least_any x xc l W (hx.below hW) hn (by omega)).mono fun e w' hq => ?_
        obtain ⟨⟨u, ok, he, hc⟩, hb⟩ := hq
        rcases hc with ⟨rfl, hv⟩ | ⟨rfl, -, hv⟩
        · obtain ⟨-, u0, u1, u2, u3⟩ := hv.out
          obtain ⟨U, rfl⟩ := Int.eq_ofNat_of_zero_le u0
          have a1 : ¬ U < v := fun hlt => v3 U hlt u2
          have a2 : ¬ v < U := fun hlt => u3 v (by omega) (by omega) v2
          obtain rfl : U = v := by omega
          exact ⟨he, hb⟩
        · exact absurd v2 (hv.out hs v (by omega) (by omega))
      have d1 : decide ((R : Int) < (v : Int)) = false := decide_eq_false (by omega)
      have CV := Lib.hid (H (v : Int) true (hon_yes (by omega) (by omega) hs v2))
      have V : Hid (LessP x xc l.length (v : Int) w) := Lib.hid (by
        by_cases q : (0 : Int) < (v : Int)
        · refine .inr ⟨decide_eq_true q, ?_⟩
          rw [show wrap64 ((v : Int) - 1) = ((v - 1 : Nat) : Int) by rw [show (v : Int) - 1 = ((v - 1 : Nat) : Int) by omega]; exact IntWalk.wrap64_in _ (by omega)]
          exact H _ false (hon_no (v3 (v - 1) (by omega)))
        · exact .inl (decide_eq_false q))
      by_cases s1 : s < 0
      · exact rt_mid x xc l _ m _ s w (by omega) C M L d1 CV V (.inl (decide_eq_true s1))
      · by_cases s2 : (l.length : Int) ≤ s
        · exact rt_mid x xc l _ m _ s w (by omega) C M L d1 CV V (.inr ⟨decide_eq_false s1, decide_eq_true s2⟩)
        · obtain ⟨S, hS⟩ := Int.eq_ofNat_of_zero_le (show 0 ≤ s by omega)
          obtain ⟨b, off, hxe, -, -⟩ := hx 0 (by omega)
          have hsub : ∀ p ∈ l.take S ++ l.drop (S + 1), p ∈ l := fun p hp => by
            rcases List.mem_append.1 hp with h | h
            · exact List.mem_of_mem_take h
            · exact List.mem_of_mem_drop h
          refine rt_left x xc l _ m _ s w (by omega) C M L d1 CV V S hS (S + 1) rfl (by omega) hlc hcm b off hxe hx (Lib.hid fun W a c hr => ?_)
          have h := honest_any a c (l.take S ++ l.drop (S + 1)) (R : Int) W hr (fun e => by subst e; exact row_none hr) (by rw [List.length_append, List.length_take, List.length_drop]; omega)
          rwa [hon_yes h1 h2 (sound_iff.2 fun p hp => sound_iff.1 hs p (hsub p hp)) (ok_sub ho hsub)] at h
end Go.Proofs.Ytodjlnfpigmegaa
