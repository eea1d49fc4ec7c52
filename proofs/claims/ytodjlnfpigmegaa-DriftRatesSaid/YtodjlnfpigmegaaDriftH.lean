/- drift.Honest, Least: for every list of points. -/
import Derived.Test.YtodjlnfpigmegaaDriftF
import Derived.Test.YtodjlnfpigmegaaDriftG
namespace Go.Proofs.Ytodjlnfpigmegaa
open Go.RowKit
set_option linter.unusedVariables false

def hon (r : Int) (l : List (Int × Int)) : Bool := rateB r && (decide (soundP l) && decide (okAll r l))
theorem hon_iff {r : Int} {l : List (Int × Int)} : hon r l = true ↔ (0 ≤ r ∧ r ≤ 100000) ∧ soundP l ∧ okAll r l := by
  unfold hon rateB
  rw [Bool.and_eq_true, Bool.and_eq_true, decide_eq_true_iff, decide_eq_true_iff, decide_eq_true_iff]
theorem sound_perm {s l : List (Int × Int)} (h : s.Perm l) (hs : soundP l) : soundP s := sound_iff.2 fun p hp => sound_iff.1 hs p (h.mem_iff.1 hp)
theorem keep_dec {r : Int} {s l : List (Int × Int)} (hp : s.Perm l) (hs : sortedP s) : keepB r s = decide (okAll r l) := by
  rw [Bool.eq_iff_iff, decide_eq_true_iff]
  exact keep_iff hp hs
set_option maxHeartbeats 2000000 in
theorem honest_any (x : Option Addr) (xc : Nat) (l : List (Int × Int)) (r : Int) (w : World) (hx : PairRow w x l) (hn : x = none → l = []) (hl : l.length ≤ 4000000000) :
    Calls Try.prog 10 #[.int .i64 r, .slice x l.length xc] w (Gives (.bool (hon r l)) w) := by
  cases h1 : rateB r
  · have C1 := Lib.hid fun W => israte_any r false h1 W
    have F : Hid (hon r l = false) := Lib.hid (by unfold hon; rw [h1]; rfl)
    clear hx hn h1
    go_enter Try.func10, Try.ntmps10
    go_wp2_with fail
    refine (C1.out _).mono ?_
    rintro _ w1 ⟨rfl, hb1⟩
    go_wp2
    go_ret
    exact ⟨ret_bool F.out.symm, hb1⟩
  · have C1 := Lib.hid fun W => israte_any r true h1 W
    obtain ⟨r1, r2⟩ := rate_yes h1
    have C2 := Lib.hid fun W (hb : Below w.heap.size w W) => snd_any x xc l W (hx.below hb) hl
    cases h2 : decide (soundP l)
    · have F : Hid (hon r l = false) := Lib.hid (by unfold hon; rw [h1, h2]; rfl)
      rw [h2] at C2
      clear hx hn h1 h2 r1 r2
      go_enter Try.func10, Try.ntmps10
      go_wp2_with fail
      refine (C1.out _).mono ?_
      rintro _ w1 ⟨rfl, hb1⟩
      have B1 := Lib.hid hb1
      clear hb1
      go_wp2_with fail
      refine (C2.out _ B1.out).mono ?_
      rintro _ w2 ⟨rfl, hb2⟩
      have B2 := Lib.hid (bnext B1.out B1.out.size hb2)
      clear hb2
      go_wp2
      go_ret
      exact ⟨ret_bool F.out.symm, B2.out⟩
    · have F : Hid (hon r l = decide (okAll r l)) := Lib.hid (by unfold hon; rw [h1, h2]; rfl)
      have hs := of_decide_eq_true h2
      have C3 := Lib.hid fun W (hb : Below w.heap.size w W) => bytime_any x xc l W (hx.below hb) hn hl
      have C4 : Hid (∀ (W : World) (a : Option Addr) (cap : Nat) (s : List (Int × Int)), s.Perm l → sortedP s → PairRow W a s → Calls Try.prog 15 #[.int .i64 r, .slice a s.length cap] W (Gives (.bool (decide (okAll r l))) W)) := Lib.hid fun W a cap s hp hso hr => by
        have h := keeps_any a cap s r W hr (by rw [hp.length_eq]; exact hl) (sound_perm hp hs) r1 r2
        rwa [keep_dec hp hso] at h
      rw [h2] at C2
      clear hx hn h1 h2 r1 r2 hs
      go_enter Try.func10, Try.ntmps10
      go_wp2_with fail
      refine (C1.out _).mono ?_
      rintro _ w1 ⟨rfl, hb1⟩
      have B1 := Lib.hid hb1
      clear hb1
      go_wp2_with fail
      refine (C2.out _ B1.out).mono ?_
      rintro _ w2 ⟨rfl, hb2⟩
      have B2 := Lib.hid (bnext B1.out B1.out.size hb2)
      clear hb2
      go_wp2_with fail
      refine (C3.out _ B2.out).mono ?_
      rintro _ w3 ⟨a, cap, s, rfl, hp, hso, hr, hb3⟩
      have B3 := Lib.hid (bnext B2.out B2.out.size hb3)
      have C5 := Lib.hid (C4.out w3 a cap s hp hso hr)
      clear hb3 hp hso hr
      go_wp2_with fail
      refine C5.out.mono ?_
      rintro _ w4 ⟨rfl, hb4⟩
      have B4 := Lib.hid (bnext B3.out B3.out.size hb4)
      clear hb4
      go_wp2
      go_ret
      exact ⟨ret_bool F.out.symm, B4.out⟩
def SrRel (p : Nat → Bool) (w : World) (s5 s6 : Value) (wr : World) : Prop := ∃ lo hi : Nat, s5 = .int .i64 lo ∧ s6 = .int .i64 hi ∧ lo ≤ hi ∧ hi ≤ 100001 ∧ Hid (∀ i, i < lo → p i = false) ∧ Hid (∀ i, hi ≤ i → i < 100001 → p i = true) ∧ Hid (Below w.heap.size w wr)
def SrOut (p : Nat → Bool) (w : World) (e : Ending) (w' : World) : Prop := (∃ n : Nat, e = .returned (.int .i64 n) ∧ n ≤ 100001 ∧ Hid (∀ i, i < n → p i = false) ∧ Hid (∀ i, n ≤ i → i < 100001 → p i = true)) ∧ Below w.heap.size w w'
set_option maxHeartbeats 4000000 in
theorem search_any (g : Nat) (p : Nat → Bool) (w : World) (hf : ∀ W (i : Nat), Below w.heap.size w W → i < 100001 → Calls Try.prog 18 #[.int .i64 (i : Int), .pointer (some ⟨g, 0, none⟩)] W (Gives (.bool (p i)) W)) (hm : ∀ i j, i ≤ j → p i = true → p j = true) :
    Calls Try.prog 17 #[.int .i64 100001, .func (.func 18) #[] #[.pointer (some ⟨g, 0, none⟩)]] w (SrOut p w) := by
  have HF := Lib.hid hf
  have HM := Lib.hid hm
  clear hf hm
  go_enter Try.func17, Try.ntmps17
  go_wp2
  go_loopw [5, 6] (fun s5 s6 wr => SrRel p w s5 s6 wr) (fun s5 s6 _ => (intOf s6).toNat - (intOf s5).toNat)
  case atStart => exact ⟨0, 100001, rfl, rfl, by omega, by omega, Lib.hid (fun i hi => by omega), Lib.hid (fun i h1 h2 => by omega), Lib.hid (Below.refl _ _)⟩
  case round =>
    obtain ⟨lo, hi, rfl, rfl, hlh, hin, HA, HB, B0⟩ := hrel
    by_cases hlt : lo < hi
    · have hc := HF.out wr ((lo + hi) / 2) B0.out (by omega)
      rw [show (((lo + hi) / 2 : Nat) : Int) = ((lo : Int) + (hi : Int)) / 2 by omega] at hc
      cases hp : p ((lo + hi) / 2) <;> rw [hp] at hc
      · have F : Hid (∀ w' v, v = .int .i64 (((lo : Int) + (hi : Int)) / 2 + 1) → Below w.heap.size w w' → SrRel p w v (.int .i64 hi) w') := Lib.hid fun w' v hv hb => ⟨(lo + hi) / 2 + 1, hi, by rw [hv]; congr 1 <;> omega, rfl, by omega, hin, Lib.hid (fun i hi2 => by
          cases h : p i with
          | false => rfl
          | true =>
            have := HM.out i ((lo + hi) / 2) (by omega) h
            rw [hp] at this; cases this), HB, Lib.hid hb⟩
        have HC := Lib.hid hc
        clear hp hc
        go_wp2_with fail
        refine HC.out.mono ?_
        rintro _ w1 ⟨rfl, hb1⟩
        have B1 := bnext B0.out B0.out.size hb1
        have F := Lib.hid (F.out w1 _ rfl B1)
        clear hb1 B1
        go_wp2
        go_roundw
        case rel => exact F.out
        case measure => simp [intOf]; omega
      · have F : Hid (∀ w' v, v = .int .i64 (((lo : Int) + (hi : Int)) / 2) → Below w.heap.size w w' → SrRel p w (.int .i64 lo) v w') := Lib.hid fun w' v hv hb => ⟨lo, (lo + hi) / 2, rfl, by rw [hv]; congr 1, by omega, by omega, HA, Lib.hid (fun i h1 h2 => HM.out _ i h1 hp), Lib.hid hb⟩
        have HC := Lib.hid hc
        clear hp hc
        go_wp2_with fail
        refine HC.out.mono ?_
        rintro _ w1 ⟨rfl, hb1⟩
        have B1 := bnext B0.out B0.out.size hb1
        have F := Lib.hid (F.out w1 _ rfl B1)
        clear hb1 B1
        go_wp2
        go_roundw
        case rel => exact F.out
        case measure => simp [intOf]; omega
    · have F : Hid (SrOut p w (.returned (.int .i64 lo)) wr) := Lib.hid ⟨⟨lo, rfl, by omega, HA, Lib.hid (fun i h1 h2 => HB.out i (by omega) h2)⟩, B0.out⟩
      go_wp2
      go_ret
      exact F.out
theorem least1_any (i r : Int) (g : Nat) (a : Option Addr) (cap n : Nat) (b : Bool) (w : World) (hg : w.cell? ⟨g, 0, none⟩ = some (.slice a n cap)) (C : ∀ W, Below w.heap.size w W → Calls Try.prog 15 #[.int .i64 i, .slice a n cap] W (Gives (.bool b) W)) :
    Calls Try.prog 18 #[.int .i64 i, .pointer (some ⟨g, 0, none⟩)] w (Gives (.bool b) w) := by
  have HC := Lib.hid C
  clear C
  go_enter Try.func18, Try.ntmps18
  go_wp2_with fail
  refine (HC.out _ (Below.refl _ _)).mono ?_
  rintro _ w1 ⟨rfl, hb1⟩
  clear hg
  go_wp2
  go_ret
  exact ⟨rfl, hb1⟩
def LeastOut (l : List (Int × Int)) (w : World) (e : Ending) (w' : World) : Prop := (∃ v ok, e = .returned (.tuple #[.int .i64 v, .bool ok]) ∧ ((ok = true ∧ Hid (soundP l ∧ 0 ≤ v ∧ v ≤ 100000 ∧ okAll v l ∧ ∀ i, 0 ≤ i → i < v → ¬ okAll i l)) ∨ (ok = false ∧ v = 0 ∧ Hid (soundP l → ∀ i, 0 ≤ i → i ≤ 100000 → ¬ okAll i l)))) ∧ Below w.heap.size w w'
set_option maxHeartbeats 2000000 in
theorem least_any (x : Option Addr) (xc : Nat) (l : List (Int × Int)) (w : World) (hx : PairRow w x l) (hn : x = none → l = []) (hl : l.length ≤ 4000000000) :
    Calls Try.prog 11 #[.slice x l.length xc] w (LeastOut l w) := by
  have C2 := Lib.hid fun W (hb : Below w.heap.size w W) => snd_any x xc l W (hx.below hb) hl
  cases h2 : decide (soundP l)
  · have F : Hid (∀ w', Below w.heap.size w w' → LeastOut l w (.returned (.tuple #[.int .i64 0, .bool false])) w') := Lib.hid fun w' hb => ⟨⟨0, false, rfl, .inr ⟨rfl, rfl, Lib.hid (fun hs => absurd hs (of_decide_eq_false h2))⟩⟩, hb⟩
    rw [h2] at C2
    clear hx hn h2
    go_enter Try.func11, Try.ntmps11
    go_wp2_with fail
    refine (C2.out _ (Below.refl _ _)).mono ?_
    rintro _ w1 ⟨rfl, hb1⟩
    go_wp2
    refine bodyPost_ret (v := .tuple #[.int .i64 0, .bool false]) (by simp [results, Try.results11, go_sem]) rfl ?_
    exact F.out _ hb1
  · have hs := of_decide_eq_true h2
    have C3 := Lib.hid fun W (hb : Below w.heap.size w W) => bytime_any x xc l W (hx.below hb) hn hl
    have C4 : Hid (∀ (W : World) (a : Option Addr) (cap : Nat) (s : List (Int × Int)) (i : Nat), i < 100001 → s.Perm l → sortedP s → PairRow W a s → ∀ V, Below W.heap.size W V → Calls Try.prog 15 #[.int .i64 (i : Int), .slice a s.length cap] V (Gives (.bool (decide (okAll (i : Int) l))) V)) := Lib.hid fun W a cap s i hi hp hso hr V hV => by
      have h := keeps_any a cap s (i : Int) V (hr.below hV) (by rw [hp.length_eq]; exact hl) (sound_perm hp hs) (by omega) (by omega)
      rwa [keep_dec hp hso] at h
    have hmono : ∀ i j : Nat, i ≤ j → decide (okAll (i : Int) l) = true → decide (okAll (j : Int) l) = true := fun i j hij h => decide_eq_true (ok_mono (of_decide_eq_true h) (by omega))
    have HM := Lib.hid hmono
    have Fyes : Hid (∀ n : Nat, n ≤ 100000 → (∀ i, i < n → decide (okAll ((i : Nat) : Int) l) = false) → (∀ i, n ≤ i → i < 100001 → decide (okAll ((i : Nat) : Int) l) = true) → ∀ w', Below w.heap.size w w' → LeastOut l w (.returned (.tuple #[.int .i64 (n : Int), .bool true])) w') := Lib.hid fun n hn a1 a2 w' hb => ⟨⟨n, true, rfl, .inl ⟨rfl, Lib.hid ⟨hs, by omega, by omega, of_decide_eq_true (a2 n (Nat.le_refl _) (by omega)), fun i h1 h2 => by
      obtain ⟨k, rfl⟩ := Int.eq_ofNat_of_zero_le h1
      exact of_decide_eq_false (a1 k (by omega))⟩⟩⟩, hb⟩
    have Fno : Hid (∀ n : Nat, 100000 < n → (∀ i, i < n → decide (okAll ((i : Nat) : Int) l) = false) → ∀ w', Below w.heap.size w w' → LeastOut l w (.returned (.tuple #[.int .i64 0, .bool false])) w') := Lib.hid fun n hn a1 w' hb => ⟨⟨0, false, rfl, .inr ⟨rfl, rfl, Lib.hid (fun _ i h1 h2 => by
      obtain ⟨k, rfl⟩ := Int.eq_ofNat_of_zero_le h1
      exact of_decide_eq_false (a1 k (by omega)))⟩⟩, hb⟩
    rw [h2] at C2
    have hmf' := hmf
    clear hx hn h2 hs hmono
    go_enter Try.func11, Try.ntmps11
    go_wp2_with fail
    refine (C2.out _ (Below.refl _ _)).mono ?_
    rintro _ w1 ⟨rfl, hb1⟩
    have B1 := Lib.hid hb1
    clear hb1
    go_wp2_with fail
    refine (C3.out _ B1.out).mono ?_
    rintro _ w2 ⟨a, cap, s, rfl, hp, hso, hr, hb2⟩
    have B2 := Lib.hid (bnext B1.out B1.out.size hb2)
    obtain ⟨N, hN⟩ : ∃ N, s.length = N := ⟨_, rfl⟩
    have CK := Lib.hid fun i hi => C4.out w2 a cap s i hi hp hso hr
    rw [hN] at CK
    rw [hN]
    clear hb2 hp hso hr hN C4
    have CS : Hid (Calls Try.prog 17 #[.int .i64 100001, .func (.func 18) #[] #[.pointer (some ⟨w2.heap.size, 0, none⟩)]] (w2.alloc (.cells #[.slice a N cap] 27)) (SrOut (fun i => decide (okAll (i : Int) l)) (w2.alloc (.cells #[.slice a N cap] 27)))) := Lib.hid (search_any w2.heap.size (fun i => decide (okAll (i : Int) l)) _ (fun W i hW hi => least1_any i 0 w2.heap.size a cap N _ W (by
        have k : Kept (w2.alloc (.cells #[.slice a N cap] 27)) w2.heap.size #[.slice a N cap] 27 := Kept.new rfl
        exact (k.next hW).one.1) (fun V hV => CK.out i hi V (((one_alloc _ _).trans (hW.mono (by simp))).trans (hV.mono (by have := hW.size; simp at this; omega))))) HM.out)
    have B3 := Lib.hid (B2.out.alloc B2.out.size (.cells #[.slice a N cap] 27))
    clear CK
    go_wp2_with fail
    refine CS.out.mono ?_
    rintro _ w3 ⟨⟨n, rfl, hn1, a1, a2⟩, hb3⟩
    have B4 := Lib.hid (bnext B3.out B3.out.size hb3)
    clear hb3
    by_cases hgt : 100000 < n
    · have d1 : decide (100000 < (n : Int)) = true := decide_eq_true (by omega)
      have F := Lib.hid (Fno.out n hgt a1.out w3 B4.out)
      obtain ⟨NI, hNI⟩ : ∃ NI : Int, (n : Int) = NI := ⟨_, rfl⟩
      rw [hNI] at d1
      rw [hNI]
      clear hgt hn1 a1 a2 hNI
      go_wp2
      refine bodyPost_ret (v := .tuple #[.int .i64 0, .bool false]) (by simp [results, Try.results11, go_sem]) rfl ?_
      exact F.out
    · have d1 : decide (100000 < (n : Int)) = false := decide_eq_false (by omega)
      have F := Lib.hid (Fyes.out n (by omega) a1.out a2.out w3 B4.out)
      obtain ⟨NI, hNI⟩ : ∃ NI : Int, (n : Int) = NI := ⟨_, rfl⟩
      rw [hNI] at d1 F
      rw [hNI]
      clear hgt hn1 a1 a2 hNI
      go_wp2
      refine bodyPost_ret (v := .tuple #[.int .i64 NI, .bool true]) (by simp [results, Try.results11, go_sem]) rfl ?_
      exact F.out
end Go.Proofs.Ytodjlnfpigmegaa
