/- HistBuckets for every input. -/
import Derived.Test.YtldgdedfioigiaaAlive
namespace Go.Proofs.Ytldgdedfioigiaa
open Go.RowKit
set_option linter.unusedVariables false

theorem bitLen_one (y : Nat) (h : y < 18446744073709551616) : Lib.bitLen y = 0 ↔ y = 0 := by
  by_cases h0 : y = 0
  · subst h0; simp [bitLen_zero]
  · rw [bitLen_half y h0 h]; omega
theorem bitLen_iff : ∀ (k x : Nat), x < 18446744073709551616 → (Lib.bitLen x = k + 1 ↔ 2 ^ k ≤ x ∧ x < 2 ^ (k + 1))
  | 0, x, h => by
    by_cases h0 : x = 0
    · subst h0; simp [bitLen_zero]
    · rw [bitLen_half x h0 h]
      have := bitLen_one (x / 2) (by omega)
      omega
  | k + 1, x, h => by
    have hp : 0 < 2 ^ k := Nat.two_pow_pos k
    rw [Nat.pow_succ 2 (k + 1), Nat.pow_succ 2 k]
    by_cases h0 : x = 0
    · subst h0; rw [bitLen_zero]; omega
    · have ih := bitLen_iff k (x / 2) (by omega)
      rw [Nat.pow_succ 2 k] at ih
      rw [bitLen_half x h0 h]
      omega
theorem bkt_more (v : Int) (n : Nat) (P : Int) (hP : (2 : Int) ^ n = P) (hv : InI v) : bkt v = n + 2 ↔ P ≤ v ∧ v ≤ P - 1 + P := by
  have hn := bitLen_iff n v.toNat (by unfold InI at hv; omega)
  have e : ((2 ^ n : Nat) : Int) = P := by rw [← hP]; simp
  have hp : 0 < 2 ^ n := Nat.two_pow_pos n
  rw [Nat.pow_succ] at hn
  unfold bkt
  by_cases h : v < 0
  · rw [if_pos h]; omega
  · rw [if_neg h]; omega
theorem bkt_neg (v : Int) : bkt v = 0 ↔ v < 0 := by
  unfold bkt
  by_cases h : v < 0
  · rw [if_pos h]; simp [h]
  · rw [if_neg h]; omega
theorem bkt_zero (v : Int) (hv : InI v) : bkt v = 1 ↔ v = 0 := by
  have h1 := bitLen_one v.toNat (by unfold InI at hv; omega)
  unfold bkt
  by_cases h : v < 0
  · rw [if_pos h]; omega
  · rw [if_neg h]; omega
set_option maxHeartbeats 2000000 in
theorem bk_in (v lo hi : Int) (n : Nat) (r : Bool) (w : World) (hv : InI v) (hlo : InI lo) (hhi : InI hi) (hn : n ≤ 64)
    (CB : Hid (∀ W, Calls Try.prog 11 #[.int .i64 (n : Int)] W (Gives (.tuple #[.agg #[.int .i64 lo, .int .i64 hi], .bool true]) W)))
    (e1 : bkt lo = n) (e2 : bkt hi = n) (e3 : lo ≤ hi) (e4 : decide (lo ≤ v ∧ v ≤ hi) = r) (e5 : bkt v = n ↔ r = true) :
    Calls Try.prog 3 #[.int .i64 v, .int .i64 (n : Int)] w fun e w' => e = .returned (.bool true) ∧ Below w.heap.size w w' := by
  have C1 := Lib.hid (fun W => bucket_any v W hv)
  have C2 := Lib.hid (fun W => rbucket_any v W hv)
  have C3 := Lib.hid (fun W => rbucket_any lo W hlo)
  have C4 := Lib.hid (fun W => rbucket_any hi W hhi)
  rw [e1] at C3
  rw [e2] at C4
  have C5 := Lib.hid (fun W => right_any lo hi W)
  rw [decide_eq_true e3] at C5
  have C6 := Lib.hid (fun W => has_any lo hi v r e4 W)
  have e6 : ((bkt v : Int) == (n : Int)) = r := by
    cases r
    · rw [beq_eq_false_iff_ne]; intro h; have := e5.1 (by omega); cases this
    · rw [e5.2 rfl]; simp
  obtain ⟨b, hb⟩ : ∃ b : Int, (n : Int) = b := ⟨_, rfl⟩
  have d1 : decide (b < 0) = false := decide_eq_false (by omega)
  have d2 : decide (64 < b) = false := decide_eq_false (by omega)
  rw [hb] at CB C3 C4 e6
  rw [hb]
  generalize (bkt v : Int) = B at *
  clear e1 e2 e3 e4 e5 hv hlo hhi hn hb
  go_enter Try.func3, Try.ntmps3
  go_wp2_with fail
  refine (alive_any _).mono ?_
  rintro _ w1 ⟨rfl, b1⟩
  have B1 := Lib.hid b1
  clear b1
  go_wp2_with fail
  refine (C1.out _).mono ?_
  rintro _ _ ⟨rfl, rfl⟩
  go_wp2_with fail
  refine (C2.out _).mono ?_
  rintro _ w2 ⟨rfl, h2⟩
  rw [← h2] at B1
  clear h2
  go_wp2_with fail
  refine (CB.out _).mono ?_
  rintro _ w3 ⟨rfl, b3⟩
  have B3 := Lib.hid (B1.out.trans (b3.mono B1.out.size))
  clear b3 B1
  go_wp2_with fail
  refine (C5.out _).mono ?_
  rintro _ w4 ⟨rfl, b4⟩
  have P4 : Hid (Kept w4 w3.heap.size #[.int .i64 lo, .int .i64 hi] 25) := Lib.hid ((Kept.new rfl).next b4)
  have B4 := Lib.hid (bnext (B3.out.alloc B3.out.size _) (by have := B3.out.size; simp <;> omega) b4)
  obtain ⟨p1, p2, p3, p4, p5⟩ := P4.out.two
  clear b4 B3
  go_wp2_with fail
  refine (C3.out _).mono ?_
  rintro _ w5 ⟨rfl, h5⟩
  rw [← h5] at B4 p1 p2 p3 p4
  clear h5
  go_wp2_with fail
  refine (C4.out _).mono ?_
  rintro _ w6 ⟨rfl, h6⟩
  rw [← h6] at B4 p1 p2 p3 p4
  clear h6
  go_wp2_with fail
  refine (C6.out _).mono ?_
  rintro _ w7 ⟨rfl, b7⟩
  have B7 := Lib.hid (B4.out.trans (b7.mono B4.out.size))
  clear b7 B4
  go_wp2_with fail
  refine (C2.out _).mono ?_
  rintro _ w8 ⟨rfl, h8⟩
  rw [← h8] at B7
  clear h8
  go_wp2
  go_ret
  exact ⟨ret_bool (by simp), B7.out⟩
set_option maxHeartbeats 1000000 in
theorem bk_out (v b : Int) (w : World) (hv : InI v) (h : b < 0 ∨ 64 < b) :
    Calls Try.prog 3 #[.int .i64 v, .int .i64 b] w fun e w' => e = .returned (.bool true) ∧ Below w.heap.size w w' := by
  have C1 := Lib.hid (fun W => bucket_any v W hv)
  have C2 := Lib.hid (fun W => rbucket_any v W hv)
  have CB := Lib.hid (fun W => bounds_out b W (by
    by_cases h0 : b < 0
    · exact .inl (decide_eq_true h0)
    · exact .inr ⟨decide_eq_false h0, decide_eq_true (by omega)⟩))
  obtain ⟨d, hd⟩ : ∃ d, decide (b < 0) = d := ⟨_, rfl⟩
  have hd2 : d = false → decide (64 < b) = true := fun e => decide_eq_true (by rw [e] at hd; have := of_decide_eq_false hd; omega)
  generalize (bkt v : Int) = B at *
  clear hv h
  cases d
  · have d2 := hd2 rfl
    clear hd2
    go_enter Try.func3, Try.ntmps3
    go_wp2_with fail
    refine (alive_any _).mono ?_
    rintro _ w1 ⟨rfl, b1⟩
    have B1 := Lib.hid b1
    clear b1
    go_wp2_with fail
    refine (C1.out _).mono ?_
    rintro _ _ ⟨rfl, rfl⟩
    go_wp2_with fail
    refine (C2.out _).mono ?_
    rintro _ w2 ⟨rfl, h2⟩
    rw [← h2] at B1
    clear h2
    go_wp2_with fail
    refine (CB.out _).mono ?_
    rintro _ w3 ⟨rfl, b3⟩
    have B3 := Lib.hid ((B1.out.trans (b3.mono B1.out.size)).alloc (by have := B1.out.size; have := b3.size; omega) (.cells #[.int .i64 0, .int .i64 0] 25))
    clear b3 B1
    go_wp2
    go_ret
    exact ⟨rfl, B3.out⟩
  · clear hd2
    go_enter Try.func3, Try.ntmps3
    go_wp2_with fail
    refine (alive_any _).mono ?_
    rintro _ w1 ⟨rfl, b1⟩
    have B1 := Lib.hid b1
    clear b1
    go_wp2_with fail
    refine (C1.out _).mono ?_
    rintro _ _ ⟨rfl, rfl⟩
    go_wp2_with fail
    refine (C2.out _).mono ?_
    rintro _ w2 ⟨rfl, h2⟩
    rw [← h2] at B1
    clear h2
    go_wp2_with fail
    refine (CB.out _).mono ?_
    rintro _ w3 ⟨rfl, b3⟩
    have B3 := Lib.hid ((B1.out.trans (b3.mono B1.out.size)).alloc (by have := B1.out.size; have := b3.size; omega) (.cells #[.int .i64 0, .int .i64 0] 25))
    clear b3 B1
    go_wp2
    go_ret
    exact ⟨rfl, B3.out⟩
theorem histbuckets_any (v b : Int) (w : World) (hv : InI v) (hb : InI b) :
    Calls Try.prog 3 #[.int .i64 v, .int .i64 b] w fun e w' => e = .returned (.bool true) ∧ Below w.heap.size w w' := by
  by_cases ho : b < 0 ∨ 64 < b
  · exact bk_out v b w hv ho
  obtain ⟨n, rfl⟩ : ∃ n : Nat, b = (n : Int) := ⟨b.toNat, by omega⟩
  have hn : n ≤ 64 := by omega
  have hvv := hv
  unfold InI at hvv
  rcases n with _ | _ | n
  · exact bk_in v (-9223372036854775808) (-1) 0 (decide (v < 0)) w hv (by decide) (by decide) (by omega) (Lib.hid fun W => bounds_zero W) (by decide) (by decide) (by decide) (by rw [decide_eq_decide]; omega) (by rw [decide_eq_true_iff]; exact bkt_neg v)
  · exact bk_in v 0 0 1 (decide (v = 0)) w hv (by decide) (by decide) (by omega) (Lib.hid fun W => bounds_one W) (by decide) (by decide) (by decide) (by rw [decide_eq_decide]; omega) (by rw [decide_eq_true_iff]; exact bkt_zero v hv)
  · obtain ⟨P, hP⟩ : ∃ P, (2 : Int) ^ n = P := ⟨_, rfl⟩
    have h1 : 1 ≤ P := by have := Int.pow_pos (n := 2) (m := n) (by decide); omega
    have h2 : P ≤ 4611686018427387904 := by
      have h := Nat.pow_le_pow_right (n := 2) (by decide) (show n ≤ 62 by omega)
      have e : ((2 ^ n : Nat) : Int) = P := by rw [← hP]; simp
      have e2 : (2 : Nat) ^ 62 = 4611686018427387904 := by decide
      omega
    have hlo : InI P := by unfold InI; omega
    have hhi : InI (P - 1 + P) := by unfold InI; omega
    exact bk_in v P (P - 1 + P) (n + 2) (decide (P ≤ v ∧ v ≤ P - 1 + P)) w hv hlo hhi hn (Lib.hid fun W => bounds_more n _ (by omega) (by omega) P hP h1 h2 W) ((bkt_more P n P hP hlo).2 (by omega)) ((bkt_more _ n P hP hhi).2 (by omega)) (by omega) rfl (by rw [decide_eq_true_iff]; exact bkt_more v n P hP hv)
end Go.Proofs.Ytldgdedfioigiaa
