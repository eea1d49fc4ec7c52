/- noonmarkref03: Right, Mid; noonmarkref01: Ratio; noonmarkref19: Window, wide: for all longs. -/
import Derived.Test.YthipeefhkaanbaaGridM
import Derived.Test.YthipeefhkaanbaaLimJ
import Derived.Test.YthipeefhkaanbaaLimT
namespace Go.Proofs.Ythipeefhkaanbaa
open Go.RowKit
set_option linter.unusedVariables false

theorem hund_long {a : Int} (h : InI a) : Hund a := hund_of (by unfold InI at h; omega)
theorem hund_mul {a b : Int} (ha : InI a) (hb : InI b) : Hund (a * b) := by
  have h1 : (a * b).natAbs ≤ 9223372036854775808 * 9223372036854775808 := by
    rw [Int.natAbs_mul]
    unfold InI at ha hb
    exact Nat.mul_le_mul (by omega) (by omega)
  have := pw_le 12 100 (by omega)
  have e : pw 12 = 18446744073709551616 * 18446744073709551616 * 18446744073709551616 := by decide +kernel
  unfold Hund
  omega
theorem r3right_any (a b : Int) (w : World) : Calls Try.prog 19 #[.agg #[.int .i64 a, .int .i64 b]] w (Gives (.bool (decide (a ≤ b))) w) := by
  go_enter Try.func19, Try.ntmps19
  go_wp2
  go_ret
  exact gives_bool rfl (one_alloc _ _)
set_option maxHeartbeats 2000000 in
theorem ratio_any (a b c : Int) (up : Bool) (w : World) (ha : InI a) (hb : InI b) (hc : InI c) (h1 : 1 ≤ c) :
    Calls Try.prog 35 #[.int .i64 a, .int .i64 b, .int .i64 c, .bool up] w (Gives (.tuple #[.int .i64 (vI (divZ (a * b) c up)), .int .i64 (eI (divZ (a * b) c up))]) w) := by
  have C1 := Lib.hid (fun W => of_any a W ha)
  have C2 := Lib.hid (fun W => of_any b W hb)
  have C3 := Lib.hid (fun W => of_any c W hc)
  have Cm : Hid (∀ W u v, NumAt W u a → NumAt W v b → Calls Try.prog 26 #[u, v] W (NumOut (a * b) W)) := Lib.hid (fun W u v h1 h2 => num_mul u v a b W h1 h2 (hund_long ha) (hund_long hb))
  have Cd : Hid (∀ W u v, NumAt W u (a * b) → NumAt W v c → Calls Try.prog 48 #[u, v, .bool up] W (NumOut (divZ (a * b) c up) W)) := Lib.hid (fun W u v k1 k2 => num_div u v (a * b) c up W k1 k2 (hund_mul ha hb) (hund_long hc) h1)
  have C4 := Lib.hid (fun v W h => told_any v (divZ (a * b) c up) W h)
  generalize vI (divZ (a * b) c up) = V at *
  generalize eI (divZ (a * b) c up) = E at *
  have d0 : decide (c < 1) = false := decide_eq_false (by omega)
  clear ha hb hc h1
  go_enter Try.func35, Try.ntmps35
  go_wp2_with fail
  refine (C1.out _).mono ?_
  rintro _ w1 ⟨v1, rfl, hn1, hb1⟩
  go_wp2_with fail
  refine (C2.out _).mono ?_
  rintro _ w2 ⟨v2, rfl, hn2, hb2⟩
  go_wp2_with fail
  refine (Cm.out _ _ _ (hn1.below hb2) hn2).mono ?_
  rintro _ w3 ⟨v3, rfl, hn3, hb3⟩
  have B3 : Hid (Below w.heap.size w w3) := Lib.hid (bnext (bnext hb1 hb1.size hb2) (Nat.le_trans hb1.size hb2.size) hb3)
  go_wp2_with fail
  refine (C3.out _).mono ?_
  rintro _ w4 ⟨v4, rfl, hn4, hb4⟩
  have hn3 := hn3.below hb4
  have B4 := Lib.hid (bnext B3.out B3.out.size hb4)
  go_wp2_with fail
  refine (Cd.out _ _ _ hn3 hn4).mono ?_
  rintro _ w5 ⟨v5, rfl, hn5, hb5⟩
  have B5 := Lib.hid (bnext B4.out B4.out.size hb5)
  go_wp2_with fail
  refine (C4.out _ _ hn5).mono ?_
  rintro _ w6 ⟨rfl, hb6⟩
  have B6 := Lib.hid (bnext B5.out B5.out.size hb6)
  clear hn1 hn2 hn3 hn4 hn5 hb1 hb2 hb3 hb4 hb5 hb6 B3 B4 B5
  go_wp2
  go_ret2
  exact ⟨ret2 rfl rfl, B6.out⟩
theorem rwindow_no (wd p m t : Int) (w : World) (hr : rgB wd p m = false) : Calls Try.prog 17 #[.agg #[.int .i64 wd, .int .i64 p, .int .i64 m], .int .i64 t] w (Gives (.int .i64 0) w) := by
  have C := Lib.hid (fun W => rright_any wd p m false hr W)
  have B0 : Hid (Below w.heap.size w (w.alloc (.cells #[.int .i64 wd, .int .i64 p, .int .i64 m] 31))) := Lib.hid (one_alloc w _)
  clear hr
  go_enter Try.func17, Try.ntmps17
  go_wp2_with fail
  refine (C.out _).mono ?_
  rintro e w1 ⟨rfl, hb1⟩
  have B1 := Lib.hid (bnext B0.out B0.out.size hb1)
  clear hb1
  go_wp2
  go_ret
  exact ⟨rfl, B1.out⟩
set_option maxHeartbeats 1000000 in
theorem rwindow_yes (wd p m t : Int) (w : World) (hr : rgB wd p m = true) (ht : InI t) : Calls Try.prog 17 #[.agg #[.int .i64 wd, .int .i64 p, .int .i64 m], .int .i64 t] w (Gives (.int .i64 (t / wd)) w) := by
  have C := Lib.hid (fun W => rright_any wd p m true hr W)
  obtain ⟨h1, h2, -⟩ := rgB_yes hr
  have hin := ediv_in ht h1
  obtain ⟨Q, hQ⟩ : ∃ Q, t / wd = Q := ⟨_, rfl⟩
  rw [hQ] at hin
  rw [hQ]
  have Cr : Hid (∀ W, Calls Try.prog 35 #[.int .i64 t, .int .i64 1, .int .i64 wd, .bool false] W (Gives (.tuple #[.int .i64 Q, .int .i64 0]) W)) := Lib.hid (fun W => by
    have h := ratio_any t 1 wd false W ht (by unfold InI; omega) (by unfold InI; omega) h1
    rw [show divZ (t * 1) wd false = Q by unfold divZ; simp [hQ], vI_in hin, eI_in hin] at h
    exact h)
  have B0 : Hid (Below w.heap.size w (w.alloc (.cells #[.int .i64 wd, .int .i64 p, .int .i64 m] 31))) := Lib.hid (one_alloc w _)
  have K0 : Hid (Kept (w.alloc (.cells #[.int .i64 wd, .int .i64 p, .int .i64 m] 31)) w.heap.size #[.int .i64 wd, .int .i64 p, .int .i64 m] 31) := Lib.hid (by exact Kept.new (by simp))
  clear hr h1 h2 hQ hin ht
  go_enter Try.func17, Try.ntmps17
  go_wp2_with fail
  refine (C.out _).mono ?_
  rintro e w1 ⟨rfl, hb1⟩
  have B1 := Lib.hid (bnext B0.out B0.out.size hb1)
  have K1 := Lib.hid (K0.out.next hb1)
  clear hb1 B0 K0
  obtain ⟨k1, k2, k3, -, -, -, kl⟩ := K1.out.three
  go_wp2_with fail
  refine (Cr.out _).mono ?_
  rintro e w2 ⟨rfl, hb2⟩
  have B2 := Lib.hid (bnext B1.out B1.out.size hb2)
  clear hb2 k1 k2 k3 kl
  go_wp2
  go_ret
  exact ⟨rfl, B2.out⟩
set_option maxHeartbeats 8000000 in
theorem rmid_any (a b : Int) (w : World) (ha : InI a) (hb : InI b) :
    Calls Try.prog 33 #[.agg #[.int .i64 a, .int .i64 b]] w (Gives (.int .i64 (midI a b)) w) := by
  have B0 : Hid (Below w.heap.size w (w.alloc (.cells #[.int .i64 a, .int .i64 b] 33))) := Lib.hid (one_alloc w _)
  have K0 : Hid (Kept (w.alloc (.cells #[.int .i64 a, .int .i64 b] 33)) w.heap.size #[.int .i64 a, .int .i64 b] 33) := Lib.hid (Kept.new rfl)
  by_cases hab : a ≤ b
  · obtain ⟨M, hM⟩ : ∃ M, midI a b = M := ⟨_, rfl⟩
    have hM2 : divZ (a + b) 2 false = M := by
      rw [← hM]
      unfold divZ midI InI at *
      rw [if_pos hab]
      simp
      omega
    have hMI : InI M := by
      rw [← hM]
      unfold midI InI at *
      rw [if_pos hab]
      omega
    rw [hM]
    have C1 := Lib.hid (fun W => of_any a W ha)
    have C2 := Lib.hid (fun W => of_any b W hb)
    have CT := Lib.hid (fun W => of_any 2 W (by unfold InI; omega))
    have C3 : Hid (∀ W u v, NumAt W u a → NumAt W v b → Calls Try.prog 28 #[u, v] W (NumOut (a + b) W)) := Lib.hid (fun W u v h1 h2 => num_add u v a b W h1 h2 (hund_long ha) (hund_long hb))
    have C4 : Hid (∀ W u v, NumAt W u (a + b) → NumAt W v 2 → Calls Try.prog 48 #[u, v, .bool false] W (NumOut M W)) := Lib.hid (fun W u v h1 h2 => by
      have h := num_div u v (a + b) 2 false W h1 h2 (hund_of (by unfold InI at *; omega)) (hund_of (by omega)) (by omega)
      rw [hM2] at h
      exact h)
    have C5 : Hid (∀ W v, NumAt W v M → Calls Try.prog 29 #[v] W (Gives (.tuple #[.int .i64 M, .bool true]) W)) := Lib.hid (fun W v h => (long_any v M W h).mono fun e w' hh => by
      obtain ⟨⟨u, h1, h2⟩, h3⟩ := hh
      rw [h2 hMI, decide_eq_true hMI] at h1
      exact ⟨h1, h3⟩)
    have d0 := decide_eq_true hab
    clear hM hM2 hMI ha hb hab
    go_enter Try.func33, Try.ntmps33
    go_wp2_with fail
    refine (r3right_any a b _).mono ?_
    rintro _ w1 ⟨rfl, hb1⟩
    rw [d0]
    have K1 := Lib.hid (K0.out.next hb1)
    have B1 := Lib.hid (bnext B0.out B0.out.size hb1)
    clear hb1 K0 B0 d0
    go_wp2_with fail
    refine (CT.out _).mono ?_
    rintro _ w2 ⟨v2, rfl, hn2, hb2⟩
    have K2 := Lib.hid (K1.out.next hb2)
    have B2 := Lib.hid (bnext B1.out B1.out.size hb2)
    have hn2' := hn2
    obtain ⟨ng, l2, d2, rfl, ⟨xa, xc, rfl, -⟩, -⟩ := hn2'
    have HN2 := Lib.hid hn2
    clear hb2 K1 B1 hn2
    obtain ⟨W, hW⟩ : ∃ W, w2.alloc (.cells #[.bool ng, .slice xa d2.length xc] 57) = W := ⟨_, rfl⟩
    have K3 : Hid (Kept W.drew w.heap.size #[.int .i64 a, .int .i64 b] 33) := Lib.hid (by
      have h : Kept W w.heap.size #[.int .i64 a, .int .i64 b] 33 := by rw [← hW]; exact K2.out.alloc _
      exact h)
    have T3 : Hid (Kept W.drew w2.heap.size #[.bool ng, .slice xa d2.length xc] 57) := Lib.hid (by
      have h : Kept W w2.heap.size #[.bool ng, .slice xa d2.length xc] 57 := by rw [← hW]; exact Kept.new rfl
      exact h)
    have B3 : Hid (Below w.heap.size w W.drew) := Lib.hid (by
      have h : Below w.heap.size w W := by rw [← hW]; exact B2.out.alloc B2.out.size _
      exact below_drewN h 1)
    have HT : Hid (NumAt W.drew (.agg #[.bool ng, .slice xa d2.length xc]) 2) := Lib.hid (by
      have h : NumAt W (.agg #[.bool ng, .slice xa d2.length xc]) 2 := by rw [← hW]; exact HN2.out.below ((Below.refl _ _).alloc (Nat.le_refl _) _)
      exact h)
    have SS : Hid (Below w.heap.size w W.drew) ∧ W.drew.cell? ⟨w.heap.size, 0, none⟩ = some (.int .i64 a) ∧ W.drew.cell? ⟨w.heap.size, 1, none⟩ = some (.int .i64 b) ∧ W.drew.cell? ⟨w2.heap.size, 0, none⟩ = some (.bool ng) ∧ W.drew.cell? ⟨w2.heap.size, 1, none⟩ = some (.slice xa d2.length xc) := ⟨B3, K3.out.two.1, K3.out.two.2.1, T3.out.two.1, T3.out.two.2.1⟩
    have HW := Lib.hid hW
    clear hW K2 B2 HN2 K3 T3 B3
    obtain ⟨q0, q1, q2, q3, q4⟩ := SS
    go_wp2
    rw [HW.out]
    have SS : Hid (Below w.heap.size w W.drew) ∧ W.drew.cell? ⟨w.heap.size, 0, none⟩ = some (.int .i64 a) ∧ W.drew.cell? ⟨w.heap.size, 1, none⟩ = some (.int .i64 b) ∧ W.drew.cell? ⟨w2.heap.size, 0, none⟩ = some (.bool ng) ∧ W.drew.cell? ⟨w2.heap.size, 1, none⟩ = some (.slice xa d2.length xc) := ⟨q0, q1, q2, q3, q4⟩
    clear q0 q1 q2 q3 q4
    go_region_held3 (fun w' => Hid (Below w.heap.size w w') ∧ w'.cell? ⟨w.heap.size, 0, none⟩ = some (.int .i64 a) ∧ w'.cell? ⟨w.heap.size, 1, none⟩ = some (.int .i64 b) ∧ w'.cell? ⟨w2.heap.size, 0, none⟩ = some (.bool ng) ∧ w'.cell? ⟨w2.heap.size, 1, none⟩ = some (.slice xa d2.length xc))
      (first | exact SS | go_keep)
      (first
        | (go_at_call_of 27 (Value.int IntKind.i64 a); refine (C1.out _).mono ?_; rintro _ wa ⟨va, rfl, hna, hba⟩; have SS := keepB4 (a := w) hba SS; have HT := Lib.hid (NumAt.below HT.out hba); (try have hnb := NumAt.below hnb hba))
        | (go_at_call_of 27 (Value.int IntKind.i64 b); refine (C2.out _).mono ?_; rintro _ wb ⟨vb, rfl, hnb, hbb⟩; have SS := keepB4 (a := w) hbb SS; have HT := Lib.hid (NumAt.below HT.out hbb); (try have hna := NumAt.below hna hbb))
        | (go_at_call 28; refine (C3.out _ va vb hna hnb).mono ?_; rintro _ ws ⟨vs, rfl, hns, hbs⟩; have SS := keepB4 (a := w) hbs SS; have HT := Lib.hid (NumAt.below HT.out hbs))
        | (go_at_call 48; refine (C4.out _ vs _ hns HT.out).mono ?_; rintro _ wd ⟨vd, rfl, hnd, hbd⟩; have SS := keepB4 (a := w) hbd SS)
        | (go_at_call 29; refine (C5.out _ vd hnd).mono ?_; rintro _ wl ⟨rfl, hbl⟩; have SS := keepB4 (a := w) hbl SS))
    all_goals
      go_wp2
      go_ret
      exact ⟨rfl, SS.1.out⟩
  · have hM : midI a b = 0 := by unfold midI; rw [if_neg hab]
    rw [hM]
    have d0 := decide_eq_false hab
    clear hM hab ha hb
    go_enter Try.func33, Try.ntmps33
    go_wp2_with fail
    refine (r3right_any a b _).mono ?_
    rintro _ w1 ⟨rfl, hb1⟩
    rw [d0]
    have B1 := Lib.hid (bnext B0.out B0.out.size hb1)
    clear hb1 K0 B0 d0
    go_wp2
    go_ret
    exact ⟨rfl, B1.out⟩
end Go.Proofs.Ythipeefhkaanbaa
