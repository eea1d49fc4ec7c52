/- noonmarkref03: Mid, for every gap of longs. -/
import Derived.Test.YtahenediimoboaaGapC
import Derived.Test.YtahenediimoboaaRefA
import Derived.Test.YtahenediimoboaaLimI
namespace Go.Proofs.Ytahenediimoboaa
open Go.RowKit
set_option linter.unusedVariables false

theorem rright_any (a b : Int) (w : World) : Calls Try.prog 31 #[.agg #[.int .i64 a, .int .i64 b]] w (Gives (.bool (decide (a ≤ b))) w) := by
  go_enter Try.func31, Try.ntmps31
  go_wp2
  go_ret
  exact gives_bool rfl (one_alloc _ _)
theorem lawof_any (a b : Int) (w : World) : Calls Try.prog 12 #[.agg #[.int .i64 a, .int .i64 b]] w (Gives (.agg #[.int .i64 a, .int .i64 b]) w) := by
  have fin : ∀ w', Below w.heap.size w w' → Gives (.agg #[.int .i64 a, .int .i64 b]) w (.returned (.agg #[.int .i64 a, .int .i64 b])) w' := fun w' hb => ⟨rfl, hb⟩
  have Fin := Lib.hid fin
  clear fin
  go_enter Try.func12, Try.ntmps12
  go_wp2
  go_returns
  exact Fin.out _ ((one_alloc _ _).alloc (by simp) _)
set_option maxHeartbeats 8000000 in
theorem rmid_any (a b : Int) (w : World) (ha : InI a) (hb : InI b) :
    Calls Try.prog 16 #[.agg #[.int .i64 a, .int .i64 b]] w (Gives (.int .i64 (midI a b)) w) := by
  have B0 : Hid (Below w.heap.size w (w.alloc (.cells #[.int .i64 a, .int .i64 b] 31))) := Lib.hid (one_alloc w _)
  have K0 : Hid (Kept (w.alloc (.cells #[.int .i64 a, .int .i64 b] 31)) w.heap.size #[.int .i64 a, .int .i64 b] 31) := Lib.hid (Kept.new rfl)
  by_cases hab : a ≤ b
  · obtain ⟨M, hM⟩ : ∃ M, midI a b = M := ⟨_, rfl⟩
    have hM2 : divZ (a + b) 2 false = M := by
      rw [← hM]
      unfold divZ midI InI at *
      rw [if_pos hab]
      simp
      omega
    have hMI : InI M := by
      rw [← hM]
      unfold midI InI at *
      rw [if_pos hab]
      omega
    rw [hM]
    have C1 := Lib.hid (fun W => of_any a W ha)
    have C2 := Lib.hid (fun W => of_any b W hb)
    have CT := Lib.hid (fun W => of_any 2 W (by unfold InI; omega))
    have C3 : Hid (∀ W u v, NumAt W u a → NumAt W v b → Calls Try.prog 37 #[u, v] W (NumOut (a + b) W)) := Lib.hid (fun W u v h1 h2 => num_add u v a b W h1 h2 (hund_long ha) (hund_long hb))
    have C4 : Hid (∀ W u v, NumAt W u (a + b) → NumAt W v 2 → Calls Try.prog 36 #[u, v, .bool false] W (NumOut M W)) := Lib.hid (fun W u v h1 h2 => by
      have h := num_div u v (a + b) 2 false W h1 h2 (hund_of (by unfold InI at *; omega)) (hund_of (by omega)) (by omega)
      rw [hM2] at h
      exact h)
    have C5 : Hid (∀ W v, NumAt W v M → Calls Try.prog 35 #[v] W (Gives (.tuple #[.int .i64 M, .bool true]) W)) := Lib.hid (fun W v h => (long_any v M W h).mono fun e w' hh => by
      obtain ⟨⟨u, h1, h2⟩, h3⟩ := hh
      rw [h2 hMI, decide_eq_true hMI] at h1
      exact ⟨h1, h3⟩)
    have d0 := decide_eq_true hab
    clear hM hM2 hMI ha hb hab
    go_enter Try.func16, Try.ntmps16
    go_wp2_with fail
    refine (rright_any a b _).mono ?_
    rintro _ w1 ⟨rfl, hb1⟩
    rw [d0]
    have K1 := Lib.hid (K0.out.next hb1)
    have B1 := Lib.hid (bnext B0.out B0.out.size hb1)
    clear hb1 K0 B0 d0
    go_wp2_with fail
    refine (CT.out _).mono ?_
    rintro _ w2 ⟨v2, rfl, hn2, hb2⟩
    have K2 := Lib.hid (K1.out.next hb2)
    have B2 := Lib.hid (bnext B1.out B1.out.size hb2)
    have hn2' := hn2
    obtain ⟨ng, l2, d2, rfl, ⟨xa, xc, rfl, -⟩, -⟩ := hn2'
    have HN2 := Lib.hid hn2
    clear hb2 K1 B1 hn2
    obtain ⟨W, hW⟩ : ∃ W, w2.alloc (.cells #[.bool ng, .slice xa d2.length xc] 58) = W := ⟨_, rfl⟩
    have K3 : Hid (Kept W.drew w.heap.size #[.int .i64 a, .int .i64 b] 31) := Lib.hid (by
      have h : Kept W w.heap.size #[.int .i64 a, .int .i64 b] 31 := by rw [← hW]; exact K2.out.alloc _
      exact h)
    have T3 : Hid (Kept W.drew w2.heap.size #[.bool ng, .slice xa d2.length xc] 58) := Lib.hid (by
      have h : Kept W w2.heap.size #[.bool ng, .slice xa d2.length xc] 58 := by rw [← hW]; exact Kept.new rfl
      exact h)
    have B3 : Hid (Below w.heap.size w W.drew) := Lib.hid (by
      have h : Below w.heap.size w W := by rw [← hW]; exact B2.out.alloc B2.out.size _
      exact below_drewN h 1)
    have HT : Hid (NumAt W.drew (.agg #[.bool ng, .slice xa d2.length xc]) 2) := Lib.hid (by
      have h : NumAt W (.agg #[.bool ng, .slice xa d2.length xc]) 2 := by rw [← hW]; exact HN2.out.below ((Below.refl _ _).alloc (Nat.le_refl _) _)
      exact h)
    have SS : Hid (Below w.heap.size w W.drew) ∧ W.drew.cell? ⟨w.heap.size, 0, none⟩ = some (.int .i64 a) ∧ W.drew.cell? ⟨w.heap.size, 1, none⟩ = some (.int .i64 b) ∧ W.drew.cell? ⟨w2.heap.size, 0, none⟩ = some (.bool ng) ∧ W.drew.cell? ⟨w2.heap.size, 1, none⟩ = some (.slice xa d2.length xc) := ⟨B3, K3.out.two.1, K3.out.two.2.1, T3.out.two.1, T3.out.two.2.1⟩
    have HW := Lib.hid hW
    clear hW K2 B2 HN2 K3 T3 B3
    obtain ⟨q0, q1, q2, q3, q4⟩ := SS
    go_wp2
    rw [HW.out]
    have SS : Hid (Below w.heap.size w W.drew) ∧ W.drew.cell? ⟨w.heap.size, 0, none⟩ = some (.int .i64 a) ∧ W.drew.cell? ⟨w.heap.size, 1, none⟩ = some (.int .i64 b) ∧ W.drew.cell? ⟨w2.heap.size, 0, none⟩ = some (.bool ng) ∧ W.drew.cell? ⟨w2.heap.size, 1, none⟩ = some (.slice xa d2.length xc) := ⟨q0, q1, q2, q3, q4⟩
    clear q0 q1 q2 q3 q4
    go_region_held3 (fun w' => Hid (Below w.heap.size w w') ∧ w'.cell? ⟨w.heap.size, 0, none⟩ = some (.int .i64 a) ∧ w'.cell? ⟨w.heap.size, 1, none⟩ = some (.int .i64 b) ∧ w'.cell? ⟨w2.heap.size, 0, none⟩ = some (.bool ng) ∧ w'.cell? ⟨w2.heap.size, 1, none⟩ = some (.slice xa d2.length xc))
      (first | exact SS | go_keep)
      (first
        | (go_at_call_of 34 (Value.int IntKind.i64 a); refine (C1.out _).mono ?_; rintro _ wa ⟨va, rfl, hna, hba⟩; have SS := keepB4 (a := w) hba SS; have HT := Lib.hid (NumAt.below HT.out hba); (try have hnb := NumAt.below hnb hba))
        | (go_at_call_of 34 (Value.int IntKind.i64 b); refine (C2.out _).mono ?_; rintro _ wb ⟨vb, rfl, hnb, hbb⟩; have SS := keepB4 (a := w) hbb SS; have HT := Lib.hid (NumAt.below HT.out hbb); (try have hna := NumAt.below hna hbb))
        | (go_at_call 37; refine (C3.out _ va vb hna hnb).mono ?_; rintro _ ws ⟨vs, rfl, hns, hbs⟩; have SS := keepB4 (a := w) hbs SS; have HT := Lib.hid (NumAt.below HT.out hbs))
        | (go_at_call 36; refine (C4.out _ vs _ hns HT.out).mono ?_; rintro _ wd ⟨vd, rfl, hnd, hbd⟩; have SS := keepB4 (a := w) hbd SS)
        | (go_at_call 35; refine (C5.out _ vd hnd).mono ?_; rintro _ wl ⟨rfl, hbl⟩; have SS := keepB4 (a := w) hbl SS))
    all_goals
      go_wp2
      go_ret
      exact ⟨rfl, SS.1.out⟩
  · have hM : midI a b = 0 := by unfold midI; rw [if_neg hab]
    rw [hM]
    have d0 := decide_eq_false hab
    clear hM hab ha hb
    go_enter Try.func16, Try.ntmps16
    go_wp2_with fail
    refine (rright_any a b _).mono ?_
    rintro _ w1 ⟨rfl, hb1⟩
    rw [d0]
    have B1 := Lib.hid (bnext B0.out B0.out.size hb1)
    clear hb1 K0 B0 d0
    go_wp2
    go_ret
    exact ⟨rfl, B1.out⟩
end Go.Proofs.Ytahenediimoboaa
