/- hist.Rank: of gen_rank05.py. -/
import Derived.Test.YtldgdedfioigiaaHistG
import Derived.Test.YtldgdedfioigiaaWideF
import Derived.Test.YtldgdedfioigiaaWideD
namespace Go.Proofs.Ytldgdedfioigiaa
open Go.RowKit Go.Shelf
set_option linter.unusedVariables false
attribute [local go_sem] Oper.semAt_some

theorem keepsFrom_below {B : Nat} {W W' : World} (h : Below W.heap.size W W') : KeepsFrom B W W' := ⟨h.size, fun k o _ hk _ => (h.block k (Array.getElem?_eq_some_iff.1 hk).1).trans hk⟩
theorem kept_own {W W' : World} {row : Option Nat} {g : Nat} {cs : Array Value} {t : TypeId} (h : Kept W g cs t) (hg : W.grownBy W' row) (hr : ∀ r, row = some r → ∃ o : Obj, W.heap[r]? = some o ∧ o.isCells = false) : Kept W' g cs t :=
  (grownBy_keeps_cells hg hr h rfl).trans h
/-- the answer of Rank -/
def RkOut (h : List Int) (k : Int) (w : World) (e : Ending) (w' : World) : Prop :=
  (∃ (v : Int) (ok : Bool), e = .returned (.tuple #[.int .i64 v, .bool ok]) ∧ Hid ((okL h = true ∧ 0 ≤ k ∧ ok = true ∧ ∃ b : Nat, b < 65 ∧ v = b ∧ isum (h.take b) ≤ k ∧ k < isum (h.take (b + 1))) ∨ ((okL h = false ∨ k < 0 ∨ isum h ≤ k) ∧ v = 0 ∧ ok = false))) ∧ Below w.heap.size w w'
def RkP (x : Nat × Int) : Prop := x.1 < 65 ∧ 0 ≤ x.2 ∧ x.2 ≤ 9223372036854775807
abbrev RkT := {x : Nat × Int // RkP x}
def RkI (g : Nat) (k : Int) (pre : List RkT) (W : World) : Prop :=
  0 ≤ k - sumP (pre.map (fun x => x.1)) ∧ Kept W (g + 1) #[.int .i64 (hiW (k - sumP (pre.map (fun x => x.1)))), .int .u64 (loW (k - sumP (pre.map (fun x => x.1))))] 47 ∧
  Kept W (g + 2) #[.int .i64 0] 3 ∧ Kept W (g + 3) #[.bool false] 4
def RkX (g : Nat) (k : Int) (c : Code) (pre : List RkT) (W : World) : Prop :=
  c = .ret ∧ ∃ ini last, pre = ini ++ [last] ∧ 0 ≤ k - sumP (ini.map (fun x => x.1)) ∧ k - sumP (ini.map (fun x => x.1)) - last.1.2 < 0 ∧ Kept W (g + 2) #[.int .i64 (last.1.1 : Int)] 3 ∧ Kept W (g + 3) #[.bool true] 4
theorem rkI_own (g : Nat) (k : Int) : Own (RkI g k) := fun s A B row ⟨h0, h1, h2, h3⟩ hg hr => ⟨h0, kept_own h1 hg hr, kept_own h2 hg hr, kept_own h3 hg hr⟩
theorem rkX_own (g : Nat) (k : Int) (c : Code) : Own (RkX g k c) := fun s A B row ⟨h0, ini, last, h1, h2, h3, h5, h6⟩ hg hr => ⟨h0, ini, last, h1, h2, h3, kept_own h5 hg hr, kept_own h6 hg hr⟩
theorem rkP_all {h : List Int} (hin : ∀ b, b < 65 → InI (h.getD b 0)) (hok : okL h = true) : ∀ k, k < 65 → RkP (k, h.getD k 0) := fun k hk => ⟨hk, okL_iff.1 hok k hk, (hin k hk).2⟩
theorem sumP_pos (pre : List RkT) : 0 ≤ sumP (pre.map (fun x => x.1)) := isum_nonneg _ fun x hx => by
  obtain ⟨y, hy, rfl⟩ := List.mem_map.1 hx
  obtain ⟨z, hz, rfl⟩ := List.mem_map.1 hy
  exact z.2.2.1
theorem sumP_snocT (pre : List RkT) (x : RkT) : sumP ((pre ++ [x]).map (fun x => x.1)) = sumP (pre.map (fun x => x.1)) + x.1.2 := by
  rw [List.map_append, List.map_singleton, sumP_snoc]
theorem hi_neg {z : Int} (h : InW z) : decide (hiW z < 0) = decide (z < 0) := by
  unfold InW at h
  unfold hiW wrap64
  by_cases h0 : z < 0
  · rw [decide_eq_true h0]; refine decide_eq_true ?_; omega
  · rw [decide_eq_false h0]; refine decide_eq_false ?_; omega
set_option maxHeartbeats 8000000 in
set_option maxRecDepth 1000000 in
theorem rank_form (h : List Int) (k : Int) (w : World) (h65 : h.length = 65) (hin : ∀ b, b < 65 → InI (h.getD b 0)) (hk : InW k) (hok : okL h = false) : Calls Try.prog 24 #[.agg (hC h), wI k] w (RkOut h k w) := by
  have CR := Lib.hid (fun W => hright_any h h65 W)
  rw [hok] at CR
  have ci : (Try.prog.info? 33).map (·.size) = some (hC h).size := by rw [hC_size, h65]; exact h_info
  have FF : Hid (∀ W, Below w.heap.size w W → RkOut h k w (.returned (.tuple #[.int .i64 0, .bool false])) W) := Lib.hid fun W hb => ⟨⟨0, false, rfl, Lib.hid (.inr ⟨.inl hok, rfl, rfl⟩)⟩, hb⟩
  clear hk hin hok h65
  unfold wI
  generalize hC h = C at *
  generalize hiW k = kh at *
  generalize loW k = kl at *
  have S4 : Hid (((((w.alloc (.cells C 33)).alloc (.cells #[.int .i64 kh, .int .u64 kl] 47)).alloc (.cells #[.int .i64 0] 3)).alloc (.cells #[.bool false] 4)).heap.size = w.heap.size + 4) := Lib.hid (by simp)
  have K0 : Hid (Kept ((((w.alloc (.cells C 33)).alloc (.cells #[.int .i64 kh, .int .u64 kl] 47)).alloc (.cells #[.int .i64 0] 3)).alloc (.cells #[.bool false] 4)) w.heap.size C 33) := Lib.hid ((((Kept.new rfl).alloc _).alloc _).alloc _)
  have K1 : Hid (Kept ((((w.alloc (.cells C 33)).alloc (.cells #[.int .i64 kh, .int .u64 kl] 47)).alloc (.cells #[.int .i64 0] 3)).alloc (.cells #[.bool false] 4)) (w.heap.size + 1) #[.int .i64 kh, .int .u64 kl] 47) := Lib.hid (((Kept.new (by simp)).alloc _).alloc _)
  have K2 : Hid (Kept ((((w.alloc (.cells C 33)).alloc (.cells #[.int .i64 kh, .int .u64 kl] 47)).alloc (.cells #[.int .i64 0] 3)).alloc (.cells #[.bool false] 4)) (w.heap.size + 2) #[.int .i64 0] 3) := Lib.hid ((Kept.new (by simp)).alloc _)
  have K3 : Hid (Kept ((((w.alloc (.cells C 33)).alloc (.cells #[.int .i64 kh, .int .u64 kl] 47)).alloc (.cells #[.int .i64 0] 3)).alloc (.cells #[.bool false] 4)) (w.heap.size + 3) #[.bool false] 4) := Lib.hid (Kept.new (by simp))
  have B4 : Hid (Below w.heap.size w ((((w.alloc (.cells C 33)).alloc (.cells #[.int .i64 kh, .int .u64 kl] 47)).alloc (.cells #[.int .i64 0] 3)).alloc (.cells #[.bool false] 4))) := Lib.hid ((((one_alloc _ _).alloc (by simp) _).alloc (by simp; omega) _).alloc (by simp; omega) _)
  refine (callsIn_wide (n := 8)).1 ?_
  refine callsIn_of_wp_marks Try.func24 rfl trivial ?_ rfl
  refine wpIn_wide.2 ?_
  simp only [Try.ntmps24, List.size_toArray, List.length_cons, List.length_nil, Nat.reduceAdd, Nat.reduceSub, Array.replicate_succ, Array.replicate_zero, List.push_toArray, List.append_toArray, List.nil_append, List.cons_append]
  go_wp2_with (first | (refine wpList_load_row rfl 33 _ rfl w.heap.size rfl 33 C (0, 0) _ K0.out h_under rfl ci ?_) | (go_at_call 29; refine (CR.out _).mono ?_; rintro _ w1 ⟨rfl, b1⟩; have B1 : Hid (Below w.heap.size w w1) := Lib.hid (B4.out.trans (b1.mono (by simp; omega))); have M0 := Lib.hid (K0.out.next b1); have M1 := Lib.hid (K1.out.next b1); have M2 := Lib.hid (K2.out.next b1); have M3 := Lib.hid (K3.out.next b1); obtain ⟨p1, p2, p3, p4, p5⟩ := M1.out.two; obtain ⟨r1, r2, r3⟩ := M2.out.one; obtain ⟨s1, s2, s3⟩ := M3.out.one; clear b1))
  have Z2 := Lib.hid ((M2.out.set 0 (.int .i64 0)).far (p := ⟨w.heap.size + 3, 0, none⟩) (by simp) (.bool false))
  have Z3 := Lib.hid ((M3.out.far (p := ⟨w.heap.size + 2, 0, none⟩) (by simp) (.int .i64 0)).set 0 (.bool false))
  have ZB : Hid (Below w.heap.size w ((w1.setCell ⟨w.heap.size + 2, 0, none⟩ (.int .i64 0)).setCell ⟨w.heap.size + 3, 0, none⟩ (.bool false))) := Lib.hid ((B1.out.setCell (by simp) _).setCell (by simp) _)
  generalize (w1.setCell ⟨w.heap.size + 2, 0, none⟩ (.int .i64 0)).setCell ⟨w.heap.size + 3, 0, none⟩ (.bool false) = W8 at *
  obtain ⟨u1, u2, u3⟩ := Kept.one (x := .int .i64 0) Z2.out
  obtain ⟨v1, v2, v3⟩ := Kept.one (x := .bool false) Z3.out
  exact ⟨.tuple #[.int .i64 0, .bool false], by simp [results, Try.f24, go_sem, u1, v1], FF.out _ ZB.out⟩
set_option maxHeartbeats 8000000 in
set_option maxRecDepth 1000000 in
theorem rank_neg (h : List Int) (k : Int) (w : World) (h65 : h.length = 65) (hin : ∀ b, b < 65 → InI (h.getD b 0)) (hk : InW k) (hok : okL h = true) (hneg : k < 0) : Calls Try.prog 24 #[.agg (hC h), wI k] w (RkOut h k w) := by
  have CR := Lib.hid (fun W => hright_any h h65 W)
  rw [hok] at CR
  have ci : (Try.prog.info? 33).map (·.size) = some (hC h).size := by rw [hC_size, h65]; exact h_info
  have CC := Lib.hid (fun W => wcmp_any k 0 W hk (by unfold InW; omega))
  have h0h : hiW 0 = 0 := by decide +kernel
  have h0l : loW 0 = 0 := by decide +kernel
  unfold wI at CC
  rw [h0h, h0l] at CC
  clear h0h h0l
  have d0 : decide (ordI k 0 < 0) = true := decide_eq_true (by unfold ordI; split <;> omega)
  generalize ordI k 0 = o at *
  have FF : Hid (∀ W, Below w.heap.size w W → RkOut h k w (.returned (.tuple #[.int .i64 0, .bool false])) W) := Lib.hid fun W hb => ⟨⟨0, false, rfl, Lib.hid (.inr ⟨.inr (.inl hneg), rfl, rfl⟩)⟩, hb⟩
  clear hk hneg hin hok h65
  unfold wI
  generalize hC h = C at *
  generalize hiW k = kh at *
  generalize loW k = kl at *
  have S4 : Hid (((((w.alloc (.cells C 33)).alloc (.cells #[.int .i64 kh, .int .u64 kl] 47)).alloc (.cells #[.int .i64 0] 3)).alloc (.cells #[.bool false] 4)).heap.size = w.heap.size + 4) := Lib.hid (by simp)
  have K0 : Hid (Kept ((((w.alloc (.cells C 33)).alloc (.cells #[.int .i64 kh, .int .u64 kl] 47)).alloc (.cells #[.int .i64 0] 3)).alloc (.cells #[.bool false] 4)) w.heap.size C 33) := Lib.hid ((((Kept.new rfl).alloc _).alloc _).alloc _)
  have K1 : Hid (Kept ((((w.alloc (.cells C 33)).alloc (.cells #[.int .i64 kh, .int .u64 kl] 47)).alloc (.cells #[.int .i64 0] 3)).alloc (.cells #[.bool false] 4)) (w.heap.size + 1) #[.int .i64 kh, .int .u64 kl] 47) := Lib.hid (((Kept.new (by simp)).alloc _).alloc _)
  have K2 : Hid (Kept ((((w.alloc (.cells C 33)).alloc (.cells #[.int .i64 kh, .int .u64 kl] 47)).alloc (.cells #[.int .i64 0] 3)).alloc (.cells #[.bool false] 4)) (w.heap.size + 2) #[.int .i64 0] 3) := Lib.hid ((Kept.new (by simp)).alloc _)
  have K3 : Hid (Kept ((((w.alloc (.cells C 33)).alloc (.cells #[.int .i64 kh, .int .u64 kl] 47)).alloc (.cells #[.int .i64 0] 3)).alloc (.cells #[.bool false] 4)) (w.heap.size + 3) #[.bool false] 4) := Lib.hid (Kept.new (by simp))
  have B4 : Hid (Below w.heap.size w ((((w.alloc (.cells C 33)).alloc (.cells #[.int .i64 kh, .int .u64 kl] 47)).alloc (.cells #[.int .i64 0] 3)).alloc (.cells #[.bool false] 4))) := Lib.hid ((((one_alloc _ _).alloc (by simp) _).alloc (by simp; omega) _).alloc (by simp; omega) _)
  refine (callsIn_wide (n := 8)).1 ?_
  refine callsIn_of_wp_marks Try.func24 rfl trivial ?_ rfl
  refine wpIn_wide.2 ?_
  simp only [Try.ntmps24, List.size_toArray, List.length_cons, List.length_nil, Nat.reduceAdd, Nat.reduceSub, Array.replicate_succ, Array.replicate_zero, List.push_toArray, List.append_toArray, List.nil_append, List.cons_append]
  go_wp2_with (first | (refine wpList_load_row rfl 33 _ rfl w.heap.size rfl 33 C (0, 0) _ K0.out h_under rfl ci ?_) | (go_at_call 29; refine (CR.out _).mono ?_; rintro _ w1 ⟨rfl, b1⟩; have B1 : Hid (Below w.heap.size w w1) := Lib.hid (B4.out.trans (b1.mono (by simp; omega))); have M0 := Lib.hid (K0.out.next b1); have M1 := Lib.hid (K1.out.next b1); have M2 := Lib.hid (K2.out.next b1); have M3 := Lib.hid (K3.out.next b1); obtain ⟨p1, p2, p3, p4, p5⟩ := M1.out.two; obtain ⟨r1, r2, r3⟩ := M2.out.one; obtain ⟨s1, s2, s3⟩ := M3.out.one; clear b1) | (go_at_call 42; refine (CC.out _).mono ?_; rintro _ w2 ⟨rfl, b2⟩; have B2 : Hid (Below w.heap.size w w2) := Lib.hid (B1.out.trans (b2.mono B1.out.size)); have N0 := Lib.hid (M0.out.next b2); have N1 := Lib.hid (M1.out.next b2); have N2 := Lib.hid (M2.out.next b2); have N3 := Lib.hid (M3.out.next b2); obtain ⟨x1, x2, x3⟩ := N2.out.one; obtain ⟨y1, y2, y3⟩ := N3.out.one; clear b2 p1 p2 p3 p4 p5 r1 r2 r3 s1 s2 s3))
  have Z2 := Lib.hid ((N2.out.set 0 (.int .i64 0)).far (p := ⟨w.heap.size + 3, 0, none⟩) (by simp) (.bool false))
  have Z3 := Lib.hid ((N3.out.far (p := ⟨w.heap.size + 2, 0, none⟩) (by simp) (.int .i64 0)).set 0 (.bool false))
  have ZB : Hid (Below w.heap.size w ((w2.setCell ⟨w.heap.size + 2, 0, none⟩ (.int .i64 0)).setCell ⟨w.heap.size + 3, 0, none⟩ (.bool false))) := Lib.hid ((B2.out.setCell (by simp) _).setCell (by simp) _)
  generalize (w2.setCell ⟨w.heap.size + 2, 0, none⟩ (.int .i64 0)).setCell ⟨w.heap.size + 3, 0, none⟩ (.bool false) = W8 at *
  obtain ⟨u1, u2, u3⟩ := Kept.one (x := .int .i64 0) Z2.out
  obtain ⟨v1, v2, v3⟩ := Kept.one (x := .bool false) Z3.out
  exact ⟨.tuple #[.int .i64 0, .bool false], by simp [results, Try.f24, go_sem, u1, v1], FF.out _ ZB.out⟩
set_option maxHeartbeats 8000000 in
set_option maxRecDepth 1000000 in
theorem rank_good (h : List Int) (k : Int) (w : World) (h65 : h.length = 65) (hin : ∀ b, b < 65 → InI (h.getD b 0)) (hk : InW k) (hok : okL h = true) (hpos : ¬ k < 0) : Calls Try.prog 24 #[.agg (hC h), wI k] w (RkOut h k w) := by
  have CR := Lib.hid (fun W => hright_any h h65 W)
  rw [hok] at CR
  have ci : (Try.prog.info? 33).map (·.size) = some (hC h).size := by rw [hC_size, h65]; exact h_info
  have CC := Lib.hid (fun W => wcmp_any k 0 W hk (by unfold InW; omega))
  have h0h : hiW 0 = 0 := by decide +kernel
  have h0l : loW 0 = 0 := by decide +kernel
  unfold wI at CC
  rw [h0h, h0l] at CC
  clear h0h h0l
  have d0 : decide (ordI k 0 < 0) = false := decide_eq_false (by unfold ordI; (repeat' split) <;> omega)
  generalize ordI k 0 = o at *
  have CF := Lib.hid (fun W => full_any h h65 W)
  have FS := Lib.hid (fun (B : Nat) (W : World) (hB : B < W.heap.size) (hc : Kept W B (hC h) 33) => full_stops Fence.wide 7 trivial rfl (by decide) B w.heap.size h h65 RkP (rkP_all hin hok) W hB hc)
  have HH := Lib.hid (⟨hk, hin, h65, hok⟩ : InW k ∧ (∀ b, b < 65 → InI (h.getD b 0)) ∧ h.length = 65 ∧ okL h = true)
  obtain ⟨k0, hk0⟩ : ∃ k0, k = k0 := ⟨_, rfl⟩
  have HI0 : Hid (∀ W : World, Kept W (w.heap.size + 1) #[.int .i64 (hiW k), .int .u64 (loW k)] 47 → Kept W (w.heap.size + 2) #[.int .i64 0] 3 → Kept W (w.heap.size + 3) #[.bool false] 4 → RkI w.heap.size k [] W) := Lib.hid fun W a b c => by
    have e : k - sumP (([] : List RkT).map (fun x => x.1)) = k := by show k - 0 = k; omega
    exact ⟨by rw [e]; omega, by rw [e]; exact a, b, c⟩
  clear hk0 hk hin h65 hok hpos
  unfold wI
  generalize hC h = C at *
  generalize hiW k = kh at *
  generalize loW k = kl at *
  have S4 : Hid (((((w.alloc (.cells C 33)).alloc (.cells #[.int .i64 kh, .int .u64 kl] 47)).alloc (.cells #[.int .i64 0] 3)).alloc (.cells #[.bool false] 4)).heap.size = w.heap.size + 4) := Lib.hid (by simp)
  have K0 : Hid (Kept ((((w.alloc (.cells C 33)).alloc (.cells #[.int .i64 kh, .int .u64 kl] 47)).alloc (.cells #[.int .i64 0] 3)).alloc (.cells #[.bool false] 4)) w.heap.size C 33) := Lib.hid ((((Kept.new rfl).alloc _).alloc _).alloc _)
  have K1 : Hid (Kept ((((w.alloc (.cells C 33)).alloc (.cells #[.int .i64 kh, .int .u64 kl] 47)).alloc (.cells #[.int .i64 0] 3)).alloc (.cells #[.bool false] 4)) (w.heap.size + 1) #[.int .i64 kh, .int .u64 kl] 47) := Lib.hid (((Kept.new (by simp)).alloc _).alloc _)
  have K2 : Hid (Kept ((((w.alloc (.cells C 33)).alloc (.cells #[.int .i64 kh, .int .u64 kl] 47)).alloc (.cells #[.int .i64 0] 3)).alloc (.cells #[.bool false] 4)) (w.heap.size + 2) #[.int .i64 0] 3) := Lib.hid ((Kept.new (by simp)).alloc _)
  have K3 : Hid (Kept ((((w.alloc (.cells C 33)).alloc (.cells #[.int .i64 kh, .int .u64 kl] 47)).alloc (.cells #[.int .i64 0] 3)).alloc (.cells #[.bool false] 4)) (w.heap.size + 3) #[.bool false] 4) := Lib.hid (Kept.new (by simp))
  have B4 : Hid (Below w.heap.size w ((((w.alloc (.cells C 33)).alloc (.cells #[.int .i64 kh, .int .u64 kl] 47)).alloc (.cells #[.int .i64 0] 3)).alloc (.cells #[.bool false] 4))) := Lib.hid ((((one_alloc _ _).alloc (by simp) _).alloc (by simp; omega) _).alloc (by simp; omega) _)
  refine (callsIn_wide (n := 8)).1 ?_
  refine callsIn_of_wp_marks Try.func24 rfl trivial ?_ rfl
  refine wpIn_wide.2 ?_
  simp only [Try.ntmps24, List.size_toArray, List.length_cons, List.length_nil, Nat.reduceAdd, Nat.reduceSub, Array.replicate_succ, Array.replicate_zero, List.push_toArray, List.append_toArray, List.nil_append, List.cons_append]
  go_wp2_with (first | (refine wpList_load_row rfl 33 _ rfl w.heap.size rfl 33 C (0, 0) _ K0.out h_under rfl ci ?_) | (go_at_call 29; refine (CR.out _).mono ?_; rintro _ w1 ⟨rfl, b1⟩; have B1 : Hid (Below w.heap.size w w1) := Lib.hid (B4.out.trans (b1.mono (by simp; omega))); have M0 := Lib.hid (K0.out.next b1); have M1 := Lib.hid (K1.out.next b1); have M2 := Lib.hid (K2.out.next b1); have M3 := Lib.hid (K3.out.next b1); obtain ⟨p1, p2, p3, p4, p5⟩ := M1.out.two; obtain ⟨r1, r2, r3⟩ := M2.out.one; obtain ⟨s1, s2, s3⟩ := M3.out.one; clear b1) | (go_at_call 42; refine (CC.out _).mono ?_; rintro _ w2 ⟨rfl, b2⟩; have B2 : Hid (Below w.heap.size w w2) := Lib.hid (B1.out.trans (b2.mono B1.out.size)); have N0 := Lib.hid (M0.out.next b2); have N1 := Lib.hid (M1.out.next b2); have N2 := Lib.hid (M2.out.next b2); have N3 := Lib.hid (M3.out.next b2); obtain ⟨x1, x2, x3⟩ := N2.out.one; obtain ⟨y1, y2, y3⟩ := N3.out.one; clear b2 p1 p2 p3 p4 p5 r1 r2 r3 s1 s2 s3) | (refine wpList_load_row rfl 33 _ rfl w.heap.size rfl 33 C (0, 0) _ N0.out h_under rfl ci ?_) | (go_at_call 26; refine (CF.out _).mono ?_; rintro _ _ ⟨rfl, rfl⟩))
  have L0 : Hid (Kept (w2.alloc (.cells C 33)) w2.heap.size C 33) := Lib.hid (Kept.new rfl)
  have L1 := Lib.hid (N1.out.alloc (.cells C 33))
  have L2 := Lib.hid (N2.out.alloc (.cells C 33))
  have L3 := Lib.hid (N3.out.alloc (.cells C 33))
  have LB : Hid (Below w.heap.size w (w2.alloc (.cells C 33))) := Lib.hid (B2.out.alloc B2.out.size _)
  have LS : w2.heap.size < (w2.alloc (.cells C 33)).heap.size := by simp
  have LN : w.heap.size ≤ (w2.alloc (.cells C 33)).heap.size := LB.out.size
  generalize w2.alloc (.cells C 33) = W5 at *
  have hI := HI0.out W5 L1.out L2.out L3.out
  have fs := FS.out w2.heap.size W5 LS L0.out
  clear x1 x2 x3 y1 y2 y3 CR CC CF FS HI0 K0 K1 K2 K3 B4 M0 M1 M2 M3 N0 N1 N2 N3 B1 S4 d0
  refine wpIn_wide.1 (wpIn_rangeFunc_ownG (F := Fence.wide) (n := 8) rfl (by decide) (gf := 46) (lb := #[.pointer (some ⟨w2.heap.size, 0, none⟩)]) rfl trivial (enters_of Try.func46 (by kernel_rfl) rfl)
    fs belowK_t (belowK_b LN) (Below.refl _ _) (fun _ => rfl)
    (fun pre W => RkI w.heap.size k pre W ∧ Below w.heap.size w W)
    (fun c pre W => RkX w.heap.size k c pre W ∧ Below w.heap.size w W)
    (OwnFrom.and (Own.from (rkI_own _ _) _) (ownFrom_below (Nat.le_refl _) LN))
    (fun c => OwnFrom.and (Own.from (rkX_own _ _ c) _) (ownFrom_below (Nat.le_refl _) LN))
    ⟨hI, LB.out⟩ ?act ?assign ?body ?done ?stop)
  case assign =>
    intro l x W K hK
    gi_wp2
    exact hK
  case body =>
    rintro l pre x W ⟨⟨hnn, I1, I2, I3⟩, hB⟩ _
    obtain ⟨⟨b, v⟩, hxb, hx0, hx1⟩ := x
    have hkW := HH.out.1
    have hsp : 0 ≤ sumP (pre.map (fun x => x.1)) := sumP_pos pre
    have hsn : sumP ((pre ++ [(⟨(b, v), hxb, hx0, hx1⟩ : {x : Nat × Int // RkP x})]).map (fun x => x.1)) = sumP (pre.map (fun x => x.1)) + v := sumP_snocT pre _
    obtain ⟨a, ha⟩ : ∃ a, k - sumP (pre.map (fun x => x.1)) = a := ⟨_, rfl⟩
    rw [ha] at hnn I1
    dsimp only at hx0 hx1
    have haW : InW a := by unfold InW at *; omega
    have hvW : InW v := by unfold InW at *; omega
    have hdW : InW (a - v) := by unfold InW at *; omega
    have CO := Lib.hid (fun W => wof_any v W (by unfold InI; omega))
    have CS := Lib.hid (fun W => wsub_any a v W haW hvW)
    rw [vW_in hdW] at CS
    unfold wI at CO CS
    have Hgo : Hid (0 ≤ a - v → ∀ W', Kept W' (w.heap.size + 1) #[.int .i64 (hiW (a - v)), .int .u64 (loW (a - v))] 47 → Kept W' (w.heap.size + 2) #[.int .i64 0] 3 → Kept W' (w.heap.size + 3) #[.bool false] 4 → RkI w.heap.size k (pre ++ [⟨(b, v), hxb, hx0, hx1⟩]) W') := Lib.hid fun h0 W' q1 q2 q3 => by
      have e : k - sumP ((pre ++ [(⟨(b, v), hxb, hx0, hx1⟩ : {x : Nat × Int // RkP x})]).map (fun x => x.1)) = a - v := by rw [hsn]; omega
      exact ⟨by rw [e]; exact h0, by rw [e]; exact q1, q2, q3⟩
    have Hex : Hid (a - v < 0 → ∀ W', Kept W' (w.heap.size + 2) #[.int .i64 (b : Int)] 3 → Kept W' (w.heap.size + 3) #[.bool true] 4 → RkX w.heap.size k .ret (pre ++ [⟨(b, v), hxb, hx0, hx1⟩]) W') := Lib.hid fun h0 W' q2 q3 => ⟨rfl, pre, _, rfl, by rw [ha]; exact hnn, by rw [ha]; exact h0, q2, q3⟩
    have hHi : decide (hiW (a - v) < 0) = decide (a - v < 0) := hi_neg hdW
    have HHi := Lib.hid hHi
    have HK1 := Lib.hid I1
    have HK2 := Lib.hid I2
    have HK3 := Lib.hid I3
    have HB := Lib.hid hB
    clear hHi hsn ha hsp hkW haW hvW hdW hnn I1 I2 I3 hB fs L0 L1 L2 L3 hI LB
    generalize hiW (a - v) = dh at *
    generalize loW (a - v) = dl at *
    generalize eW (a - v) = de at *
    generalize hiW a = ah at *
    generalize loW a = al at *
    generalize hiW v = vh at *
    generalize loW v = vl at *
    obtain ⟨p1, p2, p3, p4, p5⟩ := HK1.out.two
    have hmx : Try.prog.follows .mixedOrders = true := by kernel_rfl
    gi_wp2
    rename_i K hKr
    have REST : Hid (∀ (r : Nat) (Wr : World), W.heap.size ≤ r → Below W.heap.size W Wr → Kept Wr r #[.int .i64 dh, .int .u64 dl] 47 → K { tmps := #[.agg C, .agg #[.int .i64 kh, .int .u64 kl], .pointer (some ⟨w.heap.size, 0, none⟩), .pointer (some ⟨w.heap.size + 1, 0, none⟩), .pointer (some ⟨w.heap.size + 1 + 1, 0, none⟩), .pointer (some ⟨w.heap.size + 1 + 1 + 1, 0, none⟩), .int .i64 (b : Int), .int .i64 v, .pointer (some ⟨r, 0, none⟩), .int .i64 de, .agg C, .bool true, .bool false, .bool false, .agg #[.int .i64 kh, .int .u64 kl], .agg #[.int .i64 0, .int .u64 0], .int .i64 o, .bool false, .bool false, .agg C, .func (.func 46) #[] #[.pointer (some ⟨w2.heap.size, 0, none⟩)], .int .i64 (b : Int), .int .i64 v, .tuple #[.agg #[.int .i64 dh, .int .u64 dl], .int .i64 de], .agg #[.int .i64 ah, .int .u64 al], .int .i64 v, .agg #[.int .i64 vh, .int .u64 vl], .tuple #[.agg #[.int .i64 dh, .int .u64 dl], .int .i64 de], .agg #[.int .i64 dh, .int .u64 dl], .int .i64 de, undef, undef, undef, undef, undef], defers := [] } Wr) := Lib.hid (by
      intro r Wr hr hb hk
      have HA := Lib.hid hb
      have HKF : Hid (KeepsFrom W5.heap.size W Wr) := Lib.hid (keepsFrom_below hb)
      have HBw : Hid (Below w.heap.size w Wr) := Lib.hid (HB.out.trans (hb.mono HB.out.size))
      have J1 := Lib.hid (HK1.out.next hb)
      have J2 := Lib.hid (HK2.out.next hb)
      have J3 := Lib.hid (HK3.out.next hb)
      obtain ⟨m1, m2, m3, m4, m5⟩ := Kept.two hk
      obtain ⟨i1, i2, i3, i4, i5⟩ := J1.out.two
      obtain ⟨j1, j2, j3⟩ := J2.out.one
      obtain ⟨k1, k2, k3⟩ := J3.out.one
      clear p1 p2 p3 p4 p5 hr hb hk CO CS
      apply hKr
      clear hKr
      by_cases hneg : a - v < 0
      · have dneg : decide (dh < 0) = true := by rw [HHi.out]; exact decide_eq_true hneg
        have X2 := Lib.hid ((J2.out.set 0 (.int .i64 (b : Int))).far (p := ⟨w.heap.size + 3, 0, none⟩) (by simp) (.bool true))
        have X3 := Lib.hid ((J3.out.far (p := ⟨w.heap.size + 2, 0, none⟩) (by simp) (.int .i64 (b : Int))).set 0 (.bool true))
        have XX := Lib.hid (Hex.out hneg _ X2.out X3.out)
        have XB : Hid (Below w.heap.size w ((Wr.setCell ⟨w.heap.size + 2, 0, none⟩ (.int .i64 (b : Int))).setCell ⟨w.heap.size + 3, 0, none⟩ (.bool true))) := Lib.hid ((HBw.out.setCell (by simp) _).setCell (by simp) _)
        have XK : Hid (KeepsFrom W5.heap.size W ((Wr.setCell ⟨w.heap.size + 2, 0, none⟩ (.int .i64 (b : Int))).setCell ⟨w.heap.size + 3, 0, none⟩ (.bool true))) := Lib.hid (HKF.out.trans (((KeepsOthers.setCell _ _ _).trans (KeepsOthers.setCell _ _ _)).from _))
        clear hneg Hgo Hex HHi
        gi_wp2
        exact ⟨XK.out, XX.out, XB.out⟩
      · have dneg : decide (dh < 0) = false := by rw [HHi.out]; exact decide_eq_false hneg
        have X1 := Lib.hid (J1.out.set2 (.int .i64 dh) (.int .u64 dl))
        have X2 := Lib.hid ((J2.out.far (p := ⟨w.heap.size + 1, 0, none⟩) (by simp) (.int .i64 dh)).far (p := ⟨w.heap.size + 1, 1, none⟩) (by simp) (.int .u64 dl))
        have X3 := Lib.hid ((J3.out.far (p := ⟨w.heap.size + 1, 0, none⟩) (by simp) (.int .i64 dh)).far (p := ⟨w.heap.size + 1, 1, none⟩) (by simp) (.int .u64 dl))
        have XX := Lib.hid (Hgo.out (by omega) _ X1.out X2.out X3.out)
        have XB : Hid (Below w.heap.size w ((Wr.setCell ⟨w.heap.size + 1, 0, none⟩ (.int .i64 dh)).setCell ⟨w.heap.size + 1, 1, none⟩ (.int .u64 dl))) := Lib.hid ((HBw.out.setCell (by simp) _).setCell (by simp) _)
        have XW : Hid (Below w.heap.size W ((Wr.setCell ⟨w.heap.size + 1, 0, none⟩ (.int .i64 dh)).setCell ⟨w.heap.size + 1, 1, none⟩ (.int .u64 dl))) := Lib.hid (((HA.out.mono HB.out.size).setCell (by simp) _).setCell (by simp) _)
        have XK : Hid (KeepsFrom W5.heap.size W ((Wr.setCell ⟨w.heap.size + 1, 0, none⟩ (.int .i64 dh)).setCell ⟨w.heap.size + 1, 1, none⟩ (.int .u64 dl))) := Lib.hid (HKF.out.trans (((KeepsOthers.setCell _ _ _).trans (KeepsOthers.setCell _ _ _)).from _))
        clear hneg Hgo Hex HHi
        gi_wp2
        exact ⟨XK.out, XW.out, XX.out, XB.out⟩)
    clear hKr Hgo Hex HHi HK2 HK3 HB
    gi_region_with_o (first
      | (refine ⟨trivial, ?_⟩; gi_at_call 27; refine (CallsIn.inRound l (callsIn_wide.2 (CO.out _))).mono ?_; rintro _ w6 ⟨rfl, b6⟩; have A6 : Hid (Below W.heap.size W w6) := Lib.hid (by first | exact (Below.refl W.heap.size W).drew.trans (b6.mono (by simp)) | exact (one_alloc W _).drew.trans (b6.mono (by simp))); (try have R6 : Hid (Kept w6 W.heap.size #[.int .i64 0, .int .u64 0] 47) := Lib.hid ((Kept.new rfl).next (bdrew b6))); obtain ⟨q1, q2, q3, q4, q5⟩ := (HK1.out.next A6.out).two; clear b6)
      | (refine ⟨trivial, ?_⟩; gi_at_call 43; refine (CallsIn.inRound l (callsIn_wide.2 (CS.out _))).mono ?_; rintro _ w7 ⟨rfl, b7⟩; have A7 : Hid (Below W.heap.size W w7) := Lib.hid (by first | exact A6.out.trans (b7.mono A6.out.size) | exact (A6.out.alloc A6.out.size _).trans (b7.mono (by have := A6.out.size; simp <;> omega))); (try have R7 := Lib.hid (R6.out.next b7)); (try have R7 : Hid (Kept w7 w6.heap.size #[.int .i64 0, .int .u64 0] 47) := Lib.hid ((Kept.new rfl).next b7)); (try obtain ⟨z1, z2, z3, z4, z5⟩ := R7.out.two); clear b7))
    all_goals first
      | exact REST.out _ _ (by have := A7.out.size; omega) (A7.out.alloc A7.out.size _) (Kept.new rfl)
      | exact REST.out _ _ (by have := A6.out.size; omega) ((A7.out.setCell (by have := A6.out.size; simp <;> omega) _).setCell (by have := A6.out.size; simp <;> omega) _) (R7.out.set2 _ _)
  case done =>
    rintro D ys W hD hys ⟨⟨hnn, I1, I2, I3⟩, hB⟩ hK
    obtain ⟨g1, g2, g3, g4⟩ := HH.out
    have hys' : ys.map (fun x => x.1) = fullF h 65 := hys
    have hnn' : 0 ≤ k - sumP (ys.map (fun x => x.1)) := hnn
    have e : sumP (ys.map (fun x => x.1)) = isum h := by rw [hys', sumP_full h g3 65 (Nat.le_refl _), List.take_of_length_le (by omega)]
    have hsum : isum h ≤ k := by omega
    clear hys' hnn' e
    have FF : Hid (∀ W, Below w.heap.size w W → RkOut h k w (.returned (.tuple #[.int .i64 0, .bool false])) W) := Lib.hid fun W hb => ⟨⟨0, false, rfl, Lib.hid (.inr ⟨.inr (.inr hsum), rfl, rfl⟩)⟩, hb⟩
    have HB := Lib.hid hB
    have H2 := Lib.hid I2
    have H3 := Lib.hid I3
    have HK := Lib.hid hK
    obtain ⟨j1, j2, j3⟩ := H2.out.one
    obtain ⟨k1, k2, k3⟩ := H3.out.one
    clear hsum g1 g2 g3 g4 hnn I1 I2 I3 hB hK hys
    go_wp2
    have Z2 := (H2.out.set 0 (.int .i64 0)).far (p := ⟨w.heap.size + 3, 0, none⟩) (by simp) (.bool false)
    have Z3 := (H3.out.far (p := ⟨w.heap.size + 2, 0, none⟩) (by simp) (.int .i64 0)).set 0 (.bool false)
    have ZB : Below w.heap.size w ((W.setCell ⟨w.heap.size + 2, 0, none⟩ (.int .i64 0)).setCell ⟨w.heap.size + 3, 0, none⟩ (.bool false)) := (HB.out.setCell (by simp) _).setCell (by simp) _
    have ZK : ((W.setCell ⟨w.heap.size + 2, 0, none⟩ (.int .i64 0)).setCell ⟨w.heap.size + 3, 0, none⟩ (.bool false)).heap[D]? = some (.deferred (some [])) := ((KeepsOthers.setCell _ _ _).trans (KeepsOthers.setCell _ _ _)).same D _ HK.out rfl
    generalize (W.setCell ⟨w.heap.size + 2, 0, none⟩ (.int .i64 0)).setCell ⟨w.heap.size + 3, 0, none⟩ (.bool false) = W8 at *
    refine ⟨by simp, .inl ⟨_, _, rfl, run_takeDeferred ZK, ?_⟩⟩
    have Y2 := kept_own Z2 (grownBy_putObj' W8 D (.deferred none)) (fun r e => by cases e; exact ⟨_, ZK, rfl⟩)
    have Y3 := kept_own Z3 (grownBy_putObj' W8 D (.deferred none)) (fun r e => by cases e; exact ⟨_, ZK, rfl⟩)
    have YB : Below w.heap.size w (W8.putObj D (.deferred none)) := ZB.trans (belowK_b (w := w) (Nat.le_refl _) W8 D _ _ (by omega) ZK rfl rfl)
    generalize W8.putObj D (.deferred none) = W9 at *
    obtain ⟨u1, u2, u3⟩ := Kept.one (x := .int .i64 0) Y2
    obtain ⟨v1, v2, v3⟩ := Kept.one (x := .bool false) Y3
    exact ⟨.tuple #[.int .i64 0, .bool false], by simp [results, Try.f24, go_sem, u1, v1], FF.out _ YB⟩
  case stop =>
    rintro D c pre W hD ⟨kk, hkk, hpre⟩ ⟨⟨rfl, ini, last, e1, e2, e3, X2, X3⟩, hB⟩ hK
    obtain ⟨g1, g2, g3, g4⟩ := HH.out
    obtain ⟨⟨b, v⟩, hlast⟩ := last
    rw [e1, List.map_append, List.map_singleton] at hpre
    obtain ⟨f1, f2, f3⟩ := fullF_last h kk _ _ hpre.symm
    dsimp only at f1 f2 f3 e3 X2
    have f1' : ini.map (fun x => x.1) = fullF h b := f1
    have e2' : 0 ≤ k - sumP (ini.map (fun x => x.1)) := e2
    have e3' : k - sumP (ini.map (fun x => x.1)) - v < 0 := e3
    have s0 : 0 ≤ sumP (ini.map (fun x => x.1)) := sumP_pos ini
    have s1 : sumP (ini.map (fun x => x.1)) = isum (h.take b) := by rw [f1']; exact sumP_full h g3 b (by omega)
    have s2 := isum_snoc h b (by omega)
    rw [← f3] at s2
    have F3 : 0 ≤ k ∧ isum (h.take b) ≤ k ∧ k < isum (h.take (b + 1)) := by omega
    have FF : Hid (∀ W, Below w.heap.size w W → RkOut h k w (.returned (.tuple #[.int .i64 (b : Int), .bool true])) W) := Lib.hid fun W hb => ⟨⟨b, true, rfl, Lib.hid (.inl ⟨g4, F3.1, rfl, b, by omega, rfl, F3.2.1, F3.2.2⟩)⟩, hb⟩
    have YB : Below w.heap.size w (W.putObj D (.deferred none)) := hB.trans (belowK_b (w := w) (Nat.le_refl _) W D _ _ (by omega) hK rfl rfl)
    clear s0 s1 s2 f1 f1' f2 f3 F3 hpre g1 g2 g3 g4 e1 e2 e3 e2' e3'
    refine wpIn_wide.2 ?_
    go_wp2
    refine ⟨by simp, .inl ⟨_, _, rfl, run_takeDeferred hK, ?_⟩⟩
    have Y2 := kept_own X2 (grownBy_putObj' W D (.deferred none)) (fun r e => by cases e; exact ⟨_, hK, rfl⟩)
    have Y3 := kept_own X3 (grownBy_putObj' W D (.deferred none)) (fun r e => by cases e; exact ⟨_, hK, rfl⟩)
    generalize W.putObj D (.deferred none) = W9 at *
    obtain ⟨u1, u2, u3⟩ := Kept.one Y2
    obtain ⟨v1, v2, v3⟩ := Kept.one Y3
    exact ⟨.tuple #[.int .i64 (b : Int), .bool true], by simp [results, Try.f24, go_sem, u1, v1], FF.out _ YB⟩
end Go.Proofs.Ytldgdedfioigiaa
