/- cell.Right: of gen_right21.py. -/
import Derived.Test.YtpmoidpncpfnlaaCelJ
import Derived.Laws.StructEq
import Derived.Deep.MidRow
namespace Go.Proofs.Ytpmoidpncpfnlaa
open Go.RowKit Go.Shelf
set_option linter.unusedVariables false
set_option linter.unusedSimpArgs false
attribute [local go_sem] Oper.semAt_some

theorem keepsFrom_below {B : Nat} {W W' : World} (h : Below W.heap.size W W') : KeepsFrom B W W' := ⟨h.size, fun k o _ hk _ => (h.block k (Array.getElem?_eq_some_iff.1 hk).1).trans hk⟩
theorem kept_own {W W' : World} {row : Option Nat} {g : Nat} {cs : Array Value} {t : TypeId} (h : Kept W g cs t) (hg : W.grownBy W' row) (hr : ∀ r, row = some r → ∃ o : Obj, W.heap[r]? = some o ∧ o.isCells = false) : Kept W' g cs t :=
  (grownBy_keeps_cells hg hr h rfl).trans h
/-- a region that does not panic -/
def noPan (Q : Exit → Act → World → Prop) : Exit → Act → World → Prop
  | .panic _, _, _ => False
  | e, a, w => Q e a w
theorem noPan_out {Q : Exit → Act → World → Prop} {e : Exit} {a : Act} {w : World} (h : noPan Q e a w) : Q e a w := by
  cases e <;> first | exact h | exact h.elim
theorem noPan_normal {Q : Exit → Act → World → Prop} {a : Act} {w : World} (h : Q .normal a w) : noPan Q .normal a w := h
/-- does a bucket with its count fit between the ends' buckets? -/
def okB (a b : Nat) (p : Nat × Int) : Bool := !(decide (p.2 < 0) || decide (p.1 < a) || decide (b < p.1))
/-- is a cell right? -/
def preC (c : Ce) : Bool := decide (0 ≤ c.n ∧ 0 ≤ c.ce ∧ 0 ≤ c.po ∧ c.mn ≤ c.mx)
def endC (c : Ce) : Bool := if c.n = 0 then decide (c.z = 0 ∧ c.mn = 0 ∧ c.mx = 0) else decide (0 < c.H.getD (bkt c.mn) 0 ∧ 0 < c.H.getD (bkt c.mx) 0)
def rtC (c : Ce) : Bool := preC c && decide (isum c.H = c.n) && (fullF c.H 65).all (okB (bkt c.mn) (bkt c.mx)) && endC c
theorem mem_fullF (h : List Int) (k : Nat) (x : Nat × Int) : x ∈ fullF h k ↔ x.1 < k ∧ x.2 = h.getD x.1 0 ∧ x.2 ≠ 0 := by
  unfold fullF
  simp only [List.mem_filter, List.mem_map, List.mem_range, decide_eq_true_eq]
  constructor
  · rintro ⟨⟨b, hb, rfl⟩, h0⟩; exact ⟨hb, rfl, h0⟩
  · rintro ⟨h1, h2, h3⟩; exact ⟨⟨x.1, h1, by rw [← h2]⟩, h3⟩
theorem fullF_sub (h : List Int) (k : Nat) (hk : k ≤ 65) (x : Nat × Int) (hx : x ∈ fullF h k) : x ∈ fullF h 65 := by
  rw [mem_fullF] at *
  exact ⟨by omega, hx.2⟩
/-- a cell's numbers are such as the program holds -/
structure CeIn (c : Ce) : Prop where
  n : InI c.n
  z : InW c.z
  mn : InI c.mn
  mx : InI c.mx
  ce : InI c.ce
  po : InI c.po
  len : c.H.length = 65
  H : ∀ b, b < 65 → InI (c.H.getD b 0)
theorem foldl_min (l : List Int) : ∀ a : Int, (l.foldl min a = a ∨ l.foldl min a ∈ l) ∧ l.foldl min a ≤ a ∧ ∀ x ∈ l, l.foldl min a ≤ x := by
  induction l with
  | nil => intro a; exact ⟨.inl rfl, Int.le_refl _, fun x hx => by cases hx⟩
  | cons y ys ih =>
    intro a
    obtain ⟨h1, h2, h3⟩ := ih (min a y)
    rw [List.foldl_cons]
    refine ⟨?_, by omega, fun x hx => ?_⟩
    · rcases h1 with h1 | h1
      · rw [h1]
        by_cases e : a ≤ y
        · exact .inl (by omega)
        · exact .inr (by rw [show min a y = y by omega]; exact List.mem_cons_self)
      · exact .inr (List.mem_cons_of_mem _ h1)
    · rcases List.mem_cons.1 hx with rfl | hx
      · omega
      · exact h3 x hx
theorem foldl_max (l : List Int) : ∀ a : Int, (l.foldl max a = a ∨ l.foldl max a ∈ l) ∧ a ≤ l.foldl max a ∧ ∀ x ∈ l, x ≤ l.foldl max a := by
  induction l with
  | nil => intro a; exact ⟨.inl rfl, Int.le_refl _, fun x hx => by cases hx⟩
  | cons y ys ih =>
    intro a
    obtain ⟨h1, h2, h3⟩ := ih (max a y)
    rw [List.foldl_cons]
    refine ⟨?_, by omega, fun x hx => ?_⟩
    · rcases h1 with h1 | h1
      · rw [h1]
        by_cases e : y ≤ a
        · exact .inl (by omega)
        · exact .inr (by rw [show max a y = y by omega]; exact List.mem_cons_self)
      · exact .inr (List.mem_cons_of_mem _ h1)
    · rcases List.mem_cons.1 hx with rfl | hx
      · omega
      · exact h3 x hx
theorem minOf_all (l : List Int) (h : l ≠ []) : Lib.minOf l ∈ l ∧ ∀ x ∈ l, Lib.minOf l ≤ x := by
  unfold Lib.minOf
  obtain ⟨h1, h2, h3⟩ := foldl_min l (l.headD 0)
  refine ⟨?_, h3⟩
  rcases h1 with h1 | h1
  · rw [h1]
    cases l with
    | nil => exact absurd rfl h
    | cons y ys => exact List.mem_cons_self
  · exact h1
theorem maxOf_all (l : List Int) (h : l ≠ []) : Lib.maxOf l ∈ l ∧ ∀ x ∈ l, x ≤ Lib.maxOf l := by
  unfold Lib.maxOf
  obtain ⟨h1, h2, h3⟩ := foldl_max l (l.headD 0)
  refine ⟨?_, h3⟩
  rcases h1 with h1 | h1
  · rw [h1]
    cases l with
    | nil => exact absurd rfl h
    | cons y ys => exact List.mem_cons_self
  · exact h1
theorem ceIn_fold (l : List Int) (h : ∀ x ∈ l, InI x) (hl : l.length ≤ 4000000000) : CeIn (foldC l) where
  n := by unfold foldC InI; dsimp only; omega
  z := by
    have := isum_bound l h l.length (Nat.le_refl _)
    rw [List.take_length] at this
    unfold foldC InW; dsimp only; omega
  mn := by
    unfold foldC minL; dsimp only
    split
    · unfold InI; omega
    · rename_i hne
      exact h _ (minOf_all l hne).1
  mx := by
    unfold foldC maxL; dsimp only
    split
    · unfold InI; omega
    · rename_i hne
      exact h _ (maxOf_all l hne).1
  ce := by unfold foldC InI; dsimp only; omega
  po := by unfold foldC InI; dsimp only; omega
  len := cntL_len l
  H := fun b hb => cntL_in l hl b hb
theorem w_neq_yes (a b c d : Int) (h : ¬ (a = c ∧ b = d)) (w : World) : (binOp .neq 25 (.agg #[.int .i64 a, .int .u64 b]) (.agg #[.int .i64 c, .int .u64 d])).run Try.prog w = .ok (.bool true) w := by
  by_cases e : a = c
  · subst e
    have : ¬ b = d := fun q => h ⟨rfl, q⟩
    simp [go_sem, this]
  · simp [go_sem, e]
theorem w_neq_no (a b : Int) (w : World) : (binOp .neq 25 (.agg #[.int .i64 a, .int .u64 b]) (.agg #[.int .i64 a, .int .u64 b])).run Try.prog w = .ok (.bool false) w := by
  simp [go_sem]
theorem w_eql_no (a b c d : Int) (h : ¬ (a = c ∧ b = d)) (w : World) : (binOp .eql 25 (.agg #[.int .i64 a, .int .u64 b]) (.agg #[.int .i64 c, .int .u64 d])).run Try.prog w = .ok (.bool false) w := by
  by_cases e : a = c
  · subst e
    have : ¬ b = d := fun q => h ⟨rfl, q⟩
    simp [go_sem, this]
  · simp [go_sem, e]
theorem w_eql_yes (a b : Int) (w : World) : (binOp .eql 25 (.agg #[.int .i64 a, .int .u64 b]) (.agg #[.int .i64 a, .int .u64 b])).run Try.prog w = .ok (.bool true) w := by
  simp [go_sem]
theorem w_eql_zero (z : Int) (h : InW z) (w : World) : (binOp .eql 25 (.agg #[.int .i64 (hiW z), .int .u64 (loW z)]) (.agg #[.int .i64 0, .int .u64 0])).run Try.prog w = .ok (.bool (decide (z = 0))) w := by
  by_cases e : z = 0
  · subst e
    rw [show hiW 0 = 0 by decide +kernel, show loW 0 = 0 by decide +kernel]
    exact w_eql_yes 0 0 w
  · rw [decide_eq_false e]
    exact w_eql_no _ _ _ _ (fun q => e (by have := wz_in h; rw [q.1, q.2] at this; unfold wz at this; omega)) w
theorem w_guard : Try.prog.eqGuardType Try.prog.depth 25 = false := by kernel_rfl
theorem w_neq_at (ev : Operand → Value) (o : Oper) (x y : Operand) (a b c d : Int) (r : Bool) (w : World) (ho : o.op = .binOp .neq 25 x y 25) (hx : ev x = .agg #[.int .i64 a, .int .u64 b]) (hy : ev y = .agg #[.int .i64 c, .int .u64 d]) (h : ∀ W, (binOp .neq 25 (.agg #[.int .i64 a, .int .u64 b]) (.agg #[.int .i64 c, .int .u64 d])).run Try.prog W = .ok (.bool r) W) : Sem.run Try.prog (execOp ev o) w = .ok (Next.value (.bool r)) w := by
  have hwg := w_guard
  simp only [execOp, ho, hx, hy]
  go_simp
def RtOut (c : Ce) (w : World) (e : Ending) (w' : World) : Prop := e = .returned (.bool (rtC c)) ∧ Below w.heap.size w w'
theorem preC_no {c : Ce} (h : preC c = false) : rtC c = false := by unfold rtC; rw [h]; rfl
set_option maxHeartbeats 8000000 in
set_option maxRecDepth 1000000 in
theorem right_pre (c : Ce) (w : World) (hc : CeIn c) (hp : preC c = false) : Calls Try.prog 12 #[.agg c.A] w (RtOut c w) := by
  have FF : Hid (∀ W, Below w.heap.size w W → RtOut c w (.returned (.bool false)) W) := Lib.hid fun W hb => ⟨by rw [preC_no hp], hb⟩
  have hq : c.n < 0 ∨ c.ce < 0 ∨ c.po < 0 ∨ c.mx < c.mn := by
    unfold preC at hp
    have := of_decide_eq_false hp
    omega
  have c72 : c.A.size = 72 := ce_size _ hc.len
  have K0 : Hid (Kept ((w.alloc (.cells c.A 29)).alloc (.cells #[.bool false] 4)) w.heap.size c.A 29) := Lib.hid ((Kept.new rfl).alloc _)
  have K1 : Hid (Kept ((w.alloc (.cells c.A 29)).alloc (.cells #[.bool false] 4)) (w.heap.size + 1) #[.bool false] 4) := Lib.hid (Kept.new (by simp))
  have B0 : Hid (Below w.heap.size w ((w.alloc (.cells c.A 29)).alloc (.cells #[.bool false] 4))) := Lib.hid ((one_alloc _ _).alloc (by simp) _)
  obtain ⟨q0, -, -, q3, q4, q5, q6⟩ := K0.out.cell7
  generalize c.n = n at *
  generalize c.ce = ce at *
  generalize c.po = po at *
  generalize c.mn = mn at *
  generalize c.mx = mx at *
  generalize c.A = C at *
  clear hp
  obtain ⟨r1, r2, r3⟩ := K1.out.one
  have ARM : ∀ b1 b2 b3 b4 : Bool, decide (n < 0) = b1 → decide (ce < 0) = b2 → decide (po < 0) = b3 → decide (mn > mx) = b4 → (b1 || b2 || b3 || b4) = true → Calls Try.prog 12 #[.agg C] w (RtOut c w) := by
    intro b1 b2 b3 b4 d1 d2 d3 d4 hor
    have d5 : decide (mx < mn) = b4 := d4
    cases b1 <;> cases b2 <;> cases b3 <;> cases b4
    case false.false.false.false => cases hor
    all_goals
      clear hq hor K0
      refine (callsIn_wide (n := 8)).1 ?_
      refine callsIn_of_wp_marks Try.func12 rfl trivial ?_ rfl
      refine wpIn_wide.2 ?_
      simp only [Try.ntmps12, List.size_toArray, List.length_cons, List.length_nil, Nat.reduceAdd, Nat.reduceSub, Array.replicate_succ, Array.replicate_zero, List.push_toArray, List.append_toArray, List.nil_append, List.cons_append]
      go_wp2
      generalize (w.alloc (.cells C 29)).alloc (.cells #[.bool false] 4) = W at *
      go_quiet (fail)
      go_wp2
      have Z := (K1.out.drewN nq).set 0 (.bool false)
      have ZB : Below w.heap.size w ((W.drewN nq).setCell ⟨w.heap.size + 1, 0, none⟩ (.bool false)) := (below_drewN B0.out nq).setCell (by simp) _
      generalize (W.drewN nq).setCell ⟨w.heap.size + 1, 0, none⟩ (.bool false) = W8 at *
      obtain ⟨u1, u2, u3⟩ := Kept.one (x := .bool false) Z
      exact ⟨.bool false, by simp [results, Try.f12, go_sem, u1], FF.out _ ZB⟩
  refine ARM _ _ _ _ rfl rfl rfl rfl ?_
  rcases hq with h | h | h | h <;> simp [h]
set_option maxHeartbeats 8000000 in
set_option maxRecDepth 1000000 in
theorem right_tot (c : Ce) (w : World) (hc : CeIn c) (hp : preC c = true) (hs : ¬ isum c.H = c.n) : Calls Try.prog 12 #[.agg c.A] w (RtOut c w) := by
  have FF : Hid (∀ W, Below w.heap.size w W → RtOut c w (.returned (.bool false)) W) := Lib.hid fun W hb => ⟨by unfold rtC; rw [decide_eq_false hs]; simp, hb⟩
  have hp' := hp
  unfold preC at hp'
  obtain ⟨p1, p2, p3, p4⟩ := of_decide_eq_true hp'
  have d1 : decide (c.n < 0) = false := decide_eq_false (by omega)
  have d2 : decide (c.ce < 0) = false := decide_eq_false (by omega)
  have d3 : decide (c.po < 0) = false := decide_eq_false (by omega)
  have d4 : decide (c.mx < c.mn) = false := decide_eq_false (by omega)
  have c72 : c.A.size = 72 := ce_size _ hc.len
  have K0 : Hid (Kept ((w.alloc (.cells c.A 29)).alloc (.cells #[.bool false] 4)) w.heap.size c.A 29) := Lib.hid ((Kept.new rfl).alloc _)
  have K1 : Hid (Kept ((w.alloc (.cells c.A 29)).alloc (.cells #[.bool false] 4)) (w.heap.size + 1) #[.bool false] 4) := Lib.hid (Kept.new (by simp))
  have B0 : Hid (Below w.heap.size w ((w.alloc (.cells c.A 29)).alloc (.cells #[.bool false] 4))) := Lib.hid ((one_alloc _ _).alloc (by simp) _)
  have CF : Hid (∀ W, Kept W w.heap.size c.A 29 → W.cell? ⟨w.heap.size, 0, none⟩ = some (.int .i64 c.n) ∧ W.cell? ⟨w.heap.size, 3, none⟩ = some (.int .i64 c.mn) ∧ W.cell? ⟨w.heap.size, 4, none⟩ = some (.int .i64 c.mx) ∧ W.cell? ⟨w.heap.size, 5, none⟩ = some (.int .i64 c.ce) ∧ W.cell? ⟨w.heap.size, 6, none⟩ = some (.int .i64 c.po)) := Lib.hid fun W h => ⟨h.cell7.1, h.cell7.2.2.2.1, h.cell7.2.2.2.2.1, h.cell7.2.2.2.2.2.1, h.cell7.2.2.2.2.2.2⟩
  have R7 : Hid (∀ W, Kept W w.heap.size c.A 29 → W.rangeAt w.heap.size 7 (hC c.H).toList) := Lib.hid fun W h => h.range7
  have CT := Lib.hid (fun W => total_any c.H W hc.len hc.H)
  have CO := Lib.hid (fun W => wof_any c.n W hc.n)
  have d65 : (hC c.H).size = 65 := by rw [hC_size]; exact hc.len
  have HNE : Hid (¬ (hiW (isum c.H) = hiW c.n ∧ loW (isum c.H) = loW c.n)) := Lib.hid fun e => hs (by
    have h1 : InW (isum c.H) := by
      have := isum_bound c.H (all_of_getD hc.len hc.H) 65 (by rw [hc.len]; exact Nat.le_refl _)
      rw [List.take_of_length_le (by rw [hc.len]; exact Nat.le_refl _)] at this
      unfold InW; omega
    have h2 : InW c.n := by have := hc.n; unfold InI at this; unfold InW; omega
    exact (wI_inj h1 h2).1 (by unfold wI; rw [e.1, e.2]))
  unfold wI at CT CO
  generalize hiW (isum c.H) = th at *
  generalize loW (isum c.H) = tl at *
  generalize hiW c.n = nh at *
  generalize loW c.n = nl at *
  generalize hC c.H = D at *
  have dl : (Try.prog.info? 27).map (·.size) = some D.toList.length := by rw [Array.length_toList, d65]; exact h_info
  generalize c.n = n at *
  generalize c.ce = ce at *
  generalize c.po = po at *
  generalize c.mn = mn at *
  generalize c.mx = mx at *
  generalize c.A = C at *
  clear hp hp' p1 p2 p3 p4 hs hc
  refine (callsIn_wide (n := 8)).1 ?_
  refine callsIn_of_wp_marks Try.func12 rfl trivial ?_ rfl
  refine wpIn_wide.2 ?_
  simp only [Try.ntmps12, List.size_toArray, List.length_cons, List.length_nil, Nat.reduceAdd, Nat.reduceSub, Array.replicate_succ, Array.replicate_zero, List.push_toArray, List.append_toArray, List.nil_append, List.cons_append]
  go_wp2
  generalize (w.alloc (.cells C 29)).alloc (.cells #[.bool false] 4) = W at *
  have K2 : Hid (Kept W.drew w.heap.size C 29) := Lib.hid (K0.out.drewN 1)
  have L2 : Hid (Kept W.drew (w.heap.size + 1) #[.bool false] 4) := Lib.hid (K1.out.drewN 1)
  have B2 : Hid (Below w.heap.size w W.drew) := Lib.hid B0.out.drew
  clear K0 K1 B0
  refine Code.wp_mono (fun e a w q => noPan_out q) ?_
  refine wp_region_held_drew (S := fun W' => Hid (Kept W' w.heap.size C 29)) (by kernel_rfl) K2 (fun hHeld => ?_)
  generalize W.drew = v2 at *
  refine wpAnyH_take (i := 0) (oi := ({ dst := some 7, op := Op.fieldAddr 29 (Operand.tmp 1) 0, type := 0, pos := "cell.go:43", after := #[], guard := none } : Oper)) (v := ?_) rfl (by kernel_rfl) (by kernel_rfl) (by kernel_rfl) (fun _ _ _ h => h) (Or.inl ⟨by rfl, ?_⟩) hHeld ?_
  rotate_left
  · ((intro w hSw; obtain ⟨s1, s2, s3, s4, s5⟩ := CF.out _ hSw.out; go_simp); (try with_reducible rfl))
  (try simp only [Act.put, List.setIfInBounds_toArray, List.set_cons_zero, List.set_cons_succ])
  refine wpAnyH_take (i := 1) (oi := ({ dst := some 8, op := Op.load 2 (Operand.tmp 7), type := 2, pos := "cell.go:43", after := #[{ on := 0, ground := Ground.data }], guard := none } : Oper)) (v := ?_) rfl (by kernel_rfl) (by kernel_rfl) (by kernel_rfl) (fun _ _ _ h => h) (Or.inl ⟨by rfl, ?_⟩) hHeld ?_
  rotate_left
  · ((intro w hSw; obtain ⟨s1, s2, s3, s4, s5⟩ := CF.out _ hSw.out; go_simp); (try with_reducible rfl))
  (try simp only [Act.put, List.setIfInBounds_toArray, List.set_cons_zero, List.set_cons_succ])
  refine wpAnyH_take (i := 2) (oi := ({ dst := some 9, op := Op.binOp BinOp.lss 2 (Operand.tmp 8) (Operand.const (Value.int IntKind.i64 0)) 2, type := 4, pos := "cell.go:43", after := #[{ on := 1, ground := Ground.data }], guard := none } : Oper)) (v := ?_) rfl (by kernel_rfl) (by kernel_rfl) (by kernel_rfl) (fun _ _ _ h => h) (Or.inl ⟨by rfl, ?_⟩) hHeld ?_
  rotate_left
  · ((intro w hSw; obtain ⟨s1, s2, s3, s4, s5⟩ := CF.out _ hSw.out; go_simp); (try with_reducible rfl))
  (try simp only [Act.put, List.setIfInBounds_toArray, List.set_cons_zero, List.set_cons_succ])
  refine wpAnyH_take (i := 3) (oi := ({ dst := some 10, op := Op.move (Operand.tmp 9), type := 4, pos := "cell.go:43", after := #[{ on := 2, ground := Ground.data }], guard := none } : Oper)) (v := ?_) rfl (by kernel_rfl) (by kernel_rfl) (by kernel_rfl) (fun _ _ _ h => h) (Or.inl ⟨by rfl, ?_⟩) hHeld ?_
  rotate_left
  · ((intro w hSw; obtain ⟨s1, s2, s3, s4, s5⟩ := CF.out _ hSw.out; go_simp); (try with_reducible rfl))
  (try simp only [Act.put, List.setIfInBounds_toArray, List.set_cons_zero, List.set_cons_succ])
  refine wpAnyH_take (i := 4) (oi := ({ dst := some 11, op := Op.fieldAddr 29 (Operand.tmp 1) 4, type := 0, pos := "cell.go:43", after := #[{ on := 3, ground := Ground.guard }], guard := some (3, false) } : Oper)) (v := ?_) rfl (by kernel_rfl) (by kernel_rfl) (by kernel_rfl) (fun _ _ _ h => h) (Or.inl ⟨by rfl, ?_⟩) hHeld ?_
  rotate_left
  · ((intro w hSw; obtain ⟨s1, s2, s3, s4, s5⟩ := CF.out _ hSw.out; go_simp); (try with_reducible rfl))
  (try simp only [Act.put, List.setIfInBounds_toArray, List.set_cons_zero, List.set_cons_succ])
  refine wpAnyH_take (i := 5) (oi := ({ dst := some 12, op := Op.load 2 (Operand.tmp 11), type := 2, pos := "cell.go:43", after := #[{ on := 4, ground := Ground.data }, { on := 3, ground := Ground.guard }], guard := some (3, false) } : Oper)) (v := ?_) rfl (by kernel_rfl) (by kernel_rfl) (by kernel_rfl) (fun _ _ _ h => h) (Or.inl ⟨by rfl, ?_⟩) hHeld ?_
  rotate_left
  · ((intro w hSw; obtain ⟨s1, s2, s3, s4, s5⟩ := CF.out _ hSw.out; go_simp); (try with_reducible rfl))
  (try simp only [Act.put, List.setIfInBounds_toArray, List.set_cons_zero, List.set_cons_succ])
  refine wpAnyH_take (i := 6) (oi := ({ dst := some 13, op := Op.binOp BinOp.lss 2 (Operand.tmp 12) (Operand.const (Value.int IntKind.i64 0)) 2, type := 4, pos := "cell.go:43", after := #[{ on := 5, ground := Ground.data }, { on := 3, ground := Ground.guard }], guard := some (3, false) } : Oper)) (v := ?_) rfl (by kernel_rfl) (by kernel_rfl) (by kernel_rfl) (fun _ _ _ h => h) (Or.inl ⟨by rfl, ?_⟩) hHeld ?_
  rotate_left
  · ((intro w hSw; obtain ⟨s1, s2, s3, s4, s5⟩ := CF.out _ hSw.out; go_simp); (try with_reducible rfl))
  (try simp only [Act.put, List.setIfInBounds_toArray, List.set_cons_zero, List.set_cons_succ])
  refine wpAnyH_take (i := 7) (oi := ({ dst := some 14, op := Op.pick (Operand.tmp 10) (Operand.const (Value.bool true)) (Operand.tmp 13), type := 4, pos := "cell.go:43", after := #[{ on := 3, ground := Ground.data }, { on := 6, ground := Ground.data }], guard := none } : Oper)) (v := ?_) rfl (by kernel_rfl) (by kernel_rfl) (by kernel_rfl) (fun _ _ _ h => h) (Or.inl ⟨by rfl, ?_⟩) hHeld ?_
  rotate_left
  · ((intro w hSw; obtain ⟨s1, s2, s3, s4, s5⟩ := CF.out _ hSw.out; go_simp); (try with_reducible rfl))
  (try simp only [Act.put, List.setIfInBounds_toArray, List.set_cons_zero, List.set_cons_succ])
  refine wpAnyH_take (i := 8) (oi := ({ dst := some 15, op := Op.move (Operand.tmp 14), type := 4, pos := "cell.go:43", after := #[{ on := 7, ground := Ground.data }, { on := 3, ground := Ground.chain }], guard := none } : Oper)) (v := ?_) rfl (by kernel_rfl) (by kernel_rfl) (by kernel_rfl) (fun _ _ _ h => h) (Or.inl ⟨by rfl, ?_⟩) hHeld ?_
  rotate_left
  · ((intro w hSw; obtain ⟨s1, s2, s3, s4, s5⟩ := CF.out _ hSw.out; go_simp); (try with_reducible rfl))
  (try simp only [Act.put, List.setIfInBounds_toArray, List.set_cons_zero, List.set_cons_succ])
  refine wpAnyH_take (i := 9) (oi := ({ dst := some 16, op := Op.fieldAddr 29 (Operand.tmp 1) 5, type := 0, pos := "cell.go:43", after := #[{ on := 8, ground := Ground.guard }], guard := some (8, false) } : Oper)) (v := ?_) rfl (by kernel_rfl) (by kernel_rfl) (by kernel_rfl) (fun _ _ _ h => h) (Or.inl ⟨by rfl, ?_⟩) hHeld ?_
  rotate_left
  · ((intro w hSw; obtain ⟨s1, s2, s3, s4, s5⟩ := CF.out _ hSw.out; go_simp); (try with_reducible rfl))
  (try simp only [Act.put, List.setIfInBounds_toArray, List.set_cons_zero, List.set_cons_succ])
  refine wpAnyH_take (i := 10) (oi := ({ dst := some 17, op := Op.load 2 (Operand.tmp 16), type := 2, pos := "cell.go:43", after := #[{ on := 9, ground := Ground.data }, { on := 8, ground := Ground.guard }], guard := some (8, false) } : Oper)) (v := ?_) rfl (by kernel_rfl) (by kernel_rfl) (by kernel_rfl) (fun _ _ _ h => h) (Or.inl ⟨by rfl, ?_⟩) hHeld ?_
  rotate_left
  · ((intro w hSw; obtain ⟨s1, s2, s3, s4, s5⟩ := CF.out _ hSw.out; go_simp); (try with_reducible rfl))
  (try simp only [Act.put, List.setIfInBounds_toArray, List.set_cons_zero, List.set_cons_succ])
  refine wpAnyH_take (i := 11) (oi := ({ dst := some 18, op := Op.binOp BinOp.lss 2 (Operand.tmp 17) (Operand.const (Value.int IntKind.i64 0)) 2, type := 4, pos := "cell.go:43", after := #[{ on := 10, ground := Ground.data }, { on := 8, ground := Ground.guard }], guard := some (8, false) } : Oper)) (v := ?_) rfl (by kernel_rfl) (by kernel_rfl) (by kernel_rfl) (fun _ _ _ h => h) (Or.inl ⟨by rfl, ?_⟩) hHeld ?_
  rotate_left
  · ((intro w hSw; obtain ⟨s1, s2, s3, s4, s5⟩ := CF.out _ hSw.out; go_simp); (try with_reducible rfl))
  (try simp only [Act.put, List.setIfInBounds_toArray, List.set_cons_zero, List.set_cons_succ])
  refine wpAnyH_take (i := 12) (oi := ({ dst := some 19, op := Op.pick (Operand.tmp 15) (Operand.const (Value.bool true)) (Operand.tmp 18), type := 4, pos := "cell.go:43", after := #[{ on := 8, ground := Ground.data }, { on := 11, ground := Ground.data }], guard := none } : Oper)) (v := ?_) rfl (by kernel_rfl) (by kernel_rfl) (by kernel_rfl) (fun _ _ _ h => h) (Or.inl ⟨by rfl, ?_⟩) hHeld ?_
  rotate_left
  · ((intro w hSw; obtain ⟨s1, s2, s3, s4, s5⟩ := CF.out _ hSw.out; go_simp); (try with_reducible rfl))
  (try simp only [Act.put, List.setIfInBounds_toArray, List.set_cons_zero, List.set_cons_succ])
  refine wpAnyH_take (i := 13) (oi := ({ dst := some 20, op := Op.move (Operand.tmp 19), type := 4, pos := "cell.go:43", after := #[{ on := 12, ground := Ground.data }, { on := 8, ground := Ground.chain }], guard := none } : Oper)) (v := ?_) rfl (by kernel_rfl) (by kernel_rfl) (by kernel_rfl) (fun _ _ _ h => h) (Or.inl ⟨by rfl, ?_⟩) hHeld ?_
  rotate_left
  · ((intro w hSw; obtain ⟨s1, s2, s3, s4, s5⟩ := CF.out _ hSw.out; go_simp); (try with_reducible rfl))
  (try simp only [Act.put, List.setIfInBounds_toArray, List.set_cons_zero, List.set_cons_succ])
  refine wpAnyH_take (i := 14) (oi := ({ dst := some 21, op := Op.fieldAddr 29 (Operand.tmp 1) 2, type := 0, pos := "cell.go:43", after := #[{ on := 13, ground := Ground.guard }], guard := some (13, false) } : Oper)) (v := ?_) rfl (by kernel_rfl) (by kernel_rfl) (by kernel_rfl) (fun _ _ _ h => h) (Or.inl ⟨by rfl, ?_⟩) hHeld ?_
  rotate_left
  · ((intro w hSw; obtain ⟨s1, s2, s3, s4, s5⟩ := CF.out _ hSw.out; go_simp); (try with_reducible rfl))
  (try simp only [Act.put, List.setIfInBounds_toArray, List.set_cons_zero, List.set_cons_succ])
  refine wpAnyH_take (i := 15) (oi := ({ dst := some 22, op := Op.load 2 (Operand.tmp 21), type := 2, pos := "cell.go:43", after := #[{ on := 14, ground := Ground.data }, { on := 13, ground := Ground.guard }], guard := some (13, false) } : Oper)) (v := ?_) rfl (by kernel_rfl) (by kernel_rfl) (by kernel_rfl) (fun _ _ _ h => h) (Or.inl ⟨by rfl, ?_⟩) hHeld ?_
  rotate_left
  · ((intro w hSw; obtain ⟨s1, s2, s3, s4, s5⟩ := CF.out _ hSw.out; go_simp); (try with_reducible rfl))
  (try simp only [Act.put, List.setIfInBounds_toArray, List.set_cons_zero, List.set_cons_succ])
  refine wpAnyH_take (i := 16) (oi := ({ dst := some 23, op := Op.fieldAddr 29 (Operand.tmp 1) 3, type := 0, pos := "cell.go:43", after := #[{ on := 13, ground := Ground.guard }], guard := some (13, false) } : Oper)) (v := ?_) rfl (by kernel_rfl) (by kernel_rfl) (by kernel_rfl) (fun _ _ _ h => h) (Or.inl ⟨by rfl, ?_⟩) hHeld ?_
  rotate_left
  · ((intro w hSw; obtain ⟨s1, s2, s3, s4, s5⟩ := CF.out _ hSw.out; go_simp); (try with_reducible rfl))
  (try simp only [Act.put, List.setIfInBounds_toArray, List.set_cons_zero, List.set_cons_succ])
  refine wpAnyH_take (i := 17) (oi := ({ dst := some 24, op := Op.load 2 (Operand.tmp 23), type := 2, pos := "cell.go:43", after := #[{ on := 16, ground := Ground.data }, { on := 13, ground := Ground.guard }], guard := some (13, false) } : Oper)) (v := ?_) rfl (by kernel_rfl) (by kernel_rfl) (by kernel_rfl) (fun _ _ _ h => h) (Or.inl ⟨by rfl, ?_⟩) hHeld ?_
  rotate_left
  · ((intro w hSw; obtain ⟨s1, s2, s3, s4, s5⟩ := CF.out _ hSw.out; go_simp); (try with_reducible rfl))
  (try simp only [Act.put, List.setIfInBounds_toArray, List.set_cons_zero, List.set_cons_succ])
  refine wpAnyH_take (i := 18) (oi := ({ dst := some 25, op := Op.binOp BinOp.gtr 2 (Operand.tmp 22) (Operand.tmp 24) 2, type := 4, pos := "cell.go:43", after := #[{ on := 15, ground := Ground.data }, { on := 17, ground := Ground.data }, { on := 13, ground := Ground.guard }], guard := some (13, false) } : Oper)) (v := ?_) rfl (by kernel_rfl) (by kernel_rfl) (by kernel_rfl) (fun _ _ _ h => h) (Or.inl ⟨by rfl, ?_⟩) hHeld ?_
  rotate_left
  · ((intro w hSw; obtain ⟨s1, s2, s3, s4, s5⟩ := CF.out _ hSw.out; go_simp); (try with_reducible rfl))
  (try simp only [Act.put, List.setIfInBounds_toArray, List.set_cons_zero, List.set_cons_succ])
  refine wpAnyH_take (i := 19) (oi := ({ dst := some 26, op := Op.pick (Operand.tmp 20) (Operand.const (Value.bool true)) (Operand.tmp 25), type := 4, pos := "cell.go:43", after := #[{ on := 13, ground := Ground.data }, { on := 18, ground := Ground.data }], guard := none } : Oper)) (v := ?_) rfl (by kernel_rfl) (by kernel_rfl) (by kernel_rfl) (fun _ _ _ h => h) (Or.inl ⟨by rfl, ?_⟩) hHeld ?_
  rotate_left
  · ((intro w hSw; obtain ⟨s1, s2, s3, s4, s5⟩ := CF.out _ hSw.out; go_simp); (try with_reducible rfl))
  (try simp only [Act.put, List.setIfInBounds_toArray, List.set_cons_zero, List.set_cons_succ])
  refine wpAnyH_take (i := 20) (oi := ({ dst := some 27, op := Op.move (Operand.tmp 26), type := 4, pos := "cell.go:43", after := #[{ on := 19, ground := Ground.data }, { on := 13, ground := Ground.chain }], guard := none } : Oper)) (v := ?_) rfl (by kernel_rfl) (by kernel_rfl) (by kernel_rfl) (fun _ _ _ h => h) (Or.inl ⟨by rfl, ?_⟩) hHeld ?_
  rotate_left
  · ((intro w hSw; obtain ⟨s1, s2, s3, s4, s5⟩ := CF.out _ hSw.out; go_simp); (try with_reducible rfl))
  (try simp only [Act.put, List.setIfInBounds_toArray, List.set_cons_zero, List.set_cons_succ])
  refine wpAnyH_take (i := 21) (oi := ({ dst := some 28, op := Op.fieldAddr 29 (Operand.tmp 1) 6, type := 0, pos := "cell.go:43", after := #[{ on := 20, ground := Ground.guard }], guard := some (20, false) } : Oper)) (v := ?_) rfl (by kernel_rfl) (by kernel_rfl) (by kernel_rfl) (fun _ _ _ h => h) (Or.inl ⟨by rfl, ?_⟩) hHeld ?_
  rotate_left
  · ((intro w hSw; obtain ⟨s1, s2, s3, s4, s5⟩ := CF.out _ hSw.out; go_simp); (try with_reducible rfl))
  (try simp only [Act.put, List.setIfInBounds_toArray, List.set_cons_zero, List.set_cons_succ])
  refine wpAnyH_take (i := 22) (oi := ({ dst := some 29, op := Op.load 27 (Operand.tmp 28), type := 27, pos := "cell.go:43", after := #[{ on := 21, ground := Ground.data }, { on := 20, ground := Ground.guard }], guard := some (20, false) } : Oper)) (v := .agg D) rfl (by kernel_rfl) (by kernel_rfl) (by kernel_rfl) (fun _ _ _ h => h) (yieldsIf_load_mid (by rfl) 27 _ rfl w.heap.size 7 rfl D.toList _ (fun w' hw' => R7.out w' (by exact hw'.out)) h_under rfl dl) hHeld ?_
  (try simp only [Act.put, List.setIfInBounds_toArray, List.set_cons_zero, List.set_cons_succ])
  refine wpAnyH_take (i := 24) (oi := ({ dst := some 31, op := Op.fieldAddr 29 (Operand.tmp 1) 0, type := 0, pos := "cell.go:43", after := #[{ on := 20, ground := Ground.guard }], guard := some (20, false) } : Oper)) (v := ?_) rfl (by kernel_rfl) (by kernel_rfl) (by kernel_rfl) (fun _ _ _ h => h) (Or.inl ⟨by rfl, ?_⟩) hHeld ?_
  rotate_left
  · ((intro w hSw; obtain ⟨s1, s2, s3, s4, s5⟩ := CF.out _ hSw.out; go_simp); (try with_reducible rfl))
  (try simp only [Act.put, List.setIfInBounds_toArray, List.set_cons_zero, List.set_cons_succ])
  refine wpAnyH_take (i := 25) (oi := ({ dst := some 32, op := Op.load 2 (Operand.tmp 31), type := 2, pos := "cell.go:43", after := #[{ on := 24, ground := Ground.data }, { on := 20, ground := Ground.guard }], guard := some (20, false) } : Oper)) (v := ?_) rfl (by kernel_rfl) (by kernel_rfl) (by kernel_rfl) (fun _ _ _ h => h) (Or.inl ⟨by rfl, ?_⟩) hHeld ?_
  rotate_left
  · ((intro w hSw; obtain ⟨s1, s2, s3, s4, s5⟩ := CF.out _ hSw.out; go_simp); (try with_reducible rfl))
  (try simp only [Act.put, List.setIfInBounds_toArray, List.set_cons_zero, List.set_cons_succ])
  refine wpAnyH_ready (rs := [23]) (by kernel_rfl) (by simp) ?_
  refine AllReadyH.cons (o := ({ dst := some 30, op := Op.call { callee := Callee.value (Operand.func 22), args := #[Operand.tmp 29], argTypes := #[27] }, type := 25, pos := "cell.go:43", after := #[{ on := 22, ground := Ground.data }, { on := 20, ground := Ground.chain }, { on := 20, ground := Ground.guard }], guard := some (20, false) } : Oper)) rfl (fun K hK => ?_) (AllReadyH.nil)
  go_simp
  (with_reducible refine (CT.out _).mono ?_)
  rintro _ w2 ⟨rfl, b2⟩
  have A2 := Lib.hid b2
  clear b2
  refine hK.out _ _ ?_ (fun hHeld => ?_)
  · exact Lib.hid (K2.out.next A2.out)
  clear hK K
  (try simp only [Act.put, List.setIfInBounds_toArray, List.set_cons_zero, List.set_cons_succ])
  refine wpAnyH_ready (rs := [26]) (by kernel_rfl) (by simp) ?_
  refine AllReadyH.cons (o := ({ dst := some 33, op := Op.call { callee := Callee.value (Operand.func 21), args := #[Operand.tmp 32], argTypes := #[2] }, type := 25, pos := "cell.go:43", after := #[{ on := 25, ground := Ground.data }, { on := 23, ground := Ground.chain }, { on := 20, ground := Ground.guard }], guard := some (20, false) } : Oper)) rfl (fun K hK => ?_) (AllReadyH.nil)
  go_simp
  (with_reducible refine (CO.out _).mono ?_)
  rintro _ w3 ⟨rfl, b3⟩
  have A3 := Lib.hid (A2.out.trans (b3.mono A2.out.size))
  clear b3
  refine hK.out _ _ ?_ (fun hHeld => ?_)
  · exact Lib.hid (K2.out.next A3.out)
  clear hK K
  (try simp only [Act.put, List.setIfInBounds_toArray, List.set_cons_zero, List.set_cons_succ])
  refine wpAnyH_take (i := 27) (oi := ({ dst := some 34, op := Op.binOp BinOp.neq 25 (Operand.tmp 30) (Operand.tmp 33) 25, type := 4, pos := "cell.go:43", after := #[{ on := 23, ground := Ground.data }, { on := 26, ground := Ground.data }, { on := 20, ground := Ground.guard }], guard := some (20, false) } : Oper)) (v := .bool true) rfl (by kernel_rfl) (by kernel_rfl) (by kernel_rfl) (fun _ _ _ h => h) (Or.inl ⟨by rfl, fun w hSw => w_neq_at _ _ _ _ _ _ _ _ _ w rfl (by rfl) (by rfl) (fun W => w_neq_yes _ _ _ _ HNE.out W)⟩) hHeld ?_
  (try simp only [Act.put, List.setIfInBounds_toArray, List.set_cons_zero, List.set_cons_succ])
  refine wpAnyH_take (i := 28) (oi := ({ dst := some 35, op := Op.pick (Operand.tmp 27) (Operand.const (Value.bool true)) (Operand.tmp 34), type := 4, pos := "cell.go:43", after := #[{ on := 20, ground := Ground.data }, { on := 27, ground := Ground.data }], guard := none } : Oper)) (v := ?_) rfl (by kernel_rfl) (by kernel_rfl) (by kernel_rfl) (fun _ _ _ h => h) (Or.inl ⟨by rfl, ?_⟩) hHeld ?_
  rotate_left
  · ((intro w hSw; obtain ⟨s1, s2, s3, s4, s5⟩ := CF.out _ hSw.out; go_simp); (try with_reducible rfl))
  (try simp only [Act.put, List.setIfInBounds_toArray, List.set_cons_zero, List.set_cons_succ])
  refine wpAnyH_done (by kernel_rfl) ?_ _
  refine noPan_normal ?_
  have L3 := Lib.hid (L2.out.next A3.out)
  have B3 := Lib.hid (B2.out.trans (A3.out.mono B2.out.size))
  obtain ⟨r1, r2, r3⟩ := L3.out.one
  clear hHeld K2 L2 B2 A3
  go_wp2
  have Z := L3.out.set 0 (.bool false)
  have ZB : Below w.heap.size w (w3.setCell ⟨w.heap.size + 1, 0, none⟩ (.bool false)) := B3.out.setCell (by simp) _
  generalize w3.setCell ⟨w.heap.size + 1, 0, none⟩ (.bool false) = W8 at *
  obtain ⟨u1, u2, u3⟩ := Kept.one (x := .bool false) Z
  exact ⟨.bool false, by simp [results, Try.f12, go_sem, u1], FF.out _ ZB⟩
def RtP (x : Nat × Int) : Prop := x.1 < 65 ∧ InI x.2
abbrev RtT := {x : Nat × Int // RtP x}
structure RtC where
  g : Nat
  C : Array Value
  a : Nat
  b : Nat
  f : Nat
  l : Nat
def RtK (r : RtC) (W : World) : Prop := Kept W r.g r.C 29 ∧ Kept W (r.g + 1) #[.bool false] 4 ∧ Kept W r.a #[.int .i64 (r.f : Int)] 3 ∧ Kept W r.b #[.int .i64 (r.l : Int)] 3
def RtI (r : RtC) (pre : List RtT) (W : World) : Prop := (pre.map (fun x => x.1)).all (okB r.f r.l) = true ∧ RtK r W
def RtX (r : RtC) (c : Code) (pre : List RtT) (W : World) : Prop := c = .ret ∧ (pre.map (fun x => x.1)).all (okB r.f r.l) = false ∧ Kept W (r.g + 1) #[.bool false] 4
theorem rtK_own {r : RtC} {W W' : World} {row : Option Nat} (h : RtK r W) (hg : W.grownBy W' row) (hr : ∀ r, row = some r → ∃ o : Obj, W.heap[r]? = some o ∧ o.isCells = false) : RtK r W' := ⟨kept_own h.1 hg hr, kept_own h.2.1 hg hr, kept_own h.2.2.1 hg hr, kept_own h.2.2.2 hg hr⟩
theorem rtI_own (r : RtC) : Own (RtI r) := fun s A B row ⟨h0, h1⟩ hg hr => ⟨h0, rtK_own h1 hg hr⟩
theorem rtX_own (r : RtC) (c : Code) : Own (RtX r c) := fun s A B row ⟨h0, h1, h2⟩ hg hr => ⟨h0, h1, kept_own h2 hg hr⟩
def RtCut (w : World) (g : Nat) (C : Array Value) (f l : Nat) (x y : Value) (wx : World) : Prop := ∃ a b, x = .pointer (some ⟨a, 0, none⟩) ∧ y = .pointer (some ⟨b, 0, none⟩) ∧ Hid (RtK ⟨g, C, a, b, f, l⟩ wx ∧ Below w.heap.size w wx)
theorem kept_new2 {w : World} {x y : Value} {t u : TypeId} : Kept ((w.alloc (.cells #[x] t)).alloc (.cells #[y] u)) w.heap.size #[x] t ∧ Kept ((w.alloc (.cells #[x] t)).alloc (.cells #[y] u)) (w.heap.size + 1) #[y] u := ⟨(Kept.new rfl).alloc _, Kept.new (by simp)⟩
set_option maxHeartbeats 8000000 in
set_option maxRecDepth 1000000 in
theorem right_good (c : Ce) (w : World) (hc : CeIn c) (hp : preC c = true) (hs : isum c.H = c.n) : Calls Try.prog 12 #[.agg c.A] w (RtOut c w) := by
  have Fno : Hid ((fullF c.H 65).all (okB (bkt c.mn) (bkt c.mx)) = false → ∀ W, Below w.heap.size w W → RtOut c w (.returned (.bool false)) W) := Lib.hid fun h W hb => ⟨by unfold rtC; rw [h]; simp, hb⟩
  have Fyes : Hid ((fullF c.H 65).all (okB (bkt c.mn) (bkt c.mx)) = true → ∀ W, Below w.heap.size w W → RtOut c w (.returned (.bool (endC c))) W) := Lib.hid fun h W hb => ⟨by unfold rtC; rw [h, hp, decide_eq_true hs]; simp, hb⟩
  have hp' := hp
  unfold preC at hp'
  obtain ⟨p1, p2, p3, p4⟩ := of_decide_eq_true hp'
  have d1 : decide (c.n < 0) = false := decide_eq_false (by omega)
  have d2 : decide (c.ce < 0) = false := decide_eq_false (by omega)
  have d3 : decide (c.po < 0) = false := decide_eq_false (by omega)
  have d4 : decide (c.mx < c.mn) = false := decide_eq_false (by omega)
  have c72 : c.A.size = 72 := ce_size _ hc.len
  have K0 : Hid (Kept ((w.alloc (.cells c.A 29)).alloc (.cells #[.bool false] 4)) w.heap.size c.A 29) := Lib.hid ((Kept.new rfl).alloc _)
  have K1 : Hid (Kept ((w.alloc (.cells c.A 29)).alloc (.cells #[.bool false] 4)) (w.heap.size + 1) #[.bool false] 4) := Lib.hid (Kept.new (by simp))
  have B0 : Hid (Below w.heap.size w ((w.alloc (.cells c.A 29)).alloc (.cells #[.bool false] 4))) := Lib.hid ((one_alloc _ _).alloc (by simp) _)
  have CF : Hid (∀ W, Kept W w.heap.size c.A 29 → W.cell? ⟨w.heap.size, 0, none⟩ = some (.int .i64 c.n) ∧ W.cell? ⟨w.heap.size, 3, none⟩ = some (.int .i64 c.mn) ∧ W.cell? ⟨w.heap.size, 4, none⟩ = some (.int .i64 c.mx) ∧ W.cell? ⟨w.heap.size, 5, none⟩ = some (.int .i64 c.ce) ∧ W.cell? ⟨w.heap.size, 6, none⟩ = some (.int .i64 c.po)) := Lib.hid fun W h => ⟨h.cell7.1, h.cell7.2.2.2.1, h.cell7.2.2.2.2.1, h.cell7.2.2.2.2.2.1, h.cell7.2.2.2.2.2.2⟩
  have R7 : Hid (∀ W, Kept W w.heap.size c.A 29 → W.rangeAt w.heap.size 7 (hC c.H).toList) := Lib.hid fun W h => h.range7
  have CT := Lib.hid (fun W => total_any c.H W hc.len hc.H)
  have CO := Lib.hid (fun W => wof_any c.n W hc.n)
  have d65 : (hC c.H).size = 65 := by rw [hC_size]; exact hc.len
  rw [hs] at CT
  have CBa := Lib.hid (fun W => bucket_any c.mn W hc.mn)
  have CBb := Lib.hid (fun W => bucket_any c.mx W hc.mx)
  have bk1 := bkt_lt hc.mn
  have bk2 := bkt_lt hc.mx
  have HH := Lib.hid hc
  have CFu := Lib.hid (fun W => full_any c.H hc.len W)
  have FS := Lib.hid (fun (B : Nat) (W : World) (hB : B < W.heap.size) (hc' : Kept W B (hC c.H) 27) => full_stops Fence.wide 7 trivial rfl (by decide) B w.heap.size c.H hc.len RtP (fun k hk => ⟨hk, hc.H k hk⟩) W hB hc')
  have HE : Hid (∀ W : World, Kept W w.heap.size c.A 29 → (∀ k : Nat, k < 65 → W.cell? ⟨w.heap.size, 7 + k, none⟩ = some (.int .i64 (c.H.getD k 0)))) := Lib.hid fun W h k hk => by
    rw [(h.at_ (7 + k)).1]
    show (ceL c.n (hiW c.z) (loW c.z) c.mn c.mx c.ce c.po c.H).toArray[7 + k]? = _
    rw [List.getElem?_toArray, ceL_hist _ _ _ _ _ _ _ _ k (by rw [hc.len]; exact hk)]
  unfold wI at CT CO
  generalize hiW c.n = nh at *
  generalize loW c.n = nl at *
  obtain ⟨D, hD⟩ : ∃ D, hC c.H = D := ⟨_, rfl⟩
  rw [hD] at R7 CT d65 CFu FS
  have dl : (Try.prog.info? 27).map (·.size) = some D.toList.length := by rw [Array.length_toList, d65]; exact h_info
  obtain ⟨n, hn⟩ : ∃ n, c.n = n := ⟨_, rfl⟩
  obtain ⟨mn, hmn⟩ : ∃ n, c.mn = n := ⟨_, rfl⟩
  obtain ⟨mx, hmx⟩ : ∃ n, c.mx = n := ⟨_, rfl⟩
  obtain ⟨ce, hce⟩ : ∃ n, c.ce = n := ⟨_, rfl⟩
  obtain ⟨po, hpo⟩ : ∃ n, c.po = n := ⟨_, rfl⟩
  obtain ⟨C, hC1⟩ : ∃ C, c.A = C := ⟨_, rfl⟩
  rw [hn] at CF CO d1
  rw [hmn] at CF CBa d4 bk1 Fno Fyes
  rw [hmx] at CF CBb d4 bk2 Fno Fyes
  rw [hce] at CF d2
  rw [hpo] at CF d3
  rw [hC1] at CF R7 K0 K1 B0 HE
  rw [hC1]
  have EQS := Lib.hid (⟨hn, hmn, hmx⟩ : c.n = n ∧ c.mn = mn ∧ c.mx = mx)
  have EQC := Lib.hid hC1
  obtain ⟨fb, hfb⟩ : ∃ n, bkt mn = n := ⟨_, rfl⟩
  obtain ⟨lb, hlb⟩ : ∃ n, bkt mx = n := ⟨_, rfl⟩
  rw [hfb] at CBa bk1 Fno Fyes
  rw [hlb] at CBb bk2 Fno Fyes
  have EQB := Lib.hid (⟨hfb, hlb⟩ : bkt mn = fb ∧ bkt mx = lb)
  clear hp hp' p1 p2 p3 p4 hs hc hD hn hmn hmx hce hpo hC1 hfb hlb
  refine (callsIn_wide (n := 8)).1 ?_
  refine callsIn_of_wp_marks Try.func12 rfl trivial ?_ rfl
  refine wpIn_wide.2 ?_
  simp only [Try.ntmps12, List.size_toArray, List.length_cons, List.length_nil, Nat.reduceAdd, Nat.reduceSub, Array.replicate_succ, Array.replicate_zero, List.push_toArray, List.append_toArray, List.nil_append, List.cons_append]
  go_wp2
  generalize (w.alloc (.cells C 29)).alloc (.cells #[.bool false] 4) = W at *
  have K2 : Hid (Kept W.drew w.heap.size C 29) := Lib.hid (K0.out.drewN 1)
  have L2 : Hid (Kept W.drew (w.heap.size + 1) #[.bool false] 4) := Lib.hid (K1.out.drewN 1)
  have B2 : Hid (Below w.heap.size w W.drew) := Lib.hid B0.out.drew
  clear K0 K1 B0
  refine Code.wp_mono (fun e a w q => noPan_out q) ?_
  refine wp_region_held_drew (S := fun W' => Hid (Kept W' w.heap.size C 29)) (by kernel_rfl) K2 (fun hHeld => ?_)
  generalize W.drew = v2 at *
  refine wpAnyH_take (i := 0) (oi := ({ dst := some 7, op := Op.fieldAddr 29 (Operand.tmp 1) 0, type := 0, pos := "cell.go:43", after := #[], guard := none } : Oper)) (v := ?_) rfl (by kernel_rfl) (by kernel_rfl) (by kernel_rfl) (fun _ _ _ h => h) (Or.inl ⟨by rfl, ?_⟩) hHeld ?_
  rotate_left
  · ((intro w hSw; obtain ⟨s1, s2, s3, s4, s5⟩ := CF.out _ hSw.out; go_simp); (try with_reducible rfl))
  (try simp only [Act.put, List.setIfInBounds_toArray, List.set_cons_zero, List.set_cons_succ])
  refine wpAnyH_take (i := 1) (oi := ({ dst := some 8, op := Op.load 2 (Operand.tmp 7), type := 2, pos := "cell.go:43", after := #[{ on := 0, ground := Ground.data }], guard := none } : Oper)) (v := ?_) rfl (by kernel_rfl) (by kernel_rfl) (by kernel_rfl) (fun _ _ _ h => h) (Or.inl ⟨by rfl, ?_⟩) hHeld ?_
  rotate_left
  · ((intro w hSw; obtain ⟨s1, s2, s3, s4, s5⟩ := CF.out _ hSw.out; go_simp); (try with_reducible rfl))
  (try simp only [Act.put, List.setIfInBounds_toArray, List.set_cons_zero, List.set_cons_succ])
  refine wpAnyH_take (i := 2) (oi := ({ dst := some 9, op := Op.binOp BinOp.lss 2 (Operand.tmp 8) (Operand.const (Value.int IntKind.i64 0)) 2, type := 4, pos := "cell.go:43", after := #[{ on := 1, ground := Ground.data }], guard := none } : Oper)) (v := ?_) rfl (by kernel_rfl) (by kernel_rfl) (by kernel_rfl) (fun _ _ _ h => h) (Or.inl ⟨by rfl, ?_⟩) hHeld ?_
  rotate_left
  · ((intro w hSw; obtain ⟨s1, s2, s3, s4, s5⟩ := CF.out _ hSw.out; go_simp); (try with_reducible rfl))
  (try simp only [Act.put, List.setIfInBounds_toArray, List.set_cons_zero, List.set_cons_succ])
  refine wpAnyH_take (i := 3) (oi := ({ dst := some 10, op := Op.move (Operand.tmp 9), type := 4, pos := "cell.go:43", after := #[{ on := 2, ground := Ground.data }], guard := none } : Oper)) (v := ?_) rfl (by kernel_rfl) (by kernel_rfl) (by kernel_rfl) (fun _ _ _ h => h) (Or.inl ⟨by rfl, ?_⟩) hHeld ?_
  rotate_left
  · ((intro w hSw; obtain ⟨s1, s2, s3, s4, s5⟩ := CF.out _ hSw.out; go_simp); (try with_reducible rfl))
  (try simp only [Act.put, List.setIfInBounds_toArray, List.set_cons_zero, List.set_cons_succ])
  refine wpAnyH_take (i := 4) (oi := ({ dst := some 11, op := Op.fieldAddr 29 (Operand.tmp 1) 4, type := 0, pos := "cell.go:43", after := #[{ on := 3, ground := Ground.guard }], guard := some (3, false) } : Oper)) (v := ?_) rfl (by kernel_rfl) (by kernel_rfl) (by kernel_rfl) (fun _ _ _ h => h) (Or.inl ⟨by rfl, ?_⟩) hHeld ?_
  rotate_left
  · ((intro w hSw; obtain ⟨s1, s2, s3, s4, s5⟩ := CF.out _ hSw.out; go_simp); (try with_reducible rfl))
  (try simp only [Act.put, List.setIfInBounds_toArray, List.set_cons_zero, List.set_cons_succ])
  refine wpAnyH_take (i := 5) (oi := ({ dst := some 12, op := Op.load 2 (Operand.tmp 11), type := 2, pos := "cell.go:43", after := #[{ on := 4, ground := Ground.data }, { on := 3, ground := Ground.guard }], guard := some (3, false) } : Oper)) (v := ?_) rfl (by kernel_rfl) (by kernel_rfl) (by kernel_rfl) (fun _ _ _ h => h) (Or.inl ⟨by rfl, ?_⟩) hHeld ?_
  rotate_left
  · ((intro w hSw; obtain ⟨s1, s2, s3, s4, s5⟩ := CF.out _ hSw.out; go_simp); (try with_reducible rfl))
  (try simp only [Act.put, List.setIfInBounds_toArray, List.set_cons_zero, List.set_cons_succ])
  refine wpAnyH_take (i := 6) (oi := ({ dst := some 13, op := Op.binOp BinOp.lss 2 (Operand.tmp 12) (Operand.const (Value.int IntKind.i64 0)) 2, type := 4, pos := "cell.go:43", after := #[{ on := 5, ground := Ground.data }, { on := 3, ground := Ground.guard }], guard := some (3, false) } : Oper)) (v := ?_) rfl (by kernel_rfl) (by kernel_rfl) (by kernel_rfl) (fun _ _ _ h => h) (Or.inl ⟨by rfl, ?_⟩) hHeld ?_
  rotate_left
  · ((intro w hSw; obtain ⟨s1, s2, s3, s4, s5⟩ := CF.out _ hSw.out; go_simp); (try with_reducible rfl))
  (try simp only [Act.put, List.setIfInBounds_toArray, List.set_cons_zero, List.set_cons_succ])
  refine wpAnyH_take (i := 7) (oi := ({ dst := some 14, op := Op.pick (Operand.tmp 10) (Operand.const (Value.bool true)) (Operand.tmp 13), type := 4, pos := "cell.go:43", after := #[{ on := 3, ground := Ground.data }, { on := 6, ground := Ground.data }], guard := none } : Oper)) (v := ?_) rfl (by kernel_rfl) (by kernel_rfl) (by kernel_rfl) (fun _ _ _ h => h) (Or.inl ⟨by rfl, ?_⟩) hHeld ?_
  rotate_left
  · ((intro w hSw; obtain ⟨s1, s2, s3, s4, s5⟩ := CF.out _ hSw.out; go_simp); (try with_reducible rfl))
  (try simp only [Act.put, List.setIfInBounds_toArray, List.set_cons_zero, List.set_cons_succ])
  refine wpAnyH_take (i := 8) (oi := ({ dst := some 15, op := Op.move (Operand.tmp 14), type := 4, pos := "cell.go:43", after := #[{ on := 7, ground := Ground.data }, { on := 3, ground := Ground.chain }], guard := none } : Oper)) (v := ?_) rfl (by kernel_rfl) (by kernel_rfl) (by kernel_rfl) (fun _ _ _ h => h) (Or.inl ⟨by rfl, ?_⟩) hHeld ?_
  rotate_left
  · ((intro w hSw; obtain ⟨s1, s2, s3, s4, s5⟩ := CF.out _ hSw.out; go_simp); (try with_reducible rfl))
  (try simp only [Act.put, List.setIfInBounds_toArray, List.set_cons_zero, List.set_cons_succ])
  refine wpAnyH_take (i := 9) (oi := ({ dst := some 16, op := Op.fieldAddr 29 (Operand.tmp 1) 5, type := 0, pos := "cell.go:43", after := #[{ on := 8, ground := Ground.guard }], guard := some (8, false) } : Oper)) (v := ?_) rfl (by kernel_rfl) (by kernel_rfl) (by kernel_rfl) (fun _ _ _ h => h) (Or.inl ⟨by rfl, ?_⟩) hHeld ?_
  rotate_left
  · ((intro w hSw; obtain ⟨s1, s2, s3, s4, s5⟩ := CF.out _ hSw.out; go_simp); (try with_reducible rfl))
  (try simp only [Act.put, List.setIfInBounds_toArray, List.set_cons_zero, List.set_cons_succ])
  refine wpAnyH_take (i := 10) (oi := ({ dst := some 17, op := Op.load 2 (Operand.tmp 16), type := 2, pos := "cell.go:43", after := #[{ on := 9, ground := Ground.data }, { on := 8, ground := Ground.guard }], guard := some (8, false) } : Oper)) (v := ?_) rfl (by kernel_rfl) (by kernel_rfl) (by kernel_rfl) (fun _ _ _ h => h) (Or.inl ⟨by rfl, ?_⟩) hHeld ?_
  rotate_left
  · ((intro w hSw; obtain ⟨s1, s2, s3, s4, s5⟩ := CF.out _ hSw.out; go_simp); (try with_reducible rfl))
  (try simp only [Act.put, List.setIfInBounds_toArray, List.set_cons_zero, List.set_cons_succ])
  refine wpAnyH_take (i := 11) (oi := ({ dst := some 18, op := Op.binOp BinOp.lss 2 (Operand.tmp 17) (Operand.const (Value.int IntKind.i64 0)) 2, type := 4, pos := "cell.go:43", after := #[{ on := 10, ground := Ground.data }, { on := 8, ground := Ground.guard }], guard := some (8, false) } : Oper)) (v := ?_) rfl (by kernel_rfl) (by kernel_rfl) (by kernel_rfl) (fun _ _ _ h => h) (Or.inl ⟨by rfl, ?_⟩) hHeld ?_
  rotate_left
  · ((intro w hSw; obtain ⟨s1, s2, s3, s4, s5⟩ := CF.out _ hSw.out; go_simp); (try with_reducible rfl))
  (try simp only [Act.put, List.setIfInBounds_toArray, List.set_cons_zero, List.set_cons_succ])
  refine wpAnyH_take (i := 12) (oi := ({ dst := some 19, op := Op.pick (Operand.tmp 15) (Operand.const (Value.bool true)) (Operand.tmp 18), type := 4, pos := "cell.go:43", after := #[{ on := 8, ground := Ground.data }, { on := 11, ground := Ground.data }], guard := none } : Oper)) (v := ?_) rfl (by kernel_rfl) (by kernel_rfl) (by kernel_rfl) (fun _ _ _ h => h) (Or.inl ⟨by rfl, ?_⟩) hHeld ?_
  rotate_left
  · ((intro w hSw; obtain ⟨s1, s2, s3, s4, s5⟩ := CF.out _ hSw.out; go_simp); (try with_reducible rfl))
  (try simp only [Act.put, List.setIfInBounds_toArray, List.set_cons_zero, List.set_cons_succ])
  refine wpAnyH_take (i := 13) (oi := ({ dst := some 20, op := Op.move (Operand.tmp 19), type := 4, pos := "cell.go:43", after := #[{ on := 12, ground := Ground.data }, { on := 8, ground := Ground.chain }], guard := none } : Oper)) (v := ?_) rfl (by kernel_rfl) (by kernel_rfl) (by kernel_rfl) (fun _ _ _ h => h) (Or.inl ⟨by rfl, ?_⟩) hHeld ?_
  rotate_left
  · ((intro w hSw; obtain ⟨s1, s2, s3, s4, s5⟩ := CF.out _ hSw.out; go_simp); (try with_reducible rfl))
  (try simp only [Act.put, List.setIfInBounds_toArray, List.set_cons_zero, List.set_cons_succ])
  refine wpAnyH_take (i := 14) (oi := ({ dst := some 21, op := Op.fieldAddr 29 (Operand.tmp 1) 2, type := 0, pos := "cell.go:43", after := #[{ on := 13, ground := Ground.guard }], guard := some (13, false) } : Oper)) (v := ?_) rfl (by kernel_rfl) (by kernel_rfl) (by kernel_rfl) (fun _ _ _ h => h) (Or.inl ⟨by rfl, ?_⟩) hHeld ?_
  rotate_left
  · ((intro w hSw; obtain ⟨s1, s2, s3, s4, s5⟩ := CF.out _ hSw.out; go_simp); (try with_reducible rfl))
  (try simp only [Act.put, List.setIfInBounds_toArray, List.set_cons_zero, List.set_cons_succ])
  refine wpAnyH_take (i := 15) (oi := ({ dst := some 22, op := Op.load 2 (Operand.tmp 21), type := 2, pos := "cell.go:43", after := #[{ on := 14, ground := Ground.data }, { on := 13, ground := Ground.guard }], guard := some (13, false) } : Oper)) (v := ?_) rfl (by kernel_rfl) (by kernel_rfl) (by kernel_rfl) (fun _ _ _ h => h) (Or.inl ⟨by rfl, ?_⟩) hHeld ?_
  rotate_left
  · ((intro w hSw; obtain ⟨s1, s2, s3, s4, s5⟩ := CF.out _ hSw.out; go_simp); (try with_reducible rfl))
  (try simp only [Act.put, List.setIfInBounds_toArray, List.set_cons_zero, List.set_cons_succ])
  refine wpAnyH_take (i := 16) (oi := ({ dst := some 23, op := Op.fieldAddr 29 (Operand.tmp 1) 3, type := 0, pos := "cell.go:43", after := #[{ on := 13, ground := Ground.guard }], guard := some (13, false) } : Oper)) (v := ?_) rfl (by kernel_rfl) (by kernel_rfl) (by kernel_rfl) (fun _ _ _ h => h) (Or.inl ⟨by rfl, ?_⟩) hHeld ?_
  rotate_left
  · ((intro w hSw; obtain ⟨s1, s2, s3, s4, s5⟩ := CF.out _ hSw.out; go_simp); (try with_reducible rfl))
  (try simp only [Act.put, List.setIfInBounds_toArray, List.set_cons_zero, List.set_cons_succ])
  refine wpAnyH_take (i := 17) (oi := ({ dst := some 24, op := Op.load 2 (Operand.tmp 23), type := 2, pos := "cell.go:43", after := #[{ on := 16, ground := Ground.data }, { on := 13, ground := Ground.guard }], guard := some (13, false) } : Oper)) (v := ?_) rfl (by kernel_rfl) (by kernel_rfl) (by kernel_rfl) (fun _ _ _ h => h) (Or.inl ⟨by rfl, ?_⟩) hHeld ?_
  rotate_left
  · ((intro w hSw; obtain ⟨s1, s2, s3, s4, s5⟩ := CF.out _ hSw.out; go_simp); (try with_reducible rfl))
  (try simp only [Act.put, List.setIfInBounds_toArray, List.set_cons_zero, List.set_cons_succ])
  refine wpAnyH_take (i := 18) (oi := ({ dst := some 25, op := Op.binOp BinOp.gtr 2 (Operand.tmp 22) (Operand.tmp 24) 2, type := 4, pos := "cell.go:43", after := #[{ on := 15, ground := Ground.data }, { on := 17, ground := Ground.data }, { on := 13, ground := Ground.guard }], guard := some (13, false) } : Oper)) (v := ?_) rfl (by kernel_rfl) (by kernel_rfl) (by kernel_rfl) (fun _ _ _ h => h) (Or.inl ⟨by rfl, ?_⟩) hHeld ?_
  rotate_left
  · ((intro w hSw; obtain ⟨s1, s2, s3, s4, s5⟩ := CF.out _ hSw.out; go_simp); (try with_reducible rfl))
  (try simp only [Act.put, List.setIfInBounds_toArray, List.set_cons_zero, List.set_cons_succ])
  refine wpAnyH_take (i := 19) (oi := ({ dst := some 26, op := Op.pick (Operand.tmp 20) (Operand.const (Value.bool true)) (Operand.tmp 25), type := 4, pos := "cell.go:43", after := #[{ on := 13, ground := Ground.data }, { on := 18, ground := Ground.data }], guard := none } : Oper)) (v := ?_) rfl (by kernel_rfl) (by kernel_rfl) (by kernel_rfl) (fun _ _ _ h => h) (Or.inl ⟨by rfl, ?_⟩) hHeld ?_
  rotate_left
  · ((intro w hSw; obtain ⟨s1, s2, s3, s4, s5⟩ := CF.out _ hSw.out; go_simp); (try with_reducible rfl))
  (try simp only [Act.put, List.setIfInBounds_toArray, List.set_cons_zero, List.set_cons_succ])
  refine wpAnyH_take (i := 20) (oi := ({ dst := some 27, op := Op.move (Operand.tmp 26), type := 4, pos := "cell.go:43", after := #[{ on := 19, ground := Ground.data }, { on := 13, ground := Ground.chain }], guard := none } : Oper)) (v := ?_) rfl (by kernel_rfl) (by kernel_rfl) (by kernel_rfl) (fun _ _ _ h => h) (Or.inl ⟨by rfl, ?_⟩) hHeld ?_
  rotate_left
  · ((intro w hSw; obtain ⟨s1, s2, s3, s4, s5⟩ := CF.out _ hSw.out; go_simp); (try with_reducible rfl))
  (try simp only [Act.put, List.setIfInBounds_toArray, List.set_cons_zero, List.set_cons_succ])
  refine wpAnyH_take (i := 21) (oi := ({ dst := some 28, op := Op.fieldAddr 29 (Operand.tmp 1) 6, type := 0, pos := "cell.go:43", after := #[{ on := 20, ground := Ground.guard }], guard := some (20, false) } : Oper)) (v := ?_) rfl (by kernel_rfl) (by kernel_rfl) (by kernel_rfl) (fun _ _ _ h => h) (Or.inl ⟨by rfl, ?_⟩) hHeld ?_
  rotate_left
  · ((intro w hSw; obtain ⟨s1, s2, s3, s4, s5⟩ := CF.out _ hSw.out; go_simp); (try with_reducible rfl))
  (try simp only [Act.put, List.setIfInBounds_toArray, List.set_cons_zero, List.set_cons_succ])
  refine wpAnyH_take (i := 22) (oi := ({ dst := some 29, op := Op.load 27 (Operand.tmp 28), type := 27, pos := "cell.go:43", after := #[{ on := 21, ground := Ground.data }, { on := 20, ground := Ground.guard }], guard := some (20, false) } : Oper)) (v := .agg D) rfl (by kernel_rfl) (by kernel_rfl) (by kernel_rfl) (fun _ _ _ h => h) (yieldsIf_load_mid (by rfl) 27 _ rfl w.heap.size 7 rfl D.toList _ (fun w' hw' => R7.out w' (by exact hw'.out)) h_under rfl dl) hHeld ?_
  (try simp only [Act.put, List.setIfInBounds_toArray, List.set_cons_zero, List.set_cons_succ])
  refine wpAnyH_take (i := 24) (oi := ({ dst := some 31, op := Op.fieldAddr 29 (Operand.tmp 1) 0, type := 0, pos := "cell.go:43", after := #[{ on := 20, ground := Ground.guard }], guard := some (20, false) } : Oper)) (v := ?_) rfl (by kernel_rfl) (by kernel_rfl) (by kernel_rfl) (fun _ _ _ h => h) (Or.inl ⟨by rfl, ?_⟩) hHeld ?_
  rotate_left
  · ((intro w hSw; obtain ⟨s1, s2, s3, s4, s5⟩ := CF.out _ hSw.out; go_simp); (try with_reducible rfl))
  (try simp only [Act.put, List.setIfInBounds_toArray, List.set_cons_zero, List.set_cons_succ])
  refine wpAnyH_take (i := 25) (oi := ({ dst := some 32, op := Op.load 2 (Operand.tmp 31), type := 2, pos := "cell.go:43", after := #[{ on := 24, ground := Ground.data }, { on := 20, ground := Ground.guard }], guard := some (20, false) } : Oper)) (v := ?_) rfl (by kernel_rfl) (by kernel_rfl) (by kernel_rfl) (fun _ _ _ h => h) (Or.inl ⟨by rfl, ?_⟩) hHeld ?_
  rotate_left
  · ((intro w hSw; obtain ⟨s1, s2, s3, s4, s5⟩ := CF.out _ hSw.out; go_simp); (try with_reducible rfl))
  (try simp only [Act.put, List.setIfInBounds_toArray, List.set_cons_zero, List.set_cons_succ])
  refine wpAnyH_ready (rs := [23]) (by kernel_rfl) (by simp) ?_
  refine AllReadyH.cons (o := ({ dst := some 30, op := Op.call { callee := Callee.value (Operand.func 22), args := #[Operand.tmp 29], argTypes := #[27] }, type := 25, pos := "cell.go:43", after := #[{ on := 22, ground := Ground.data }, { on := 20, ground := Ground.chain }, { on := 20, ground := Ground.guard }], guard := some (20, false) } : Oper)) rfl (fun K hK => ?_) (AllReadyH.nil)
  go_simp
  (with_reducible refine (CT.out _).mono ?_)
  rintro _ w2 ⟨rfl, b2⟩
  have A2 := Lib.hid b2
  clear b2
  refine hK.out _ _ ?_ (fun hHeld => ?_)
  · exact Lib.hid (K2.out.next A2.out)
  clear hK K
  (try simp only [Act.put, List.setIfInBounds_toArray, List.set_cons_zero, List.set_cons_succ])
  refine wpAnyH_ready (rs := [26]) (by kernel_rfl) (by simp) ?_
  refine AllReadyH.cons (o := ({ dst := some 33, op := Op.call { callee := Callee.value (Operand.func 21), args := #[Operand.tmp 32], argTypes := #[2] }, type := 25, pos := "cell.go:43", after := #[{ on := 25, ground := Ground.data }, { on := 23, ground := Ground.chain }, { on := 20, ground := Ground.guard }], guard := some (20, false) } : Oper)) rfl (fun K hK => ?_) (AllReadyH.nil)
  go_simp
  (with_reducible refine (CO.out _).mono ?_)
  rintro _ w3 ⟨rfl, b3⟩
  have A3 := Lib.hid (A2.out.trans (b3.mono A2.out.size))
  clear b3
  refine hK.out _ _ ?_ (fun hHeld => ?_)
  · exact Lib.hid (K2.out.next A3.out)
  clear hK K
  (try simp only [Act.put, List.setIfInBounds_toArray, List.set_cons_zero, List.set_cons_succ])
  refine wpAnyH_take (i := 27) (oi := ({ dst := some 34, op := Op.binOp BinOp.neq 25 (Operand.tmp 30) (Operand.tmp 33) 25, type := 4, pos := "cell.go:43", after := #[{ on := 23, ground := Ground.data }, { on := 26, ground := Ground.data }, { on := 20, ground := Ground.guard }], guard := some (20, false) } : Oper)) (v := .bool false) rfl (by kernel_rfl) (by kernel_rfl) (by kernel_rfl) (fun _ _ _ h => h) (Or.inl ⟨by rfl, fun w hSw => w_neq_at _ _ _ _ _ _ _ _ _ w rfl (by rfl) (by rfl) (fun W => w_neq_no _ _ W)⟩) hHeld ?_
  (try simp only [Act.put, List.setIfInBounds_toArray, List.set_cons_zero, List.set_cons_succ])
  refine wpAnyH_take (i := 28) (oi := ({ dst := some 35, op := Op.pick (Operand.tmp 27) (Operand.const (Value.bool true)) (Operand.tmp 34), type := 4, pos := "cell.go:43", after := #[{ on := 20, ground := Ground.data }, { on := 27, ground := Ground.data }], guard := none } : Oper)) (v := ?_) rfl (by kernel_rfl) (by kernel_rfl) (by kernel_rfl) (fun _ _ _ h => h) (Or.inl ⟨by rfl, ?_⟩) hHeld ?_
  rotate_left
  · ((intro w hSw; obtain ⟨s1, s2, s3, s4, s5⟩ := CF.out _ hSw.out; go_simp); (try with_reducible rfl))
  (try simp only [Act.put, List.setIfInBounds_toArray, List.set_cons_zero, List.set_cons_succ])
  refine wpAnyH_done (by kernel_rfl) ?_ _
  refine noPan_normal ?_
  have L3 := Lib.hid (L2.out.next A3.out)
  have K3 := Lib.hid (K2.out.next A3.out)
  have B3 := Lib.hid (B2.out.trans (A3.out.mono B2.out.size))
  clear hHeld K2 L2 B2 A3 A2 CT CO
  go_upto_region 3 with fail
  go_cut [3, 4] from 36 to 41 (fun x y wx => RtCut w w.heap.size C fb lb x y wx)
  case first =>
    obtain ⟨s1, s2, s3, s4, s5⟩ := CF.out _ K3.out
    have FX : Hid (∀ (W : World) (a b : Nat), Below w3.heap.size w3 W → Kept W a #[.int .i64 (fb : Int)] 3 → Kept W b #[.int .i64 (lb : Int)] 3 → RtCut w w.heap.size C fb lb (.pointer (some ⟨a, 0, none⟩)) (.pointer (some ⟨b, 0, none⟩)) W) := Lib.hid fun W a b hb h1 h2 => ⟨a, b, rfl, rfl, Lib.hid ⟨⟨K3.out.next hb, L3.out.next hb, h1, h2⟩, B3.out.trans (hb.mono B3.out.size)⟩⟩
    clear Fno Fyes FS CFu HH HE EQS EQC EQB R7 s1 s2 s3 s4 s5
    have K4 : Hid (Kept w3.drew w.heap.size C 29) := Lib.hid (K3.out.drewN 1)
    have D0 : Hid (Below w3.heap.size w3 w3.drew) := Lib.hid (Below.refl _ _).drew
    clear K3 L3 B3
    refine Code.wp_mono (fun e a w q => noPan_out q) ?_
    refine wp_region_held_drew (S := fun W' => Hid (Kept W' w.heap.size C 29)) (by kernel_rfl) K4 (fun hHeld => ?_)
    generalize w3.drew = v0 at *
    have A0 : Hid (Below v0.heap.size v0 v0) := Lib.hid (Below.refl _ _)
    refine wpAnyH_take (i := 0) (oi := ({ dst := some 36, op := Op.fieldAddr 29 (Operand.tmp 1) 2, type := 0, pos := "cell.go:46", after := #[], guard := none } : Oper)) (v := ?_) rfl (by kernel_rfl) (by kernel_rfl) (by kernel_rfl) (fun _ _ _ h => h) (Or.inl ⟨by rfl, ?_⟩) hHeld ?_
    rotate_left
    · ((intro w hSw; obtain ⟨s1, s2, s3, s4, s5⟩ := CF.out _ hSw.out; go_simp); (try with_reducible rfl))
    (try simp only [Act.put, List.setIfInBounds_toArray, List.set_cons_zero, List.set_cons_succ])
    refine wpAnyH_take (i := 1) (oi := ({ dst := some 37, op := Op.load 2 (Operand.tmp 36), type := 2, pos := "cell.go:46", after := #[{ on := 0, ground := Ground.data }], guard := none } : Oper)) (v := ?_) rfl (by kernel_rfl) (by kernel_rfl) (by kernel_rfl) (fun _ _ _ h => h) (Or.inl ⟨by rfl, ?_⟩) hHeld ?_
    rotate_left
    · ((intro w hSw; obtain ⟨s1, s2, s3, s4, s5⟩ := CF.out _ hSw.out; go_simp); (try with_reducible rfl))
    (try simp only [Act.put, List.setIfInBounds_toArray, List.set_cons_zero, List.set_cons_succ])
    refine wpAnyH_take (i := 3) (oi := ({ dst := some 39, op := Op.fieldAddr 29 (Operand.tmp 1) 3, type := 0, pos := "cell.go:46", after := #[], guard := none } : Oper)) (v := ?_) rfl (by kernel_rfl) (by kernel_rfl) (by kernel_rfl) (fun _ _ _ h => h) (Or.inl ⟨by rfl, ?_⟩) hHeld ?_
    rotate_left
    · ((intro w hSw; obtain ⟨s1, s2, s3, s4, s5⟩ := CF.out _ hSw.out; go_simp); (try with_reducible rfl))
    (try simp only [Act.put, List.setIfInBounds_toArray, List.set_cons_zero, List.set_cons_succ])
    refine wpAnyH_take (i := 4) (oi := ({ dst := some 40, op := Op.load 2 (Operand.tmp 39), type := 2, pos := "cell.go:46", after := #[{ on := 3, ground := Ground.data }], guard := none } : Oper)) (v := ?_) rfl (by kernel_rfl) (by kernel_rfl) (by kernel_rfl) (fun _ _ _ h => h) (Or.inl ⟨by rfl, ?_⟩) hHeld ?_
    rotate_left
    · ((intro w hSw; obtain ⟨s1, s2, s3, s4, s5⟩ := CF.out _ hSw.out; go_simp); (try with_reducible rfl))
    (try simp only [Act.put, List.setIfInBounds_toArray, List.set_cons_zero, List.set_cons_succ])
    refine wpAnyH_ready (rs := [2, 6, 7]) (by kernel_rfl) (by simp) ?_
    refine AllReadyH.cons (o := ({ dst := some 38, op := Op.call { callee := Callee.value (Operand.func 30), args := #[Operand.tmp 37], argTypes := #[2] }, type := 3, pos := "cell.go:46", after := #[{ on := 1, ground := Ground.data }], guard := none } : Oper)) rfl (fun K hK => ?_) (AllReadyH.cons (o := ({ dst := some 3, op := Op.alloc 3, type := 0, pos := "cell.go:46", after := #[], guard := none } : Oper)) rfl (fun K hK => ?_) (AllReadyH.cons (o := ({ dst := some 4, op := Op.alloc 3, type := 0, pos := "cell.go:46", after := #[], guard := none } : Oper)) rfl (fun K hK => ?_) (AllReadyH.nil)))
    · go_simp
      (with_reducible refine (CBa.out _).mono ?_)
      rintro _ vq ⟨rfl, hvq⟩
      have hvr := hvq.symm
      clear hvq
      subst hvr
      refine hK.out _ _ ?_ (fun hHeld => ?_)
      · exact Lib.hid (K4.out.next A0.out)
      clear hK K
      (try simp only [Act.put, List.setIfInBounds_toArray, List.set_cons_zero, List.set_cons_succ])
      refine wpAnyH_ready (rs := [5, 6, 7]) (by kernel_rfl) (by simp) ?_
      refine AllReadyH.cons (o := ({ dst := some 41, op := Op.call { callee := Callee.value (Operand.func 30), args := #[Operand.tmp 40], argTypes := #[2] }, type := 3, pos := "cell.go:46", after := #[{ on := 4, ground := Ground.data }, { on := 2, ground := Ground.chain }], guard := none } : Oper)) rfl (fun K hK => ?_) (AllReadyH.cons (o := ({ dst := some 3, op := Op.alloc 3, type := 0, pos := "cell.go:46", after := #[], guard := none } : Oper)) rfl (fun K hK => ?_) (AllReadyH.cons (o := ({ dst := some 4, op := Op.alloc 3, type := 0, pos := "cell.go:46", after := #[], guard := none } : Oper)) rfl (fun K hK => ?_) (AllReadyH.nil)))
      · go_simp
        (with_reducible refine (CBb.out _).mono ?_)
        rintro _ vq ⟨rfl, hvq⟩
        have hvr := hvq.symm
        clear hvq
        subst hvr
        refine hK.out _ _ ?_ (fun hHeld => ?_)
        · exact Lib.hid (K4.out.next A0.out)
        clear hK K
        (try simp only [Act.put, List.setIfInBounds_toArray, List.set_cons_zero, List.set_cons_succ])
        refine wpAnyH_ready (rs := [6, 7]) (by kernel_rfl) (by simp) ?_
        refine AllReadyH.cons (o := ({ dst := some 3, op := Op.alloc 3, type := 0, pos := "cell.go:46", after := #[], guard := none } : Oper)) rfl (fun K hK => ?_) (AllReadyH.cons (o := ({ dst := some 4, op := Op.alloc 3, type := 0, pos := "cell.go:46", after := #[], guard := none } : Oper)) rfl (fun K hK => ?_) (AllReadyH.nil))
        · go_simp
          have Ka3 : Hid (Kept (v0.alloc (.cells #[.int .i64 0] 3)) v0.heap.size #[.int .i64 0] 3) := Lib.hid (Kept.new rfl)
          have A3 := Lib.hid (A0.out.alloc A0.out.size (.cells #[.int .i64 0] 3))
          have Ga : Hid (v0.heap.size ≤ v0.heap.size) := Lib.hid A0.out.size
          refine hK.out _ _ ?_ (fun hHeld => ?_)
          · exact Lib.hid (K4.out.next A3.out)
          clear hK K
          (try simp only [Act.put, List.setIfInBounds_toArray, List.set_cons_zero, List.set_cons_succ])
          generalize (v0.alloc (.cells #[.int .i64 0] 3)) = v3 at *
          refine wpAnyH_ready (rs := [7]) (by kernel_rfl) (by simp) ?_
          refine AllReadyH.cons (o := ({ dst := some 4, op := Op.alloc 3, type := 0, pos := "cell.go:46", after := #[], guard := none } : Oper)) rfl (fun K hK => ?_) (AllReadyH.nil)
          go_simp
          have Kb4 : Hid (Kept (v3.alloc (.cells #[.int .i64 0] 3)) v3.heap.size #[.int .i64 0] 3) := Lib.hid (Kept.new rfl)
          have A4 := Lib.hid (A3.out.alloc A3.out.size (.cells #[.int .i64 0] 3))
          have Gb : Hid (v0.heap.size ≤ v3.heap.size) := Lib.hid A3.out.size
          have Ka4 := Lib.hid (Ka3.out.alloc (.cells #[.int .i64 0] 3))
          have NE : Hid (v0.heap.size ≠ v3.heap.size) := Lib.hid (fun e => by have := Ka3.out.lt; omega)
          refine hK.out _ _ ?_ (fun hHeld => ?_)
          · exact Lib.hid (K4.out.next A4.out)
          clear hK K
          (try simp only [Act.put, List.setIfInBounds_toArray, List.set_cons_zero, List.set_cons_succ])
          generalize (v3.alloc (.cells #[.int .i64 0] 3)) = v4 at *
          refine wpAnyH_ready (rs := [8]) (by kernel_rfl) (by simp) ?_
          refine AllReadyH.cons (o := ({ dst := none, op := Op.store 3 (Operand.tmp 3) (Operand.tmp 38), type := 0, pos := "cell.go:46", after := #[{ on := 6, ground := Ground.data }, { on := 2, ground := Ground.data }, { on := 5, ground := Ground.chain }, { on := 0, ground := Ground.phase }, { on := 1, ground := Ground.phase }, { on := 2, ground := Ground.phase }, { on := 3, ground := Ground.textOnly Departure.lateStores }, { on := 4, ground := Ground.textOnly Departure.lateStores }, { on := 5, ground := Ground.textOnly Departure.lateStoresUnsure }, { on := 6, ground := Ground.phase }, { on := 7, ground := Ground.phase }], guard := none } : Oper)) rfl (fun K hK => ?_) (AllReadyH.nil)
          obtain ⟨x1, x2, x3⟩ := Ka4.out.one
          go_simp
          have Ka5 : Hid (Kept (v4.setCell ⟨v0.heap.size, 0, none⟩ (.int .i64 (fb : Int))) v0.heap.size #[.int .i64 (fb : Int)] 3) := Lib.hid (Ka4.out.set 0 _)
          have Kb5 := Lib.hid (Kb4.out.far (p := ⟨v0.heap.size, 0, none⟩) (fun e => NE.out e.symm) (.int .i64 (fb : Int)))
          have A5 := Lib.hid (A4.out.setCell (p := ⟨v0.heap.size, 0, none⟩) Ga.out (.int .i64 (fb : Int)))
          clear x1 x2 x3
          refine hK.out _ _ ?_ (fun hHeld => ?_)
          · exact Lib.hid (K4.out.next A5.out)
          clear hK K
          (try simp only [Act.put, List.setIfInBounds_toArray, List.set_cons_zero, List.set_cons_succ])
          generalize v4.setCell ⟨v0.heap.size, 0, none⟩ (.int .i64 (fb : Int)) = v5 at *
          refine wpAnyH_ready (rs := [9]) (by kernel_rfl) (by simp) ?_
          refine AllReadyH.cons (o := ({ dst := none, op := Op.store 3 (Operand.tmp 4) (Operand.tmp 41), type := 0, pos := "cell.go:46", after := #[{ on := 7, ground := Ground.data }, { on := 5, ground := Ground.data }, { on := 8, ground := Ground.chain }, { on := 0, ground := Ground.phase }, { on := 1, ground := Ground.phase }, { on := 2, ground := Ground.phase }, { on := 3, ground := Ground.phase }, { on := 4, ground := Ground.phase }, { on := 5, ground := Ground.phase }, { on := 6, ground := Ground.phase }, { on := 7, ground := Ground.phase }, { on := 8, ground := Ground.phase }], guard := none } : Oper)) rfl (fun K hK => ?_) (AllReadyH.nil)
          obtain ⟨x1, x2, x3⟩ := Kb5.out.one
          go_simp
          have Kb6 : Hid (Kept (v5.setCell ⟨v3.heap.size, 0, none⟩ (.int .i64 (lb : Int))) v3.heap.size #[.int .i64 (lb : Int)] 3) := Lib.hid (Kb5.out.set 0 _)
          have Ka6 := Lib.hid (Ka5.out.far (p := ⟨v3.heap.size, 0, none⟩) (fun e => NE.out e) (.int .i64 (lb : Int)))
          have A6 := Lib.hid (A5.out.setCell (p := ⟨v3.heap.size, 0, none⟩) Gb.out (.int .i64 (lb : Int)))
          clear x1 x2 x3
          refine hK.out _ _ ?_ (fun hHeld => ?_)
          · exact Lib.hid (K4.out.next A6.out)
          clear hK K
          (try simp only [Act.put, List.setIfInBounds_toArray, List.set_cons_zero, List.set_cons_succ])
          generalize v5.setCell ⟨v3.heap.size, 0, none⟩ (.int .i64 (lb : Int)) = v6 at *
          refine wpAnyH_done (by kernel_rfl) ?_ _
          have FF := Lib.hid (FX.out _ _ _ (D0.out.trans (A6.out.mono D0.out.size)) Ka6.out Kb6.out)
          clear hHeld FX
          refine noPan_normal ?_
          -- @m
          go_wp2_with fail
          go_meet
          case rel => exact FF.out
        · go_simp
          have Kb3 : Hid (Kept (v0.alloc (.cells #[.int .i64 0] 3)) v0.heap.size #[.int .i64 0] 3) := Lib.hid (Kept.new rfl)
          have A3 := Lib.hid (A0.out.alloc A0.out.size (.cells #[.int .i64 0] 3))
          have Gb : Hid (v0.heap.size ≤ v0.heap.size) := Lib.hid A0.out.size
          refine hK.out _ _ ?_ (fun hHeld => ?_)
          · exact Lib.hid (K4.out.next A3.out)
          clear hK K
          (try simp only [Act.put, List.setIfInBounds_toArray, List.set_cons_zero, List.set_cons_succ])
          generalize (v0.alloc (.cells #[.int .i64 0] 3)) = v3 at *
          refine wpAnyH_ready (rs := [6]) (by kernel_rfl) (by simp) ?_
          refine AllReadyH.cons (o := ({ dst := some 3, op := Op.alloc 3, type := 0, pos := "cell.go:46", after := #[], guard := none } : Oper)) rfl (fun K hK => ?_) (AllReadyH.nil)
          go_simp
          have Ka4 : Hid (Kept (v3.alloc (.cells #[.int .i64 0] 3)) v3.heap.size #[.int .i64 0] 3) := Lib.hid (Kept.new rfl)
          have A4 := Lib.hid (A3.out.alloc A3.out.size (.cells #[.int .i64 0] 3))
          have Ga : Hid (v0.heap.size ≤ v3.heap.size) := Lib.hid A3.out.size
          have Kb4 := Lib.hid (Kb3.out.alloc (.cells #[.int .i64 0] 3))
          have NE : Hid (v0.heap.size ≠ v3.heap.size) := Lib.hid (fun e => by have := Kb3.out.lt; omega)
          refine hK.out _ _ ?_ (fun hHeld => ?_)
          · exact Lib.hid (K4.out.next A4.out)
          clear hK K
          (try simp only [Act.put, List.setIfInBounds_toArray, List.set_cons_zero, List.set_cons_succ])
          generalize (v3.alloc (.cells #[.int .i64 0] 3)) = v4 at *
          refine wpAnyH_ready (rs := [8]) (by kernel_rfl) (by simp) ?_
          refine AllReadyH.cons (o := ({ dst := none, op := Op.store 3 (Operand.tmp 3) (Operand.tmp 38), type := 0, pos := "cell.go:46", after := #[{ on := 6, ground := Ground.data }, { on := 2, ground := Ground.data }, { on := 5, ground := Ground.chain }, { on := 0, ground := Ground.phase }, { on := 1, ground := Ground.phase }, { on := 2, ground := Ground.phase }, { on := 3, ground := Ground.textOnly Departure.lateStores }, { on := 4, ground := Ground.textOnly Departure.lateStores }, { on := 5, ground := Ground.textOnly Departure.lateStoresUnsure }, { on := 6, ground := Ground.phase }, { on := 7, ground := Ground.phase }], guard := none } : Oper)) rfl (fun K hK => ?_) (AllReadyH.nil)
          obtain ⟨x1, x2, x3⟩ := Ka4.out.one
          go_simp
          have Ka5 : Hid (Kept (v4.setCell ⟨v3.heap.size, 0, none⟩ (.int .i64 (fb : Int))) v3.heap.size #[.int .i64 (fb : Int)] 3) := Lib.hid (Ka4.out.set 0 _)
          have Kb5 := Lib.hid (Kb4.out.far (p := ⟨v3.heap.size, 0, none⟩) (fun e => NE.out e) (.int .i64 (fb : Int)))
          have A5 := Lib.hid (A4.out.setCell (p := ⟨v3.heap.size, 0, none⟩) Ga.out (.int .i64 (fb : Int)))
          clear x1 x2 x3
          refine hK.out _ _ ?_ (fun hHeld => ?_)
          · exact Lib.hid (K4.out.next A5.out)
          clear hK K
          (try simp only [Act.put, List.setIfInBounds_toArray, List.set_cons_zero, List.set_cons_succ])
          generalize v4.setCell ⟨v3.heap.size, 0, none⟩ (.int .i64 (fb : Int)) = v5 at *
          refine wpAnyH_ready (rs := [9]) (by kernel_rfl) (by simp) ?_
          refine AllReadyH.cons (o := ({ dst := none, op := Op.store 3 (Operand.tmp 4) (Operand.tmp 41), type := 0, pos := "cell.go:46", after := #[{ on := 7, ground := Ground.data }, { on := 5, ground := Ground.data }, { on := 8, ground := Ground.chain }, { on := 0, ground := Ground.phase }, { on := 1, ground := Ground.phase }, { on := 2, ground := Ground.phase }, { on := 3, ground := Ground.phase }, { on := 4, ground := Ground.phase }, { on := 5, ground := Ground.phase }, { on := 6, ground := Ground.phase }, { on := 7, ground := Ground.phase }, { on := 8, ground := Ground.phase }], guard := none } : Oper)) rfl (fun K hK => ?_) (AllReadyH.nil)
          obtain ⟨x1, x2, x3⟩ := Kb5.out.one
          go_simp
          have Kb6 : Hid (Kept (v5.setCell ⟨v0.heap.size, 0, none⟩ (.int .i64 (lb : Int))) v0.heap.size #[.int .i64 (lb : Int)] 3) := Lib.hid (Kb5.out.set 0 _)
          have Ka6 := Lib.hid (Ka5.out.far (p := ⟨v0.heap.size, 0, none⟩) (fun e => NE.out e.symm) (.int .i64 (lb : Int)))
          have A6 := Lib.hid (A5.out.setCell (p := ⟨v0.heap.size, 0, none⟩) Gb.out (.int .i64 (lb : Int)))
          clear x1 x2 x3
          refine hK.out _ _ ?_ (fun hHeld => ?_)
          · exact Lib.hid (K4.out.next A6.out)
          clear hK K
          (try simp only [Act.put, List.setIfInBounds_toArray, List.set_cons_zero, List.set_cons_succ])
          generalize v5.setCell ⟨v0.heap.size, 0, none⟩ (.int .i64 (lb : Int)) = v6 at *
          refine wpAnyH_done (by kernel_rfl) ?_ _
          have FF := Lib.hid (FX.out _ _ _ (D0.out.trans (A6.out.mono D0.out.size)) Ka6.out Kb6.out)
          clear hHeld FX
          refine noPan_normal ?_
          -- @m
          go_wp2_with fail
          go_meet
          case rel => exact FF.out
      · go_simp
        have Ka2 : Hid (Kept (v0.alloc (.cells #[.int .i64 0] 3)) v0.heap.size #[.int .i64 0] 3) := Lib.hid (Kept.new rfl)
        have A2 := Lib.hid (A0.out.alloc A0.out.size (.cells #[.int .i64 0] 3))
        have Ga : Hid (v0.heap.size ≤ v0.heap.size) := Lib.hid A0.out.size
        refine hK.out _ _ ?_ (fun hHeld => ?_)
        · exact Lib.hid (K4.out.next A2.out)
        clear hK K
        (try simp only [Act.put, List.setIfInBounds_toArray, List.set_cons_zero, List.set_cons_succ])
        generalize (v0.alloc (.cells #[.int .i64 0] 3)) = v2 at *
        refine wpAnyH_ready (rs := [5, 7]) (by kernel_rfl) (by simp) ?_
        refine AllReadyH.cons (o := ({ dst := some 41, op := Op.call { callee := Callee.value (Operand.func 30), args := #[Operand.tmp 40], argTypes := #[2] }, type := 3, pos := "cell.go:46", after := #[{ on := 4, ground := Ground.data }, { on := 2, ground := Ground.chain }], guard := none } : Oper)) rfl (fun K hK => ?_) (AllReadyH.cons (o := ({ dst := some 4, op := Op.alloc 3, type := 0, pos := "cell.go:46", after := #[], guard := none } : Oper)) rfl (fun K hK => ?_) (AllReadyH.nil))
        · go_simp
          (with_reducible refine (CBb.out _).mono ?_)
          rintro _ vq ⟨rfl, hvq⟩
          have hvr := hvq.symm
          clear hvq
          subst hvr
          refine hK.out _ _ ?_ (fun hHeld => ?_)
          · exact Lib.hid (K4.out.next A2.out)
          clear hK K
          (try simp only [Act.put, List.setIfInBounds_toArray, List.set_cons_zero, List.set_cons_succ])
          refine wpAnyH_ready (rs := [7]) (by kernel_rfl) (by simp) ?_
          refine AllReadyH.cons (o := ({ dst := some 4, op := Op.alloc 3, type := 0, pos := "cell.go:46", after := #[], guard := none } : Oper)) rfl (fun K hK => ?_) (AllReadyH.nil)
          go_simp
          have Kb4 : Hid (Kept (v2.alloc (.cells #[.int .i64 0] 3)) v2.heap.size #[.int .i64 0] 3) := Lib.hid (Kept.new rfl)
          have A4 := Lib.hid (A2.out.alloc A2.out.size (.cells #[.int .i64 0] 3))
          have Gb : Hid (v0.heap.size ≤ v2.heap.size) := Lib.hid A2.out.size
          have Ka4 := Lib.hid (Ka2.out.alloc (.cells #[.int .i64 0] 3))
          have NE : Hid (v0.heap.size ≠ v2.heap.size) := Lib.hid (fun e => by have := Ka2.out.lt; omega)
          refine hK.out _ _ ?_ (fun hHeld => ?_)
          · exact Lib.hid (K4.out.next A4.out)
          clear hK K
          (try simp only [Act.put, List.setIfInBounds_toArray, List.set_cons_zero, List.set_cons_succ])
          generalize (v2.alloc (.cells #[.int .i64 0] 3)) = v4 at *
          refine wpAnyH_ready (rs := [8]) (by kernel_rfl) (by simp) ?_
          refine AllReadyH.cons (o := ({ dst := none, op := Op.store 3 (Operand.tmp 3) (Operand.tmp 38), type := 0, pos := "cell.go:46", after := #[{ on := 6, ground := Ground.data }, { on := 2, ground := Ground.data }, { on := 5, ground := Ground.chain }, { on := 0, ground := Ground.phase }, { on := 1, ground := Ground.phase }, { on := 2, ground := Ground.phase }, { on := 3, ground := Ground.textOnly Departure.lateStores }, { on := 4, ground := Ground.textOnly Departure.lateStores }, { on := 5, ground := Ground.textOnly Departure.lateStoresUnsure }, { on := 6, ground := Ground.phase }, { on := 7, ground := Ground.phase }], guard := none } : Oper)) rfl (fun K hK => ?_) (AllReadyH.nil)
          obtain ⟨x1, x2, x3⟩ := Ka4.out.one
          go_simp
          have Ka5 : Hid (Kept (v4.setCell ⟨v0.heap.size, 0, none⟩ (.int .i64 (fb : Int))) v0.heap.size #[.int .i64 (fb : Int)] 3) := Lib.hid (Ka4.out.set 0 _)
          have Kb5 := Lib.hid (Kb4.out.far (p := ⟨v0.heap.size, 0, none⟩) (fun e => NE.out e.symm) (.int .i64 (fb : Int)))
          have A5 := Lib.hid (A4.out.setCell (p := ⟨v0.heap.size, 0, none⟩) Ga.out (.int .i64 (fb : Int)))
          clear x1 x2 x3
          refine hK.out _ _ ?_ (fun hHeld => ?_)
          · exact Lib.hid (K4.out.next A5.out)
          clear hK K
          (try simp only [Act.put, List.setIfInBounds_toArray, List.set_cons_zero, List.set_cons_succ])
          generalize v4.setCell ⟨v0.heap.size, 0, none⟩ (.int .i64 (fb : Int)) = v5 at *
          refine wpAnyH_ready (rs := [9]) (by kernel_rfl) (by simp) ?_
          refine AllReadyH.cons (o := ({ dst := none, op := Op.store 3 (Operand.tmp 4) (Operand.tmp 41), type := 0, pos := "cell.go:46", after := #[{ on := 7, ground := Ground.data }, { on := 5, ground := Ground.data }, { on := 8, ground := Ground.chain }, { on := 0, ground := Ground.phase }, { on := 1, ground := Ground.phase }, { on := 2, ground := Ground.phase }, { on := 3, ground := Ground.phase }, { on := 4, ground := Ground.phase }, { on := 5, ground := Ground.phase }, { on := 6, ground := Ground.phase }, { on := 7, ground := Ground.phase }, { on := 8, ground := Ground.phase }], guard := none } : Oper)) rfl (fun K hK => ?_) (AllReadyH.nil)
          obtain ⟨x1, x2, x3⟩ := Kb5.out.one
          go_simp
          have Kb6 : Hid (Kept (v5.setCell ⟨v2.heap.size, 0, none⟩ (.int .i64 (lb : Int))) v2.heap.size #[.int .i64 (lb : Int)] 3) := Lib.hid (Kb5.out.set 0 _)
          have Ka6 := Lib.hid (Ka5.out.far (p := ⟨v2.heap.size, 0, none⟩) (fun e => NE.out e) (.int .i64 (lb : Int)))
          have A6 := Lib.hid (A5.out.setCell (p := ⟨v2.heap.size, 0, none⟩) Gb.out (.int .i64 (lb : Int)))
          clear x1 x2 x3
          refine hK.out _ _ ?_ (fun hHeld => ?_)
          · exact Lib.hid (K4.out.next A6.out)
          clear hK K
          (try simp only [Act.put, List.setIfInBounds_toArray, List.set_cons_zero, List.set_cons_succ])
          generalize v5.setCell ⟨v2.heap.size, 0, none⟩ (.int .i64 (lb : Int)) = v6 at *
          refine wpAnyH_done (by kernel_rfl) ?_ _
          have FF := Lib.hid (FX.out _ _ _ (D0.out.trans (A6.out.mono D0.out.size)) Ka6.out Kb6.out)
          clear hHeld FX
          refine noPan_normal ?_
          -- @m
          go_wp2_with fail
          go_meet
          case rel => exact FF.out
        · go_simp
          have Kb3 : Hid (Kept (v2.alloc (.cells #[.int .i64 0] 3)) v2.heap.size #[.int .i64 0] 3) := Lib.hid (Kept.new rfl)
          have A3 := Lib.hid (A2.out.alloc A2.out.size (.cells #[.int .i64 0] 3))
          have Gb : Hid (v0.heap.size ≤ v2.heap.size) := Lib.hid A2.out.size
          have Ka3 := Lib.hid (Ka2.out.alloc (.cells #[.int .i64 0] 3))
          have NE : Hid (v0.heap.size ≠ v2.heap.size) := Lib.hid (fun e => by have := Ka2.out.lt; omega)
          refine hK.out _ _ ?_ (fun hHeld => ?_)
          · exact Lib.hid (K4.out.next A3.out)
          clear hK K
          (try simp only [Act.put, List.setIfInBounds_toArray, List.set_cons_zero, List.set_cons_succ])
          generalize (v2.alloc (.cells #[.int .i64 0] 3)) = v3 at *
          refine wpAnyH_ready (rs := [5]) (by kernel_rfl) (by simp) ?_
          refine AllReadyH.cons (o := ({ dst := some 41, op := Op.call { callee := Callee.value (Operand.func 30), args := #[Operand.tmp 40], argTypes := #[2] }, type := 3, pos := "cell.go:46", after := #[{ on := 4, ground := Ground.data }, { on := 2, ground := Ground.chain }], guard := none } : Oper)) rfl (fun K hK => ?_) (AllReadyH.nil)
          go_simp
          (with_reducible refine (CBb.out _).mono ?_)
          rintro _ vq ⟨rfl, hvq⟩
          have hvr := hvq.symm
          clear hvq
          subst hvr
          refine hK.out _ _ ?_ (fun hHeld => ?_)
          · exact Lib.hid (K4.out.next A3.out)
          clear hK K
          (try simp only [Act.put, List.setIfInBounds_toArray, List.set_cons_zero, List.set_cons_succ])
          refine wpAnyH_ready (rs := [8]) (by kernel_rfl) (by simp) ?_
          refine AllReadyH.cons (o := ({ dst := none, op := Op.store 3 (Operand.tmp 3) (Operand.tmp 38), type := 0, pos := "cell.go:46", after := #[{ on := 6, ground := Ground.data }, { on := 2, ground := Ground.data }, { on := 5, ground := Ground.chain }, { on := 0, ground := Ground.phase }, { on := 1, ground := Ground.phase }, { on := 2, ground := Ground.phase }, { on := 3, ground := Ground.textOnly Departure.lateStores }, { on := 4, ground := Ground.textOnly Departure.lateStores }, { on := 5, ground := Ground.textOnly Departure.lateStoresUnsure }, { on := 6, ground := Ground.phase }, { on := 7, ground := Ground.phase }], guard := none } : Oper)) rfl (fun K hK => ?_) (AllReadyH.nil)
          obtain ⟨x1, x2, x3⟩ := Ka3.out.one
          go_simp
          have Ka5 : Hid (Kept (v3.setCell ⟨v0.heap.size, 0, none⟩ (.int .i64 (fb : Int))) v0.heap.size #[.int .i64 (fb : Int)] 3) := Lib.hid (Ka3.out.set 0 _)
          have Kb5 := Lib.hid (Kb3.out.far (p := ⟨v0.heap.size, 0, none⟩) (fun e => NE.out e.symm) (.int .i64 (fb : Int)))
          have A5 := Lib.hid (A3.out.setCell (p := ⟨v0.heap.size, 0, none⟩) Ga.out (.int .i64 (fb : Int)))
          clear x1 x2 x3
          refine hK.out _ _ ?_ (fun hHeld => ?_)
          · exact Lib.hid (K4.out.next A5.out)
          clear hK K
          (try simp only [Act.put, List.setIfInBounds_toArray, List.set_cons_zero, List.set_cons_succ])
          generalize v3.setCell ⟨v0.heap.size, 0, none⟩ (.int .i64 (fb : Int)) = v5 at *
          refine wpAnyH_ready (rs := [9]) (by kernel_rfl) (by simp) ?_
          refine AllReadyH.cons (o := ({ dst := none, op := Op.store 3 (Operand.tmp 4) (Operand.tmp 41), type := 0, pos := "cell.go:46", after := #[{ on := 7, ground := Ground.data }, { on := 5, ground := Ground.data }, { on := 8, ground := Ground.chain }, { on := 0, ground := Ground.phase }, { on := 1, ground := Ground.phase }, { on := 2, ground := Ground.phase }, { on := 3, ground := Ground.phase }, { on := 4, ground := Ground.phase }, { on := 5, ground := Ground.phase }, { on := 6, ground := Ground.phase }, { on := 7, ground := Ground.phase }, { on := 8, ground := Ground.phase }], guard := none } : Oper)) rfl (fun K hK => ?_) (AllReadyH.nil)
          obtain ⟨x1, x2, x3⟩ := Kb5.out.one
          go_simp
          have Kb6 : Hid (Kept (v5.setCell ⟨v2.heap.size, 0, none⟩ (.int .i64 (lb : Int))) v2.heap.size #[.int .i64 (lb : Int)] 3) := Lib.hid (Kb5.out.set 0 _)
          have Ka6 := Lib.hid (Ka5.out.far (p := ⟨v2.heap.size, 0, none⟩) (fun e => NE.out e) (.int .i64 (lb : Int)))
          have A6 := Lib.hid (A5.out.setCell (p := ⟨v2.heap.size, 0, none⟩) Gb.out (.int .i64 (lb : Int)))
          clear x1 x2 x3
          refine hK.out _ _ ?_ (fun hHeld => ?_)
          · exact Lib.hid (K4.out.next A6.out)
          clear hK K
          (try simp only [Act.put, List.setIfInBounds_toArray, List.set_cons_zero, List.set_cons_succ])
          generalize v5.setCell ⟨v2.heap.size, 0, none⟩ (.int .i64 (lb : Int)) = v6 at *
          refine wpAnyH_done (by kernel_rfl) ?_ _
          have FF := Lib.hid (FX.out _ _ _ (D0.out.trans (A6.out.mono D0.out.size)) Ka6.out Kb6.out)
          clear hHeld FX
          refine noPan_normal ?_
          -- @m
          go_wp2_with fail
          go_meet
          case rel => exact FF.out
      · go_simp
        have Kb2 : Hid (Kept (v0.alloc (.cells #[.int .i64 0] 3)) v0.heap.size #[.int .i64 0] 3) := Lib.hid (Kept.new rfl)
        have A2 := Lib.hid (A0.out.alloc A0.out.size (.cells #[.int .i64 0] 3))
        have Gb : Hid (v0.heap.size ≤ v0.heap.size) := Lib.hid A0.out.size
        refine hK.out _ _ ?_ (fun hHeld => ?_)
        · exact Lib.hid (K4.out.next A2.out)
        clear hK K
        (try simp only [Act.put, List.setIfInBounds_toArray, List.set_cons_zero, List.set_cons_succ])
        generalize (v0.alloc (.cells #[.int .i64 0] 3)) = v2 at *
        refine wpAnyH_ready (rs := [5, 6]) (by kernel_rfl) (by simp) ?_
        refine AllReadyH.cons (o := ({ dst := some 41, op := Op.call { callee := Callee.value (Operand.func 30), args := #[Operand.tmp 40], argTypes := #[2] }, type := 3, pos := "cell.go:46", after := #[{ on := 4, ground := Ground.data }, { on := 2, ground := Ground.chain }], guard := none } : Oper)) rfl (fun K hK => ?_) (AllReadyH.cons (o := ({ dst := some 3, op := Op.alloc 3, type := 0, pos := "cell.go:46", after := #[], guard := none } : Oper)) rfl (fun K hK => ?_) (AllReadyH.nil))
        · go_simp
          (with_reducible refine (CBb.out _).mono ?_)
          rintro _ vq ⟨rfl, hvq⟩
          have hvr := hvq.symm
          clear hvq
          subst hvr
          refine hK.out _ _ ?_ (fun hHeld => ?_)
          · exact Lib.hid (K4.out.next A2.out)
          clear hK K
          (try simp only [Act.put, List.setIfInBounds_toArray, List.set_cons_zero, List.set_cons_succ])
          refine wpAnyH_ready (rs := [6]) (by kernel_rfl) (by simp) ?_
          refine AllReadyH.cons (o := ({ dst := some 3, op := Op.alloc 3, type := 0, pos := "cell.go:46", after := #[], guard := none } : Oper)) rfl (fun K hK => ?_) (AllReadyH.nil)
          go_simp
          have Ka4 : Hid (Kept (v2.alloc (.cells #[.int .i64 0] 3)) v2.heap.size #[.int .i64 0] 3) := Lib.hid (Kept.new rfl)
          have A4 := Lib.hid (A2.out.alloc A2.out.size (.cells #[.int .i64 0] 3))
          have Ga : Hid (v0.heap.size ≤ v2.heap.size) := Lib.hid A2.out.size
          have Kb4 := Lib.hid (Kb2.out.alloc (.cells #[.int .i64 0] 3))
          have NE : Hid (v0.heap.size ≠ v2.heap.size) := Lib.hid (fun e => by have := Kb2.out.lt; omega)
          refine hK.out _ _ ?_ (fun hHeld => ?_)
          · exact Lib.hid (K4.out.next A4.out)
          clear hK K
          (try simp only [Act.put, List.setIfInBounds_toArray, List.set_cons_zero, List.set_cons_succ])
          generalize (v2.alloc (.cells #[.int .i64 0] 3)) = v4 at *
          refine wpAnyH_ready (rs := [8]) (by kernel_rfl) (by simp) ?_
          refine AllReadyH.cons (o := ({ dst := none, op := Op.store 3 (Operand.tmp 3) (Operand.tmp 38), type := 0, pos := "cell.go:46", after := #[{ on := 6, ground := Ground.data }, { on := 2, ground := Ground.data }, { on := 5, ground := Ground.chain }, { on := 0, ground := Ground.phase }, { on := 1, ground := Ground.phase }, { on := 2, ground := Ground.phase }, { on := 3, ground := Ground.textOnly Departure.lateStores }, { on := 4, ground := Ground.textOnly Departure.lateStores }, { on := 5, ground := Ground.textOnly Departure.lateStoresUnsure }, { on := 6, ground := Ground.phase }, { on := 7, ground := Ground.phase }], guard := none } : Oper)) rfl (fun K hK => ?_) (AllReadyH.nil)
          obtain ⟨x1, x2, x3⟩ := Ka4.out.one
          go_simp
          have Ka5 : Hid (Kept (v4.setCell ⟨v2.heap.size, 0, none⟩ (.int .i64 (fb : Int))) v2.heap.size #[.int .i64 (fb : Int)] 3) := Lib.hid (Ka4.out.set 0 _)
          have Kb5 := Lib.hid (Kb4.out.far (p := ⟨v2.heap.size, 0, none⟩) (fun e => NE.out e) (.int .i64 (fb : Int)))
          have A5 := Lib.hid (A4.out.setCell (p := ⟨v2.heap.size, 0, none⟩) Ga.out (.int .i64 (fb : Int)))
          clear x1 x2 x3
          refine hK.out _ _ ?_ (fun hHeld => ?_)
          · exact Lib.hid (K4.out.next A5.out)
          clear hK K
          (try simp only [Act.put, List.setIfInBounds_toArray, List.set_cons_zero, List.set_cons_succ])
          generalize v4.setCell ⟨v2.heap.size, 0, none⟩ (.int .i64 (fb : Int)) = v5 at *
          refine wpAnyH_ready (rs := [9]) (by kernel_rfl) (by simp) ?_
          refine AllReadyH.cons (o := ({ dst := none, op := Op.store 3 (Operand.tmp 4) (Operand.tmp 41), type := 0, pos := "cell.go:46", after := #[{ on := 7, ground := Ground.data }, { on := 5, ground := Ground.data }, { on := 8, ground := Ground.chain }, { on := 0, ground := Ground.phase }, { on := 1, ground := Ground.phase }, { on := 2, ground := Ground.phase }, { on := 3, ground := Ground.phase }, { on := 4, ground := Ground.phase }, { on := 5, ground := Ground.phase }, { on := 6, ground := Ground.phase }, { on := 7, ground := Ground.phase }, { on := 8, ground := Ground.phase }], guard := none } : Oper)) rfl (fun K hK => ?_) (AllReadyH.nil)
          obtain ⟨x1, x2, x3⟩ := Kb5.out.one
          go_simp
          have Kb6 : Hid (Kept (v5.setCell ⟨v0.heap.size, 0, none⟩ (.int .i64 (lb : Int))) v0.heap.size #[.int .i64 (lb : Int)] 3) := Lib.hid (Kb5.out.set 0 _)
          have Ka6 := Lib.hid (Ka5.out.far (p := ⟨v0.heap.size, 0, none⟩) (fun e => NE.out e.symm) (.int .i64 (lb : Int)))
          have A6 := Lib.hid (A5.out.setCell (p := ⟨v0.heap.size, 0, none⟩) Gb.out (.int .i64 (lb : Int)))
          clear x1 x2 x3
          refine hK.out _ _ ?_ (fun hHeld => ?_)
          · exact Lib.hid (K4.out.next A6.out)
          clear hK K
          (try simp only [Act.put, List.setIfInBounds_toArray, List.set_cons_zero, List.set_cons_succ])
          generalize v5.setCell ⟨v0.heap.size, 0, none⟩ (.int .i64 (lb : Int)) = v6 at *
          refine wpAnyH_done (by kernel_rfl) ?_ _
          have FF := Lib.hid (FX.out _ _ _ (D0.out.trans (A6.out.mono D0.out.size)) Ka6.out Kb6.out)
          clear hHeld FX
          refine noPan_normal ?_
          -- @m
          go_wp2_with fail
          go_meet
          case rel => exact FF.out
        · go_simp
          have Ka3 : Hid (Kept (v2.alloc (.cells #[.int .i64 0] 3)) v2.heap.size #[.int .i64 0] 3) := Lib.hid (Kept.new rfl)
          have A3 := Lib.hid (A2.out.alloc A2.out.size (.cells #[.int .i64 0] 3))
          have Ga : Hid (v0.heap.size ≤ v2.heap.size) := Lib.hid A2.out.size
          have Kb3 := Lib.hid (Kb2.out.alloc (.cells #[.int .i64 0] 3))
          have NE : Hid (v0.heap.size ≠ v2.heap.size) := Lib.hid (fun e => by have := Kb2.out.lt; omega)
          refine hK.out _ _ ?_ (fun hHeld => ?_)
          · exact Lib.hid (K4.out.next A3.out)
          clear hK K
          (try simp only [Act.put, List.setIfInBounds_toArray, List.set_cons_zero, List.set_cons_succ])
          generalize (v2.alloc (.cells #[.int .i64 0] 3)) = v3 at *
          refine wpAnyH_ready (rs := [5]) (by kernel_rfl) (by simp) ?_
          refine AllReadyH.cons (o := ({ dst := some 41, op := Op.call { callee := Callee.value (Operand.func 30), args := #[Operand.tmp 40], argTypes := #[2] }, type := 3, pos := "cell.go:46", after := #[{ on := 4, ground := Ground.data }, { on := 2, ground := Ground.chain }], guard := none } : Oper)) rfl (fun K hK => ?_) (AllReadyH.nil)
          go_simp
          (with_reducible refine (CBb.out _).mono ?_)
          rintro _ vq ⟨rfl, hvq⟩
          have hvr := hvq.symm
          clear hvq
          subst hvr
          refine hK.out _ _ ?_ (fun hHeld => ?_)
          · exact Lib.hid (K4.out.next A3.out)
          clear hK K
          (try simp only [Act.put, List.setIfInBounds_toArray, List.set_cons_zero, List.set_cons_succ])
          refine wpAnyH_ready (rs := [8]) (by kernel_rfl) (by simp) ?_
          refine AllReadyH.cons (o := ({ dst := none, op := Op.store 3 (Operand.tmp 3) (Operand.tmp 38), type := 0, pos := "cell.go:46", after := #[{ on := 6, ground := Ground.data }, { on := 2, ground := Ground.data }, { on := 5, ground := Ground.chain }, { on := 0, ground := Ground.phase }, { on := 1, ground := Ground.phase }, { on := 2, ground := Ground.phase }, { on := 3, ground := Ground.textOnly Departure.lateStores }, { on := 4, ground := Ground.textOnly Departure.lateStores }, { on := 5, ground := Ground.textOnly Departure.lateStoresUnsure }, { on := 6, ground := Ground.phase }, { on := 7, ground := Ground.phase }], guard := none } : Oper)) rfl (fun K hK => ?_) (AllReadyH.nil)
          obtain ⟨x1, x2, x3⟩ := Ka3.out.one
          go_simp
          have Ka5 : Hid (Kept (v3.setCell ⟨v2.heap.size, 0, none⟩ (.int .i64 (fb : Int))) v2.heap.size #[.int .i64 (fb : Int)] 3) := Lib.hid (Ka3.out.set 0 _)
          have Kb5 := Lib.hid (Kb3.out.far (p := ⟨v2.heap.size, 0, none⟩) (fun e => NE.out e) (.int .i64 (fb : Int)))
          have A5 := Lib.hid (A3.out.setCell (p := ⟨v2.heap.size, 0, none⟩) Ga.out (.int .i64 (fb : Int)))
          clear x1 x2 x3
          refine hK.out _ _ ?_ (fun hHeld => ?_)
          · exact Lib.hid (K4.out.next A5.out)
          clear hK K
          (try simp only [Act.put, List.setIfInBounds_toArray, List.set_cons_zero, List.set_cons_succ])
          generalize v3.setCell ⟨v2.heap.size, 0, none⟩ (.int .i64 (fb : Int)) = v5 at *
          refine wpAnyH_ready (rs := [9]) (by kernel_rfl) (by simp) ?_
          refine AllReadyH.cons (o := ({ dst := none, op := Op.store 3 (Operand.tmp 4) (Operand.tmp 41), type := 0, pos := "cell.go:46", after := #[{ on := 7, ground := Ground.data }, { on := 5, ground := Ground.data }, { on := 8, ground := Ground.chain }, { on := 0, ground := Ground.phase }, { on := 1, ground := Ground.phase }, { on := 2, ground := Ground.phase }, { on := 3, ground := Ground.phase }, { on := 4, ground := Ground.phase }, { on := 5, ground := Ground.phase }, { on := 6, ground := Ground.phase }, { on := 7, ground := Ground.phase }, { on := 8, ground := Ground.phase }], guard := none } : Oper)) rfl (fun K hK => ?_) (AllReadyH.nil)
          obtain ⟨x1, x2, x3⟩ := Kb5.out.one
          go_simp
          have Kb6 : Hid (Kept (v5.setCell ⟨v0.heap.size, 0, none⟩ (.int .i64 (lb : Int))) v0.heap.size #[.int .i64 (lb : Int)] 3) := Lib.hid (Kb5.out.set 0 _)
          have Ka6 := Lib.hid (Ka5.out.far (p := ⟨v0.heap.size, 0, none⟩) (fun e => NE.out e.symm) (.int .i64 (lb : Int)))
          have A6 := Lib.hid (A5.out.setCell (p := ⟨v0.heap.size, 0, none⟩) Gb.out (.int .i64 (lb : Int)))
          clear x1 x2 x3
          refine hK.out _ _ ?_ (fun hHeld => ?_)
          · exact Lib.hid (K4.out.next A6.out)
          clear hK K
          (try simp only [Act.put, List.setIfInBounds_toArray, List.set_cons_zero, List.set_cons_succ])
          generalize v5.setCell ⟨v0.heap.size, 0, none⟩ (.int .i64 (lb : Int)) = v6 at *
          refine wpAnyH_done (by kernel_rfl) ?_ _
          have FF := Lib.hid (FX.out _ _ _ (D0.out.trans (A6.out.mono D0.out.size)) Ka6.out Kb6.out)
          clear hHeld FX
          refine noPan_normal ?_
          -- @m
          go_wp2_with fail
          go_meet
          case rel => exact FF.out
    · go_simp
      have Ka1 : Hid (Kept (v0.alloc (.cells #[.int .i64 0] 3)) v0.heap.size #[.int .i64 0] 3) := Lib.hid (Kept.new rfl)
      have A1 := Lib.hid (A0.out.alloc A0.out.size (.cells #[.int .i64 0] 3))
      have Ga : Hid (v0.heap.size ≤ v0.heap.size) := Lib.hid A0.out.size
      refine hK.out _ _ ?_ (fun hHeld => ?_)
      · exact Lib.hid (K4.out.next A1.out)
      clear hK K
      (try simp only [Act.put, List.setIfInBounds_toArray, List.set_cons_zero, List.set_cons_succ])
      generalize (v0.alloc (.cells #[.int .i64 0] 3)) = v1 at *
      refine wpAnyH_ready (rs := [2, 7]) (by kernel_rfl) (by simp) ?_
      refine AllReadyH.cons (o := ({ dst := some 38, op := Op.call { callee := Callee.value (Operand.func 30), args := #[Operand.tmp 37], argTypes := #[2] }, type := 3, pos := "cell.go:46", after := #[{ on := 1, ground := Ground.data }], guard := none } : Oper)) rfl (fun K hK => ?_) (AllReadyH.cons (o := ({ dst := some 4, op := Op.alloc 3, type := 0, pos := "cell.go:46", after := #[], guard := none } : Oper)) rfl (fun K hK => ?_) (AllReadyH.nil))
      · go_simp
        (with_reducible refine (CBa.out _).mono ?_)
        rintro _ vq ⟨rfl, hvq⟩
        have hvr := hvq.symm
        clear hvq
        subst hvr
        refine hK.out _ _ ?_ (fun hHeld => ?_)
        · exact Lib.hid (K4.out.next A1.out)
        clear hK K
        (try simp only [Act.put, List.setIfInBounds_toArray, List.set_cons_zero, List.set_cons_succ])
        refine wpAnyH_ready (rs := [5, 7]) (by kernel_rfl) (by simp) ?_
        refine AllReadyH.cons (o := ({ dst := some 41, op := Op.call { callee := Callee.value (Operand.func 30), args := #[Operand.tmp 40], argTypes := #[2] }, type := 3, pos := "cell.go:46", after := #[{ on := 4, ground := Ground.data }, { on := 2, ground := Ground.chain }], guard := none } : Oper)) rfl (fun K hK => ?_) (AllReadyH.cons (o := ({ dst := some 4, op := Op.alloc 3, type := 0, pos := "cell.go:46", after := #[], guard := none } : Oper)) rfl (fun K hK => ?_) (AllReadyH.nil))
        · go_simp
          (with_reducible refine (CBb.out _).mono ?_)
          rintro _ vq ⟨rfl, hvq⟩
          have hvr := hvq.symm
          clear hvq
          subst hvr
          refine hK.out _ _ ?_ (fun hHeld => ?_)
          · exact Lib.hid (K4.out.next A1.out)
          clear hK K
          (try simp only [Act.put, List.setIfInBounds_toArray, List.set_cons_zero, List.set_cons_succ])
          refine wpAnyH_ready (rs := [7]) (by kernel_rfl) (by simp) ?_
          refine AllReadyH.cons (o := ({ dst := some 4, op := Op.alloc 3, type := 0, pos := "cell.go:46", after := #[], guard := none } : Oper)) rfl (fun K hK => ?_) (AllReadyH.nil)
          go_simp
          have Kb4 : Hid (Kept (v1.alloc (.cells #[.int .i64 0] 3)) v1.heap.size #[.int .i64 0] 3) := Lib.hid (Kept.new rfl)
          have A4 := Lib.hid (A1.out.alloc A1.out.size (.cells #[.int .i64 0] 3))
          have Gb : Hid (v0.heap.size ≤ v1.heap.size) := Lib.hid A1.out.size
          have Ka4 := Lib.hid (Ka1.out.alloc (.cells #[.int .i64 0] 3))
          have NE : Hid (v0.heap.size ≠ v1.heap.size) := Lib.hid (fun e => by have := Ka1.out.lt; omega)
          refine hK.out _ _ ?_ (fun hHeld => ?_)
          · exact Lib.hid (K4.out.next A4.out)
          clear hK K
          (try simp only [Act.put, List.setIfInBounds_toArray, List.set_cons_zero, List.set_cons_succ])
          generalize (v1.alloc (.cells #[.int .i64 0] 3)) = v4 at *
          refine wpAnyH_ready (rs := [8]) (by kernel_rfl) (by simp) ?_
          refine AllReadyH.cons (o := ({ dst := none, op := Op.store 3 (Operand.tmp 3) (Operand.tmp 38), type := 0, pos := "cell.go:46", after := #[{ on := 6, ground := Ground.data }, { on := 2, ground := Ground.data }, { on := 5, ground := Ground.chain }, { on := 0, ground := Ground.phase }, { on := 1, ground := Ground.phase }, { on := 2, ground := Ground.phase }, { on := 3, ground := Ground.textOnly Departure.lateStores }, { on := 4, ground := Ground.textOnly Departure.lateStores }, { on := 5, ground := Ground.textOnly Departure.lateStoresUnsure }, { on := 6, ground := Ground.phase }, { on := 7, ground := Ground.phase }], guard := none } : Oper)) rfl (fun K hK => ?_) (AllReadyH.nil)
          obtain ⟨x1, x2, x3⟩ := Ka4.out.one
          go_simp
          have Ka5 : Hid (Kept (v4.setCell ⟨v0.heap.size, 0, none⟩ (.int .i64 (fb : Int))) v0.heap.size #[.int .i64 (fb : Int)] 3) := Lib.hid (Ka4.out.set 0 _)
          have Kb5 := Lib.hid (Kb4.out.far (p := ⟨v0.heap.size, 0, none⟩) (fun e => NE.out e.symm) (.int .i64 (fb : Int)))
          have A5 := Lib.hid (A4.out.setCell (p := ⟨v0.heap.size, 0, none⟩) Ga.out (.int .i64 (fb : Int)))
          clear x1 x2 x3
          refine hK.out _ _ ?_ (fun hHeld => ?_)
          · exact Lib.hid (K4.out.next A5.out)
          clear hK K
          (try simp only [Act.put, List.setIfInBounds_toArray, List.set_cons_zero, List.set_cons_succ])
          generalize v4.setCell ⟨v0.heap.size, 0, none⟩ (.int .i64 (fb : Int)) = v5 at *
          refine wpAnyH_ready (rs := [9]) (by kernel_rfl) (by simp) ?_
          refine AllReadyH.cons (o := ({ dst := none, op := Op.store 3 (Operand.tmp 4) (Operand.tmp 41), type := 0, pos := "cell.go:46", after := #[{ on := 7, ground := Ground.data }, { on := 5, ground := Ground.data }, { on := 8, ground := Ground.chain }, { on := 0, ground := Ground.phase }, { on := 1, ground := Ground.phase }, { on := 2, ground := Ground.phase }, { on := 3, ground := Ground.phase }, { on := 4, ground := Ground.phase }, { on := 5, ground := Ground.phase }, { on := 6, ground := Ground.phase }, { on := 7, ground := Ground.phase }, { on := 8, ground := Ground.phase }], guard := none } : Oper)) rfl (fun K hK => ?_) (AllReadyH.nil)
          obtain ⟨x1, x2, x3⟩ := Kb5.out.one
          go_simp
          have Kb6 : Hid (Kept (v5.setCell ⟨v1.heap.size, 0, none⟩ (.int .i64 (lb : Int))) v1.heap.size #[.int .i64 (lb : Int)] 3) := Lib.hid (Kb5.out.set 0 _)
          have Ka6 := Lib.hid (Ka5.out.far (p := ⟨v1.heap.size, 0, none⟩) (fun e => NE.out e) (.int .i64 (lb : Int)))
          have A6 := Lib.hid (A5.out.setCell (p := ⟨v1.heap.size, 0, none⟩) Gb.out (.int .i64 (lb : Int)))
          clear x1 x2 x3
          refine hK.out _ _ ?_ (fun hHeld => ?_)
          · exact Lib.hid (K4.out.next A6.out)
          clear hK K
          (try simp only [Act.put, List.setIfInBounds_toArray, List.set_cons_zero, List.set_cons_succ])
          generalize v5.setCell ⟨v1.heap.size, 0, none⟩ (.int .i64 (lb : Int)) = v6 at *
          refine wpAnyH_done (by kernel_rfl) ?_ _
          have FF := Lib.hid (FX.out _ _ _ (D0.out.trans (A6.out.mono D0.out.size)) Ka6.out Kb6.out)
          clear hHeld FX
          refine noPan_normal ?_
          -- @m
          go_wp2_with fail
          go_meet
          case rel => exact FF.out
        · go_simp
          have Kb3 : Hid (Kept (v1.alloc (.cells #[.int .i64 0] 3)) v1.heap.size #[.int .i64 0] 3) := Lib.hid (Kept.new rfl)
          have A3 := Lib.hid (A1.out.alloc A1.out.size (.cells #[.int .i64 0] 3))
          have Gb : Hid (v0.heap.size ≤ v1.heap.size) := Lib.hid A1.out.size
          have Ka3 := Lib.hid (Ka1.out.alloc (.cells #[.int .i64 0] 3))
          have NE : Hid (v0.heap.size ≠ v1.heap.size) := Lib.hid (fun e => by have := Ka1.out.lt; omega)
          refine hK.out _ _ ?_ (fun hHeld => ?_)
          · exact Lib.hid (K4.out.next A3.out)
          clear hK K
          (try simp only [Act.put, List.setIfInBounds_toArray, List.set_cons_zero, List.set_cons_succ])
          generalize (v1.alloc (.cells #[.int .i64 0] 3)) = v3 at *
          refine wpAnyH_ready (rs := [5]) (by kernel_rfl) (by simp) ?_
          refine AllReadyH.cons (o := ({ dst := some 41, op := Op.call { callee := Callee.value (Operand.func 30), args := #[Operand.tmp 40], argTypes := #[2] }, type := 3, pos := "cell.go:46", after := #[{ on := 4, ground := Ground.data }, { on := 2, ground := Ground.chain }], guard := none } : Oper)) rfl (fun K hK => ?_) (AllReadyH.nil)
          go_simp
          (with_reducible refine (CBb.out _).mono ?_)
          rintro _ vq ⟨rfl, hvq⟩
          have hvr := hvq.symm
          clear hvq
          subst hvr
          refine hK.out _ _ ?_ (fun hHeld => ?_)
          · exact Lib.hid (K4.out.next A3.out)
          clear hK K
          (try simp only [Act.put, List.setIfInBounds_toArray, List.set_cons_zero, List.set_cons_succ])
          refine wpAnyH_ready (rs := [8]) (by kernel_rfl) (by simp) ?_
          refine AllReadyH.cons (o := ({ dst := none, op := Op.store 3 (Operand.tmp 3) (Operand.tmp 38), type := 0, pos := "cell.go:46", after := #[{ on := 6, ground := Ground.data }, { on := 2, ground := Ground.data }, { on := 5, ground := Ground.chain }, { on := 0, ground := Ground.phase }, { on := 1, ground := Ground.phase }, { on := 2, ground := Ground.phase }, { on := 3, ground := Ground.textOnly Departure.lateStores }, { on := 4, ground := Ground.textOnly Departure.lateStores }, { on := 5, ground := Ground.textOnly Departure.lateStoresUnsure }, { on := 6, ground := Ground.phase }, { on := 7, ground := Ground.phase }], guard := none } : Oper)) rfl (fun K hK => ?_) (AllReadyH.nil)
          obtain ⟨x1, x2, x3⟩ := Ka3.out.one
          go_simp
          have Ka5 : Hid (Kept (v3.setCell ⟨v0.heap.size, 0, none⟩ (.int .i64 (fb : Int))) v0.heap.size #[.int .i64 (fb : Int)] 3) := Lib.hid (Ka3.out.set 0 _)
          have Kb5 := Lib.hid (Kb3.out.far (p := ⟨v0.heap.size, 0, none⟩) (fun e => NE.out e.symm) (.int .i64 (fb : Int)))
          have A5 := Lib.hid (A3.out.setCell (p := ⟨v0.heap.size, 0, none⟩) Ga.out (.int .i64 (fb : Int)))
          clear x1 x2 x3
          refine hK.out _ _ ?_ (fun hHeld => ?_)
          · exact Lib.hid (K4.out.next A5.out)
          clear hK K
          (try simp only [Act.put, List.setIfInBounds_toArray, List.set_cons_zero, List.set_cons_succ])
          generalize v3.setCell ⟨v0.heap.size, 0, none⟩ (.int .i64 (fb : Int)) = v5 at *
          refine wpAnyH_ready (rs := [9]) (by kernel_rfl) (by simp) ?_
          refine AllReadyH.cons (o := ({ dst := none, op := Op.store 3 (Operand.tmp 4) (Operand.tmp 41), type := 0, pos := "cell.go:46", after := #[{ on := 7, ground := Ground.data }, { on := 5, ground := Ground.data }, { on := 8, ground := Ground.chain }, { on := 0, ground := Ground.phase }, { on := 1, ground := Ground.phase }, { on := 2, ground := Ground.phase }, { on := 3, ground := Ground.phase }, { on := 4, ground := Ground.phase }, { on := 5, ground := Ground.phase }, { on := 6, ground := Ground.phase }, { on := 7, ground := Ground.phase }, { on := 8, ground := Ground.phase }], guard := none } : Oper)) rfl (fun K hK => ?_) (AllReadyH.nil)
          obtain ⟨x1, x2, x3⟩ := Kb5.out.one
          go_simp
          have Kb6 : Hid (Kept (v5.setCell ⟨v1.heap.size, 0, none⟩ (.int .i64 (lb : Int))) v1.heap.size #[.int .i64 (lb : Int)] 3) := Lib.hid (Kb5.out.set 0 _)
          have Ka6 := Lib.hid (Ka5.out.far (p := ⟨v1.heap.size, 0, none⟩) (fun e => NE.out e) (.int .i64 (lb : Int)))
          have A6 := Lib.hid (A5.out.setCell (p := ⟨v1.heap.size, 0, none⟩) Gb.out (.int .i64 (lb : Int)))
          clear x1 x2 x3
          refine hK.out _ _ ?_ (fun hHeld => ?_)
          · exact Lib.hid (K4.out.next A6.out)
          clear hK K
          (try simp only [Act.put, List.setIfInBounds_toArray, List.set_cons_zero, List.set_cons_succ])
          generalize v5.setCell ⟨v1.heap.size, 0, none⟩ (.int .i64 (lb : Int)) = v6 at *
          refine wpAnyH_done (by kernel_rfl) ?_ _
          have FF := Lib.hid (FX.out _ _ _ (D0.out.trans (A6.out.mono D0.out.size)) Ka6.out Kb6.out)
          clear hHeld FX
          refine noPan_normal ?_
          -- @m
          go_wp2_with fail
          go_meet
          case rel => exact FF.out
      · go_simp
        have Kb2 : Hid (Kept (v1.alloc (.cells #[.int .i64 0] 3)) v1.heap.size #[.int .i64 0] 3) := Lib.hid (Kept.new rfl)
        have A2 := Lib.hid (A1.out.alloc A1.out.size (.cells #[.int .i64 0] 3))
        have Gb : Hid (v0.heap.size ≤ v1.heap.size) := Lib.hid A1.out.size
        have Ka2 := Lib.hid (Ka1.out.alloc (.cells #[.int .i64 0] 3))
        have NE : Hid (v0.heap.size ≠ v1.heap.size) := Lib.hid (fun e => by have := Ka1.out.lt; omega)
        refine hK.out _ _ ?_ (fun hHeld => ?_)
        · exact Lib.hid (K4.out.next A2.out)
        clear hK K
        (try simp only [Act.put, List.setIfInBounds_toArray, List.set_cons_zero, List.set_cons_succ])
        generalize (v1.alloc (.cells #[.int .i64 0] 3)) = v2 at *
        refine wpAnyH_ready (rs := [2]) (by kernel_rfl) (by simp) ?_
        refine AllReadyH.cons (o := ({ dst := some 38, op := Op.call { callee := Callee.value (Operand.func 30), args := #[Operand.tmp 37], argTypes := #[2] }, type := 3, pos := "cell.go:46", after := #[{ on := 1, ground := Ground.data }], guard := none } : Oper)) rfl (fun K hK => ?_) (AllReadyH.nil)
        go_simp
        (with_reducible refine (CBa.out _).mono ?_)
        rintro _ vq ⟨rfl, hvq⟩
        have hvr := hvq.symm
        clear hvq
        subst hvr
        refine hK.out _ _ ?_ (fun hHeld => ?_)
        · exact Lib.hid (K4.out.next A2.out)
        clear hK K
        (try simp only [Act.put, List.setIfInBounds_toArray, List.set_cons_zero, List.set_cons_succ])
        refine wpAnyH_ready (rs := [5]) (by kernel_rfl) (by simp) ?_
        refine AllReadyH.cons (o := ({ dst := some 41, op := Op.call { callee := Callee.value (Operand.func 30), args := #[Operand.tmp 40], argTypes := #[2] }, type := 3, pos := "cell.go:46", after := #[{ on := 4, ground := Ground.data }, { on := 2, ground := Ground.chain }], guard := none } : Oper)) rfl (fun K hK => ?_) (AllReadyH.nil)
        go_simp
        (with_reducible refine (CBb.out _).mono ?_)
        rintro _ vq ⟨rfl, hvq⟩
        have hvr := hvq.symm
        clear hvq
        subst hvr
        refine hK.out _ _ ?_ (fun hHeld => ?_)
        · exact Lib.hid (K4.out.next A2.out)
        clear hK K
        (try simp only [Act.put, List.setIfInBounds_toArray, List.set_cons_zero, List.set_cons_succ])
        refine wpAnyH_ready (rs := [8]) (by kernel_rfl) (by simp) ?_
        refine AllReadyH.cons (o := ({ dst := none, op := Op.store 3 (Operand.tmp 3) (Operand.tmp 38), type := 0, pos := "cell.go:46", after := #[{ on := 6, ground := Ground.data }, { on := 2, ground := Ground.data }, { on := 5, ground := Ground.chain }, { on := 0, ground := Ground.phase }, { on := 1, ground := Ground.phase }, { on := 2, ground := Ground.phase }, { on := 3, ground := Ground.textOnly Departure.lateStores }, { on := 4, ground := Ground.textOnly Departure.lateStores }, { on := 5, ground := Ground.textOnly Departure.lateStoresUnsure }, { on := 6, ground := Ground.phase }, { on := 7, ground := Ground.phase }], guard := none } : Oper)) rfl (fun K hK => ?_) (AllReadyH.nil)
        obtain ⟨x1, x2, x3⟩ := Ka2.out.one
        go_simp
        have Ka5 : Hid (Kept (v2.setCell ⟨v0.heap.size, 0, none⟩ (.int .i64 (fb : Int))) v0.heap.size #[.int .i64 (fb : Int)] 3) := Lib.hid (Ka2.out.set 0 _)
        have Kb5 := Lib.hid (Kb2.out.far (p := ⟨v0.heap.size, 0, none⟩) (fun e => NE.out e.symm) (.int .i64 (fb : Int)))
        have A5 := Lib.hid (A2.out.setCell (p := ⟨v0.heap.size, 0, none⟩) Ga.out (.int .i64 (fb : Int)))
        clear x1 x2 x3
        refine hK.out _ _ ?_ (fun hHeld => ?_)
        · exact Lib.hid (K4.out.next A5.out)
        clear hK K
        (try simp only [Act.put, List.setIfInBounds_toArray, List.set_cons_zero, List.set_cons_succ])
        generalize v2.setCell ⟨v0.heap.size, 0, none⟩ (.int .i64 (fb : Int)) = v5 at *
        refine wpAnyH_ready (rs := [9]) (by kernel_rfl) (by simp) ?_
        refine AllReadyH.cons (o := ({ dst := none, op := Op.store 3 (Operand.tmp 4) (Operand.tmp 41), type := 0, pos := "cell.go:46", after := #[{ on := 7, ground := Ground.data }, { on := 5, ground := Ground.data }, { on := 8, ground := Ground.chain }, { on := 0, ground := Ground.phase }, { on := 1, ground := Ground.phase }, { on := 2, ground := Ground.phase }, { on := 3, ground := Ground.phase }, { on := 4, ground := Ground.phase }, { on := 5, ground := Ground.phase }, { on := 6, ground := Ground.phase }, { on := 7, ground := Ground.phase }, { on := 8, ground := Ground.phase }], guard := none } : Oper)) rfl (fun K hK => ?_) (AllReadyH.nil)
        obtain ⟨x1, x2, x3⟩ := Kb5.out.one
        go_simp
        have Kb6 : Hid (Kept (v5.setCell ⟨v1.heap.size, 0, none⟩ (.int .i64 (lb : Int))) v1.heap.size #[.int .i64 (lb : Int)] 3) := Lib.hid (Kb5.out.set 0 _)
        have Ka6 := Lib.hid (Ka5.out.far (p := ⟨v1.heap.size, 0, none⟩) (fun e => NE.out e) (.int .i64 (lb : Int)))
        have A6 := Lib.hid (A5.out.setCell (p := ⟨v1.heap.size, 0, none⟩) Gb.out (.int .i64 (lb : Int)))
        clear x1 x2 x3
        refine hK.out _ _ ?_ (fun hHeld => ?_)
        · exact Lib.hid (K4.out.next A6.out)
        clear hK K
        (try simp only [Act.put, List.setIfInBounds_toArray, List.set_cons_zero, List.set_cons_succ])
        generalize v5.setCell ⟨v1.heap.size, 0, none⟩ (.int .i64 (lb : Int)) = v6 at *
        refine wpAnyH_done (by kernel_rfl) ?_ _
        have FF := Lib.hid (FX.out _ _ _ (D0.out.trans (A6.out.mono D0.out.size)) Ka6.out Kb6.out)
        clear hHeld FX
        refine noPan_normal ?_
        -- @m
        go_wp2_with fail
        go_meet
        case rel => exact FF.out
    · go_simp
      have Kb1 : Hid (Kept (v0.alloc (.cells #[.int .i64 0] 3)) v0.heap.size #[.int .i64 0] 3) := Lib.hid (Kept.new rfl)
      have A1 := Lib.hid (A0.out.alloc A0.out.size (.cells #[.int .i64 0] 3))
      have Gb : Hid (v0.heap.size ≤ v0.heap.size) := Lib.hid A0.out.size
      refine hK.out _ _ ?_ (fun hHeld => ?_)
      · exact Lib.hid (K4.out.next A1.out)
      clear hK K
      (try simp only [Act.put, List.setIfInBounds_toArray, List.set_cons_zero, List.set_cons_succ])
      generalize (v0.alloc (.cells #[.int .i64 0] 3)) = v1 at *
      refine wpAnyH_ready (rs := [2, 6]) (by kernel_rfl) (by simp) ?_
      refine AllReadyH.cons (o := ({ dst := some 38, op := Op.call { callee := Callee.value (Operand.func 30), args := #[Operand.tmp 37], argTypes := #[2] }, type := 3, pos := "cell.go:46", after := #[{ on := 1, ground := Ground.data }], guard := none } : Oper)) rfl (fun K hK => ?_) (AllReadyH.cons (o := ({ dst := some 3, op := Op.alloc 3, type := 0, pos := "cell.go:46", after := #[], guard := none } : Oper)) rfl (fun K hK => ?_) (AllReadyH.nil))
      · go_simp
        (with_reducible refine (CBa.out _).mono ?_)
        rintro _ vq ⟨rfl, hvq⟩
        have hvr := hvq.symm
        clear hvq
        subst hvr
        refine hK.out _ _ ?_ (fun hHeld => ?_)
        · exact Lib.hid (K4.out.next A1.out)
        clear hK K
        (try simp only [Act.put, List.setIfInBounds_toArray, List.set_cons_zero, List.set_cons_succ])
        refine wpAnyH_ready (rs := [5, 6]) (by kernel_rfl) (by simp) ?_
        refine AllReadyH.cons (o := ({ dst := some 41, op := Op.call { callee := Callee.value (Operand.func 30), args := #[Operand.tmp 40], argTypes := #[2] }, type := 3, pos := "cell.go:46", after := #[{ on := 4, ground := Ground.data }, { on := 2, ground := Ground.chain }], guard := none } : Oper)) rfl (fun K hK => ?_) (AllReadyH.cons (o := ({ dst := some 3, op := Op.alloc 3, type := 0, pos := "cell.go:46", after := #[], guard := none } : Oper)) rfl (fun K hK => ?_) (AllReadyH.nil))
        · go_simp
          (with_reducible refine (CBb.out _).mono ?_)
          rintro _ vq ⟨rfl, hvq⟩
          have hvr := hvq.symm
          clear hvq
          subst hvr
          refine hK.out _ _ ?_ (fun hHeld => ?_)
          · exact Lib.hid (K4.out.next A1.out)
          clear hK K
          (try simp only [Act.put, List.setIfInBounds_toArray, List.set_cons_zero, List.set_cons_succ])
          refine wpAnyH_ready (rs := [6]) (by kernel_rfl) (by simp) ?_
          refine AllReadyH.cons (o := ({ dst := some 3, op := Op.alloc 3, type := 0, pos := "cell.go:46", after := #[], guard := none } : Oper)) rfl (fun K hK => ?_) (AllReadyH.nil)
          go_simp
          have Ka4 : Hid (Kept (v1.alloc (.cells #[.int .i64 0] 3)) v1.heap.size #[.int .i64 0] 3) := Lib.hid (Kept.new rfl)
          have A4 := Lib.hid (A1.out.alloc A1.out.size (.cells #[.int .i64 0] 3))
          have Ga : Hid (v0.heap.size ≤ v1.heap.size) := Lib.hid A1.out.size
          have Kb4 := Lib.hid (Kb1.out.alloc (.cells #[.int .i64 0] 3))
          have NE : Hid (v0.heap.size ≠ v1.heap.size) := Lib.hid (fun e => by have := Kb1.out.lt; omega)
          refine hK.out _ _ ?_ (fun hHeld => ?_)
          · exact Lib.hid (K4.out.next A4.out)
          clear hK K
          (try simp only [Act.put, List.setIfInBounds_toArray, List.set_cons_zero, List.set_cons_succ])
          generalize (v1.alloc (.cells #[.int .i64 0] 3)) = v4 at *
          refine wpAnyH_ready (rs := [8]) (by kernel_rfl) (by simp) ?_
          refine AllReadyH.cons (o := ({ dst := none, op := Op.store 3 (Operand.tmp 3) (Operand.tmp 38), type := 0, pos := "cell.go:46", after := #[{ on := 6, ground := Ground.data }, { on := 2, ground := Ground.data }, { on := 5, ground := Ground.chain }, { on := 0, ground := Ground.phase }, { on := 1, ground := Ground.phase }, { on := 2, ground := Ground.phase }, { on := 3, ground := Ground.textOnly Departure.lateStores }, { on := 4, ground := Ground.textOnly Departure.lateStores }, { on := 5, ground := Ground.textOnly Departure.lateStoresUnsure }, { on := 6, ground := Ground.phase }, { on := 7, ground := Ground.phase }], guard := none } : Oper)) rfl (fun K hK => ?_) (AllReadyH.nil)
          obtain ⟨x1, x2, x3⟩ := Ka4.out.one
          go_simp
          have Ka5 : Hid (Kept (v4.setCell ⟨v1.heap.size, 0, none⟩ (.int .i64 (fb : Int))) v1.heap.size #[.int .i64 (fb : Int)] 3) := Lib.hid (Ka4.out.set 0 _)
          have Kb5 := Lib.hid (Kb4.out.far (p := ⟨v1.heap.size, 0, none⟩) (fun e => NE.out e) (.int .i64 (fb : Int)))
          have A5 := Lib.hid (A4.out.setCell (p := ⟨v1.heap.size, 0, none⟩) Ga.out (.int .i64 (fb : Int)))
          clear x1 x2 x3
          refine hK.out _ _ ?_ (fun hHeld => ?_)
          · exact Lib.hid (K4.out.next A5.out)
          clear hK K
          (try simp only [Act.put, List.setIfInBounds_toArray, List.set_cons_zero, List.set_cons_succ])
          generalize v4.setCell ⟨v1.heap.size, 0, none⟩ (.int .i64 (fb : Int)) = v5 at *
          refine wpAnyH_ready (rs := [9]) (by kernel_rfl) (by simp) ?_
          refine AllReadyH.cons (o := ({ dst := none, op := Op.store 3 (Operand.tmp 4) (Operand.tmp 41), type := 0, pos := "cell.go:46", after := #[{ on := 7, ground := Ground.data }, { on := 5, ground := Ground.data }, { on := 8, ground := Ground.chain }, { on := 0, ground := Ground.phase }, { on := 1, ground := Ground.phase }, { on := 2, ground := Ground.phase }, { on := 3, ground := Ground.phase }, { on := 4, ground := Ground.phase }, { on := 5, ground := Ground.phase }, { on := 6, ground := Ground.phase }, { on := 7, ground := Ground.phase }, { on := 8, ground := Ground.phase }], guard := none } : Oper)) rfl (fun K hK => ?_) (AllReadyH.nil)
          obtain ⟨x1, x2, x3⟩ := Kb5.out.one
          go_simp
          have Kb6 : Hid (Kept (v5.setCell ⟨v0.heap.size, 0, none⟩ (.int .i64 (lb : Int))) v0.heap.size #[.int .i64 (lb : Int)] 3) := Lib.hid (Kb5.out.set 0 _)
          have Ka6 := Lib.hid (Ka5.out.far (p := ⟨v0.heap.size, 0, none⟩) (fun e => NE.out e.symm) (.int .i64 (lb : Int)))
          have A6 := Lib.hid (A5.out.setCell (p := ⟨v0.heap.size, 0, none⟩) Gb.out (.int .i64 (lb : Int)))
          clear x1 x2 x3
          refine hK.out _ _ ?_ (fun hHeld => ?_)
          · exact Lib.hid (K4.out.next A6.out)
          clear hK K
          (try simp only [Act.put, List.setIfInBounds_toArray, List.set_cons_zero, List.set_cons_succ])
          generalize v5.setCell ⟨v0.heap.size, 0, none⟩ (.int .i64 (lb : Int)) = v6 at *
          refine wpAnyH_done (by kernel_rfl) ?_ _
          have FF := Lib.hid (FX.out _ _ _ (D0.out.trans (A6.out.mono D0.out.size)) Ka6.out Kb6.out)
          clear hHeld FX
          refine noPan_normal ?_
          -- @m
          go_wp2_with fail
          go_meet
          case rel => exact FF.out
        · go_simp
          have Ka3 : Hid (Kept (v1.alloc (.cells #[.int .i64 0] 3)) v1.heap.size #[.int .i64 0] 3) := Lib.hid (Kept.new rfl)
          have A3 := Lib.hid (A1.out.alloc A1.out.size (.cells #[.int .i64 0] 3))
          have Ga : Hid (v0.heap.size ≤ v1.heap.size) := Lib.hid A1.out.size
          have Kb3 := Lib.hid (Kb1.out.alloc (.cells #[.int .i64 0] 3))
          have NE : Hid (v0.heap.size ≠ v1.heap.size) := Lib.hid (fun e => by have := Kb1.out.lt; omega)
          refine hK.out _ _ ?_ (fun hHeld => ?_)
          · exact Lib.hid (K4.out.next A3.out)
          clear hK K
          (try simp only [Act.put, List.setIfInBounds_toArray, List.set_cons_zero, List.set_cons_succ])
          generalize (v1.alloc (.cells #[.int .i64 0] 3)) = v3 at *
          refine wpAnyH_ready (rs := [5]) (by kernel_rfl) (by simp) ?_
          refine AllReadyH.cons (o := ({ dst := some 41, op := Op.call { callee := Callee.value (Operand.func 30), args := #[Operand.tmp 40], argTypes := #[2] }, type := 3, pos := "cell.go:46", after := #[{ on := 4, ground := Ground.data }, { on := 2, ground := Ground.chain }], guard := none } : Oper)) rfl (fun K hK => ?_) (AllReadyH.nil)
          go_simp
          (with_reducible refine (CBb.out _).mono ?_)
          rintro _ vq ⟨rfl, hvq⟩
          have hvr := hvq.symm
          clear hvq
          subst hvr
          refine hK.out _ _ ?_ (fun hHeld => ?_)
          · exact Lib.hid (K4.out.next A3.out)
          clear hK K
          (try simp only [Act.put, List.setIfInBounds_toArray, List.set_cons_zero, List.set_cons_succ])
          refine wpAnyH_ready (rs := [8]) (by kernel_rfl) (by simp) ?_
          refine AllReadyH.cons (o := ({ dst := none, op := Op.store 3 (Operand.tmp 3) (Operand.tmp 38), type := 0, pos := "cell.go:46", after := #[{ on := 6, ground := Ground.data }, { on := 2, ground := Ground.data }, { on := 5, ground := Ground.chain }, { on := 0, ground := Ground.phase }, { on := 1, ground := Ground.phase }, { on := 2, ground := Ground.phase }, { on := 3, ground := Ground.textOnly Departure.lateStores }, { on := 4, ground := Ground.textOnly Departure.lateStores }, { on := 5, ground := Ground.textOnly Departure.lateStoresUnsure }, { on := 6, ground := Ground.phase }, { on := 7, ground := Ground.phase }], guard := none } : Oper)) rfl (fun K hK => ?_) (AllReadyH.nil)
          obtain ⟨x1, x2, x3⟩ := Ka3.out.one
          go_simp
          have Ka5 : Hid (Kept (v3.setCell ⟨v1.heap.size, 0, none⟩ (.int .i64 (fb : Int))) v1.heap.size #[.int .i64 (fb : Int)] 3) := Lib.hid (Ka3.out.set 0 _)
          have Kb5 := Lib.hid (Kb3.out.far (p := ⟨v1.heap.size, 0, none⟩) (fun e => NE.out e) (.int .i64 (fb : Int)))
          have A5 := Lib.hid (A3.out.setCell (p := ⟨v1.heap.size, 0, none⟩) Ga.out (.int .i64 (fb : Int)))
          clear x1 x2 x3
          refine hK.out _ _ ?_ (fun hHeld => ?_)
          · exact Lib.hid (K4.out.next A5.out)
          clear hK K
          (try simp only [Act.put, List.setIfInBounds_toArray, List.set_cons_zero, List.set_cons_succ])
          generalize v3.setCell ⟨v1.heap.size, 0, none⟩ (.int .i64 (fb : Int)) = v5 at *
          refine wpAnyH_ready (rs := [9]) (by kernel_rfl) (by simp) ?_
          refine AllReadyH.cons (o := ({ dst := none, op := Op.store 3 (Operand.tmp 4) (Operand.tmp 41), type := 0, pos := "cell.go:46", after := #[{ on := 7, ground := Ground.data }, { on := 5, ground := Ground.data }, { on := 8, ground := Ground.chain }, { on := 0, ground := Ground.phase }, { on := 1, ground := Ground.phase }, { on := 2, ground := Ground.phase }, { on := 3, ground := Ground.phase }, { on := 4, ground := Ground.phase }, { on := 5, ground := Ground.phase }, { on := 6, ground := Ground.phase }, { on := 7, ground := Ground.phase }, { on := 8, ground := Ground.phase }], guard := none } : Oper)) rfl (fun K hK => ?_) (AllReadyH.nil)
          obtain ⟨x1, x2, x3⟩ := Kb5.out.one
          go_simp
          have Kb6 : Hid (Kept (v5.setCell ⟨v0.heap.size, 0, none⟩ (.int .i64 (lb : Int))) v0.heap.size #[.int .i64 (lb : Int)] 3) := Lib.hid (Kb5.out.set 0 _)
          have Ka6 := Lib.hid (Ka5.out.far (p := ⟨v0.heap.size, 0, none⟩) (fun e => NE.out e.symm) (.int .i64 (lb : Int)))
          have A6 := Lib.hid (A5.out.setCell (p := ⟨v0.heap.size, 0, none⟩) Gb.out (.int .i64 (lb : Int)))
          clear x1 x2 x3
          refine hK.out _ _ ?_ (fun hHeld => ?_)
          · exact Lib.hid (K4.out.next A6.out)
          clear hK K
          (try simp only [Act.put, List.setIfInBounds_toArray, List.set_cons_zero, List.set_cons_succ])
          generalize v5.setCell ⟨v0.heap.size, 0, none⟩ (.int .i64 (lb : Int)) = v6 at *
          refine wpAnyH_done (by kernel_rfl) ?_ _
          have FF := Lib.hid (FX.out _ _ _ (D0.out.trans (A6.out.mono D0.out.size)) Ka6.out Kb6.out)
          clear hHeld FX
          refine noPan_normal ?_
          -- @m
          go_wp2_with fail
          go_meet
          case rel => exact FF.out
      · go_simp
        have Ka2 : Hid (Kept (v1.alloc (.cells #[.int .i64 0] 3)) v1.heap.size #[.int .i64 0] 3) := Lib.hid (Kept.new rfl)
        have A2 := Lib.hid (A1.out.alloc A1.out.size (.cells #[.int .i64 0] 3))
        have Ga : Hid (v0.heap.size ≤ v1.heap.size) := Lib.hid A1.out.size
        have Kb2 := Lib.hid (Kb1.out.alloc (.cells #[.int .i64 0] 3))
        have NE : Hid (v0.heap.size ≠ v1.heap.size) := Lib.hid (fun e => by have := Kb1.out.lt; omega)
        refine hK.out _ _ ?_ (fun hHeld => ?_)
        · exact Lib.hid (K4.out.next A2.out)
        clear hK K
        (try simp only [Act.put, List.setIfInBounds_toArray, List.set_cons_zero, List.set_cons_succ])
        generalize (v1.alloc (.cells #[.int .i64 0] 3)) = v2 at *
        refine wpAnyH_ready (rs := [2]) (by kernel_rfl) (by simp) ?_
        refine AllReadyH.cons (o := ({ dst := some 38, op := Op.call { callee := Callee.value (Operand.func 30), args := #[Operand.tmp 37], argTypes := #[2] }, type := 3, pos := "cell.go:46", after := #[{ on := 1, ground := Ground.data }], guard := none } : Oper)) rfl (fun K hK => ?_) (AllReadyH.nil)
        go_simp
        (with_reducible refine (CBa.out _).mono ?_)
        rintro _ vq ⟨rfl, hvq⟩
        have hvr := hvq.symm
        clear hvq
        subst hvr
        refine hK.out _ _ ?_ (fun hHeld => ?_)
        · exact Lib.hid (K4.out.next A2.out)
        clear hK K
        (try simp only [Act.put, List.setIfInBounds_toArray, List.set_cons_zero, List.set_cons_succ])
        refine wpAnyH_ready (rs := [5]) (by kernel_rfl) (by simp) ?_
        refine AllReadyH.cons (o := ({ dst := some 41, op := Op.call { callee := Callee.value (Operand.func 30), args := #[Operand.tmp 40], argTypes := #[2] }, type := 3, pos := "cell.go:46", after := #[{ on := 4, ground := Ground.data }, { on := 2, ground := Ground.chain }], guard := none } : Oper)) rfl (fun K hK => ?_) (AllReadyH.nil)
        go_simp
        (with_reducible refine (CBb.out _).mono ?_)
        rintro _ vq ⟨rfl, hvq⟩
        have hvr := hvq.symm
        clear hvq
        subst hvr
        refine hK.out _ _ ?_ (fun hHeld => ?_)
        · exact Lib.hid (K4.out.next A2.out)
        clear hK K
        (try simp only [Act.put, List.setIfInBounds_toArray, List.set_cons_zero, List.set_cons_succ])
        refine wpAnyH_ready (rs := [8]) (by kernel_rfl) (by simp) ?_
        refine AllReadyH.cons (o := ({ dst := none, op := Op.store 3 (Operand.tmp 3) (Operand.tmp 38), type := 0, pos := "cell.go:46", after := #[{ on := 6, ground := Ground.data }, { on := 2, ground := Ground.data }, { on := 5, ground := Ground.chain }, { on := 0, ground := Ground.phase }, { on := 1, ground := Ground.phase }, { on := 2, ground := Ground.phase }, { on := 3, ground := Ground.textOnly Departure.lateStores }, { on := 4, ground := Ground.textOnly Departure.lateStores }, { on := 5, ground := Ground.textOnly Departure.lateStoresUnsure }, { on := 6, ground := Ground.phase }, { on := 7, ground := Ground.phase }], guard := none } : Oper)) rfl (fun K hK => ?_) (AllReadyH.nil)
        obtain ⟨x1, x2, x3⟩ := Ka2.out.one
        go_simp
        have Ka5 : Hid (Kept (v2.setCell ⟨v1.heap.size, 0, none⟩ (.int .i64 (fb : Int))) v1.heap.size #[.int .i64 (fb : Int)] 3) := Lib.hid (Ka2.out.set 0 _)
        have Kb5 := Lib.hid (Kb2.out.far (p := ⟨v1.heap.size, 0, none⟩) (fun e => NE.out e) (.int .i64 (fb : Int)))
        have A5 := Lib.hid (A2.out.setCell (p := ⟨v1.heap.size, 0, none⟩) Ga.out (.int .i64 (fb : Int)))
        clear x1 x2 x3
        refine hK.out _ _ ?_ (fun hHeld => ?_)
        · exact Lib.hid (K4.out.next A5.out)
        clear hK K
        (try simp only [Act.put, List.setIfInBounds_toArray, List.set_cons_zero, List.set_cons_succ])
        generalize v2.setCell ⟨v1.heap.size, 0, none⟩ (.int .i64 (fb : Int)) = v5 at *
        refine wpAnyH_ready (rs := [9]) (by kernel_rfl) (by simp) ?_
        refine AllReadyH.cons (o := ({ dst := none, op := Op.store 3 (Operand.tmp 4) (Operand.tmp 41), type := 0, pos := "cell.go:46", after := #[{ on := 7, ground := Ground.data }, { on := 5, ground := Ground.data }, { on := 8, ground := Ground.chain }, { on := 0, ground := Ground.phase }, { on := 1, ground := Ground.phase }, { on := 2, ground := Ground.phase }, { on := 3, ground := Ground.phase }, { on := 4, ground := Ground.phase }, { on := 5, ground := Ground.phase }, { on := 6, ground := Ground.phase }, { on := 7, ground := Ground.phase }, { on := 8, ground := Ground.phase }], guard := none } : Oper)) rfl (fun K hK => ?_) (AllReadyH.nil)
        obtain ⟨x1, x2, x3⟩ := Kb5.out.one
        go_simp
        have Kb6 : Hid (Kept (v5.setCell ⟨v0.heap.size, 0, none⟩ (.int .i64 (lb : Int))) v0.heap.size #[.int .i64 (lb : Int)] 3) := Lib.hid (Kb5.out.set 0 _)
        have Ka6 := Lib.hid (Ka5.out.far (p := ⟨v0.heap.size, 0, none⟩) (fun e => NE.out e.symm) (.int .i64 (lb : Int)))
        have A6 := Lib.hid (A5.out.setCell (p := ⟨v0.heap.size, 0, none⟩) Gb.out (.int .i64 (lb : Int)))
        clear x1 x2 x3
        refine hK.out _ _ ?_ (fun hHeld => ?_)
        · exact Lib.hid (K4.out.next A6.out)
        clear hK K
        (try simp only [Act.put, List.setIfInBounds_toArray, List.set_cons_zero, List.set_cons_succ])
        generalize v5.setCell ⟨v0.heap.size, 0, none⟩ (.int .i64 (lb : Int)) = v6 at *
        refine wpAnyH_done (by kernel_rfl) ?_ _
        have FF := Lib.hid (FX.out _ _ _ (D0.out.trans (A6.out.mono D0.out.size)) Ka6.out Kb6.out)
        clear hHeld FX
        refine noPan_normal ?_
        -- @m
        go_wp2_with fail
        go_meet
        case rel => exact FF.out
  case rest =>
    obtain ⟨a, b, rfl, rfl, hh⟩ := hcut
    obtain ⟨W4, hW4⟩ : ∃ x, x = wc := ⟨_, rfl⟩
    subst hW4
    have KK := Lib.hid hh.out.1
    have BB := Lib.hid hh.out.2
    have R7' := R7.out _ KK.out.1
    clear hh K3 L3 B3 CBa CBb
    go_wp2_with (first
      | (refine wpList_load_mid rfl 27 _ rfl w.heap.size 7 rfl D.toList _ R7' h_under rfl dl ?_)
      | (go_at_call 31; refine (CFu.out _).mono ?_; rintro _ _ ⟨rfl, rfl⟩))
    have KC : Hid (Kept (W4.alloc (.cells D 27)) W4.heap.size D 27) := Lib.hid (Kept.new rfl)
    have KL : Hid (RtK ⟨w.heap.size, C, a, b, fb, lb⟩ (W4.alloc (.cells D 27))) := Lib.hid ⟨KK.out.1.alloc _, KK.out.2.1.alloc _, KK.out.2.2.1.alloc _, KK.out.2.2.2.alloc _⟩
    have LB : Hid (Below w.heap.size w (W4.alloc (.cells D 27))) := Lib.hid (BB.out.alloc BB.out.size _)
    have LS : W4.heap.size < (W4.alloc (.cells D 27)).heap.size := by simp
    have LN : w.heap.size ≤ (W4.alloc (.cells D 27)).heap.size := LB.out.size
    generalize W4.alloc (.cells D 27) = W5 at *
    have fs := FS.out W4.heap.size W5 LS KC.out
    clear KK BB R7 R7' CFu FS KC
    refine wpIn_wide.1 (wpIn_rangeFunc_ownG (F := Fence.wide) (n := 8) rfl (by decide) (gf := 64) (lb := #[.pointer (some ⟨W4.heap.size, 0, none⟩)]) rfl trivial (enters_of Try.func64 (by kernel_rfl) rfl)
      fs belowK_t (belowK_b LN) (Below.refl _ _) (fun _ => rfl)
      (fun pre W => RtI ⟨w.heap.size, C, a, b, fb, lb⟩ pre W ∧ Below w.heap.size w W)
      (fun c pre W => RtX ⟨w.heap.size, C, a, b, fb, lb⟩ c pre W ∧ Below w.heap.size w W)
      (OwnFrom.and (Own.from (rtI_own _) _) (ownFrom_below (Nat.le_refl _) LN))
      (fun c => OwnFrom.and (Own.from (rtX_own _ c) _) (ownFrom_below (Nat.le_refl _) LN))
      ⟨⟨rfl, KL.out⟩, LB.out⟩ ?act ?assign ?body ?done ?stop)
    case assign =>
      intro l x W K hK
      gi_wp2
      exact hK
    case body =>
      rintro l pre x W ⟨⟨hok, hK⟩, hB⟩ _
      obtain ⟨⟨bk, v⟩, hx0, hx1⟩ := x
      have HK := Lib.hid hK
      have HB := Lib.hid hB
      have Hgo : Hid (okB fb lb (bk, v) = true → RtI ⟨w.heap.size, C, a, b, fb, lb⟩ (pre ++ [⟨(bk, v), hx0, hx1⟩]) W) := Lib.hid fun h => ⟨by rw [List.map_append, List.all_append, hok]; simpa using h, hK⟩
      have Hex : Hid (okB fb lb (bk, v) = false → RtX ⟨w.heap.size, C, a, b, fb, lb⟩ .ret (pre ++ [⟨(bk, v), hx0, hx1⟩]) (W.setCell ⟨w.heap.size + 1, 0, none⟩ (.bool false))) := Lib.hid fun h => ⟨rfl, by rw [List.map_append, List.all_append]; simp [h], hK.2.1.set 0 _⟩
      have XK : Hid (KeepsFrom W5.heap.size W (W.setCell ⟨w.heap.size + 1, 0, none⟩ (.bool false))) := Lib.hid ((KeepsOthers.setCell _ _ _).from _)
      have XB : Hid (Below w.heap.size w (W.setCell ⟨w.heap.size + 1, 0, none⟩ (.bool false))) := Lib.hid (HB.out.setCell (by simp) _)
      obtain ⟨-, k2, k3, k4⟩ := HK.out
      obtain ⟨x1, x2, x3⟩ := Kept.one k2
      obtain ⟨y1, y2, y3⟩ := Kept.one k3
      obtain ⟨z1, z2, z3⟩ := Kept.one k4
      have hv0 : bk < 65 := hx0
      have hv1 : -9223372036854775808 ≤ v := hx1.1
      have hv2 : v ≤ 9223372036854775807 := hx1.2
      clear k2 k3 k4 hok hK hB KL LB fs
      by_cases h1 : v < 0
      · have hX := Lib.hid (Hex.out (by unfold okB; simp [h1]))
        have e1 := decide_eq_true h1
        clear Hgo Hex h1
        gi_wp2
        exact ⟨XK.out, hX.out, XB.out⟩
      · have e1 := decide_eq_false h1
        by_cases h2 : bk < fb
        · have hX := Lib.hid (Hex.out (by unfold okB; simp [h2]))
          have e2 := decide_eq_true h2
          clear Hgo Hex h1 h2
          gi_wp2
          exact ⟨XK.out, hX.out, XB.out⟩
        · have e2 := decide_eq_false h2
          by_cases h3 : lb < bk
          · have hX := Lib.hid (Hex.out (by unfold okB; simp [h3]))
            have e3 := decide_eq_true h3
            clear Hgo Hex h1 h2 h3
            gi_wp2
            exact ⟨XK.out, hX.out, XB.out⟩
          · have hX := Lib.hid (Hgo.out (by unfold okB; simp [h1, h2, h3]))
            have e3 := decide_eq_false h3
            clear Hgo Hex h1 h2 h3
            gi_wp2
            exact ⟨KeepsFrom.refl _ _, Below.refl _ _, hX.out, HB.out⟩
    case done =>
      rintro G ys W hG hys ⟨⟨hok, hK⟩, hB⟩ hD
      have hys' : ys.map (fun x => x.1) = fullF c.H 65 := hys
      have FY := Lib.hid (Fyes.out (by rw [← hys']; exact hok))
      obtain ⟨E1, E2, E3⟩ := EQS.out
      obtain ⟨E4, E5⟩ := EQB.out
      have hke := HE.out W hK.1
      obtain ⟨s0, s3, s4, s5, s6⟩ := CF.out W hK.1
      have hz12 : W.cell? ⟨w.heap.size, 1, none⟩ = some (.int .i64 (hiW c.z)) ∧ W.cell? ⟨w.heap.size, 2, none⟩ = some (.int .u64 (loW c.z)) := by
        have h := hK.1
        dsimp only at h
        rw [← EQC.out] at h
        exact ⟨h.cell7.2.1, h.cell7.2.2.1⟩
      obtain ⟨z1, z2⟩ := hz12
      have c1 := hke fb bk1
      have c2 := hke lb bk2
      have hzi := HH.out.z
      have hend : endC c = if n = 0 then decide (c.z = 0 ∧ mn = 0 ∧ mx = 0) else decide (0 < c.H.getD fb 0 ∧ 0 < c.H.getD lb 0) := by
        unfold endC
        rw [E1, E2, E3, E4, E5]
      rw [hend] at FY
      obtain ⟨va, hva⟩ : ∃ v, c.H.getD fb 0 = v := ⟨_, rfl⟩
      obtain ⟨vb, hvb⟩ : ∃ v, c.H.getD lb 0 = v := ⟨_, rfl⟩
      rw [hva] at c1 FY
      rw [hvb] at c2 FY
      have HL := Lib.hid hK.2.1
      have HB := Lib.hid hB
      have HD := Lib.hid hD
      obtain ⟨x1, x2, x3⟩ := Kept.one hK.2.2.1
      obtain ⟨y1, y2, y3⟩ := Kept.one hK.2.2.2
      obtain ⟨t1, t2, t3⟩ := HL.out.one
      dsimp only at *
      by_cases hn0 : n = 0
      · rw [if_pos hn0] at FY
        have en : (n == 0) = true := by simp [hn0]
        have hwg := w_guard
        have hze : ∀ W', (binOp .eql 25 (.agg #[.int .i64 (hiW c.z), .int .u64 (loW c.z)]) (.agg #[.int .i64 0, .int .u64 0])).run Try.prog W' = .ok (.bool (decide (c.z = 0))) W' := fun W' => w_eql_zero c.z hzi W'
        rcases hb1 : decide (c.z = 0) with _ | _ <;> rcases hb2 : decide (mn = 0) with _ | _ <;> rcases hb3 : decide (mx = 0) with _ | _
        all_goals
          rw [hb1] at hze
          have e2 : (mn == 0) = decide (mn = 0) := by by_cases e : mn = 0 <;> simp [e]
          have e3 : (mx == 0) = decide (mx = 0) := by by_cases e : mx = 0 <;> simp [e]
          rw [hb2] at e2
          rw [hb3] at e3
          have hb1' := hb1
          have hb2' := hb2
          have hb3' := hb3
          simp only [decide_eq_true_eq, decide_eq_false_iff_not] at hb1' hb2' hb3'
        case pos.true.true.true =>
          rw [show decide (c.z = 0 ∧ mn = 0 ∧ mx = 0) = true by simp [hb1', hb2', hb3']] at FY
          have FG := Lib.hid FY.out
          clear hb1 hb2 hb3 hb1' hb2' hb3' hke hend hva hvb E1 E2 E3 E4 E5 hK hB hD hok hys' hn0 FY HE CF hzi c1 c2 KL LB fs
          generalize hiW c.z = zh at *
          generalize loW c.z = zl at *
          go_wp2
          have Z2 := HL.out.set 0 (.bool true)
          have ZB : Below w.heap.size w (W.setCell ⟨w.heap.size + 1, 0, none⟩ (.bool true)) := HB.out.setCell (by simp) _
          have ZK : (W.setCell ⟨w.heap.size + 1, 0, none⟩ (.bool true)).heap[G]? = some (.deferred (some [])) := (KeepsOthers.setCell _ _ _).same G _ HD.out rfl
          generalize W.setCell ⟨w.heap.size + 1, 0, none⟩ (.bool true) = W8 at *
          refine ⟨by simp, .inl ⟨_, _, rfl, run_takeDeferred ZK, ?_⟩⟩
          have Y2 := kept_own Z2 (grownBy_putObj' W8 G (.deferred none)) (fun r e => by cases e; exact ⟨_, ZK, rfl⟩)
          have YB : Below w.heap.size w (W8.putObj G (.deferred none)) := ZB.trans (belowK_b (w := w) (Nat.le_refl _) W8 G _ _ (by omega) ZK rfl rfl)
          generalize W8.putObj G (.deferred none) = W9 at *
          obtain ⟨u1, u2, u3⟩ := Kept.one (x := .bool true) Y2
          exact ⟨.bool true, by simp [results, Try.f12, go_sem, u1], FG.out _ YB⟩
        all_goals
          rw [show decide (c.z = 0 ∧ mn = 0 ∧ mx = 0) = false by simp [hb1', hb2', hb3']] at FY
          have FG := Lib.hid FY.out
          clear hb1 hb2 hb3 hb1' hb2' hb3' hke hend hva hvb E1 E2 E3 E4 E5 hK hB hD hok hys' hn0 FY HE CF hzi c1 c2 KL LB fs
          generalize hiW c.z = zh at *
          generalize loW c.z = zl at *
          go_wp2
          have Z2 := HL.out.set 0 (.bool false)
          have ZB : Below w.heap.size w (W.setCell ⟨w.heap.size + 1, 0, none⟩ (.bool false)) := HB.out.setCell (by simp) _
          have ZK : (W.setCell ⟨w.heap.size + 1, 0, none⟩ (.bool false)).heap[G]? = some (.deferred (some [])) := (KeepsOthers.setCell _ _ _).same G _ HD.out rfl
          generalize W.setCell ⟨w.heap.size + 1, 0, none⟩ (.bool false) = W8 at *
          refine ⟨by simp, .inl ⟨_, _, rfl, run_takeDeferred ZK, ?_⟩⟩
          have Y2 := kept_own Z2 (grownBy_putObj' W8 G (.deferred none)) (fun r e => by cases e; exact ⟨_, ZK, rfl⟩)
          have YB : Below w.heap.size w (W8.putObj G (.deferred none)) := ZB.trans (belowK_b (w := w) (Nat.le_refl _) W8 G _ _ (by omega) ZK rfl rfl)
          generalize W8.putObj G (.deferred none) = W9 at *
          obtain ⟨u1, u2, u3⟩ := Kept.one (x := .bool false) Y2
          exact ⟨.bool false, by simp [results, Try.f12, go_sem, u1], FG.out _ YB⟩
      · rw [if_neg hn0] at FY
        have en : (n == 0) = false := by simp [hn0]
        have hf1 : (fb : Int) < 65 := by omega
        have hf2 : (lb : Int) < 65 := by omega
        rcases hb1 : decide (0 < va) with _ | _ <;> rcases hb2 : decide (0 < vb) with _ | _
        all_goals
          have hb1' := hb1
          have hb2' := hb2
          simp only [decide_eq_true_eq, decide_eq_false_iff_not] at hb1' hb2'
        case neg.true.true =>
          rw [show decide (0 < va ∧ 0 < vb) = true by simp [hb1', hb2']] at FY
          have FG := Lib.hid FY.out
          clear hb1' hb2' hke hend hva hvb E1 E2 E3 E4 E5 hK hB hD hok hys' hn0 FY HE CF hzi KL LB fs
          generalize hiW c.z = zh at *
          generalize loW c.z = zl at *
          go_wp2
          have Z2 := HL.out.set 0 (.bool true)
          have ZB : Below w.heap.size w (W.setCell ⟨w.heap.size + 1, 0, none⟩ (.bool true)) := HB.out.setCell (by simp) _
          have ZK : (W.setCell ⟨w.heap.size + 1, 0, none⟩ (.bool true)).heap[G]? = some (.deferred (some [])) := (KeepsOthers.setCell _ _ _).same G _ HD.out rfl
          generalize W.setCell ⟨w.heap.size + 1, 0, none⟩ (.bool true) = W8 at *
          refine ⟨by simp, .inl ⟨_, _, rfl, run_takeDeferred ZK, ?_⟩⟩
          have Y2 := kept_own Z2 (grownBy_putObj' W8 G (.deferred none)) (fun r e => by cases e; exact ⟨_, ZK, rfl⟩)
          have YB : Below w.heap.size w (W8.putObj G (.deferred none)) := ZB.trans (belowK_b (w := w) (Nat.le_refl _) W8 G _ _ (by omega) ZK rfl rfl)
          generalize W8.putObj G (.deferred none) = W9 at *
          obtain ⟨u1, u2, u3⟩ := Kept.one (x := .bool true) Y2
          exact ⟨.bool true, by simp [results, Try.f12, go_sem, u1], FG.out _ YB⟩
        all_goals
          rw [show decide (0 < va ∧ 0 < vb) = false by simp [hb1', hb2']] at FY
          have FG := Lib.hid FY.out
          clear hb1' hb2' hke hend hva hvb E1 E2 E3 E4 E5 hK hB hD hok hys' hn0 FY HE CF hzi KL LB fs
          generalize hiW c.z = zh at *
          generalize loW c.z = zl at *
          go_wp2
          have Z2 := HL.out.set 0 (.bool false)
          have ZB : Below w.heap.size w (W.setCell ⟨w.heap.size + 1, 0, none⟩ (.bool false)) := HB.out.setCell (by simp) _
          have ZK : (W.setCell ⟨w.heap.size + 1, 0, none⟩ (.bool false)).heap[G]? = some (.deferred (some [])) := (KeepsOthers.setCell _ _ _).same G _ HD.out rfl
          generalize W.setCell ⟨w.heap.size + 1, 0, none⟩ (.bool false) = W8 at *
          refine ⟨by simp, .inl ⟨_, _, rfl, run_takeDeferred ZK, ?_⟩⟩
          have Y2 := kept_own Z2 (grownBy_putObj' W8 G (.deferred none)) (fun r e => by cases e; exact ⟨_, ZK, rfl⟩)
          have YB : Below w.heap.size w (W8.putObj G (.deferred none)) := ZB.trans (belowK_b (w := w) (Nat.le_refl _) W8 G _ _ (by omega) ZK rfl rfl)
          generalize W8.putObj G (.deferred none) = W9 at *
          obtain ⟨u1, u2, u3⟩ := Kept.one (x := .bool false) Y2
          exact ⟨.bool false, by simp [results, Try.f12, go_sem, u1], FG.out _ YB⟩
    case stop =>
      rintro G cc pre W hG ⟨kk, hkk, hpre⟩ ⟨⟨rfl, hno, hK⟩, hB⟩ hD
      have FN := Lib.hid (Fno.out (by
        cases e : (fullF c.H 65).all (okB fb lb) with
        | false => rfl
        | true =>
          have hpre' : pre.map (fun x => x.1) = fullF c.H kk := hpre
          rw [List.all_eq_true] at e
          rw [hpre', List.all_eq_false] at hno
          obtain ⟨x, hx, hx2⟩ := hno
          exact absurd (e x (fullF_sub c.H kk hkk x hx)) hx2))
      have YB : Below w.heap.size w (W.putObj G (.deferred none)) := hB.trans (belowK_b (w := w) (Nat.le_refl _) W G _ _ (by omega) hD rfl rfl)
      have HK := Lib.hid hK
      clear hno hpre hK hB fs
      refine wpIn_wide.2 ?_
      go_wp2
      refine ⟨by simp, .inl ⟨_, _, rfl, run_takeDeferred hD, ?_⟩⟩
      have Y2 := kept_own HK.out (grownBy_putObj' W G (.deferred none)) (fun r e => by cases e; exact ⟨_, hD, rfl⟩)
      generalize W.putObj G (.deferred none) = W9 at *
      obtain ⟨u1, u2, u3⟩ := Kept.one Y2
      exact ⟨.bool false, by simp [results, Try.f12, go_sem, u1], FN.out _ YB⟩
theorem right_any (c : Ce) (w : World) (hc : CeIn c) : Calls Try.prog 12 #[.agg c.A] w (Gives (.bool (rtC c)) w) := by
  cases h : preC c with
  | false => exact right_pre c w hc h
  | true =>
    by_cases hs : isum c.H = c.n
    · exact right_good c w hc h hs
    · exact right_tot c w hc h hs
end Go.Proofs.Ytpmoidpncpfnlaa
