/- Two cells, compared. -/
import Derived.Test.YtpmoidpncpfnlaaCelO
import Derived.ChangeKeysEq
import Derived.Laws.StructEq
namespace Go.Proofs.Ytpmoidpncpfnlaa
open Go.RowKit
set_option linter.unusedVariables false
set_option linter.unusedSimpArgs false

theorem cA_get (q : Ce) (i : Nat) (v : Value) (h : (ceL q.n (hiW q.z) (loW q.z) q.mn q.mx q.ce q.po q.H)[i]? = some v) : q.A[i]? = some v := by
  unfold Ce.A; rw [List.getElem?_toArray]; exact h
theorem p_n (q : Ce) (w : World) : (part 2 q.A 0).run Try.prog w = .ok (.int .i64 q.n) w := by
  have hc : q.A[0]? = some (.int .i64 q.n) := cA_get q 0 _ rfl
  simp [part, go_sem, Try.sizeOf2, Try.isAgg2, hc]
theorem p_mn (q : Ce) (w : World) : (part 2 q.A 3).run Try.prog w = .ok (.int .i64 q.mn) w := by
  have hc : q.A[3]? = some (.int .i64 q.mn) := cA_get q 3 _ rfl
  simp [part, go_sem, Try.sizeOf2, Try.isAgg2, hc]
theorem p_mx (q : Ce) (w : World) : (part 2 q.A 4).run Try.prog w = .ok (.int .i64 q.mx) w := by
  have hc : q.A[4]? = some (.int .i64 q.mx) := cA_get q 4 _ rfl
  simp [part, go_sem, Try.sizeOf2, Try.isAgg2, hc]
theorem p_ce (q : Ce) (w : World) : (part 2 q.A 5).run Try.prog w = .ok (.int .i64 q.ce) w := by
  have hc : q.A[5]? = some (.int .i64 q.ce) := cA_get q 5 _ rfl
  simp [part, go_sem, Try.sizeOf2, Try.isAgg2, hc]
theorem p_po (q : Ce) (w : World) : (part 2 q.A 6).run Try.prog w = .ok (.int .i64 q.po) w := by
  have hc : q.A[6]? = some (.int .i64 q.po) := cA_get q 6 _ rfl
  simp [part, go_sem, Try.sizeOf2, Try.isAgg2, hc]
theorem p_z (q : Ce) (w : World) : (part 25 q.A 1).run Try.prog w = .ok (.agg #[.int .i64 (hiW q.z), .int .u64 (loW q.z)]) w := by
  have hc : q.A.extract 1 3 = #[.int .i64 (hiW q.z), .int .u64 (loW q.z)] := by
    unfold Ce.A
    rw [List.extract_toArray]
    rfl
  simp [part, go_sem, Try.sizeOf25, Try.isAgg25, hc]
theorem p_H (q : Ce) (h : q.H.length = 65) (w : World) : (part 27 q.A 7).run Try.prog w = .ok (.agg (hC q.H)) w := by
  have hc : q.A.extract 7 72 = hC q.H := by
    unfold Ce.A hC
    rw [List.extract_toArray]
    congr 1
    show List.take 65 (q.H.map (Value.int .i64)) = _
    rw [List.take_of_length_le (by simp [h])]
  simp [part, go_sem, Try.sizeOf27, Try.isAgg27, hc]
theorem run_part65 (l : List Int) (k : Nat) (hk : k < l.length) (w : World) : (part 2 (hC l) (k * 1)).run Try.prog w = .ok (.int .i64 (l.getD k 0)) w := by
  have hc := hC_get l k hk
  simp [part, go_sem, Try.sizeOf2, Try.isAgg2, hc]
theorem run_eqInt (d : Nat) (a b : Int) (w : World) : (Op.equalIn (d + 1) 2 (.int .i64 a) (.int .i64 b)).run Try.prog w = .ok (a == b) w := by
  simp [Op.equalIn, run_underlying Try.underlying2, go_sem]
theorem run_items65 (d : Nat) (l m : List Int) (w : World) : ∀ (is : List Nat), (∀ i ∈ is, i < l.length ∧ i < m.length) → (Op.eqItems (d + 1) 2 1 (hC l) (hC m) is).run Try.prog w = .ok (is.all fun i => l.getD i 0 == m.getD i 0) w
  | [], h => by simp [Op.eqItems]
  | i :: is, h => by
    have hi := h i (by simp)
    have hr := run_items65 d l m w is (fun j hj => h j (by simp [hj]))
    simp only [Op.eqItems, Sem.run_bind, run_part65 l i hi.1, run_part65 m i hi.2, Result.andThen_ok, run_eqInt, List.all_cons]
    cases l.getD i 0 == m.getD i 0
    · simp
    · simpa using hr
theorem all_eq65 {l m : List Int} (hl : l.length = 65) (hm : m.length = 65) : ((List.range 65).all fun i => l.getD i 0 == m.getD i 0) = decide (l = m) := by
  by_cases h : l = m
  · subst h; simp
  · rw [decide_eq_false h]
    cases e : (List.range 65).all fun i => l.getD i 0 == m.getD i 0 with
    | false => rfl
    | true =>
      rw [List.all_eq_true] at e
      exact absurd (ext65 hl hm fun b hb => eq_of_beq (e b (List.mem_range.2 hb))) h
theorem run_eqWide (d : Nat) (a b c e : Int) (w : World) : (Op.equalIn (d + 2) 25 (.agg #[.int .i64 a, .int .u64 b]) (.agg #[.int .i64 c, .int .u64 e])).run Try.prog w = .ok (a == c && b == e) w := by
  by_cases h : a = c
  · subst h
    by_cases h3 : b = e
    · subst h3; simp [go_sem]
    · have h4 : (b == e) = false := by simp [h3]
      simp [go_sem, h3]
  · have h2 : (a == c) = false := by simp [h]
    simp [go_sem, h2]
theorem c_fields : (Try.prog.fieldsOf 29).toList.map (fun f => (f.type, f.offset, decide (f.name ≠ "_"))) = [(2, 0, true), (25, 1, true), (2, 3, true), (2, 4, true), (2, 5, true), (2, 6, true), (27, 7, true)] := by kernel_rfl
theorem eqFields_cons {P : Program} {d : Nat} {xs ys : Array Value} {f : Field} {fs : List Field} {t : TypeId} {off : Nat} (hf : (f.type, f.offset, decide (f.name ≠ "_")) = (t, off, true)) {a b : Value} {r : Bool} {w : World}
    (ha : (part t xs off).run P w = .ok a w) (hb : (part t ys off).run P w = .ok b w) (hr : (Op.equalIn d t a b).run P w = .ok r w) : (Op.eqFields d xs ys (f :: fs)).run P w = if r = true then (Op.eqFields d xs ys fs).run P w else .ok false w := by
  simp only [Prod.mk.injEq, decide_eq_true_eq] at hf
  obtain ⟨rfl, rfl, hn⟩ := hf
  cases r <;> simp [Op.eqFields, hn, ha, hb, hr, Result.andThen]
set_option maxRecDepth 1000000 in
theorem h_equalD {l m : List Int} (d : Nat) (hl : l.length = 65) (hm : m.length = 65) (w : World) : (Op.equalIn (d + 2) 27 (.agg (hC l)) (.agg (hC m))).run Try.prog w = .ok (decide (l = m)) w := by
  obtain ⟨i, hi⟩ : ∃ i, Try.prog.info? 2 = some i := ⟨_, rfl⟩
  have hc : Try.prog.cellsOf 2 = 1 := by kernel_rfl
  rw [run_equalIn_array (P := Try.prog) w (d + 1) (hC l) (hC m) h_under hi, hc, run_items65 d l m w (List.range 65) (fun i hi => by rw [hl, hm]; have := List.mem_range.1 hi; exact ⟨this, this⟩), all_eq65 hl hm]
def eqCe (q r : Ce) : Bool := q.n == r.n && (hiW q.z == hiW r.z && loW q.z == loW r.z) && q.mn == r.mn && q.mx == r.mx && q.ce == r.ce && q.po == r.po && decide (q.H = r.H)
set_option maxRecDepth 1000000 in
theorem c_eqv (q r : Ce) (hq : q.H.length = 65) (hr : r.H.length = 65) (w : World) : (binOp .eql 29 (.agg q.A) (.agg r.A)).run Try.prog w = .ok (.bool (eqCe q r)) w := by
  have hu : Try.prog.underlying 29 = some (.struct (Try.prog.fieldsOf 29)) := by kernel_rfl
  have hp : Try.prog.stoodInHeld 29 = false := by kernel_rfl
  have hf := c_fields
  rw [run_eql_struct, show (10000 : Nat) = 9997 + 2 + 1 from rfl, run_equalIn_struct w (9997 + 2) 29 q.A r.A hu hp]
  generalize (Try.prog.fieldsOf 29).toList = fs at hf
  have hl : fs.length = 7 := by have := congrArg List.length hf; simpa using this
  match fs, hl, hf with
  | [f0, f1, f2, f3, f4, f5, f6], _, hf =>
    simp only [List.map_cons, List.map_nil, List.cons.injEq] at hf
    obtain ⟨e0, e1, e2, e3, e4, e5, e6, -⟩ := hf
    rw [eqFields_cons e0 (p_n q w) (p_n r w) (run_equalIn_int w (9997 + 1) 2 .i64 .i64 q.n r.n Try.underlying2), eqFields_cons e1 (p_z q w) (p_z r w) (run_eqWide 9997 _ _ _ _ w), eqFields_cons e2 (p_mn q w) (p_mn r w) (run_equalIn_int w (9997 + 1) 2 .i64 .i64 q.mn r.mn Try.underlying2), eqFields_cons e3 (p_mx q w) (p_mx r w) (run_equalIn_int w (9997 + 1) 2 .i64 .i64 q.mx r.mx Try.underlying2),
      eqFields_cons e4 (p_ce q w) (p_ce r w) (run_equalIn_int w (9997 + 1) 2 .i64 .i64 q.ce r.ce Try.underlying2), eqFields_cons e5 (p_po q w) (p_po r w) (run_equalIn_int w (9997 + 1) 2 .i64 .i64 q.po r.po Try.underlying2), eqFields_cons e6 (p_H q hq w) (p_H r hr w) (h_equalD 9997 hq hr w)]
    unfold eqCe
    generalize (q.n == r.n) = b0
    generalize (hiW q.z == hiW r.z && loW q.z == loW r.z) = b1
    generalize (q.mn == r.mn) = b2
    generalize (q.mx == r.mx) = b3
    generalize (q.ce == r.ce) = b4
    generalize (q.po == r.po) = b5
    generalize decide (q.H = r.H) = b6
    cases b0 <;> cases b1 <;> cases b2 <;> cases b3 <;> cases b4 <;> cases b5 <;> cases b6 <;> simp [Op.eqFields, Result.andThen]
theorem eqCe_self (q : Ce) : eqCe q q = true := by simp [eqCe]
theorem eqCe_no {q r : Ce} (hq : InW q.z) (hr : InW r.z) (h : q ≠ r) : eqCe q r = false := by
  cases e : eqCe q r with
  | false => rfl
  | true =>
    unfold eqCe at e
    simp only [Bool.and_eq_true, beq_iff_eq, decide_eq_true_eq] at e
    obtain ⟨⟨⟨⟨⟨⟨a0, a1, a2⟩, a3⟩, a4⟩, a5⟩, a6⟩, a7⟩ := e
    have hz : q.z = r.z := by rw [← wz_in hq, ← wz_in hr, a1, a2]
    cases q; cases r
    simp_all
theorem c_eql_self (q : Ce) (hq : q.H.length = 65) (w : World) : (binOp .eql 29 (.agg q.A) (.agg q.A)).run Try.prog w = .ok (.bool true) w := by
  rw [c_eqv q q hq hq, eqCe_self]
end Go.Proofs.Ytpmoidpncpfnlaa
