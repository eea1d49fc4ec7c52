/- hist.Full: the iterator's contract. -/
import Derived.RangeFuncBox
import Derived.RangeFuncNested
import Derived.RangeFuncBound
import Derived.RangeFuncCalls
import Derived.RangeFuncLeaves
import Derived.Shelf.Abstract
import Derived.Shelf.RegionOpen
import Derived.WalkKit
import Derived.OwnWalkIn
import Derived.TacticsInMore
import Derived.LoopNIn
import Derived.LoopIn
import Derived.Test.YtpmoidpncpfnlaaHistE
namespace Go.Proofs.Ytpmoidpncpfnlaa
open Go.RowKit Go.Shelf
set_option linter.unusedVariables false
attribute [local go_sem] Oper.semAt_some

theorem wpListIn_load_row {F : Fence} {n : Nat} {P : Program} {ops : Array Oper} {rest : List Oper} {o : Oper} {a : Act} {w : World} {Q : Exit → Act → World → Prop} (hgd : o.guard = none) (ty : TypeId) (x : Operand) (ho : o.op = .load ty x)
    (g : Nat) (hx : a.eval x = .pointer (some ⟨g, 0, none⟩)) (t : TypeId) (cs : Array Value) (fr : Nat × Nat) (d : TypeDesc) (hg : w.heap[g]? = some (.cells cs t fr))
    (hu : P.underlying ty = some d) (hd : (match d with | .struct _ | .array _ _ => true | _ => false) = true) (hi : (P.info? ty).map (·.size) = some cs.size)
    (h : wpListIn F n P ops Q rest (a.put o.dst (.agg cs)) w) : wpListIn F n P ops Q (o :: rest) a w := by
  refine wpListIn_plain hgd fun K hK' => ?_
  unfold Oper.wpIn
  refine ⟨?_, ?_⟩
  · simp [Oper.about, ho]
  · rw [Oper.semAt_plain F _ _ (by rw [ho]; intro c hc'; cases hc')]
    simp only [execOp, ho, hx, Instr.loadAt, Instr.sureAddr, Sem.run_bind, Sem.run_pure, Result.andThen_ok, run_loadVar_row w g t ty cs fr d hg hu hd hi]
    exact hK' _ _ h
/-- the buckets below k whose count isn't 0 -/
def fullF (l : List Int) (k : Nat) : List (Nat × Int) := ((List.range k).map fun b => (b, l.getD b 0)).filter fun p => decide (p.2 ≠ 0)
theorem fullF_zero (l : List Int) : fullF l 0 = [] := rfl
theorem fullF_skip (l : List Int) (k : Nat) (h : l.getD k 0 = 0) : fullF l (k + 1) = fullF l k := by
  unfold fullF
  rw [List.range_succ, List.map_append, List.filter_append, List.map_singleton, h]
  simp
theorem fullF_take (l : List Int) (k : Nat) (h : ¬ l.getD k 0 = 0) : fullF l (k + 1) = fullF l k ++ [(k, l.getD k 0)] := by
  unfold fullF
  rw [List.range_succ, List.map_append, List.filter_append, List.map_singleton]
  generalize l.getD k 0 = v at *
  simp [h]
theorem fullF_len (l : List Int) (k : Nat) : (fullF l k).length ≤ k := by
  unfold fullF
  refine Nat.le_trans (List.length_filter_le _ _) ?_
  simp
set_option maxRecDepth 1000000 in
set_option maxHeartbeats 4000000 in
theorem full1_in (F : Fence) (n : Nat) (h46 : F.fn 64) (hro : F.round = none) (hn : 1 ≤ n) (l Bs n₀ : Nat) (h : List Int) (h65 : h.length = 65) (p : Nat × Int → Prop) (hp : ∀ k, k < 65 → p (k, h.getD k 0)) (J Jx : List {x : Nat × Int // p x} → World → Prop)
    (hY : ∀ pre x W, J pre W → pre.length < 65 → YieldAt F (n - 1) Try.prog l #[.int .i64 (x.1.1 : Int), .int .i64 x.1.2] W fun e W' =>
      (e = .returned (.bool true) ∧ J (pre ++ [x]) W' ∧ Below n₀ W W') ∨ (e = .returned (.bool false) ∧ Jx (pre ++ [x]) W'))
    (W : World) (hBs : Kept W Bs (hC h) 27) (h0 : J [] W) :
    CallsIn F n Try.prog 64 #[.func (.yield l) #[] #[], .pointer (some ⟨Bs, 0, none⟩)] W fun e W' => (∃ v, e = .returned v) ∧
      ((∃ ys, ys.map (·.1) = fullF h 65 ∧ J ys W') ∨ (∃ pre, (∃ k, k ≤ 65 ∧ pre.map (·.1) = fullF h k) ∧ Jx pre W')) := by
  have HI := Lib.hid (fun k hk W => h_index h h65 k hk W)
  have HG := Lib.hid hBs
  have hi : (Try.prog.info? 27).map (·.size) = some (hC h).size := by rw [hC_size, h65]; exact h_info
  obtain ⟨C, hC1⟩ : ∃ C, hC h = C := ⟨_, rfl⟩
  rw [hC1] at HI HG hi
  clear hBs hC1 h65
  refine callsIn_of_wp Try.func64 rfl h46 ?_ hro
  simp only [Try.ntmps64, List.size_toArray, List.length_cons, List.length_nil, Nat.reduceAdd, Nat.reduceSub, Array.replicate_succ, Array.replicate_zero, List.push_toArray, List.append_toArray, List.nil_append, List.cons_append]
  gi_wp2_with (refine wpListIn_load_row rfl 27 _ rfl Bs rfl 27 C (0, 0) _ HG.out h_under rfl hi ?_)
  clear HG hi
  gi_loopw [6] (fun i wr => ∃ (k : Nat) (pre : List {x : Nat × Int // p x}), k ≤ 65 ∧ i = .int .i64 k ∧ Hid (pre.map (·.1) = fullF h k) ∧ J pre wr)
    (fun i _ => 65 - (intOf i).toNat)
  case atStart => exact ⟨0, [], Nat.zero_le _, rfl, Lib.hid rfl, h0⟩
  case round =>
    obtain ⟨k, pre, hk, rfl, HP, hJs⟩ := hrel
    by_cases hlt : k < 65
    · have hx := HI.out k hlt
      have hpk := hp k hlt
      have hle := fullF_len h k
      have hsk := fullF_skip h k
      have htk := fullF_take h k
      obtain ⟨v, hv⟩ : ∃ v, h.getD k 0 = v := ⟨_, rfl⟩
      rw [hv] at hx hsk htk hpk
      have hkk : (k : Int) < 65 := by omega
      by_cases hz : v = 0
      · have e := hsk hz
        subst hz
        clear hsk htk hv
        have HLT := Lib.hid hlt
        have HE := Lib.hid e
        clear e hlt hle hk
        gi_wp2
        all_goals (try (refine ⟨fun _ h => (by cases h), ?_⟩; gi_wp2))
        go_roundw
        case rel => exact ⟨k + 1, pre, by have := HLT.out; omega, by simp, Lib.hid (by rw [HE.out]; exact HP.out), hJs⟩
        case measure => have := HLT.out; simp [intOf]; omega
      · have HE : Hid ((pre ++ [(⟨(k, v), hpk⟩ : {x : Nat × Int // p x})]).map (fun x => x.1) = fullF h (k + 1)) := Lib.hid (by rw [htk hz, List.map_append, HP.out]; rfl)
        have hz2 : decide (v = 0) = false := decide_eq_false hz
        obtain ⟨fn, tmps, assign, body, hy, hR⟩ := hY pre ⟨(k, v), hpk⟩ wr hJs (by have := congrArg List.length HP.out; rw [List.length_map] at this; omega)
        dsimp only at hy
        have HLT := Lib.hid hlt
        clear hsk htk hv hle hlt hk
        gi_wp2
        refine hR.mono ?_
        rintro e W3 (⟨rfl, hJ3, hk3⟩ | ⟨rfl, hJx3⟩)
        · gi_wp2
          go_roundw
          case rel => exact ⟨k + 1, _, by have := HLT.out; omega, by simp, HE, hJ3⟩
          case measure => have := HLT.out; simp [intOf]; omega
        · gi_wp2
          refine bodyPost_ret (results_none rfl _ _ _) rfl ?_
          exact ⟨⟨_, rfl⟩, .inr ⟨_, ⟨k + 1, by have := HLT.out; omega, HE.out⟩, hJx3⟩⟩
    · obtain rfl : k = 65 := by omega
      gi_wp2
      go_end0
      exact ⟨⟨_, rfl⟩, .inl ⟨_, HP.out, hJs⟩⟩
set_option maxRecDepth 1000000 in
set_option maxHeartbeats 1000000 in
theorem full_any (h : List Int) (h65 : h.length = 65) (w : World) : Calls Try.prog 31 #[.agg (hC h)] w fun e w' => e = .returned (.func (.func 64) #[] #[.pointer (some ⟨w.heap.size, 0, none⟩)]) ∧ w' = w.alloc (.cells (hC h) 27) := by
  generalize hC h = C
  clear h65
  go_enter Try.func31, Try.ntmps31
  go_wp2
  go_ret
  exact ⟨rfl, rfl⟩
theorem full_stops (F : Fence) (n : Nat) (h46 : F.fn 64) (hro : F.round = none) (hn : 1 ≤ n) (Bs n₀ : Nat) (h : List Int) (h65 : h.length = 65) (p : Nat × Int → Prop) (hp : ∀ k, k < 65 → p (k, h.getD k 0)) (w : World) (hBs : Bs < w.heap.size) (hc : Kept w Bs (hC h) 27) :
    SeqStopsK F n Try.prog 64 #[.pointer (some ⟨Bs, 0, none⟩)] (fun x : {x : Nat × Int // p x} => #[Value.int .i64 (x.1.1 : Int), Value.int .i64 x.1.2]) (Below n₀) (fun ys => ys.map (·.1) = fullF h 65)
      (fun pre => ∃ k, k ≤ 65 ∧ pre.map (·.1) = fullF h k) 65 w := fun l J Jx W hW _ _ hY h0 =>
  full1_in F n h46 hro hn l Bs n₀ h h65 p hp J Jx hY W (hc.below hW hBs) h0
/-- the counts of buckets -/
def sumP (pre : List (Nat × Int)) : Int := isum (pre.map (·.2))
theorem isum_single (v : Int) : isum [v] = v := by simp [isum]
theorem sumP_snoc (pre : List (Nat × Int)) (x : Nat × Int) : sumP (pre ++ [x]) = sumP pre + x.2 := by
  unfold sumP
  rw [List.map_append, isum_append, List.map_singleton, isum_single]
theorem sumP_full (h : List Int) (h65 : h.length = 65) (k : Nat) (hk : k ≤ 65) : sumP (fullF h k) = isum (h.take k) := by
  induction k with
  | zero => rfl
  | succ k ih =>
    have ih := ih (by omega)
    have ht := isum_snoc h k (by omega)
    by_cases h0 : h.getD k 0 = 0
    · rw [fullF_skip h k h0, ih, ht, h0]; omega
    · rw [fullF_take h k h0, sumP_snoc, ih, ht]
theorem fullF_last (h : List Int) (k : Nat) (ini : List (Nat × Int)) (x : Nat × Int) (e : fullF h k = ini ++ [x]) : ini = fullF h x.1 ∧ x.1 < k ∧ x.2 = h.getD x.1 0 := by
  induction k with
  | zero => rw [fullF_zero] at e; cases ini <;> simp at e
  | succ k ih =>
    by_cases h0 : h.getD k 0 = 0
    · rw [fullF_skip h k h0] at e
      obtain ⟨a, b, c⟩ := ih e
      exact ⟨a, by omega, c⟩
    · rw [fullF_take h k h0] at e
      obtain ⟨e1, e2⟩ := List.append_inj' e rfl
      have e3 : (k, h.getD k 0) = x := by simpa using e2
      subst e3
      exact ⟨e1.symm, Nat.lt_succ_self k, rfl⟩
end Go.Proofs.Ytpmoidpncpfnlaa
