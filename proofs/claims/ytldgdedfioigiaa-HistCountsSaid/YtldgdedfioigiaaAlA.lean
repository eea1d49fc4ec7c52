/- Facts for Alive of layer 5: of gen_alive05.py. -/
import Derived.Test.YtldgdedfioigiaaHistH
import Derived.Great.BuildSlice
namespace Go.Proofs.Ytldgdedfioigiaa
open Go.RowKit Go.Shelf
set_option linter.unusedVariables false
set_option linter.unusedSimpArgs false
attribute [local go_sem] Oper.semAt_some

theorem rank_any (h : List Int) (k : Int) (w : World) (h65 : h.length = 65) (hin : ∀ b, b < 65 → InI (h.getD b 0)) (hk : InW k) : Calls Try.prog 24 #[.agg (hC h), wI k] w (RkOut h k w) := by
  by_cases hok : okL h = true
  · by_cases hn : k < 0
    · exact rank_neg h k w h65 hin hk hok hn
    · exact rank_good h k w h65 hin hk hok hn
  · exact rank_form h k w h65 hin hk (by simpa using hok)
theorem colS2 (l m : List Int) (b : Nat) : colS [l, m] b = l.getD b 0 + m.getD b 0 := by simp [colS, isum]
theorem negP2 {l m : List Int} (h1 : okL l = true) (h2 : okL m = true) : ¬ negP [l, m] := fun ⟨j, hj, h⟩ => by
  have hlen : j = 0 ∨ j = 1 := by simp at hj; omega
  rcases hlen with rfl | rfl
  · have : okL l = false := h
    rw [h1] at this; cases this
  · have : okL m = false := h
    rw [h2] at this; cases this
theorem overP2 {l m : List Int} (h : ∀ b, b < 65 → l.getD b 0 + m.getD b 0 ≤ 9223372036854775807) : ¬ overP [l, m] := fun ⟨b, hb, ho⟩ => by
  rw [colS2] at ho
  have := h b hb
  omega
theorem mg_ok {L : List (List Int)} {w w' : World} {e : Ending} (h : MgOut L w e w') (hn : ¬ negP L) (ho : ¬ overP L) : Gives (.tuple #[.agg (hC (sumR L)), .int .i64 0]) w e w' := by
  obtain ⟨⟨l, E, rfl, H⟩, hb⟩ := h
  rcases H.out with ⟨a, _⟩ | ⟨_, a, _⟩ | ⟨_, _, rfl, rfl⟩
  · exact absurd a hn
  · exact absurd a ho
  · exact ⟨rfl, hb⟩
def L0 : List Int := cntL [0, 1, 1, 5]
def L9 : List Int := cntL [-9]
def LM : List Int := sumR [L0, L0]
def LA : List Int := sumR [L0, L9]
theorem L0_len : L0.length = 65 := cntL_len _
theorem L9_len : L9.length = 65 := cntL_len _
theorem L0_in : ∀ b, b < 65 → InI (L0.getD b 0) := fun b hb => cntL_in _ (by simp) b hb
theorem al_of (g : Nat) (w : World) (h : Kept w g #[.int .i64 0, .int .i64 1, .int .i64 1, .int .i64 5] 2) : Calls Try.prog 14 #[.slice (some ⟨g, 0, none⟩) 4 4] w (Gives (.agg (hC L0)) w) :=
  hof_any (some ⟨g, 0, none⟩) 4 [0, 1, 1, 5] w (Kept.intRow (l := [0, 1, 1, 5]) h) (by decide) (by simp)
theorem al_merge (g : Nat) (w : World) (h : w.heap[g]? = some (.cells (hC L0 ++ hC L0) 33 (0, 0))) : Calls Try.prog 16 #[.slice (some ⟨g, 0, none⟩) 2 2] w (Gives (.tuple #[.agg (hC LM), .int .i64 0]) w) :=
  (merge_any _ 2 [L0, L0] w (rows2 L0_len L0_len h) (all2 L0_len L0_len) (by simp) (in2 L0_in L0_in)).mono fun e w' hm => mg_ok hm (negP2 (by decide +kernel) (by decide +kernel)) (overP2 (by decide +kernel))
theorem al_add (w : World) : Calls Try.prog 19 #[.agg (hC L0), .int .i64 (-9)] w (Gives (.tuple #[.agg (hC LA), .int .i64 0]) w) :=
  (add_any L0 (-9) w L0_len L0_in (by decide)).mono fun e w' hm => mg_ok hm (negP2 (by decide +kernel) (by decide +kernel)) (overP2 (by decide +kernel))
theorem wI_two : wI 2 = .agg #[.int .i64 0, .int .u64 2] := by
  unfold wI
  rw [show hiW 2 = 0 by decide +kernel, show loW 2 = 2 by decide +kernel]
theorem wI_four : wI 4 = .agg #[.int .i64 0, .int .u64 4] := by
  unfold wI
  rw [show hiW 4 = 0 by decide +kernel, show loW 4 = 4 by decide +kernel]
theorem al_of2 (w : World) : Calls Try.prog 27 #[.int .i64 2] w (Gives (.agg #[.int .i64 0, .int .u64 2]) w) := by
  have h := wof_any 2 w (by decide)
  rw [wI_two] at h
  exact h
theorem al_of4 (w : World) : Calls Try.prog 27 #[.int .i64 4] w (Gives (.agg #[.int .i64 0, .int .u64 4]) w) := by
  have h := wof_any 4 w (by decide)
  rw [wI_four] at h
  exact h
theorem al_total (w : World) : Calls Try.prog 23 #[.agg (hC L0)] w (Gives (.agg #[.int .i64 0, .int .u64 4]) w) := by
  have h := total_any L0 w L0_len L0_in
  rw [show isum L0 = 4 by decide +kernel, wI_four] at h
  exact h
theorem al_rank (w : World) : Calls Try.prog 24 #[.agg (hC L0), .agg #[.int .i64 0, .int .u64 2]] w (Gives (.tuple #[.int .i64 2, .bool true]) w) := by
  have h := rank_any L0 2 w L0_len L0_in (by decide)
  rw [wI_two] at h
  refine h.mono fun e w' hm => ?_
  obtain ⟨⟨v, ok, rfl, H⟩, hb⟩ := hm
  have hu : ∀ b, b < 65 → isum (L0.take b) ≤ 2 → 2 < isum (L0.take (b + 1)) → b = 2 := by decide +kernel
  have h1 : okL L0 = true := by decide +kernel
  have h2 : isum L0 = 4 := by decide +kernel
  rcases H.out with ⟨_, _, rfl, b, h3, rfl, h4, h5⟩ | ⟨h3, _, _⟩
  · obtain rfl := hu b h3 h4 h5
    exact ⟨rfl, hb⟩
  · rw [h1, h2] at h3
    rcases h3 with h3 | h3 | h3
    · cases h3
    · omega
    · omega
theorem al_b4 (w : World) : Calls Try.prog 11 #[.int .i64 4] w (Gives (.tuple #[.agg #[.int .i64 4, .int .i64 7], .bool true]) w) := by
  have h := bounds_more 2 4 (by decide) (by decide) 4 (by decide) (by decide) (by decide) w
  exact h
theorem al_b65 (w : World) : Calls Try.prog 11 #[.int .i64 65] w (Gives (.tuple #[.agg #[.int .i64 0, .int .i64 0], .bool false]) w) :=
  bounds_out 65 w (.inr ⟨by decide, by decide⟩)
theorem al_bucket (w : World) : Calls Try.prog 9 #[.int .i64 4611686018427387904] w fun e w' => e = .returned (.int .i64 64) ∧ w' = w := by
  have h := bucket_any 4611686018427387904 w (by decide)
  rw [show bkt 4611686018427387904 = 64 by decide +kernel] at h
  exact h
/-- a region that does not panic -/
def noPan (Q : Exit → Act → World → Prop) : Exit → Act → World → Prop
  | .panic _, _, _ => False
  | e, a, w => Q e a w
theorem noPan_out {Q : Exit → Act → World → Prop} {e : Exit} {a : Act} {w : World} (h : noPan Q e a w) : Q e a w := by
  cases e <;> first | exact h | exact h.elim
theorem noPan_normal {Q : Exit → Act → World → Prop} {a : Act} {w : World} (h : Q .normal a w) : noPan Q .normal a w := h
theorem wpList_load_rowG {P : Program} {ops : Array Oper} {rest : List Oper} {o : Oper} {a : Act} {w : World} {Q : Exit → Act → World → Prop} (ty : TypeId) (x : Operand) (ho : o.op = .load ty x)
    (g : Nat) (hx : a.eval x = .pointer (some ⟨g, 0, none⟩)) (t : TypeId) (cs : Array Value) (fr : Nat × Nat) (d : TypeDesc) (hg : w.heap[g]? = some (.cells cs t fr))
    (hu : P.underlying ty = some d) (hd : (match d with | .struct _ | .array _ _ => true | _ => false) = true) (hi : (P.info? ty).map (·.size) = some cs.size) (hw : Region.wanted o (yielded ops a.tmps) = true)
    (h : wpList P ops Q rest (a.put o.dst (.agg cs)) w) : wpList P ops Q (o :: rest) a w := by
  unfold wpList
  rw [if_pos hw]
  exact .inl (wp_load_row ty x ho g hx t cs fr d hg hu hd hi h)
theorem eq_full (g : Nat) (w : World) : (binOp .eql 59 (.func (.func 46) #[] #[.pointer (some ⟨g, 0, none⟩)]) .nilFunc).run Try.prog w = .ok (.bool false) w := by kernel_rfl
def alB (pre : List {x : Nat × Int // True}) : Int := pre.foldl (fun s x => wrap64 (s + wrap64 ((x.1.1 : Int) * x.1.2))) 0
theorem alB_snoc (pre : List {x : Nat × Int // True}) (x : {x : Nat × Int // True}) : alB (pre ++ [x]) = wrap64 (alB pre + wrap64 ((x.1.1 : Int) * x.1.2)) := by simp [alB]
theorem alB_eq (pre : List {x : Nat × Int // True}) : alB pre = (pre.map (fun x => x.1)).foldl (fun s (x : Nat × Int) => wrap64 (s + wrap64 ((x.1 : Int) * x.2))) 0 := by
  unfold alB
  rw [List.foldl_map]
theorem alB_all (pre : List {x : Nat × Int // True}) (h : pre.map (fun x => x.1) = fullF L0 65) : alB pre = 9 := by
  rw [alB_eq, h]
  decide +kernel
def AlI (g : Nat) (pre : List {x : Nat × Int // True}) (W : World) : Prop := Kept W g #[.int .i64 (alB pre)] 3
theorem alI_own (g : Nat) : Own (AlI g) := fun s A B row h hg hr => kept_own h hg hr
theorem cell0 {w : World} {g : Nat} {C : Array Value} {t : TypeId} {l : List Int} (hC1 : hC l = C) (hl : l.length = 65) (h : Kept w g C t) (k : Nat) (hk : k < 65) (v : Int) (hv : l.getD k 0 = v) : w.cell? ⟨g, k, none⟩ = some (.int .i64 v) := by
  subst hC1 hv
  exact (h.cellK k (by omega)).1
end Go.Proofs.Ytldgdedfioigiaa
