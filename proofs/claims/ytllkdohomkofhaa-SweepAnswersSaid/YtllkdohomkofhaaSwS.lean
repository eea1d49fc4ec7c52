/- The ends of intervals, in order: for every list. -/
import Derived.Test.YtllkdohomkofhaaSwC
import Derived.Test.YtllkdohomkofhaaSort
namespace Go.Proofs.Ytllkdohomkofhaa
open Go.RowKit
set_option linter.unusedVariables false

def EvRow (w : World) (a : Option Addr) (l : List Ev) : Prop := ∀ j, j < l.length → ∃ b off, a = some ⟨b, off, none⟩ ∧ w.cell? ⟨b, off + j * 2, none⟩ = some (.int .i64 (l.getD j (0, false)).1) ∧ w.cell? ⟨b, off + j * 2 + 1, none⟩ = some (.bool (l.getD j (0, false)).2)
theorem EvRow.below {w w' : World} {a : Option Addr} {l : List Ev} (h : EvRow w a l) (hb : Below w.heap.size w w') : EvRow w' a l := fun j hj => by
  obtain ⟨b, off, e, h1, h2⟩ := h j hj
  exact ⟨b, off, e, (hb.cell (World.block_lt_of_cell? w _ h1)).trans h1, (hb.cell (World.block_lt_of_cell? w _ h2)).trans h2⟩
def cellsE : List Ev → List Value
  | [] => []
  | p :: l => .int .i64 p.1 :: .bool p.2 :: cellsE l
theorem cellsE_len : ∀ l, (cellsE l).length = l.length * 2
  | [] => rfl
  | p :: l => by simp [cellsE, cellsE_len l]; omega
theorem cellsE_append : ∀ l m, cellsE (l ++ m) = cellsE l ++ cellsE m
  | [], m => rfl
  | p :: l, m => by simp [cellsE, cellsE_append l m]
theorem cellsE_at : ∀ (l : List Ev) (i : Nat), i < l.length → (cellsE l)[i * 2]? = some (.int .i64 (l.getD i (0, false)).1) ∧ (cellsE l)[i * 2 + 1]? = some (.bool (l.getD i (0, false)).2)
  | [], i, h => by simp at h
  | p :: l, 0, h => by simp [cellsE]
  | p :: l, i + 1, h => by
    have := cellsE_at l i (by simpa using h)
    rw [show (i + 1) * 2 = i * 2 + 2 by omega, show i * 2 + 2 + 1 = (i * 2 + 1) + 2 by omega]
    simpa [cellsE] using this
theorem wpList_appendTwo {P : Program} {ops : Array Oper} {rest : List Oper} {o : Oper} {a : Act} {w : World} {Q : Exit → Act → World → Prop} (hgd : o.guard = none) (s x : Operand) (t : TypeId)
    (ho : o.op = .call { callee := .builtin .append, args := #[s, x], argTypes := #[t, t] })
    (w0 : World) (e : TypeId) (i : TypeInfo) (z : Value) (bytes : Nat) (ht : P.underlying t = some (.slice e)) (hi : P.info? e = some i) (hz : i.zero = some z)
    (hsize : i.size = 2) (hby : i.bytes = bytes) (hzs : z.cells.size = 2)
    (v : Value) (n : Nat) (xs : List Value) (hs : a.eval s = v) (hown : w.ownsRow w0.heap.size e 2 v n xs)
    (g : Nat) (p q : Int) (T : TypeId) (hx : a.eval x = .slice (some ⟨g, 0, none⟩) 2 2) (hk : Kept w g #[.int .i64 p, .bool false, .int .i64 q, .bool true] T)
    (h63 : n + 2 ≤ maxLen) (hbytes : (n + 2) * bytes ≤ 140737488355328) (hb : Below w0.heap.size w0 w)
    (h : ∀ v' w', w'.ownsRow w0.heap.size e 2 v' (n + 2) (xs ++ cellsE [(p, false), (q, true)]) → Below w0.heap.size w0 w' → wpList P ops Q rest (a.put o.dst v') w') : wpList P ops Q (o :: rest) a w := by
  refine wpList_plain hgd fun K hK => ?_
  refine wp_append_own w s x t ho w0.heap.size e i z 2 bytes ht hi hz hsize hby hzs (by decide) v n xs hs hown ⟨g, 0, none⟩ 2 2 (cellsE [(p, false), (q, true)]) hx rfl ?_ ?_ h63 hbytes hb.size ?_
  · intro j u hj
    have e2 : (⟨g, 0, none⟩ : Addr).add j = ⟨g, j, none⟩ := by
      unfold Addr.add
      split
      · subst_vars; rfl
      · simp
    rw [e2]
    have h1 := hk.at_ j
    have h2 : (#[Value.int .i64 p, .bool false, .int .i64 q, .bool true] : Array Value)[j]? = some u := by
      rw [← hj, ← Array.getElem?_toList]
      rfl
    rw [h2] at h1
    exact h1.1
  · intro u hu
    simp [cellsE] at hu
    rcases hu with rfl | rfl | rfl | rfl <;> rfl
  · intro v' w' hown' hgrow _
    exact hK _ _ (h v' w' hown' (hb.grown hgrow hb.size (fun j hj => (hown.lt j hj).1)))
theorem info_end : (Try.prog.info? 53).map (fun i => (i.zero, i.size, i.bytes)) = some (some (.agg #[.int .i64 0, .bool false]), 2, 16) := by kernel_rfl
theorem lt_cfE (p q : Ev) : ltOf cfE p q = decide (p.1 < q.1 ∨ (p.1 = q.1 ∧ p.2 = false ∧ q.2 = true)) := by
  unfold ltOf cfE ordI
  rw [Bool.eq_iff_iff, decide_eq_true_iff, decide_eq_true_iff]
  obtain ⟨a, b⟩ := p
  obtain ⟨c, d⟩ := q
  dsimp only
  cases b <;> cases d <;> simp <;> (repeat' split) <;> omega
theorem swoE : Go.Sort.SWO (ltOf cfE) where
  irrefl x := by rw [lt_cfE]; simp
  trans x y z h1 h2 := by
    rw [lt_cfE] at *
    obtain ⟨a, b⟩ := x; obtain ⟨c, d⟩ := y; obtain ⟨e, f⟩ := z
    simp at *
    cases b <;> cases d <;> cases f <;> simp at * <;> omega
  ntrans x y z h1 h2 := by
    rw [lt_cfE] at *
    obtain ⟨a, b⟩ := x; obtain ⟨c, d⟩ := y; obtain ⟨e, f⟩ := z
    simp at *
    cases b <;> cases d <;> cases f <;> simp at * <;> omega
theorem sorted_of {s : Array Ev} (h : Go.Sort.SortedIn (ltOf cfE) 0 s.size s) : sortE s.toList := fun i j hij hj => by
  have hj' : j < s.size := by simpa using hj
  have h1 := h i j (Nat.zero_le _) hij hj'
  rw [lt_cfE] at h1
  have h2 := of_decide_eq_false h1
  have g : ∀ k, k < s.size → s.toList.getD k (0, false) = s[k]! := fun k hk => by
    rw [List.getD_eq_getElem?_getD, List.getElem?_eq_getElem (by simpa using hk), getElem!_pos s k hk]
    simp
  rw [g i (by omega), g j hj']
  unfold leE
  generalize s[i]! = p at *
  generalize s[j]! = q at *
  obtain ⟨a, b⟩ := p
  obtain ⟨c, d⟩ := q
  cases b <;> cases d <;> simp at * <;> omega
theorem sort_world (enc : Ev → List Value) (k : Nat) (w : World) (g off n B : Nat) (d : Array Ev) (os : Array Obj) (hB : B ≤ g) (hg : g < w.heap.size) : Below B w (sortWorldK enc k w g off n d os) :=
  ⟨rfl, rfl, rfl, size_sortWorldK_c enc k w g off n d os, fun j hj => by
    unfold sortWorldK Go.Sort.grow
    show ((Go.Sort.putRowK enc k (Go.Sort.ahead w n) g off d).heap ++ os)[j]? = _
    have hs : (Go.Sort.putRowK enc k (Go.Sort.ahead w n) g off d).heap.size = w.heap.size := by rw [Go.Sort.size_putRowK]; rfl
    rw [Array.getElem?_append_left (by omega)]
    unfold Go.Sort.putRowK Go.Sort.putRow Go.Sort.mapBlock
    show ((Go.Sort.ahead w n).heap.modify g _)[j]? = _
    rw [Array.getElem?_modify, if_neg (by omega)]
    rfl⟩
def SortOut (l : List Ev) (B : Nat) (a : Option Addr) (w : World) (e : Ending) (w' : World) : Prop := e = .returned (.tuple #[]) ∧ ∃ s, s.Perm l ∧ sortE s ∧ EvRow w' a s ∧ Below B w w'
theorem sort_any (a : Option Addr) (cap B : Nat) (l : List Ev) (w : World) (ho : w.ownsRow B 53 2 (.slice a l.length cap) l.length (cellsE l)) (hl : l.length ≤ 4000000000) :
    Calls Try.prog 30 #[.slice a l.length cap, .func (.func 31) #[] #[]] w (SortOut l B a w) := by
  by_cases h0 : l = []
  · subst h0
    have h := AnyF.slices_SortFunc_none Try.sortEnd a cap (.func (.func 31) #[] #[]) w
    change Calls Try.prog 30 _ _ _ at h
    refine h.mono fun e w' ⟨he, hw⟩ => ?_
    subst hw
    exact ⟨he, [], List.Perm.refl _, fun i j _ hj => by simp at hj, fun j hj => by simp at hj, Below.refl _ _⟩
  · have hn : 0 < l.length := List.length_pos_iff.2 h0
    have ho' := ho
    rcases ho.2 with ⟨-, e0⟩ | ⟨g, cap', cur, e1, hb, hh, -⟩
    · omega
    · cases e1
      have hg : g < w.heap.size := (Array.getElem?_eq_some_iff.1 hh).1
      have hH : Go.Sort.HoldsK encE 2 w g 0 l.toArray := fun j hj => by
        rw [Go.Sort.size_flatK] at hj
        have hj' : j < l.length * 2 := by simpa using hj
        rw [Go.Sort.get_flatK _ _ _ _ hj, Nat.zero_add]
        refine ⟨?_, ho'.frozenAt j⟩
        rw [ho'.cellAt j hj']
        have hk : j / 2 < l.length := by omega
        have gd : l.toArray[j / 2]! = l.getD (j / 2) (0, false) := by
          rw [getElem!_pos l.toArray (j / 2) (by simpa using hk), List.getD_eq_getElem?_getD, List.getElem?_eq_getElem hk]
          simp
        rw [gd]
        obtain ⟨c1, c2⟩ := cellsE_at l (j / 2) hk
        rcases Nat.mod_two_eq_zero_or_one j with e | e
        · rw [e]
          rw [show j / 2 * 2 = j by omega] at c1
          rw [c1]; rfl
        · rw [e]
          rw [show j / 2 * 2 + 1 = j by omega] at c2
          rw [c2]; rfl
      have eg : ∀ args w, (callFunc 31 args).run Try.prog w = .ok (.enter 31 args) w := enters_of Try.func31 (by kernel_rfl) rfl
      have h := AnyQ.slices_SortFunc Try.sortEnd 2 Try.isAgg53 Try.sizeOf53 encE (fun _ => rfl) (fun x v hv => by simp [encE] at hv; rcases hv with rfl | rfl <;> rfl) cfE swoE 31 #[] g 0 cap l.toArray w eg (fun m os dk _ p q => cmpE_any p q _) hH hg (by simp; omega)
      change Calls Try.prog 30 _ _ _ at h
      rw [show l.toArray.size = l.length by simp] at h
      refine h.mono fun e w' ⟨he, d', n, os, hp, hs, hw⟩ => ⟨he, d'.toList, ?_, ?_, ?_, ?_⟩
      · obtain ⟨p1, -, p3⟩ := hp
        have p1' : d'.size = l.length := by simpa using p1
        have e1 : d'.extract 0 l.length = d' := by rw [← p1']; simp
        have e2 : l.toArray.extract 0 l.length = l.toArray := by
          rw [show l.length = l.toArray.size by simp]; simp
        rw [e1, e2] at p3
        simpa using p3
      · have p1' : d'.size = l.length := by simpa using hp.1
        rw [← p1'] at hs
        exact sorted_of hs
      · have p1' : d'.size = l.length := by simpa using hp.1
        have hk : Go.Sort.HoldsK encE 2 w' g 0 d' := by
          rw [hw]
          exact holdsK_sortWorldK_c encE 2 w g 0 l.toArray d' n os hH hg (by simpa using p1')
        intro j hj
        have hj' : j < d'.size := by simpa using hj
        have gd : d'.toList.getD j (0, false) = d'[j]! := by
          rw [List.getD_eq_getElem?_getD, List.getElem?_eq_getElem (by simpa using hj'), getElem!_pos d' j hj']
          simp
        rw [gd]
        exact ⟨g, 0, rfl, (Go.Sort.HoldsK.cell hk hj' (show 0 < 2 by omega)).1, (Go.Sort.HoldsK.cell hk hj' (show 1 < 2 by omega)).1⟩
      · rw [hw]
        exact sort_world encE 2 w g 0 n B d' os hb hg
end Go.Proofs.Ytllkdohomkofhaa
