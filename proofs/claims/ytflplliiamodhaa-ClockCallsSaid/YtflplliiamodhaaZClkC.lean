import Derived.Test.YtflplliiamodhaaZClkB
import Derived.Laws.OwnMore
/- Rows of samples, and a clock as it lies in memory. -/
namespace Go.Proofs.Ytflplliiamodhaa
open Go.RowKit
set_option linter.unusedVariables false

def smZ : Sm := (0, 0, 0, 0)
def smC (s : Sm) : List Value := [.int .i64 s.1, .int .i64 s.2.1, .int .i64 s.2.2.1, .int .i64 s.2.2.2]
def cells4 (L : List Sm) : List Value := L.flatMap smC
theorem cells4_len (L : List Sm) : (cells4 L).length = L.length * 4 := by
  induction L with
  | nil => rfl
  | cons s L ih => unfold cells4 at ih ⊢; rw [List.flatMap_cons, List.length_append, ih, List.length_cons]; simp [smC]; omega
theorem cells4_append (L M : List Sm) : cells4 (L ++ M) = cells4 L ++ cells4 M := List.flatMap_append
theorem cells4_one (s : Sm) : cells4 [s] = smC s := by simp [cells4]
theorem cells4_at : ∀ (L : List Sm) (i : Nat), i < L.length → ∀ k, k < 4 → (cells4 L)[i * 4 + k]? = (smC (L.getD i smZ))[k]?
  | [], i, h, _, _ => by simp at h
  | s :: L, 0, h, k, hk => by
    have : cells4 (s :: L) = smC s ++ cells4 L := by simp [cells4]
    rw [this, List.getElem?_append_left (by simp [smC]; omega)]
    simp
  | s :: L, i + 1, h, k, hk => by
    have : cells4 (s :: L) = smC s ++ cells4 L := by simp [cells4]
    rw [this, List.getElem?_append_right (by simp [smC]; omega)]
    have e : (i + 1) * 4 + k - (smC s).length = i * 4 + k := by simp [smC]; omega
    rw [e, cells4_at L i (by simpa using h) k hk]
    simp
theorem cells4_one_cell {L : List Sm} {u : Value} (h : u ∈ cells4 L) : u.oneCell' = true := by
  obtain ⟨s, _, hu⟩ := List.mem_flatMap.1 h
  simp [smC] at hu
  rcases hu with rfl | rfl | rfl | rfl <;> rfl
def QuadRow (w : World) (a : Option Addr) (L : List Sm) : Prop := ∀ j, j < L.length → ∃ b off, a = some ⟨b, off, none⟩ ∧ w.cell? ⟨b, off + j * 4, none⟩ = some (.int .i64 (L.getD j smZ).1) ∧ w.cell? ⟨b, off + j * 4 + 1, none⟩ = some (.int .i64 (L.getD j smZ).2.1) ∧ w.cell? ⟨b, off + j * 4 + 2, none⟩ = some (.int .i64 (L.getD j smZ).2.2.1) ∧ w.cell? ⟨b, off + j * 4 + 3, none⟩ = some (.int .i64 (L.getD j smZ).2.2.2)
theorem QuadRow.below {w w' : World} {a : Option Addr} {L : List Sm} (h : QuadRow w a L) (hb : Below w.heap.size w w') : QuadRow w' a L := fun j hj => by
  obtain ⟨b, off, e, h1, h2, h3, h4⟩ := h j hj
  exact ⟨b, off, e, keep1 hb h1, keep1 hb h2, keep1 hb h3, keep1 hb h4⟩
theorem QuadRow.own {w : World} {base e n : Nat} {v : Value} {L : List Sm} (h : w.ownsRow base e 4 v n (cells4 L)) : ∃ a cap, v = .slice a n cap ∧ L.length = n ∧ n ≤ cap ∧ cap ≤ 9223372036854775807 ∧ (a = none → cap = 0) ∧ QuadRow w a L := by
  have hl : L.length = n := by have := h.1; rw [cells4_len] at this; omega
  rcases h.2 with ⟨rfl, h0⟩ | ⟨g, cap, cur, rfl, hb, hh, h1, h2, h3, h4⟩
  · exact ⟨none, 0, by rw [h0], hl, by omega, by omega, fun _ => rfl, fun j hj => by omega⟩
  · refine ⟨_, cap, rfl, hl, h1, h2, fun e => by simp at e, fun j hj => ⟨g, 0, rfl, ?_, ?_, ?_, ?_⟩⟩ <;> rw [Nat.zero_add]
    · have := cells4_at L j hj 0 (by omega)
      rw [h.cellAt (j * 4) (by omega)]; exact this
    · rw [h.cellAt (j * 4 + 1) (by omega)]; exact cells4_at L j hj 1 (by omega)
    · rw [h.cellAt (j * 4 + 2) (by omega)]; exact cells4_at L j hj 2 (by omega)
    · rw [h.cellAt (j * 4 + 3) (by omega)]; exact cells4_at L j hj 3 (by omega)
/-- a row with one element more, which lies in a block of its own -/
theorem wp_appendBlk {P : Program} {o : Oper} {a : Act} {w : World} {K : Act → World → Prop} {Q : Exit → Act → World → Prop} (s x : Operand) (t : TypeId)
    (ho : o.op = .call { callee := .builtin .append, args := #[s, x], argTypes := #[t, t] })
    (base : Nat) (e : TypeId) (i : TypeInfo) (z : Value) (size bytes : Nat) (ht : P.underlying t = some (.slice e)) (hi : P.info? e = some i) (hz : i.zero = some z)
    (hsize : i.size = size) (hby : i.bytes = bytes) (hzs : z.cells.size = size) (hsz : 0 < size)
    (v : Value) (n : Nat) (xs : List Value) (hs : a.eval s = v) (hown : w.ownsRow base e size v n xs)
    (gx c : Nat) (cs : Array Value) (T : TypeId) (hx : a.eval x = .slice (some ⟨gx, 0, none⟩) 1 c) (hk : Kept w gx cs T) (hl : cs.size = size) (h1 : ∀ u ∈ cs.toList, u.oneCell' = true)
    (h63 : n + 1 ≤ maxLen) (hbytes : (n + 1) * bytes ≤ 140737488355328) (hbase : base ≤ w.heap.size)
    (h : ∀ v' w', w'.ownsRow base e size v' (n + 1) (xs ++ cs.toList) → w.grownBy w' v.ownBlock → K (a.put o.dst v') w') : o.wp P a w K Q := by
  refine wp_append_own w s x t ho base e i z size bytes ht hi hz hsize hby hzs hsz v n xs hs hown ⟨gx, 0, none⟩ 1 c cs.toList hx (by rw [Nat.one_mul]; exact hl) ?_ h1 h63 hbytes hbase (fun v' w' h2 h3 _ => h v' w' h2 h3)
  intro j u hj
  have e2 : ∀ q, (⟨gx, 0, none⟩ : Addr).add q = ⟨gx, q, none⟩ := fun q => by
    unfold Addr.add
    split
    · subst_vars; rfl
    · simp
  rw [e2, (hk.at_ j).1, ← hj]
  simp
theorem wpList_appendBlk {P : Program} {ops : Array Oper} {rest : List Oper} {o : Oper} {a : Act} {w : World} {Q : Exit → Act → World → Prop} (hgd : o.guard = none) (s x : Operand) (t : TypeId)
    (ho : o.op = .call { callee := .builtin .append, args := #[s, x], argTypes := #[t, t] })
    (base : Nat) (e : TypeId) (i : TypeInfo) (z : Value) (size bytes : Nat) (ht : P.underlying t = some (.slice e)) (hi : P.info? e = some i) (hz : i.zero = some z)
    (hsize : i.size = size) (hby : i.bytes = bytes) (hzs : z.cells.size = size) (hsz : 0 < size)
    (v : Value) (n : Nat) (xs : List Value) (hs : a.eval s = v) (hown : w.ownsRow base e size v n xs)
    (gx c : Nat) (cs : Array Value) (T : TypeId) (hx : a.eval x = .slice (some ⟨gx, 0, none⟩) 1 c) (hk : Kept w gx cs T) (hl : cs.size = size) (h1 : ∀ u ∈ cs.toList, u.oneCell' = true)
    (h63 : n + 1 ≤ maxLen) (hbytes : (n + 1) * bytes ≤ 140737488355328) (hbase : base ≤ w.heap.size)
    (h : ∀ v' w', w'.ownsRow base e size v' (n + 1) (xs ++ cs.toList) → w.grownBy w' v.ownBlock → wpList P ops Q rest (a.put o.dst v') w') : wpList P ops Q (o :: rest) a w :=
  wpList_plain hgd fun _ hK => wp_appendBlk s x t ho base e i z size bytes ht hi hz hsize hby hzs hsz v n xs hs hown gx c cs T hx hk hl h1 h63 hbytes hbase fun v' w' h2 h3 => hK _ _ (h v' w' h2 h3)
theorem kept_grown {w w' : World} {row : Option Nat} {g : Nat} {cs : Array Value} {t : TypeId} (h : Kept w g cs t) (hg : w.grownBy w' row) (hne : row ≠ some g) : Kept w' g cs t := (hg.block g h.lt (fun e => hne e.symm)).trans h
theorem info_sm : (Try.prog.info? 33).map (fun i => (i.zero, i.size, i.bytes)) = some (some (.agg #[.int .i64 0, .int .i64 0, .int .i64 0, .int .i64 0]), 4, 32) := by kernel_rfl
/-- a clock: its rate, what it asks, its streak, whether it is held, its samples -/
structure Ck where
  rho : Int
  need : Int
  streak : Int
  held : Bool
  L : List Sm
/-- the clock's block is g, v the slice of its samples -/
def CkO (w : World) (g : Nat) (v : Value) (c : Ck) : Prop :=
  Kept w g #[.int .i64 c.rho, v, .int .i64 c.need, .int .i64 c.streak, .bool c.held] 78 ∧ w.ownsRow 0 33 4 v c.L.length (cells4 c.L) ∧ v.ownBlock ≠ some g
theorem CkO.below {w w' : World} {g : Nat} {v : Value} {c : Ck} (h : CkO w g v c) (hb : Below w.heap.size w w') : CkO w' g v c := ⟨h.1.next hb, owns_below h.2.1 hb, h.2.2⟩
/-- all that was there is as it was, but the block g and the row of v -/
structure KpC (g : Nat) (v : Value) (w w' : World) : Prop where
  os : w'.os = w.os
  tape : w'.tape = w.tape
  output : w'.output = w.output
  size : w.heap.size ≤ w'.heap.size
  block : ∀ k, k < w.heap.size → k ≠ g → v.ownBlock ≠ some k → w'.heap[k]? = w.heap[k]?
def Fr (v v' : Value) (w : World) : Prop := ∀ k, v'.ownBlock = some k → v.ownBlock = some k ∨ w.heap.size ≤ k
theorem Fr.refl (v : Value) (w : World) : Fr v v w := fun k h => .inl h
theorem Fr.trans {v v' v'' : Value} {w w' : World} (h : Fr v v' w) (h' : Fr v' v'' w') (hs : w.heap.size ≤ w'.heap.size) : Fr v v'' w := fun k hk => by
  rcases h' k hk with h1 | h1
  · exact h k h1
  · exact .inr (by omega)
theorem KpC.below {g : Nat} {v : Value} {w w' : World} (h : Below w.heap.size w w') : KpC g v w w' := ⟨h.os, h.tape, h.output, h.size, fun k hk _ _ => h.block k hk⟩
theorem KpC.refl (g : Nat) (v : Value) (w : World) : KpC g v w w := KpC.below (Below.refl _ _)
theorem KpC.trans {g : Nat} {v v' : Value} {w w' w'' : World} (h : KpC g v w w') (hf : Fr v v' w) (h' : KpC g v' w' w'') : KpC g v w w'' :=
  ⟨h'.os.trans h.os, h'.tape.trans h.tape, h'.output.trans h.output, Nat.le_trans h.size h'.size, fun k hk h1 h2 => by
    refine (h'.block k (Nat.lt_of_lt_of_le hk h.size) h1 (fun e => ?_)).trans (h.block k hk h1 h2)
    rcases hf k e with h3 | h3
    · exact h2 h3
    · omega⟩
theorem KpC.step {g : Nat} {v : Value} {w w' w'' : World} (h : KpC g v w w') (h' : Below w'.heap.size w' w'') : KpC g v w w'' := h.trans (Fr.refl _ _) (KpC.below h')
/-- below the clock's block, and its row's, nothing has turned -/
theorem KpC.out {g B : Nat} {v : Value} {w w' : World} (h : KpC g v w w') (hB : B ≤ w.heap.size) (hg : B ≤ g) (hv : ∀ k, v.ownBlock = some k → B ≤ k) : Below B w w' :=
  ⟨h.os, h.tape, h.output, h.size, fun k hk => h.block k (by omega) (by omega) (fun e => by have := hv k e; omega)⟩
theorem KpC.grown {g : Nat} {v : Value} {w w' : World} (h : w.grownBy w' v.ownBlock) : KpC g v w w' := ⟨h.os, h.tape, h.output, h.size, fun k hk _ h2 => h.block k hk (fun e => h2 e.symm)⟩
theorem KpC.set {g : Nat} {v : Value} {w w' : World} (h : KpC g v w w') (i : Nat) (u : Value) : KpC g v w (w'.setCell ⟨g, i, none⟩ u) :=
  ⟨h.os, h.tape, h.output, by simp [World.setCell]; exact h.size, fun k hk h1 h2 => (Below.heap_setCell w' ⟨g, i, none⟩ u k h1).trans (h.block k hk h1 h2)⟩
/-- another clock, or any object, that lies elsewhere -/
theorem Kept.kpc {g g' : Nat} {v : Value} {w w' : World} {cs : Array Value} {t : TypeId} (h : Kept w g' cs t) (hk : KpC g v w w') (h1 : g' ≠ g) (h2 : v.ownBlock ≠ some g') : Kept w' g' cs t := (hk.block g' h.lt h1 h2).trans h
theorem owns_kpc {g base e size n : Nat} {v v' : Value} {w w' : World} {xs : List Value} (h : w.ownsRow base e size v' n xs) (hk : KpC g v w w') (h1 : v'.ownBlock ≠ some g) (h2 : ∀ k, v.ownBlock = some k → v'.ownBlock ≠ some k) : w'.ownsRow base e size v' n xs := by
  obtain ⟨a1, a2⟩ := h
  refine ⟨a1, ?_⟩
  rcases a2 with a2 | ⟨b, cap, cur, rfl, e2, e3, e4⟩
  · exact .inl a2
  · refine .inr ⟨b, cap, cur, rfl, e2, (hk.block b (Array.getElem?_eq_some_iff.1 e3).1 (fun e => h1 (by subst e; rfl)) (fun e => h2 b e rfl)).trans e3, e4⟩
theorem CkO.kpc {g g' : Nat} {v v' : Value} {w w' : World} {c : Ck} (h : CkO w g' v' c) (hk : KpC g v w w') (h1 : g' ≠ g) (h2 : v.ownBlock ≠ some g') (h3 : v'.ownBlock ≠ some g) (h4 : ∀ k, v.ownBlock = some k → v'.ownBlock ≠ some k) : CkO w' g' v' c :=
  ⟨h.1.kpc hk h1 h2, owns_kpc h.2.1 hk h3 h4, h.2.2⟩
theorem CkO.lt {w : World} {g : Nat} {v : Value} {c : Ck} (h : CkO w g v c) : g < w.heap.size ∧ ∀ k, v.ownBlock = some k → k < w.heap.size := ⟨h.1.lt, fun k hk => (h.2.1.lt k hk).2⟩
end Go.Proofs.Ytflplliiamodhaa
