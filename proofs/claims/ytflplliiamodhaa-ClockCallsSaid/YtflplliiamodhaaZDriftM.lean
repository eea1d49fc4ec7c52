import Derived.Test.YtflplliiamodhaaRows
import Derived.WalkKit
import Derived.WalkLawsBesides
import Derived.WalkSpells
import Derived.Lib.Hide
import Derived.Deep.QuietTactic
import Derived.BigQuiet
import Derived.Deep.RegionWith
import Derived.Deep.RegionHeld3
import Derived.Deep.RegionLaw
import Derived.Laws.AppendOwnNone
import Derived.Handy
import Derived.OpenShut
/- Words and laws that every seat's texts share; nothing of any program. -/
namespace Go.Proofs.Ytflplliiamodhaa
open Go.RowKit
set_option linter.unusedVariables false

theorem ret2 {k l : IntKind} {a b c d : Int} (h : a = b) (h' : c = d) : Ending.returned (.tuple #[.int k a, .int l c]) = Ending.returned (.tuple #[.int k b, .int l d]) := by rw [h, h']

theorem ret_int {k : IntKind} {a b : Int} (h : a = b) : Ending.returned (.int k a) = .returned (.int k b) := by rw [h]

def sg (n : Int) (neg : Bool) : Int := if neg then -n else n

def InI (x : Int) : Prop := -9223372036854775808 ≤ x ∧ x ≤ 9223372036854775807

instance (x : Int) : Decidable (InI x) := by unfold InI; exact inferInstance

def vI (x : Int) : Int := if InI x then x else 0

def eI (x : Int) : Int := if InI x then 0 else 12

theorem vI_in {x : Int} (h : InI x) : vI x = x := if_pos h

theorem eI_in {x : Int} (h : InI x) : eI x = 0 := if_pos h

theorem vI_out {x : Int} (h : ¬ InI x) : vI x = 0 := if_neg h

theorem eI_out {x : Int} (h : ¬ InI x) : eI x = 12 := if_neg h

theorem ret_bool {a b : Bool} (h : a = b) : Ending.returned (.bool a) = .returned (.bool b) := by rw [h]

theorem grown_drewN {a w : World} (h : Grown a w) (n : Nat) : Grown a (w.drewN n) := h

theorem below_drewN {B : Nat} {a w : World} (h : Below B a w) (n : Nat) : Below B a (w.drewN n) := ⟨h.os, h.tape, h.output, h.size, h.block⟩

theorem grown_trans {a b c : World} (h : Grown a b) (k : Grown b c) : Grown a c :=
  ⟨World.keptBut_trans h.1 k.1, fun x => (k.2.1 x).trans (h.2.1 x), Nat.le_trans h.2.2 k.2.2⟩

theorem tup_of {k l : IntKind} {a b c d : Int} {e : Ending} (he : e = .returned (.tuple #[.int k a, .int l b])) (h : a = c) (h' : b = d) : e = .returned (.tuple #[.int k c, .int l d]) := by rw [he, h, h']

theorem bd {a : Int} (h : (Lit.int .i64 a).wf = true) : InI a := by simp [Lit.wf, IntKind.min, IntKind.max, IntKind.signed, IntKind.bits] at h; exact h

/-- the integers of a list lie one beside another behind an address -/
def IntRow (w : World) (a : Option Addr) (k : IntKind) (l : List Int) : Prop := ∀ j, j < l.length → ∃ b off, a = some ⟨b, off, none⟩ ∧ w.cell? ⟨b, off + j, none⟩ = some (.int k (l.getD j 0))

def isum (l : List Int) : Int := l.foldl (· + ·) 0

theorem isum_snoc (l : List Int) (k : Nat) (hk : k < l.length) : isum (l.take (k + 1)) = isum (l.take k) + l.getD k 0 := by
  unfold isum
  rw [List.take_add_one, List.foldl_append]
  simp [List.getD, List.getElem?_eq_getElem hk]

theorem getD_of_all {P : Int → Prop} (l : List Int) (h : ∀ x ∈ l, P x) (k : Nat) (hk : k < l.length) : P (l.getD k 0) := by
  rw [List.getD_eq_getElem?_getD, List.getElem?_eq_getElem hk]
  exact h _ (List.getElem_mem hk)

theorem isum_bound (l : List Int) (h : ∀ x ∈ l, InI x) (k : Nat) (hk : k ≤ l.length) : -((k : Int) * 9223372036854775808) ≤ isum (l.take k) ∧ isum (l.take k) ≤ (k : Int) * 9223372036854775808 := by
  induction k with
  | zero => simp [isum]
  | succ k ih =>
    have := ih (by omega)
    have hv := getD_of_all l h k (by omega)
    unfold InI at hv
    rw [isum_snoc l k (by omega)]
    omega

theorem getD_past (d : List Int) (j : Nat) (h : d.length ≤ j) : d.getD j 0 = 0 := by
  rw [List.getD_eq_getElem?_getD, List.getElem?_eq_none h]; rfl

theorem getD_snoc (d : List Int) (x : Int) (j : Nat) : (d ++ [x]).getD j 0 = if j = d.length then x else d.getD j 0 := by
  simp only [List.getD_eq_getElem?_getD]
  by_cases h : j < d.length
  · rw [List.getElem?_append_left h, if_neg (by omega)]
  · rw [List.getElem?_append_right (by omega)]
    by_cases e : j = d.length
    · rw [if_pos e, e]; simp
    · rw [if_neg e, List.getElem?_eq_none (by simp; omega), List.getElem?_eq_none (by omega)]

theorem getD_take (d : List Int) (n j : Nat) : (d.take n).getD j 0 = if j < n then d.getD j 0 else 0 := by
  simp only [List.getD_eq_getElem?_getD, List.getElem?_take]
  split <;> simp

theorem IntRow.below {w w' : World} {a : Option Addr} {k : IntKind} {d : List Int} (h : IntRow w a k d) (hb : Below w.heap.size w w') : IntRow w' a k d := fun j hj => by
  obtain ⟨b, off, e, hc⟩ := h j hj
  exact ⟨b, off, e, (hb.cell (World.block_lt_of_cell? w _ hc)).trans hc⟩

theorem IntRow.take {w : World} {a : Option Addr} {k : IntKind} {d : List Int} (h : IntRow w a k d) (n : Nat) : IntRow w a k (d.take n) := fun j hj => by
  rw [List.length_take] at hj
  obtain ⟨b, off, e, hc⟩ := h j (by omega)
  refine ⟨b, off, e, hc.trans ?_⟩
  rw [getD_take, if_pos (by omega)]

theorem IntRow.alloc {w : World} {a : Option Addr} {k : IntKind} {d : List Int} (h : IntRow w a k d) (o : Obj) : IntRow (w.alloc o) a k d :=
  h.below ((Below.refl _ _).alloc (Nat.le_refl _) o)

/-- one element is appended to a slice that the call itself made: the slice has one more; nothing that was ahead of the call has turned -/
theorem wpList_append1 {P : Program} {ops : Array Oper} {rest : List Oper} {o : Oper} {a : Act} {Q : Exit → Act → World → Prop} (hgd : o.guard = none) (s x : Operand) (t : TypeId)
    (ho : o.op = .call { callee := .builtin .append, args := #[s, x], argTypes := #[t, t] })
    (w0 : World) (e : TypeId) (i : TypeInfo) (z : Value) (bytes : Nat) (ht : P.underlying t = some (.slice e)) (hi : P.info? e = some i) (hz : i.zero = some z)
    (hsize : i.size = 1) (hby : i.bytes = bytes) (hzs : z.cells.size = 1)
    (wr : World) (v : Value) (n : Nat) (xs : List Value) (hs : a.eval s = v) (hown : wr.ownsRow w0.heap.size e 1 v n xs)
    (u : Value) (hu : u.oneCell' = true) (hx : a.eval x = .slice (some ⟨wr.heap.size, 0, none⟩) 1 1)
    (h63 : n + 1 ≤ maxLen) (hbytes : (n + 1) * bytes ≤ 140737488355328) (hb : Below w0.heap.size w0 wr)
    (h : ∀ v' w', w'.ownsRow w0.heap.size e 1 v' (n + 1) (xs ++ [u]) → Below w0.heap.size w0 w' → wpList P ops Q rest (a.put o.dst v') w') :
    wpList P ops Q (o :: rest) a (wr.alloc (.cells #[u] e)) := by
  refine wpList_append_own _ hgd s x t ho w0.heap.size e i z 1 bytes ht hi hz hsize hby hzs (by decide) v n xs hs (hown.alloc _) ⟨wr.heap.size, 0, none⟩ 1 1 [u] hx rfl ?_ ?_ h63 hbytes (by have := hb.size; simp; omega) ?_
  · intro j y hj
    match j, hj with
    | 0, hj => simp at hj; subst hj; simp [Addr.add]
  · intro y hy; simp at hy; subst hy; exact hu
  · intro v' w' hown' hgrow _
    exact h v' w' hown' ((hb.alloc hb.size _).grown hgrow (by have := hb.size; simp; omega) (fun k hk => (hown.lt k hk).1))

theorem IntRow.own {w : World} {base e n : Nat} {v : Value} {d : List Int} (h : w.ownsRow base e 1 v n (d.map (Value.int .i64))) : ∃ a cap, v = .slice a n cap ∧ d.length = n ∧ n ≤ cap ∧ cap ≤ 9223372036854775807 ∧ (a = none → cap = 0) ∧ IntRow w a .i64 d := by
  have hl : d.length = n := by have := h.1; simpa using this
  rcases h.2 with ⟨rfl, h0⟩ | ⟨g, cap, cur, rfl, hb, hh, h1, h2, h3, h4⟩
  · exact ⟨none, 0, by rw [h0], hl, by omega, by omega, fun _ => rfl, fun j hj => by omega⟩
  · refine ⟨_, cap, rfl, hl, h1, h2, fun e => by simp at e, fun j hj => ⟨g, 0, rfl, ?_⟩⟩
    rw [Nat.zero_add, h.cellAt j (by omega)]
    simp [List.getD_eq_getElem?_getD, List.getElem?_eq_getElem hj]

theorem box2 {w w2 : World} {x y : Value} {T : TypeId} (hb : Below (w.alloc (.cells #[x, y] T)).heap.size (w.alloc (.cells #[x, y] T)) w2) :
    w2.cell? ⟨w.heap.size, 0, none⟩ = some x ∧ w2.cell? ⟨w.heap.size, 1, none⟩ = some y ∧ w2.frozen? ⟨w.heap.size, 0, none⟩ = false ∧ w2.frozen? ⟨w.heap.size, 1, none⟩ = false ∧ w.heap.size + 1 ≤ w2.heap.size := by
  refine ⟨?_, ?_, ?_, ?_, by have := hb.size; simp at this; omega⟩
  · rw [hb.cell (p := ⟨w.heap.size, 0, none⟩) (by simp), World.cell?_alloc_at _ _ _ _ rfl]; rfl
  · rw [hb.cell (p := ⟨w.heap.size, 1, none⟩) (by simp), World.cell?_alloc_at _ _ _ _ rfl]; rfl
  · rw [hb.frozen (p := ⟨w.heap.size, 0, none⟩) (by simp)]; exact World.frozen?_alloc_at _ _ _ _ (by simp)
  · rw [hb.frozen (p := ⟨w.heap.size, 1, none⟩) (by simp)]; exact World.frozen?_alloc_at _ _ _ _ (by simp)

theorem IntRow.setCell {w : World} {a : Option Addr} {k : IntKind} {d : List Int} (h : IntRow w a k d) {p : Addr} {u : Value} (hp : w.cell? p = some u) (hu : ∀ z, u ≠ .int k z) (x : Value) : IntRow (w.setCell p x) a k d := fun j hj => by
  obtain ⟨b, off, e, hc⟩ := h j hj
  refine ⟨b, off, e, (World.cell?_setCell_other _ _ _ _ ?_).trans hc⟩
  intro e2
  rw [← e2, hp] at hc
  exact hu _ (Option.some.inj hc)

theorem box2_stored {w : World} {b : Nat} {x y : Value} (b1 : w.cell? ⟨b, 0, none⟩ = some x) (b2 : w.cell? ⟨b, 1, none⟩ = some y) (p q : Value) :
    (w.setCell ⟨b, 0, none⟩ p).cell? ⟨b, 0, none⟩ = some p ∧ ((w.setCell ⟨b, 0, none⟩ p).setCell ⟨b, 1, none⟩ q).cell? ⟨b, 1, none⟩ = some q :=
  ⟨World.cell?_setCell_same _ _ _ b1, World.cell?_setCell_same _ _ _ ((World.cell?_setCell_other _ _ _ _ (by simp)).trans b2)⟩

theorem Below.unalloc {w w2 : World} {o : Obj} (hb : Below (w.alloc o).heap.size (w.alloc o) w2) : Below w.heap.size w w2 :=
  ((Below.refl _ _).alloc (Nat.le_refl _) o).trans (hb.mono (by simp))

theorem set2_far {w : World} {p : Addr} {v x y : Value} {b : Nat} (h : w.cell? p = some v) (hb : p.block ≠ b) : ((w.setCell ⟨b, 0, none⟩ x).setCell ⟨b, 1, none⟩ y).cell? p = some v :=
  (World.cell?_setCell_other _ _ _ _ (fun e => hb (by rw [← e]))).trans ((World.cell?_setCell_other _ _ _ _ (fun e => hb (by rw [← e]))).trans h)

/-- a list of integers that lies in memory is appended to a slice that the call itself made -/
theorem wp_appendInts {P : Program} {o : Oper} {a : Act} {w : World} {K : Act → World → Prop} {Q : Exit → Act → World → Prop} (s x : Operand) (t : TypeId)
    (ho : o.op = .call { callee := .builtin .append, args := #[s, x], argTypes := #[t, t] })
    (w0 : World) (e : TypeId) (i : TypeInfo) (z : Value) (bytes : Nat) (ht : P.underlying t = some (.slice e)) (hi : P.info? e = some i) (hz : i.zero = some z)
    (hsize : i.size = 1) (hby : i.bytes = bytes) (hzs : z.cells.size = 1)
    (v : Value) (n : Nat) (xs : List Value) (hs : a.eval s = v) (hown : w.ownsRow w0.heap.size e 1 v n xs)
    (k : IntKind) (A : Option Addr) (c : Nat) (l : List Int) (hx : a.eval x = .slice A l.length c) (hA : A = none → c = 0) (hr : IntRow w A k l)
    (h63 : n + l.length ≤ maxLen) (hbytes : (n + l.length) * bytes ≤ 140737488355328) (hb : Below w0.heap.size w0 w)
    (h : ∀ v' w', w'.ownsRow w0.heap.size e 1 v' (n + l.length) (xs ++ l.map (Value.int k)) → Below w0.heap.size w0 w' → K (a.put o.dst v') w') : o.wp P a w K Q := by
  rcases A with _ | ad
  · have hl : l = [] := by
      cases l with
      | nil => rfl
      | cons y ys => obtain ⟨_, _, e1, _⟩ := hr 0 (by simp); cases e1
    subst hl
    have hrun := run_append_owned_none (P := P) (w := w) w0.heap.size t o.type e i 1 ht hi v n xs hown
    have hx' : a.eval x = .slice none 0 0 := by rw [hx, hA rfl]; rfl
    have h1 := h v w (by simpa using hown) hb
    unfold Oper.wp
    simp [execOp, ho, resolve, invoke, builtin, hs, hx', hrun, Result.andThen]
    exact h1
  · refine wp_append_own w s x t ho w0.heap.size e i z 1 bytes ht hi hz hsize hby hzs (by decide) v n xs hs hown ad l.length c (l.map (Value.int k)) hx (by simp) ?_ ?_ h63 hbytes hb.size ?_
    · intro j u hj
      rw [List.getElem?_map] at hj
      obtain ⟨y, hy, rfl⟩ := Option.map_eq_some_iff.1 hj
      obtain ⟨hjl, _⟩ := List.getElem?_eq_some_iff.1 hy
      obtain ⟨b, off, e1, hc⟩ := hr j hjl
      obtain rfl := Option.some.inj e1
      rw [List.getD_eq_getElem?_getD, hy] at hc
      have e2 : (⟨b, off, none⟩ : Addr).add j = ⟨b, off + j, none⟩ := by
        unfold Addr.add
        split
        · subst_vars; rfl
        · rfl
      rw [e2]
      exact hc
    · intro u hu
      obtain ⟨y, _, rfl⟩ := List.mem_map.1 hu
      rfl
    · intro v' w' hown' hgrow _
      exact h v' w' hown' (hb.grown hgrow hb.size (fun j hj => (hown.lt j hj).1))

theorem wpList_appendInts {P : Program} {ops : Array Oper} {rest : List Oper} {o : Oper} {a : Act} {w : World} {Q : Exit → Act → World → Prop} (hgd : o.guard = none) (s x : Operand) (t : TypeId)
    (ho : o.op = .call { callee := .builtin .append, args := #[s, x], argTypes := #[t, t] })
    (w0 : World) (e : TypeId) (i : TypeInfo) (z : Value) (bytes : Nat) (ht : P.underlying t = some (.slice e)) (hi : P.info? e = some i) (hz : i.zero = some z)
    (hsize : i.size = 1) (hby : i.bytes = bytes) (hzs : z.cells.size = 1)
    (v : Value) (n : Nat) (xs : List Value) (hs : a.eval s = v) (hown : w.ownsRow w0.heap.size e 1 v n xs)
    (k : IntKind) (A : Option Addr) (c : Nat) (l : List Int) (hx : a.eval x = .slice A l.length c) (hA : A = none → c = 0) (hr : IntRow w A k l)
    (h63 : n + l.length ≤ maxLen) (hbytes : (n + l.length) * bytes ≤ 140737488355328) (hb : Below w0.heap.size w0 w)
    (h : ∀ v' w', w'.ownsRow w0.heap.size e 1 v' (n + l.length) (xs ++ l.map (Value.int k)) → Below w0.heap.size w0 w' → wpList P ops Q rest (a.put o.dst v') w') : wpList P ops Q (o :: rest) a w :=
  wpList_plain hgd fun _ hK => wp_appendInts s x t ho w0 e i z bytes ht hi hz hsize hby hzs v n xs hs hown k A c l hx hA hr h63 hbytes hb fun v' w' h2 h3 => hK _ _ (h v' w' h2 h3)

theorem step_appendInts {P : Program} {ops : Array Oper} {o : Oper} {a : Act} {w : World} {K : Act → World → Prop} {Q : Exit → Act → World → Prop} {E : Prop} (hgd : o.guard = none) (s x : Operand) (t : TypeId)
    (ho : o.op = .call { callee := .builtin .append, args := #[s, x], argTypes := #[t, t] })
    (w0 : World) (e : TypeId) (i : TypeInfo) (z : Value) (bytes : Nat) (ht : P.underlying t = some (.slice e)) (hi : P.info? e = some i) (hz : i.zero = some z)
    (hsize : i.size = 1) (hby : i.bytes = bytes) (hzs : z.cells.size = 1)
    (v : Value) (n : Nat) (xs : List Value) (hs : a.eval s = v) (hown : w.ownsRow w0.heap.size e 1 v n xs)
    (k : IntKind) (A : Option Addr) (m c : Nat) (l : List Int) (hm : l.length = m) (hx : a.eval x = .slice A m c) (hA : A = none → c = 0) (hr : IntRow w A k l)
    (h63 : n + m ≤ maxLen) (hbytes : (n + m) * bytes ≤ 140737488355328) (hb : Below w0.heap.size w0 w)
    (h : ∀ v' w', w'.ownsRow w0.heap.size e 1 v' (n + m) (xs ++ l.map (Value.int k)) → Below w0.heap.size w0 w' → K (a.put o.dst v') w') :
    if Region.wanted o (yielded ops a.tmps) = true then Oper.wp P o a w K Q else E := by
  subst hm
  have hw : Region.wanted o (yielded ops a.tmps) = true := by simp [Region.wanted, hgd]
  rw [if_pos hw]
  exact wp_appendInts s x t ho w0 e i z bytes ht hi hz hsize hby hzs v n xs hs hown k A c l hx hA hr h63 hbytes hb h

theorem eq_of_getD {l m : List Int} (hl : l.length = m.length) (h : ∀ j, j < l.length → l.getD j 0 = m.getD j 0) : l = m := by
  refine List.ext_getElem hl fun j h1 h2 => ?_
  have := h j h1
  simpa [List.getD_eq_getElem?_getD, List.getElem?_eq_getElem h1, List.getElem?_eq_getElem h2] using this

theorem isum_append (l m : List Int) : isum (l ++ m) = isum l + isum m := by
  have h : ∀ (m : List Int) (x : Int), m.foldl (· + ·) x = x + isum m := by
    intro m
    induction m with
    | nil => intro x; simp [isum]
    | cons y ys ih => intro x; unfold isum; rw [List.foldl_cons, List.foldl_cons, ih, ih (0 + y)]; omega
  unfold isum
  rw [List.foldl_append, h]
  rfl

theorem IntRow.drop {w : World} {b off c t : Nat} {k : IntKind} {l : List Int} (h : IntRow w (some ⟨b, off, none⟩) k l) (hc : l.length ≤ c) : IntRow w (if c = t then some ⟨b, off, none⟩ else some ⟨b, off + t, none⟩) k (l.drop t) := fun j hj => by
  rw [List.length_drop] at hj
  rw [if_neg (by omega)]
  obtain ⟨b', off', e, hcell⟩ := h (t + j) (by omega)
  injection e with e
  injection e with e1 e2
  subst e1 e2
  refine ⟨b, off + t, rfl, ?_⟩
  rw [Nat.add_assoc, hcell]
  simp [List.getD_eq_getElem?_getD]

/-- a row of integers, as the shell tells it -/
def RowOf (k : IntKind) (w : World) (a : Option Addr) (len cap : Nat) (zs : List Int) : Prop :=
  (a = none ∧ len = 0 ∧ cap = 0 ∧ zs = []) ∨
  ∃ x, a = some x ∧ len ≤ cap ∧ cap ≤ maxLen ∧ zs.length = cap ∧ (∀ i, i < zs.length → w.cell? (x.add i) = some (.int k (zs.getD i 0))) ∧ ∀ n ∈ zs, (Lit.int k n).wf = true

theorem RowOf.cases {k : IntKind} {w : World} {a : Option Addr} {len cap : Nat} {zs : List Int} (h : RowOf k w a len cap zs) :
    (a = none ∧ len = 0 ∧ cap = 0) ∨ (len = 0 ∧ cap ≤ 9223372036854775807 ∧ ∃ b off sub, a = some ⟨b, off, sub⟩) ∨
    (0 < len ∧ len ≤ cap ∧ cap ≤ 9223372036854775807 ∧ (zs.take len).length = len ∧ (∃ b off, a = some ⟨b, off, none⟩) ∧ IntRow w a k (zs.take len) ∧ ∀ n ∈ zs.take len, (Lit.int k n).wf = true) := by
  rcases h with ⟨h1, h2, h3, _⟩ | ⟨x, rfl, h1, h2, h3, h4, h5⟩
  · exact .inl ⟨h1, h2, h3⟩
  · simp only [maxLen] at h2
    by_cases h0 : len = 0
    · exact .inr (.inl ⟨h0, by omega, x.block, x.off, x.spot, rfl⟩)
    · obtain ⟨b, off, rfl, hc⟩ := ints_at h4 (by omega)
      refine .inr (.inr ⟨by omega, h1, by omega, by rw [List.length_take]; omega, ⟨b, off, rfl⟩, fun j hj => ⟨b, off, rfl, ?_⟩, fun n hn => h5 n (List.mem_of_mem_take hn)⟩)
      rw [List.length_take] at hj
      rw [hc j (by omega), getD_take, if_pos (by omega)]

/-- block g holds just these cells, and each may be written -/
def Kept (w : World) (g : Nat) (cs : Array Value) (t : TypeId) : Prop := w.heap[g]? = some (.cells cs t (0, 0))
theorem Kept.lt {w : World} {g : Nat} {cs : Array Value} {t : TypeId} (h : Kept w g cs t) : g < w.heap.size := by
  refine Nat.lt_of_not_le fun hc => ?_
  unfold Kept at h
  rw [Array.getElem?_eq_none hc] at h
  cases h
theorem Kept.at_ {w : World} {g : Nat} {cs : Array Value} {t : TypeId} (h : Kept w g cs t) (i : Nat) : w.cell? ⟨g, i, none⟩ = cs[i]? ∧ w.frozen? ⟨g, i, none⟩ = false := by
  unfold Kept at h
  exact ⟨by simp [World.cell?, h], by simp [World.frozen?, h]⟩
theorem Kept.new {w : World} {cs : Array Value} {t : TypeId} {g : Nat} (hg : g = w.heap.size) : Kept (w.alloc (.cells cs t)) g cs t := by subst hg; exact heap_alloc_new w _
theorem Kept.below {w w' : World} {g B : Nat} {cs : Array Value} {t : TypeId} (h : Kept w g cs t) (hb : Below B w w') (hg : g < B) : Kept w' g cs t := (hb.block g hg).trans h
theorem Kept.next {w w' : World} {g : Nat} {cs : Array Value} {t : TypeId} (h : Kept w g cs t) (hb : Below w.heap.size w w') : Kept w' g cs t := h.below hb h.lt
theorem Kept.alloc {w : World} {g : Nat} {cs : Array Value} {t : TypeId} (h : Kept w g cs t) (o : Obj) : Kept (w.alloc o) g cs t := h.next ((Below.refl _ _).alloc (Nat.le_refl _) o)
theorem Kept.drewN {w : World} {g : Nat} {cs : Array Value} {t : TypeId} (h : Kept w g cs t) (n : Nat) : Kept (w.drewN n) g cs t := h
theorem Kept.far {w : World} {g : Nat} {cs : Array Value} {t : TypeId} (h : Kept w g cs t) {p : Addr} (hp : g ≠ p.block) (u : Value) : Kept (w.setCell p u) g cs t := (Below.heap_setCell w p u g hp).trans h
theorem Kept.set {w : World} {g : Nat} {cs : Array Value} {t : TypeId} (h : Kept w g cs t) (i : Nat) (u : Value) : Kept (w.setCell ⟨g, i, none⟩ u) g (cs.setIfInBounds i u) t := by
  unfold Kept at h ⊢
  simp [World.setCell, Array.getElem?_modify, h]
theorem Kept.one {w : World} {g : Nat} {x : Value} {t : TypeId} (h : Kept w g #[x] t) : w.cell? ⟨g, 0, none⟩ = some x ∧ w.frozen? ⟨g, 0, none⟩ = false ∧ g < w.heap.size := ⟨(h.at_ 0).1, (h.at_ 0).2, h.lt⟩
theorem Kept.two {w : World} {g : Nat} {x y : Value} {t : TypeId} (h : Kept w g #[x, y] t) : w.cell? ⟨g, 0, none⟩ = some x ∧ w.cell? ⟨g, 1, none⟩ = some y ∧ w.frozen? ⟨g, 0, none⟩ = false ∧ w.frozen? ⟨g, 1, none⟩ = false ∧ g < w.heap.size :=
  ⟨(h.at_ 0).1, (h.at_ 1).1, (h.at_ 0).2, (h.at_ 1).2, h.lt⟩
theorem Kept.three {w : World} {g : Nat} {x y z : Value} {t : TypeId} (h : Kept w g #[x, y, z] t) : w.cell? ⟨g, 0, none⟩ = some x ∧ w.cell? ⟨g, 1, none⟩ = some y ∧ w.cell? ⟨g, 2, none⟩ = some z ∧ w.frozen? ⟨g, 0, none⟩ = false ∧ w.frozen? ⟨g, 1, none⟩ = false ∧ w.frozen? ⟨g, 2, none⟩ = false ∧ g < w.heap.size :=
  ⟨(h.at_ 0).1, (h.at_ 1).1, (h.at_ 2).1, (h.at_ 0).2, (h.at_ 1).2, (h.at_ 2).2, h.lt⟩
theorem Kept.set2 {w : World} {g : Nat} {x y : Value} {t : TypeId} (h : Kept w g #[x, y] t) (p q : Value) : Kept ((w.setCell ⟨g, 0, none⟩ p).setCell ⟨g, 1, none⟩ q) g #[p, q] t := (h.set 0 p).set 1 q
/-- what is read of a struct of two that has just been stored -/
theorem Kept.read2 {w : World} {g : Nat} {x y : Value} {t : TypeId} (h : Kept w g #[x, y] t) (p q : Value) :
    (w.setCell ⟨g, 0, none⟩ p).cell? ⟨g, 0, none⟩ = some p ∧ ((w.setCell ⟨g, 0, none⟩ p).setCell ⟨g, 1, none⟩ q).cell? ⟨g, 1, none⟩ = some q :=
  ⟨((h.set 0 p).at_ 0).1, (((h.set 0 p).set 1 q).at_ 1).1⟩
theorem bset2 {B : Nat} {a w : World} {g : Nat} (h : Below B a w) (hg : B ≤ g) (p q : Value) : Below B a ((w.setCell ⟨g, 0, none⟩ p).setCell ⟨g, 1, none⟩ q) := (h.setCell hg p).setCell hg q
theorem bnext {B : Nat} {a w w' : World} (h : Below B a w) (hB : B ≤ w.heap.size) (hb : Below w.heap.size w w') : Below B a w' := h.trans (hb.mono hB)
theorem bstep {a w w' : World} (h : Below a.heap.size a w) (hb : Below w.heap.size w w') : Below a.heap.size a w' := h.trans (hb.mono h.size)
theorem one_alloc (w : World) (o : Obj) : Below w.heap.size w (w.alloc o) := (Below.refl _ _).alloc (Nat.le_refl _) o
/-- a call that answers a value and has changed nothing that was there -/
def Gives (v : Value) (w : World) (e : Ending) (w' : World) : Prop := e = .returned v ∧ Below w.heap.size w w'
theorem bcell {W w1 : World} (hb : Below W.heap.size W w1) : (∀ b o, b < W.heap.size → w1.cell? ⟨b, o, none⟩ = W.cell? ⟨b, o, none⟩) ∧ (∀ b o, b < W.heap.size → w1.frozen? ⟨b, o, none⟩ = W.frozen? ⟨b, o, none⟩) :=
  ⟨fun b o h => hb.cell (p := ⟨b, o, none⟩) h, fun b o h => hb.frozen (p := ⟨b, o, none⟩) h⟩
theorem gives_int {k : IntKind} {a b : Int} {w w' : World} (h : a = b) (hb : Below w.heap.size w w') : Gives (.int k b) w (.returned (.int k a)) w' := ⟨by rw [h], hb⟩
theorem gives_bool {a b : Bool} {w w' : World} (h : a = b) (hb : Below w.heap.size w w') : Gives (.bool b) w (.returned (.bool a)) w' := ⟨by rw [h], hb⟩
end Go.Proofs.Ytflplliiamodhaa

/- S of a region, carried over a call that changes nothing that was there. -/
namespace Go.Proofs.Ytflplliiamodhaa
open Go.RowKit
set_option linter.unusedVariables false

theorem keep1 {w w' : World} (hb : Below w.heap.size w w') {p : Addr} {v : Value} (h : w.cell? p = some v) : w'.cell? p = some v := (hb.cell (World.block_lt_of_cell? w _ h)).trans h
theorem keep2 {w w' : World} (hb : Below w.heap.size w w') {p0 p1 : Addr} {v0 v1 : Value} (h : w.cell? p0 = some v0 ∧ w.cell? p1 = some v1) : w'.cell? p0 = some v0 ∧ w'.cell? p1 = some v1 := ⟨keep1 hb h.1, keep1 hb h.2⟩
theorem keep3 {w w' : World} (hb : Below w.heap.size w w') {p0 p1 p2 : Addr} {v0 v1 v2 : Value} (h : w.cell? p0 = some v0 ∧ w.cell? p1 = some v1 ∧ w.cell? p2 = some v2) : w'.cell? p0 = some v0 ∧ w'.cell? p1 = some v1 ∧ w'.cell? p2 = some v2 := ⟨keep1 hb h.1, keep1 hb h.2.1, keep1 hb h.2.2⟩
theorem keep4 {w w' : World} (hb : Below w.heap.size w w') {p0 p1 p2 p3 : Addr} {v0 v1 v2 v3 : Value} (h : w.cell? p0 = some v0 ∧ w.cell? p1 = some v1 ∧ w.cell? p2 = some v2 ∧ w.cell? p3 = some v3) : w'.cell? p0 = some v0 ∧ w'.cell? p1 = some v1 ∧ w'.cell? p2 = some v2 ∧ w'.cell? p3 = some v3 := ⟨keep1 hb h.1, keep1 hb h.2.1, keep1 hb h.2.2.1, keep1 hb h.2.2.2⟩
theorem keep5 {w w' : World} (hb : Below w.heap.size w w') {p0 p1 p2 p3 p4 : Addr} {v0 v1 v2 v3 v4 : Value} (h : w.cell? p0 = some v0 ∧ w.cell? p1 = some v1 ∧ w.cell? p2 = some v2 ∧ w.cell? p3 = some v3 ∧ w.cell? p4 = some v4) : w'.cell? p0 = some v0 ∧ w'.cell? p1 = some v1 ∧ w'.cell? p2 = some v2 ∧ w'.cell? p3 = some v3 ∧ w'.cell? p4 = some v4 := ⟨keep1 hb h.1, keep1 hb h.2.1, keep1 hb h.2.2.1, keep1 hb h.2.2.2.1, keep1 hb h.2.2.2.2⟩
theorem keep6 {w w' : World} (hb : Below w.heap.size w w') {p0 p1 p2 p3 p4 p5 : Addr} {v0 v1 v2 v3 v4 v5 : Value} (h : w.cell? p0 = some v0 ∧ w.cell? p1 = some v1 ∧ w.cell? p2 = some v2 ∧ w.cell? p3 = some v3 ∧ w.cell? p4 = some v4 ∧ w.cell? p5 = some v5) : w'.cell? p0 = some v0 ∧ w'.cell? p1 = some v1 ∧ w'.cell? p2 = some v2 ∧ w'.cell? p3 = some v3 ∧ w'.cell? p4 = some v4 ∧ w'.cell? p5 = some v5 := ⟨keep1 hb h.1, keep1 hb h.2.1, keep1 hb h.2.2.1, keep1 hb h.2.2.2.1, keep1 hb h.2.2.2.2.1, keep1 hb h.2.2.2.2.2⟩
theorem keep7 {w w' : World} (hb : Below w.heap.size w w') {p0 p1 p2 p3 p4 p5 p6 : Addr} {v0 v1 v2 v3 v4 v5 v6 : Value} (h : w.cell? p0 = some v0 ∧ w.cell? p1 = some v1 ∧ w.cell? p2 = some v2 ∧ w.cell? p3 = some v3 ∧ w.cell? p4 = some v4 ∧ w.cell? p5 = some v5 ∧ w.cell? p6 = some v6) : w'.cell? p0 = some v0 ∧ w'.cell? p1 = some v1 ∧ w'.cell? p2 = some v2 ∧ w'.cell? p3 = some v3 ∧ w'.cell? p4 = some v4 ∧ w'.cell? p5 = some v5 ∧ w'.cell? p6 = some v6 := ⟨keep1 hb h.1, keep1 hb h.2.1, keep1 hb h.2.2.1, keep1 hb h.2.2.2.1, keep1 hb h.2.2.2.2.1, keep1 hb h.2.2.2.2.2.1, keep1 hb h.2.2.2.2.2.2⟩
theorem keep8 {w w' : World} (hb : Below w.heap.size w w') {p0 p1 p2 p3 p4 p5 p6 p7 : Addr} {v0 v1 v2 v3 v4 v5 v6 v7 : Value} (h : w.cell? p0 = some v0 ∧ w.cell? p1 = some v1 ∧ w.cell? p2 = some v2 ∧ w.cell? p3 = some v3 ∧ w.cell? p4 = some v4 ∧ w.cell? p5 = some v5 ∧ w.cell? p6 = some v6 ∧ w.cell? p7 = some v7) : w'.cell? p0 = some v0 ∧ w'.cell? p1 = some v1 ∧ w'.cell? p2 = some v2 ∧ w'.cell? p3 = some v3 ∧ w'.cell? p4 = some v4 ∧ w'.cell? p5 = some v5 ∧ w'.cell? p6 = some v6 ∧ w'.cell? p7 = some v7 := ⟨keep1 hb h.1, keep1 hb h.2.1, keep1 hb h.2.2.1, keep1 hb h.2.2.2.1, keep1 hb h.2.2.2.2.1, keep1 hb h.2.2.2.2.2.1, keep1 hb h.2.2.2.2.2.2.1, keep1 hb h.2.2.2.2.2.2.2⟩
theorem keep9 {w w' : World} (hb : Below w.heap.size w w') {p0 p1 p2 p3 p4 p5 p6 p7 p8 : Addr} {v0 v1 v2 v3 v4 v5 v6 v7 v8 : Value} (h : w.cell? p0 = some v0 ∧ w.cell? p1 = some v1 ∧ w.cell? p2 = some v2 ∧ w.cell? p3 = some v3 ∧ w.cell? p4 = some v4 ∧ w.cell? p5 = some v5 ∧ w.cell? p6 = some v6 ∧ w.cell? p7 = some v7 ∧ w.cell? p8 = some v8) : w'.cell? p0 = some v0 ∧ w'.cell? p1 = some v1 ∧ w'.cell? p2 = some v2 ∧ w'.cell? p3 = some v3 ∧ w'.cell? p4 = some v4 ∧ w'.cell? p5 = some v5 ∧ w'.cell? p6 = some v6 ∧ w'.cell? p7 = some v7 ∧ w'.cell? p8 = some v8 := ⟨keep1 hb h.1, keep1 hb h.2.1, keep1 hb h.2.2.1, keep1 hb h.2.2.2.1, keep1 hb h.2.2.2.2.1, keep1 hb h.2.2.2.2.2.1, keep1 hb h.2.2.2.2.2.2.1, keep1 hb h.2.2.2.2.2.2.2.1, keep1 hb h.2.2.2.2.2.2.2.2⟩
theorem keep10 {w w' : World} (hb : Below w.heap.size w w') {p0 p1 p2 p3 p4 p5 p6 p7 p8 p9 : Addr} {v0 v1 v2 v3 v4 v5 v6 v7 v8 v9 : Value} (h : w.cell? p0 = some v0 ∧ w.cell? p1 = some v1 ∧ w.cell? p2 = some v2 ∧ w.cell? p3 = some v3 ∧ w.cell? p4 = some v4 ∧ w.cell? p5 = some v5 ∧ w.cell? p6 = some v6 ∧ w.cell? p7 = some v7 ∧ w.cell? p8 = some v8 ∧ w.cell? p9 = some v9) : w'.cell? p0 = some v0 ∧ w'.cell? p1 = some v1 ∧ w'.cell? p2 = some v2 ∧ w'.cell? p3 = some v3 ∧ w'.cell? p4 = some v4 ∧ w'.cell? p5 = some v5 ∧ w'.cell? p6 = some v6 ∧ w'.cell? p7 = some v7 ∧ w'.cell? p8 = some v8 ∧ w'.cell? p9 = some v9 := ⟨keep1 hb h.1, keep1 hb h.2.1, keep1 hb h.2.2.1, keep1 hb h.2.2.2.1, keep1 hb h.2.2.2.2.1, keep1 hb h.2.2.2.2.2.1, keep1 hb h.2.2.2.2.2.2.1, keep1 hb h.2.2.2.2.2.2.2.1, keep1 hb h.2.2.2.2.2.2.2.2.1, keep1 hb h.2.2.2.2.2.2.2.2.2⟩
theorem keep11 {w w' : World} (hb : Below w.heap.size w w') {p0 p1 p2 p3 p4 p5 p6 p7 p8 p9 p10 : Addr} {v0 v1 v2 v3 v4 v5 v6 v7 v8 v9 v10 : Value} (h : w.cell? p0 = some v0 ∧ w.cell? p1 = some v1 ∧ w.cell? p2 = some v2 ∧ w.cell? p3 = some v3 ∧ w.cell? p4 = some v4 ∧ w.cell? p5 = some v5 ∧ w.cell? p6 = some v6 ∧ w.cell? p7 = some v7 ∧ w.cell? p8 = some v8 ∧ w.cell? p9 = some v9 ∧ w.cell? p10 = some v10) : w'.cell? p0 = some v0 ∧ w'.cell? p1 = some v1 ∧ w'.cell? p2 = some v2 ∧ w'.cell? p3 = some v3 ∧ w'.cell? p4 = some v4 ∧ w'.cell? p5 = some v5 ∧ w'.cell? p6 = some v6 ∧ w'.cell? p7 = some v7 ∧ w'.cell? p8 = some v8 ∧ w'.cell? p9 = some v9 ∧ w'.cell? p10 = some v10 := ⟨keep1 hb h.1, keep1 hb h.2.1, keep1 hb h.2.2.1, keep1 hb h.2.2.2.1, keep1 hb h.2.2.2.2.1, keep1 hb h.2.2.2.2.2.1, keep1 hb h.2.2.2.2.2.2.1, keep1 hb h.2.2.2.2.2.2.2.1, keep1 hb h.2.2.2.2.2.2.2.2.1, keep1 hb h.2.2.2.2.2.2.2.2.2.1, keep1 hb h.2.2.2.2.2.2.2.2.2.2⟩
theorem keep12 {w w' : World} (hb : Below w.heap.size w w') {p0 p1 p2 p3 p4 p5 p6 p7 p8 p9 p10 p11 : Addr} {v0 v1 v2 v3 v4 v5 v6 v7 v8 v9 v10 v11 : Value} (h : w.cell? p0 = some v0 ∧ w.cell? p1 = some v1 ∧ w.cell? p2 = some v2 ∧ w.cell? p3 = some v3 ∧ w.cell? p4 = some v4 ∧ w.cell? p5 = some v5 ∧ w.cell? p6 = some v6 ∧ w.cell? p7 = some v7 ∧ w.cell? p8 = some v8 ∧ w.cell? p9 = some v9 ∧ w.cell? p10 = some v10 ∧ w.cell? p11 = some v11) : w'.cell? p0 = some v0 ∧ w'.cell? p1 = some v1 ∧ w'.cell? p2 = some v2 ∧ w'.cell? p3 = some v3 ∧ w'.cell? p4 = some v4 ∧ w'.cell? p5 = some v5 ∧ w'.cell? p6 = some v6 ∧ w'.cell? p7 = some v7 ∧ w'.cell? p8 = some v8 ∧ w'.cell? p9 = some v9 ∧ w'.cell? p10 = some v10 ∧ w'.cell? p11 = some v11 := ⟨keep1 hb h.1, keep1 hb h.2.1, keep1 hb h.2.2.1, keep1 hb h.2.2.2.1, keep1 hb h.2.2.2.2.1, keep1 hb h.2.2.2.2.2.1, keep1 hb h.2.2.2.2.2.2.1, keep1 hb h.2.2.2.2.2.2.2.1, keep1 hb h.2.2.2.2.2.2.2.2.1, keep1 hb h.2.2.2.2.2.2.2.2.2.1, keep1 hb h.2.2.2.2.2.2.2.2.2.2.1, keep1 hb h.2.2.2.2.2.2.2.2.2.2.2⟩
theorem keep13 {w w' : World} (hb : Below w.heap.size w w') {p0 p1 p2 p3 p4 p5 p6 p7 p8 p9 p10 p11 p12 : Addr} {v0 v1 v2 v3 v4 v5 v6 v7 v8 v9 v10 v11 v12 : Value} (h : w.cell? p0 = some v0 ∧ w.cell? p1 = some v1 ∧ w.cell? p2 = some v2 ∧ w.cell? p3 = some v3 ∧ w.cell? p4 = some v4 ∧ w.cell? p5 = some v5 ∧ w.cell? p6 = some v6 ∧ w.cell? p7 = some v7 ∧ w.cell? p8 = some v8 ∧ w.cell? p9 = some v9 ∧ w.cell? p10 = some v10 ∧ w.cell? p11 = some v11 ∧ w.cell? p12 = some v12) : w'.cell? p0 = some v0 ∧ w'.cell? p1 = some v1 ∧ w'.cell? p2 = some v2 ∧ w'.cell? p3 = some v3 ∧ w'.cell? p4 = some v4 ∧ w'.cell? p5 = some v5 ∧ w'.cell? p6 = some v6 ∧ w'.cell? p7 = some v7 ∧ w'.cell? p8 = some v8 ∧ w'.cell? p9 = some v9 ∧ w'.cell? p10 = some v10 ∧ w'.cell? p11 = some v11 ∧ w'.cell? p12 = some v12 := ⟨keep1 hb h.1, keep1 hb h.2.1, keep1 hb h.2.2.1, keep1 hb h.2.2.2.1, keep1 hb h.2.2.2.2.1, keep1 hb h.2.2.2.2.2.1, keep1 hb h.2.2.2.2.2.2.1, keep1 hb h.2.2.2.2.2.2.2.1, keep1 hb h.2.2.2.2.2.2.2.2.1, keep1 hb h.2.2.2.2.2.2.2.2.2.1, keep1 hb h.2.2.2.2.2.2.2.2.2.2.1, keep1 hb h.2.2.2.2.2.2.2.2.2.2.2.1, keep1 hb h.2.2.2.2.2.2.2.2.2.2.2.2⟩
theorem keep14 {w w' : World} (hb : Below w.heap.size w w') {p0 p1 p2 p3 p4 p5 p6 p7 p8 p9 p10 p11 p12 p13 : Addr} {v0 v1 v2 v3 v4 v5 v6 v7 v8 v9 v10 v11 v12 v13 : Value} (h : w.cell? p0 = some v0 ∧ w.cell? p1 = some v1 ∧ w.cell? p2 = some v2 ∧ w.cell? p3 = some v3 ∧ w.cell? p4 = some v4 ∧ w.cell? p5 = some v5 ∧ w.cell? p6 = some v6 ∧ w.cell? p7 = some v7 ∧ w.cell? p8 = some v8 ∧ w.cell? p9 = some v9 ∧ w.cell? p10 = some v10 ∧ w.cell? p11 = some v11 ∧ w.cell? p12 = some v12 ∧ w.cell? p13 = some v13) : w'.cell? p0 = some v0 ∧ w'.cell? p1 = some v1 ∧ w'.cell? p2 = some v2 ∧ w'.cell? p3 = some v3 ∧ w'.cell? p4 = some v4 ∧ w'.cell? p5 = some v5 ∧ w'.cell? p6 = some v6 ∧ w'.cell? p7 = some v7 ∧ w'.cell? p8 = some v8 ∧ w'.cell? p9 = some v9 ∧ w'.cell? p10 = some v10 ∧ w'.cell? p11 = some v11 ∧ w'.cell? p12 = some v12 ∧ w'.cell? p13 = some v13 := ⟨keep1 hb h.1, keep1 hb h.2.1, keep1 hb h.2.2.1, keep1 hb h.2.2.2.1, keep1 hb h.2.2.2.2.1, keep1 hb h.2.2.2.2.2.1, keep1 hb h.2.2.2.2.2.2.1, keep1 hb h.2.2.2.2.2.2.2.1, keep1 hb h.2.2.2.2.2.2.2.2.1, keep1 hb h.2.2.2.2.2.2.2.2.2.1, keep1 hb h.2.2.2.2.2.2.2.2.2.2.1, keep1 hb h.2.2.2.2.2.2.2.2.2.2.2.1, keep1 hb h.2.2.2.2.2.2.2.2.2.2.2.2.1, keep1 hb h.2.2.2.2.2.2.2.2.2.2.2.2.2⟩
theorem keepB1 {a w w' : World} (hb : Below w.heap.size w w') {p0 : Addr} {v0 : Value} (h : Hid (Below a.heap.size a w) ∧ w.cell? p0 = some v0) : Hid (Below a.heap.size a w') ∧ w'.cell? p0 = some v0 := ⟨Lib.hid (bstep h.1.out hb), keep1 hb h.2⟩
theorem keepB2 {a w w' : World} (hb : Below w.heap.size w w') {p0 p1 : Addr} {v0 v1 : Value} (h : Hid (Below a.heap.size a w) ∧ w.cell? p0 = some v0 ∧ w.cell? p1 = some v1) : Hid (Below a.heap.size a w') ∧ w'.cell? p0 = some v0 ∧ w'.cell? p1 = some v1 := ⟨Lib.hid (bstep h.1.out hb), keep1 hb h.2.1, keep1 hb h.2.2⟩
theorem keepB3 {a w w' : World} (hb : Below w.heap.size w w') {p0 p1 p2 : Addr} {v0 v1 v2 : Value} (h : Hid (Below a.heap.size a w) ∧ w.cell? p0 = some v0 ∧ w.cell? p1 = some v1 ∧ w.cell? p2 = some v2) : Hid (Below a.heap.size a w') ∧ w'.cell? p0 = some v0 ∧ w'.cell? p1 = some v1 ∧ w'.cell? p2 = some v2 := ⟨Lib.hid (bstep h.1.out hb), keep1 hb h.2.1, keep1 hb h.2.2.1, keep1 hb h.2.2.2⟩
theorem keepB4 {a w w' : World} (hb : Below w.heap.size w w') {p0 p1 p2 p3 : Addr} {v0 v1 v2 v3 : Value} (h : Hid (Below a.heap.size a w) ∧ w.cell? p0 = some v0 ∧ w.cell? p1 = some v1 ∧ w.cell? p2 = some v2 ∧ w.cell? p3 = some v3) : Hid (Below a.heap.size a w') ∧ w'.cell? p0 = some v0 ∧ w'.cell? p1 = some v1 ∧ w'.cell? p2 = some v2 ∧ w'.cell? p3 = some v3 := ⟨Lib.hid (bstep h.1.out hb), keep1 hb h.2.1, keep1 hb h.2.2.1, keep1 hb h.2.2.2.1, keep1 hb h.2.2.2.2⟩
theorem keepB5 {a w w' : World} (hb : Below w.heap.size w w') {p0 p1 p2 p3 p4 : Addr} {v0 v1 v2 v3 v4 : Value} (h : Hid (Below a.heap.size a w) ∧ w.cell? p0 = some v0 ∧ w.cell? p1 = some v1 ∧ w.cell? p2 = some v2 ∧ w.cell? p3 = some v3 ∧ w.cell? p4 = some v4) : Hid (Below a.heap.size a w') ∧ w'.cell? p0 = some v0 ∧ w'.cell? p1 = some v1 ∧ w'.cell? p2 = some v2 ∧ w'.cell? p3 = some v3 ∧ w'.cell? p4 = some v4 := ⟨Lib.hid (bstep h.1.out hb), keep1 hb h.2.1, keep1 hb h.2.2.1, keep1 hb h.2.2.2.1, keep1 hb h.2.2.2.2.1, keep1 hb h.2.2.2.2.2⟩
theorem keepB6 {a w w' : World} (hb : Below w.heap.size w w') {p0 p1 p2 p3 p4 p5 : Addr} {v0 v1 v2 v3 v4 v5 : Value} (h : Hid (Below a.heap.size a w) ∧ w.cell? p0 = some v0 ∧ w.cell? p1 = some v1 ∧ w.cell? p2 = some v2 ∧ w.cell? p3 = some v3 ∧ w.cell? p4 = some v4 ∧ w.cell? p5 = some v5) : Hid (Below a.heap.size a w') ∧ w'.cell? p0 = some v0 ∧ w'.cell? p1 = some v1 ∧ w'.cell? p2 = some v2 ∧ w'.cell? p3 = some v3 ∧ w'.cell? p4 = some v4 ∧ w'.cell? p5 = some v5 := ⟨Lib.hid (bstep h.1.out hb), keep1 hb h.2.1, keep1 hb h.2.2.1, keep1 hb h.2.2.2.1, keep1 hb h.2.2.2.2.1, keep1 hb h.2.2.2.2.2.1, keep1 hb h.2.2.2.2.2.2⟩
theorem keepB7 {a w w' : World} (hb : Below w.heap.size w w') {p0 p1 p2 p3 p4 p5 p6 : Addr} {v0 v1 v2 v3 v4 v5 v6 : Value} (h : Hid (Below a.heap.size a w) ∧ w.cell? p0 = some v0 ∧ w.cell? p1 = some v1 ∧ w.cell? p2 = some v2 ∧ w.cell? p3 = some v3 ∧ w.cell? p4 = some v4 ∧ w.cell? p5 = some v5 ∧ w.cell? p6 = some v6) : Hid (Below a.heap.size a w') ∧ w'.cell? p0 = some v0 ∧ w'.cell? p1 = some v1 ∧ w'.cell? p2 = some v2 ∧ w'.cell? p3 = some v3 ∧ w'.cell? p4 = some v4 ∧ w'.cell? p5 = some v5 ∧ w'.cell? p6 = some v6 := ⟨Lib.hid (bstep h.1.out hb), keep1 hb h.2.1, keep1 hb h.2.2.1, keep1 hb h.2.2.2.1, keep1 hb h.2.2.2.2.1, keep1 hb h.2.2.2.2.2.1, keep1 hb h.2.2.2.2.2.2.1, keep1 hb h.2.2.2.2.2.2.2⟩
theorem keepB8 {a w w' : World} (hb : Below w.heap.size w w') {p0 p1 p2 p3 p4 p5 p6 p7 : Addr} {v0 v1 v2 v3 v4 v5 v6 v7 : Value} (h : Hid (Below a.heap.size a w) ∧ w.cell? p0 = some v0 ∧ w.cell? p1 = some v1 ∧ w.cell? p2 = some v2 ∧ w.cell? p3 = some v3 ∧ w.cell? p4 = some v4 ∧ w.cell? p5 = some v5 ∧ w.cell? p6 = some v6 ∧ w.cell? p7 = some v7) : Hid (Below a.heap.size a w') ∧ w'.cell? p0 = some v0 ∧ w'.cell? p1 = some v1 ∧ w'.cell? p2 = some v2 ∧ w'.cell? p3 = some v3 ∧ w'.cell? p4 = some v4 ∧ w'.cell? p5 = some v5 ∧ w'.cell? p6 = some v6 ∧ w'.cell? p7 = some v7 := ⟨Lib.hid (bstep h.1.out hb), keep1 hb h.2.1, keep1 hb h.2.2.1, keep1 hb h.2.2.2.1, keep1 hb h.2.2.2.2.1, keep1 hb h.2.2.2.2.2.1, keep1 hb h.2.2.2.2.2.2.1, keep1 hb h.2.2.2.2.2.2.2.1, keep1 hb h.2.2.2.2.2.2.2.2⟩
theorem keepB9 {a w w' : World} (hb : Below w.heap.size w w') {p0 p1 p2 p3 p4 p5 p6 p7 p8 : Addr} {v0 v1 v2 v3 v4 v5 v6 v7 v8 : Value} (h : Hid (Below a.heap.size a w) ∧ w.cell? p0 = some v0 ∧ w.cell? p1 = some v1 ∧ w.cell? p2 = some v2 ∧ w.cell? p3 = some v3 ∧ w.cell? p4 = some v4 ∧ w.cell? p5 = some v5 ∧ w.cell? p6 = some v6 ∧ w.cell? p7 = some v7 ∧ w.cell? p8 = some v8) : Hid (Below a.heap.size a w') ∧ w'.cell? p0 = some v0 ∧ w'.cell? p1 = some v1 ∧ w'.cell? p2 = some v2 ∧ w'.cell? p3 = some v3 ∧ w'.cell? p4 = some v4 ∧ w'.cell? p5 = some v5 ∧ w'.cell? p6 = some v6 ∧ w'.cell? p7 = some v7 ∧ w'.cell? p8 = some v8 := ⟨Lib.hid (bstep h.1.out hb), keep1 hb h.2.1, keep1 hb h.2.2.1, keep1 hb h.2.2.2.1, keep1 hb h.2.2.2.2.1, keep1 hb h.2.2.2.2.2.1, keep1 hb h.2.2.2.2.2.2.1, keep1 hb h.2.2.2.2.2.2.2.1, keep1 hb h.2.2.2.2.2.2.2.2.1, keep1 hb h.2.2.2.2.2.2.2.2.2⟩
theorem keepB10 {a w w' : World} (hb : Below w.heap.size w w') {p0 p1 p2 p3 p4 p5 p6 p7 p8 p9 : Addr} {v0 v1 v2 v3 v4 v5 v6 v7 v8 v9 : Value} (h : Hid (Below a.heap.size a w) ∧ w.cell? p0 = some v0 ∧ w.cell? p1 = some v1 ∧ w.cell? p2 = some v2 ∧ w.cell? p3 = some v3 ∧ w.cell? p4 = some v4 ∧ w.cell? p5 = some v5 ∧ w.cell? p6 = some v6 ∧ w.cell? p7 = some v7 ∧ w.cell? p8 = some v8 ∧ w.cell? p9 = some v9) : Hid (Below a.heap.size a w') ∧ w'.cell? p0 = some v0 ∧ w'.cell? p1 = some v1 ∧ w'.cell? p2 = some v2 ∧ w'.cell? p3 = some v3 ∧ w'.cell? p4 = some v4 ∧ w'.cell? p5 = some v5 ∧ w'.cell? p6 = some v6 ∧ w'.cell? p7 = some v7 ∧ w'.cell? p8 = some v8 ∧ w'.cell? p9 = some v9 := ⟨Lib.hid (bstep h.1.out hb), keep1 hb h.2.1, keep1 hb h.2.2.1, keep1 hb h.2.2.2.1, keep1 hb h.2.2.2.2.1, keep1 hb h.2.2.2.2.2.1, keep1 hb h.2.2.2.2.2.2.1, keep1 hb h.2.2.2.2.2.2.2.1, keep1 hb h.2.2.2.2.2.2.2.2.1, keep1 hb h.2.2.2.2.2.2.2.2.2.1, keep1 hb h.2.2.2.2.2.2.2.2.2.2⟩
theorem keepB11 {a w w' : World} (hb : Below w.heap.size w w') {p0 p1 p2 p3 p4 p5 p6 p7 p8 p9 p10 : Addr} {v0 v1 v2 v3 v4 v5 v6 v7 v8 v9 v10 : Value} (h : Hid (Below a.heap.size a w) ∧ w.cell? p0 = some v0 ∧ w.cell? p1 = some v1 ∧ w.cell? p2 = some v2 ∧ w.cell? p3 = some v3 ∧ w.cell? p4 = some v4 ∧ w.cell? p5 = some v5 ∧ w.cell? p6 = some v6 ∧ w.cell? p7 = some v7 ∧ w.cell? p8 = some v8 ∧ w.cell? p9 = some v9 ∧ w.cell? p10 = some v10) : Hid (Below a.heap.size a w') ∧ w'.cell? p0 = some v0 ∧ w'.cell? p1 = some v1 ∧ w'.cell? p2 = some v2 ∧ w'.cell? p3 = some v3 ∧ w'.cell? p4 = some v4 ∧ w'.cell? p5 = some v5 ∧ w'.cell? p6 = some v6 ∧ w'.cell? p7 = some v7 ∧ w'.cell? p8 = some v8 ∧ w'.cell? p9 = some v9 ∧ w'.cell? p10 = some v10 := ⟨Lib.hid (bstep h.1.out hb), keep1 hb h.2.1, keep1 hb h.2.2.1, keep1 hb h.2.2.2.1, keep1 hb h.2.2.2.2.1, keep1 hb h.2.2.2.2.2.1, keep1 hb h.2.2.2.2.2.2.1, keep1 hb h.2.2.2.2.2.2.2.1, keep1 hb h.2.2.2.2.2.2.2.2.1, keep1 hb h.2.2.2.2.2.2.2.2.2.1, keep1 hb h.2.2.2.2.2.2.2.2.2.2.1, keep1 hb h.2.2.2.2.2.2.2.2.2.2.2⟩
theorem keepB12 {a w w' : World} (hb : Below w.heap.size w w') {p0 p1 p2 p3 p4 p5 p6 p7 p8 p9 p10 p11 : Addr} {v0 v1 v2 v3 v4 v5 v6 v7 v8 v9 v10 v11 : Value} (h : Hid (Below a.heap.size a w) ∧ w.cell? p0 = some v0 ∧ w.cell? p1 = some v1 ∧ w.cell? p2 = some v2 ∧ w.cell? p3 = some v3 ∧ w.cell? p4 = some v4 ∧ w.cell? p5 = some v5 ∧ w.cell? p6 = some v6 ∧ w.cell? p7 = some v7 ∧ w.cell? p8 = some v8 ∧ w.cell? p9 = some v9 ∧ w.cell? p10 = some v10 ∧ w.cell? p11 = some v11) : Hid (Below a.heap.size a w') ∧ w'.cell? p0 = some v0 ∧ w'.cell? p1 = some v1 ∧ w'.cell? p2 = some v2 ∧ w'.cell? p3 = some v3 ∧ w'.cell? p4 = some v4 ∧ w'.cell? p5 = some v5 ∧ w'.cell? p6 = some v6 ∧ w'.cell? p7 = some v7 ∧ w'.cell? p8 = some v8 ∧ w'.cell? p9 = some v9 ∧ w'.cell? p10 = some v10 ∧ w'.cell? p11 = some v11 := ⟨Lib.hid (bstep h.1.out hb), keep1 hb h.2.1, keep1 hb h.2.2.1, keep1 hb h.2.2.2.1, keep1 hb h.2.2.2.2.1, keep1 hb h.2.2.2.2.2.1, keep1 hb h.2.2.2.2.2.2.1, keep1 hb h.2.2.2.2.2.2.2.1, keep1 hb h.2.2.2.2.2.2.2.2.1, keep1 hb h.2.2.2.2.2.2.2.2.2.1, keep1 hb h.2.2.2.2.2.2.2.2.2.2.1, keep1 hb h.2.2.2.2.2.2.2.2.2.2.2.1, keep1 hb h.2.2.2.2.2.2.2.2.2.2.2.2⟩
theorem keepB13 {a w w' : World} (hb : Below w.heap.size w w') {p0 p1 p2 p3 p4 p5 p6 p7 p8 p9 p10 p11 p12 : Addr} {v0 v1 v2 v3 v4 v5 v6 v7 v8 v9 v10 v11 v12 : Value} (h : Hid (Below a.heap.size a w) ∧ w.cell? p0 = some v0 ∧ w.cell? p1 = some v1 ∧ w.cell? p2 = some v2 ∧ w.cell? p3 = some v3 ∧ w.cell? p4 = some v4 ∧ w.cell? p5 = some v5 ∧ w.cell? p6 = some v6 ∧ w.cell? p7 = some v7 ∧ w.cell? p8 = some v8 ∧ w.cell? p9 = some v9 ∧ w.cell? p10 = some v10 ∧ w.cell? p11 = some v11 ∧ w.cell? p12 = some v12) : Hid (Below a.heap.size a w') ∧ w'.cell? p0 = some v0 ∧ w'.cell? p1 = some v1 ∧ w'.cell? p2 = some v2 ∧ w'.cell? p3 = some v3 ∧ w'.cell? p4 = some v4 ∧ w'.cell? p5 = some v5 ∧ w'.cell? p6 = some v6 ∧ w'.cell? p7 = some v7 ∧ w'.cell? p8 = some v8 ∧ w'.cell? p9 = some v9 ∧ w'.cell? p10 = some v10 ∧ w'.cell? p11 = some v11 ∧ w'.cell? p12 = some v12 := ⟨Lib.hid (bstep h.1.out hb), keep1 hb h.2.1, keep1 hb h.2.2.1, keep1 hb h.2.2.2.1, keep1 hb h.2.2.2.2.1, keep1 hb h.2.2.2.2.2.1, keep1 hb h.2.2.2.2.2.2.1, keep1 hb h.2.2.2.2.2.2.2.1, keep1 hb h.2.2.2.2.2.2.2.2.1, keep1 hb h.2.2.2.2.2.2.2.2.2.1, keep1 hb h.2.2.2.2.2.2.2.2.2.2.1, keep1 hb h.2.2.2.2.2.2.2.2.2.2.2.1, keep1 hb h.2.2.2.2.2.2.2.2.2.2.2.2.1, keep1 hb h.2.2.2.2.2.2.2.2.2.2.2.2.2⟩
theorem keepB14 {a w w' : World} (hb : Below w.heap.size w w') {p0 p1 p2 p3 p4 p5 p6 p7 p8 p9 p10 p11 p12 p13 : Addr} {v0 v1 v2 v3 v4 v5 v6 v7 v8 v9 v10 v11 v12 v13 : Value} (h : Hid (Below a.heap.size a w) ∧ w.cell? p0 = some v0 ∧ w.cell? p1 = some v1 ∧ w.cell? p2 = some v2 ∧ w.cell? p3 = some v3 ∧ w.cell? p4 = some v4 ∧ w.cell? p5 = some v5 ∧ w.cell? p6 = some v6 ∧ w.cell? p7 = some v7 ∧ w.cell? p8 = some v8 ∧ w.cell? p9 = some v9 ∧ w.cell? p10 = some v10 ∧ w.cell? p11 = some v11 ∧ w.cell? p12 = some v12 ∧ w.cell? p13 = some v13) : Hid (Below a.heap.size a w') ∧ w'.cell? p0 = some v0 ∧ w'.cell? p1 = some v1 ∧ w'.cell? p2 = some v2 ∧ w'.cell? p3 = some v3 ∧ w'.cell? p4 = some v4 ∧ w'.cell? p5 = some v5 ∧ w'.cell? p6 = some v6 ∧ w'.cell? p7 = some v7 ∧ w'.cell? p8 = some v8 ∧ w'.cell? p9 = some v9 ∧ w'.cell? p10 = some v10 ∧ w'.cell? p11 = some v11 ∧ w'.cell? p12 = some v12 ∧ w'.cell? p13 = some v13 := ⟨Lib.hid (bstep h.1.out hb), keep1 hb h.2.1, keep1 hb h.2.2.1, keep1 hb h.2.2.2.1, keep1 hb h.2.2.2.2.1, keep1 hb h.2.2.2.2.2.1, keep1 hb h.2.2.2.2.2.2.1, keep1 hb h.2.2.2.2.2.2.2.1, keep1 hb h.2.2.2.2.2.2.2.2.1, keep1 hb h.2.2.2.2.2.2.2.2.2.1, keep1 hb h.2.2.2.2.2.2.2.2.2.2.1, keep1 hb h.2.2.2.2.2.2.2.2.2.2.2.1, keep1 hb h.2.2.2.2.2.2.2.2.2.2.2.2.1, keep1 hb h.2.2.2.2.2.2.2.2.2.2.2.2.2.1, keep1 hb h.2.2.2.2.2.2.2.2.2.2.2.2.2.2⟩
theorem Kept.read3 {w : World} {g : Nat} {x y z : Value} {t : TypeId} (h : Kept w g #[x, y, z] t) (p q r : Value) :
    (w.setCell ⟨g, 0, none⟩ p).cell? ⟨g, 0, none⟩ = some p ∧ ((w.setCell ⟨g, 0, none⟩ p).setCell ⟨g, 1, none⟩ q).cell? ⟨g, 1, none⟩ = some q ∧ (((w.setCell ⟨g, 0, none⟩ p).setCell ⟨g, 1, none⟩ q).setCell ⟨g, 2, none⟩ r).cell? ⟨g, 2, none⟩ = some r :=
  ⟨((h.set 0 p).at_ 0).1, (((h.set 0 p).set 1 q).at_ 1).1, ((((h.set 0 p).set 1 q).set 2 r).at_ 2).1⟩
theorem bset3 {B : Nat} {a w : World} {g : Nat} (h : Below B a w) (hg : B ≤ g) (p q r : Value) : Below B a (((w.setCell ⟨g, 0, none⟩ p).setCell ⟨g, 1, none⟩ q).setCell ⟨g, 2, none⟩ r) := ((h.setCell hg p).setCell hg q).setCell hg r
/-- behind a draw -/
theorem bdrewN {B : Nat} {a w w' : World} {n : Nat} (h : Below B (a.drewN n) w') : Below B a w' := ⟨h.os, h.tape, h.output, h.size, h.block⟩
theorem bdrew {B : Nat} {a w' : World} (h : Below B a.drew w') : Below B a w' := ⟨h.os, h.tape, h.output, h.size, h.block⟩
end Go.Proofs.Ytflplliiamodhaa

/- gap.New, Right, Has, Within, Width, Mid: for every input. -/
namespace Go.Proofs.Ytflplliiamodhaa
open Go.RowKit
set_option linter.unusedVariables false

theorem right_any (a b : Int) (w : World) : Calls Try.prog 41 #[.agg #[.int .i64 a, .int .i64 b]] w (Gives (.bool (decide (a ≤ b))) w) := by
  go_enter Try.func41, Try.ntmps41
  go_wp2
  go_ret
  exact gives_bool rfl (one_alloc _ _)
theorem has_any (a b x : Int) (r : Bool) (hr : decide (a ≤ x ∧ x ≤ b) = r) (w : World) : Calls Try.prog 26 #[.agg #[.int .i64 a, .int .i64 b], .int .i64 x] w (Gives (.bool r) w) := by
  have HR := Lib.hid hr
  clear hr
  go_enter Try.func26, Try.ntmps26
  go_wp2
  all_goals
    go_ret
    exact gives_bool (by rw [← HR.out, Bool.eq_iff_iff]; simp; omega) (one_alloc _ _)
/-- how wide an interval is; 0 if it is none -/
def widI (a b : Int) : Int := if a ≤ b then b - a else 0
theorem width_any (a b : Int) (w : World) (ha : InI a) (hb : InI b) : Calls Try.prog 72 #[.agg #[.int .i64 a, .int .i64 b]] w (Gives (.int .u64 (widI a b)) w) := by
  have ha' : -9223372036854775808 ≤ a ∧ a ≤ 9223372036854775807 := ha
  have hb' : -9223372036854775808 ≤ b ∧ b ≤ 9223372036854775807 := hb
  by_cases h : a ≤ b
  · have fin : ∀ w', Below w.heap.size w w' → Gives (.int .u64 (widI a b)) w (.returned (.int .u64 (IntKind.u64.wrap (IntKind.u64.wrap b - IntKind.u64.wrap a)))) w' := fun w' hw => gives_int (by unfold widI; rw [if_pos h]; simp only [IntKind.wrap_u64]; omega) hw
    have Fin := Lib.hid fin
    have hd : decide (a ≤ b) = true := decide_eq_true h
    clear fin ha hb
    go_enter Try.func72, Try.ntmps72
    go_wp2_with fail
    refine (right_any a b _).mono ?_
    rintro e w1 ⟨rfl, hb1⟩
    have B1 := Lib.hid ((one_alloc w _).trans (hb1.mono (by simp)))
    obtain ⟨hc, hf⟩ := bcell hb1
    have hz := hb1.size
    simp at hz
    go_wp2
    go_ret
    exact Fin.out _ B1.out
  · have fin : ∀ w', Below w.heap.size w w' → Gives (.int .u64 (widI a b)) w (.returned (.int .u64 0)) w' := fun w' hw => gives_int (by unfold widI; rw [if_neg h]) hw
    have Fin := Lib.hid fin
    have hd : decide (a ≤ b) = false := decide_eq_false h
    clear fin ha hb h
    go_enter Try.func72, Try.ntmps72
    go_wp2_with fail
    refine (right_any a b _).mono ?_
    rintro e w1 ⟨rfl, hb1⟩
    have B1 := Lib.hid ((one_alloc w _).trans (hb1.mono (by simp)))
    rw [hd]
    clear hb1
    go_wp2
    go_ret
    exact Fin.out _ B1.out
theorem within_any (a b c d : Int) (r : Bool) (hr : decide (a ≤ b ∧ c ≤ a ∧ b ≤ d) = r) (w : World) : Calls Try.prog 30 #[.agg #[.int .i64 a, .int .i64 b], .agg #[.int .i64 c, .int .i64 d]] w (Gives (.bool r) w) := by
  have HR := Lib.hid hr
  clear hr
  cases hd : decide (a ≤ b)
  all_goals
    go_enter Try.func30, Try.ntmps30
    go_wp2_with fail
    refine (right_any a b _).mono ?_
    rintro e w1 ⟨rfl, hb1⟩
    have B1 := Lib.hid (((Below.refl w.heap.size w).alloc (Nat.le_refl _) _).alloc (by simp) _ |>.trans (hb1.mono (by simp; omega)))
    obtain ⟨hc, hf⟩ := bcell hb1
    have hz := hb1.size
    simp at hz
    rw [hd]
    have HD := Lib.hid hd
    clear hb1 hd
    go_wp2
    all_goals
      go_ret
      exact gives_bool (by have hd := HD.out; rw [← HR.out, Bool.eq_iff_iff]; simp at hd ⊢; omega) B1.out
/-- the middle of two numbers, rounded down; 0 if the first one is the greater -/
def midI (a b : Int) : Int := if a ≤ b then a + (b - a) / 2 else 0
theorem mid_any (a b : Int) (w : World) (ha : InI a) (hb : InI b) : Calls Try.prog 49 #[.agg #[.int .i64 a, .int .i64 b]] w (Gives (.int .i64 (midI a b)) w) := by
  have ha' : -9223372036854775808 ≤ a ∧ a ≤ 9223372036854775807 := ha
  have hb' : -9223372036854775808 ≤ b ∧ b ≤ 9223372036854775807 := hb
  have Cw := Lib.hid (fun w => width_any a b w ha hb)
  have fin : ∀ r w', r = midI a b → Below w.heap.size w w' → Gives (.int .i64 (midI a b)) w (.returned (.int .i64 r)) w' := fun r w' h hw => gives_int h hw
  have Fin := Lib.hid fin
  clear fin ha hb
  by_cases h : a ≤ b
  · have hd : decide (a ≤ b) = true := decide_eq_true h
    have hw : widI a b = b - a := if_pos h
    rw [hw] at Cw
    have hm : a + (b - a) / 2 = midI a b := by unfold midI; rw [if_pos h]
    have HM := Lib.hid hm
    clear hw hm
    go_enter Try.func49, Try.ntmps49
    go_wp2_with fail
    refine (right_any a b _).mono ?_
    rintro e w1 ⟨rfl, hb1⟩
    have B1 := Lib.hid ((one_alloc w _).trans (hb1.mono (by simp)))
    obtain ⟨c1, c2, -, -, hz⟩ := box2 hb1
    rw [hd]
    clear hb1
    go_wp2
    go_region_held3 (fun w' => w'.cell? ⟨w.heap.size, 0, none⟩ = some (.int .i64 a) ∧ w'.cell? ⟨w.heap.size, 1, none⟩ = some (.int .i64 b))
      (first | exact ⟨k1, k2⟩ | go_keep)
      (first | (go_at_call 72; refine (Cw.out _).mono ?_; rintro e w2 ⟨rfl, hb2⟩; have k1 := (hb2.cell (p := ⟨w.heap.size, 0, none⟩) hz).trans c1; have k2 := (hb2.cell (p := ⟨w.heap.size, 1, none⟩) hz).trans c2))
    all_goals
      have B2 := Lib.hid (B1.out.trans (Below.mono (B := w1.heap.size) ⟨hb2.os, hb2.tape, hb2.output, hb2.size, hb2.block⟩ B1.out.size))
      clear hb2
      go_wp2
      go_ret
      refine Fin.out _ _ ?_ B2.out
      rw [← HM.out, Int.tdiv_eq_ediv_of_nonneg (by omega)]
      simp only [IntKind.wrap_u64, IntKind.wrap_i64]
      omega
  · have hd : decide (a ≤ b) = false := decide_eq_false h
    have h0 : (0 : Int) = midI a b := by unfold midI; rw [if_neg h]
    have H0 := Lib.hid h0
    clear h0 h
    go_enter Try.func49, Try.ntmps49
    go_wp2_with fail
    refine (right_any a b _).mono ?_
    rintro e w1 ⟨rfl, hb1⟩
    have B1 := Lib.hid ((one_alloc w _).trans (hb1.mono (by simp)))
    rw [hd]
    clear hb1
    go_wp2
    go_ret
    exact Fin.out _ _ H0.out B1.out
end Go.Proofs.Ytflplliiamodhaa

/- The numbers of layer 4: bounds, and what points keep to a rate. -/
namespace Go.Proofs.Ytflplliiamodhaa
open Go.RowKit
set_option linter.unusedVariables false

/-- a product divided, rounded down, or up -/
def ratM (p c : Int) (up : Bool) : Int := if up then -((-p) / c) else p / c
theorem down_spec {p c : Int} (hc : 1 ≤ c) : ratM p c false * c ≤ p ∧ p < ratM p c false * c + c := by
  unfold ratM
  have h := Int.mul_ediv_add_emod p c
  have h1 := Int.emod_nonneg p (show c ≠ 0 by omega)
  have h2 := Int.emod_lt_of_pos p (show 0 < c by omega)
  rw [Int.mul_comm] at h
  simp
  omega
theorem up_spec {p c : Int} (hc : 1 ≤ c) : p ≤ ratM p c true * c ∧ ratM p c true * c < p + c := by
  unfold ratM
  have h := Int.mul_ediv_add_emod (-p) c
  have h1 := Int.emod_nonneg (-p) (show c ≠ 0 by omega)
  have h2 := Int.emod_lt_of_pos (-p) (show 0 < c by omega)
  rw [Int.mul_comm] at h
  simp only [↓reduceIte, Int.neg_mul]
  omega
theorem mul_mono {a b c : Int} (h : a ≤ b) (hc : 0 ≤ c) : a * c ≤ b * c := Int.mul_le_mul_of_nonneg_right h hc
/-- a rate, and a distance that is looked at -/
def rateB (r : Int) : Bool := decide (0 ≤ r ∧ r ≤ 100000)
theorem rate_yes {r : Int} (h : rateB r = true) : 0 ≤ r ∧ r ≤ 100000 := of_decide_eq_true h
theorem rate_no {r : Int} (h : rateB r = false) : ¬ (0 ≤ r ∧ r ≤ 100000) := of_decide_eq_false h
def lowI (x r : Int) : Int := if 0 < x then max 1 (ratM ((x - 1) * 1000000) (1000000 + r) true) else -(ratM ((1 - x) * 1000000) (1000000 - r) false)
def lowE (x r : Int) : Int := if -4611686018427387904 ≤ x ∧ x ≤ 4611686018427387904 ∧ 0 ≤ r ∧ r ≤ 100000 then 0 else 11
def lowV (x r : Int) : Int := if lowE x r = 0 then lowI x r else 0
def highI (x r : Int) : Int := -(lowI (-x) r)
def highV (x r : Int) : Int := if lowE x r = 0 then highI x r else 0
def slackI (a r : Int) : Int := ratM (a * r) (1000000 - r) true
def slackE (a r : Int) : Int := if 0 ≤ a ∧ a ≤ 4611686018427387904 ∧ 0 ≤ r ∧ r ≤ 100000 then 0 else 11
def slackV (a r : Int) : Int := if slackE a r = 0 then slackI a r else 0
theorem lowE_neg (x r : Int) : lowE (-x) r = lowE x r := by unfold lowE; split <;> split <;> first | rfl | omega
theorem lowE_cases (x r : Int) : (lowE x r = 0 ∧ (-4611686018427387904 ≤ x ∧ x ≤ 4611686018427387904 ∧ 0 ≤ r ∧ r ≤ 100000)) ∨ (lowE x r = 11 ∧ ¬ (-4611686018427387904 ≤ x ∧ x ≤ 4611686018427387904 ∧ 0 ≤ r ∧ r ≤ 100000)) := by
  unfold lowE
  split
  · exact .inl ⟨rfl, by assumption⟩
  · exact .inr ⟨rfl, by assumption⟩
/-- the lower bound of a distance above 0: q -/
theorem low_pos {x r : Int} (h : 0 < x) (h1 : 0 ≤ r) : ∃ q, lowI x r = max 1 q ∧ (x - 1) * 1000000 ≤ q * (1000000 + r) ∧ q * (1000000 + r) < (x - 1) * 1000000 + (1000000 + r) := by
  refine ⟨ratM ((x - 1) * 1000000) (1000000 + r) true, if_pos h, ?_⟩
  exact up_spec (by omega)
theorem low_neg {x r : Int} (h : ¬ 0 < x) (h1 : r ≤ 100000) : ∃ q, lowI x r = -q ∧ q * (1000000 - r) ≤ (1 - x) * 1000000 ∧ (1 - x) * 1000000 < q * (1000000 - r) + (1000000 - r) := by
  refine ⟨ratM ((1 - x) * 1000000) (1000000 - r) false, if_neg h, ?_⟩
  exact down_spec (by omega)
theorem le_of_mul {a b c : Int} (hc : 0 < c) (h : a * c < b * c + c) : a ≤ b := by
  rw [show b * c + c = (b + 1) * c by rw [Int.add_mul, Int.one_mul]] at h
  have := Int.lt_of_mul_lt_mul_right h (by omega)
  omega
theorem lt_of_mul {a b c : Int} (hc : 0 < c) (h : a * c < b * c) : a < b := Int.lt_of_mul_lt_mul_right h (by omega)
/-- the lower bound rises -/
theorem low_mono {x y r : Int} (h : x ≤ y) (h1 : 0 ≤ r) (h2 : r ≤ 100000) : lowI x r ≤ lowI y r := by
  by_cases hx : 0 < x
  · obtain ⟨q, e, a1, a2⟩ := low_pos hx h1
    obtain ⟨s, f, b1, b2⟩ := low_pos (x := y) (r := r) (by omega) h1
    have := le_of_mul (a := q) (b := s) (c := 1000000 + r) (by omega) (by omega)
    rw [e, f]; omega
  · obtain ⟨q, e, a1, a2⟩ := low_neg hx h2
    have hq : 0 ≤ q := by
      have := lt_of_mul (a := 0) (b := q + 1) (c := 1000000 - r) (by omega) (by rw [Int.add_mul, Int.one_mul]; omega)
      omega
    by_cases hy : 0 < y
    · obtain ⟨s, f, b1, b2⟩ := low_pos hy h1
      rw [e, f]; omega
    · obtain ⟨s, f, b1, b2⟩ := low_neg hy h2
      have := le_of_mul (a := s) (b := q) (c := 1000000 - r) (by omega) (by omega)
      rw [e, f]; omega
theorem high_mono {x y r : Int} (h : x ≤ y) (h1 : 0 ≤ r) (h2 : r ≤ 100000) : highI x r ≤ highI y r := by
  unfold highI
  have := low_mono (show -y ≤ -x by omega) h1 h2
  omega
/-- near the distance -/
theorem low_near {x r : Int} (h1 : 0 ≤ r) (h2 : r ≤ 100000) : lowI x r ≤ x + 1 ∧ ∀ s, (if x < 0 then -x else x) * r ≤ s * (1000000 - r) → x - lowI x r ≤ s + 2 := by
  by_cases hx : 0 < x
  · obtain ⟨q, e, a1, a2⟩ := low_pos hx h1
    rw [e, if_neg (by omega)]
    have hxr : 0 ≤ (x - 1) * r := Int.mul_nonneg (by omega) h1
    refine ⟨?_, fun s hs => ?_⟩
    · have : q ≤ x := by
        refine le_of_mul (c := 1000000 + r) (by omega) ?_
        rw [Int.mul_add x]
        rw [Int.sub_mul] at hxr a2
        omega
      omega
    · have hs0 : 0 ≤ s := by
        have := lt_of_mul (a := 0) (b := s + 1) (c := 1000000 - r) (by omega) (by rw [Int.add_mul, Int.one_mul]; rw [Int.sub_mul] at hxr; omega)
        omega
      have hsr : 0 ≤ s * r := Int.mul_nonneg hs0 h1
      have : x - s - 2 ≤ q := by
        refine le_of_mul (c := 1000000 + r) (by omega) ?_
        rw [Int.mul_sub] at hs
        rw [Int.sub_mul, Int.sub_mul, Int.mul_add x, Int.mul_add s]
        omega
      omega
  · obtain ⟨q, e, a1, a2⟩ := low_neg hx h2
    rw [e]
    have hxr : 0 ≤ (1 - x) * r := Int.mul_nonneg (by omega) h1
    refine ⟨?_, fun s hs => ?_⟩
    · have : -x - 1 ≤ q := by
        refine le_of_mul (c := 1000000 - r) (by omega) ?_
        rw [Int.sub_mul, Int.mul_sub, Int.neg_mul, Int.neg_mul]
        rw [Int.sub_mul] at hxr a2
        omega
      omega
    · have hs2 : (-x) * r ≤ s * (1000000 - r) := by
        by_cases h0 : x < 0
        · rwa [if_pos h0] at hs
        · rw [if_neg h0] at hs
          have : x = 0 := by omega
          subst this
          simpa using hs
      have : q ≤ s + 2 - x := by
        refine le_of_mul (c := 1000000 - r) (by omega) ?_
        rw [Int.mul_sub, Int.neg_mul] at hs2
        rw [Int.mul_sub] at a1
        rw [Int.sub_mul, Int.add_mul, Int.mul_sub s, Int.mul_sub x, Int.mul_sub q]
        omega
      omega
theorem low_high {x r : Int} (h1 : 0 ≤ r) (h2 : r ≤ 100000) : lowI x r ≤ highI x r := by
  unfold highI
  have nn : ∀ y, ¬ 0 < y → lowI y r ≤ 0 := fun y hy => by
    obtain ⟨q, e, a1, a2⟩ := low_neg hy h2
    have := lt_of_mul (a := 0) (b := q + 1) (c := 1000000 - r) (by omega) (by rw [Int.add_mul, Int.one_mul]; omega)
    omega
  have key : ∀ y, 0 < y → lowI y r ≤ -(lowI (-y) r) := fun y hy => by
    obtain ⟨q, e, a1, a2⟩ := low_pos hy h1
    obtain ⟨s, f, b1, b2⟩ := low_neg (x := -y) (r := r) (by omega) h2
    rw [e, f]
    have hyr : 0 ≤ y * r := Int.mul_nonneg (by omega) h1
    have hq : q ≤ y := by
      refine le_of_mul (c := 1000000 + r) (by omega) ?_
      rw [Int.mul_add y]
      omega
    have hs : y + 1 ≤ s := by
      have : y + 1 ≤ s := by
        refine le_of_mul (c := 1000000 - r) (by omega) ?_
        rw [Int.add_mul, Int.mul_sub y, Int.one_mul]
        omega
      exact this
    omega
  by_cases hx : 0 < x
  · exact key x hx
  · by_cases h0 : x = 0
    · subst h0
      have := nn 0 (by omega)
      simpa using by omega
    · have := key (-x) (by omega)
      rw [Int.neg_neg] at this
      omega
end Go.Proofs.Ytflplliiamodhaa
