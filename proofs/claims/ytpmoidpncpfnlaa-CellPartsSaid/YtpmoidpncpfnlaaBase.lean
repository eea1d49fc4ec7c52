/- Words and laws that every seat's texts share; nothing of any program. -/
import Derived.Test.YtpmoidpncpfnlaaRows
import Derived.WalkKit
import Derived.WalkLawsBesides
import Derived.WalkSpells
import Derived.Lib.Hide
import Derived.Deep.QuietTactic
import Derived.BigQuiet
import Derived.Deep.RegionWith
import Derived.Deep.RegionHeld3
import Derived.Deep.RegionLaw
import Derived.Laws.AppendOwnNone
import Derived.Handy
import Derived.OpenShut
namespace Go.Proofs.Ytpmoidpncpfnlaa
open Go.RowKit
set_option linter.unusedVariables false

theorem ret2 {k l : IntKind} {a b c d : Int} (h : a = b) (h' : c = d) : Ending.returned (.tuple #[.int k a, .int l c]) = Ending.returned (.tuple #[.int k b, .int l d]) := by rw [h, h']

theorem ret_int {k : IntKind} {a b : Int} (h : a = b) : Ending.returned (.int k a) = .returned (.int k b) := by rw [h]

def sg (n : Int) (neg : Bool) : Int := if neg then -n else n

def InI (x : Int) : Prop := -9223372036854775808 ≤ x ∧ x ≤ 9223372036854775807

instance (x : Int) : Decidable (InI x) := by unfold InI; exact inferInstance

def vI (x : Int) : Int := if InI x then x else 0

def eI (x : Int) : Int := if InI x then 0 else 12

theorem vI_in {x : Int} (h : InI x) : vI x = x := if_pos h

theorem eI_in {x : Int} (h : InI x) : eI x = 0 := if_pos h

theorem vI_out {x : Int} (h : ¬ InI x) : vI x = 0 := if_neg h

theorem eI_out {x : Int} (h : ¬ InI x) : eI x = 12 := if_neg h

theorem ret_bool {a b : Bool} (h : a = b) : Ending.returned (.bool a) = .returned (.bool b) := by rw [h]

theorem grown_drewN {a w : World} (h : Grown a w) (n : Nat) : Grown a (w.drewN n) := h

theorem below_drewN {B : Nat} {a w : World} (h : Below B a w) (n : Nat) : Below B a (w.drewN n) := ⟨h.os, h.tape, h.output, h.size, h.block⟩

theorem grown_trans {a b c : World} (h : Grown a b) (k : Grown b c) : Grown a c :=
  ⟨World.keptBut_trans h.1 k.1, fun x => (k.2.1 x).trans (h.2.1 x), Nat.le_trans h.2.2 k.2.2⟩

theorem tup_of {k l : IntKind} {a b c d : Int} {e : Ending} (he : e = .returned (.tuple #[.int k a, .int l b])) (h : a = c) (h' : b = d) : e = .returned (.tuple #[.int k c, .int l d]) := by rw [he, h, h']

theorem bd {a : Int} (h : (Lit.int .i64 a).wf = true) : InI a := by simp [Lit.wf, IntKind.min, IntKind.max, IntKind.signed, IntKind.bits] at h; exact h

/-- the integers of a list lie one beside another behind an address -/
def IntRow (w : World) (a : Option Addr) (k : IntKind) (l : List Int) : Prop := ∀ j, j < l.length → ∃ b off, a = some ⟨b, off, none⟩ ∧ w.cell? ⟨b, off + j, none⟩ = some (.int k (l.getD j 0))

def isum (l : List Int) : Int := l.foldl (· + ·) 0

theorem isum_snoc (l : List Int) (k : Nat) (hk : k < l.length) : isum (l.take (k + 1)) = isum (l.take k) + l.getD k 0 := by
  unfold isum
  rw [List.take_add_one, List.foldl_append]
  simp [List.getD, List.getElem?_eq_getElem hk]

theorem getD_of_all {P : Int → Prop} (l : List Int) (h : ∀ x ∈ l, P x) (k : Nat) (hk : k < l.length) : P (l.getD k 0) := by
  rw [List.getD_eq_getElem?_getD, List.getElem?_eq_getElem hk]
  exact h _ (List.getElem_mem hk)

theorem isum_bound (l : List Int) (h : ∀ x ∈ l, InI x) (k : Nat) (hk : k ≤ l.length) : -((k : Int) * 9223372036854775808) ≤ isum (l.take k) ∧ isum (l.take k) ≤ (k : Int) * 9223372036854775808 := by
  induction k with
  | zero => simp [isum]
  | succ k ih =>
    have := ih (by omega)
    have hv := getD_of_all l h k (by omega)
    unfold InI at hv
    rw [isum_snoc l k (by omega)]
    omega

theorem getD_past (d : List Int) (j : Nat) (h : d.length ≤ j) : d.getD j 0 = 0 := by
  rw [List.getD_eq_getElem?_getD, List.getElem?_eq_none h]; rfl

theorem getD_snoc (d : List Int) (x : Int) (j : Nat) : (d ++ [x]).getD j 0 = if j = d.length then x else d.getD j 0 := by
  simp only [List.getD_eq_getElem?_getD]
  by_cases h : j < d.length
  · rw [List.getElem?_append_left h, if_neg (by omega)]
  · rw [List.getElem?_append_right (by omega)]
    by_cases e : j = d.length
    · rw [if_pos e, e]; simp
    · rw [if_neg e, List.getElem?_eq_none (by simp; omega), List.getElem?_eq_none (by omega)]

theorem getD_take (d : List Int) (n j : Nat) : (d.take n).getD j 0 = if j < n then d.getD j 0 else 0 := by
  simp only [List.getD_eq_getElem?_getD, List.getElem?_take]
  split <;> simp

theorem IntRow.below {w w' : World} {a : Option Addr} {k : IntKind} {d : List Int} (h : IntRow w a k d) (hb : Below w.heap.size w w') : IntRow w' a k d := fun j hj => by
  obtain ⟨b, off, e, hc⟩ := h j hj
  exact ⟨b, off, e, (hb.cell (World.block_lt_of_cell? w _ hc)).trans hc⟩

theorem IntRow.take {w : World} {a : Option Addr} {k : IntKind} {d : List Int} (h : IntRow w a k d) (n : Nat) : IntRow w a k (d.take n) := fun j hj => by
  rw [List.length_take] at hj
  obtain ⟨b, off, e, hc⟩ := h j (by omega)
  refine ⟨b, off, e, hc.trans ?_⟩
  rw [getD_take, if_pos (by omega)]

theorem IntRow.alloc {w : World} {a : Option Addr} {k : IntKind} {d : List Int} (h : IntRow w a k d) (o : Obj) : IntRow (w.alloc o) a k d :=
  h.below ((Below.refl _ _).alloc (Nat.le_refl _) o)

/-- one element is appended to a slice that the call itself made: the slice has one more; nothing that was ahead of the call has turned -/
theorem wpList_append1 {P : Program} {ops : Array Oper} {rest : List Oper} {o : Oper} {a : Act} {Q : Exit → Act → World → Prop} (hgd : o.guard = none) (s x : Operand) (t : TypeId)
    (ho : o.op = .call { callee := .builtin .append, args := #[s, x], argTypes := #[t, t] })
    (w0 : World) (e : TypeId) (i : TypeInfo) (z : Value) (bytes : Nat) (ht : P.underlying t = some (.slice e)) (hi : P.info? e = some i) (hz : i.zero = some z)
    (hsize : i.size = 1) (hby : i.bytes = bytes) (hzs : z.cells.size = 1)
    (wr : World) (v : Value) (n : Nat) (xs : List Value) (hs : a.eval s = v) (hown : wr.ownsRow w0.heap.size e 1 v n xs)
    (u : Value) (hu : u.oneCell' = true) (hx : a.eval x = .slice (some ⟨wr.heap.size, 0, none⟩) 1 1)
    (h63 : n + 1 ≤ maxLen) (hbytes : (n + 1) * bytes ≤ 140737488355328) (hb : Below w0.heap.size w0 wr)
    (h : ∀ v' w', w'.ownsRow w0.heap.size e 1 v' (n + 1) (xs ++ [u]) → Below w0.heap.size w0 w' → wpList P ops Q rest (a.put o.dst v') w') :
    wpList P ops Q (o :: rest) a (wr.alloc (.cells #[u] e)) := by
  refine wpList_append_own _ hgd s x t ho w0.heap.size e i z 1 bytes ht hi hz hsize hby hzs (by decide) v n xs hs (hown.alloc _) ⟨wr.heap.size, 0, none⟩ 1 1 [u] hx rfl ?_ ?_ h63 hbytes (by have := hb.size; simp; omega) ?_
  · intro j y hj
    match j, hj with
    | 0, hj => simp at hj; subst hj; simp [Addr.add]
  · intro y hy; simp at hy; subst hy; exact hu
  · intro v' w' hown' hgrow _
    exact h v' w' hown' ((hb.alloc hb.size _).grown hgrow (by have := hb.size; simp; omega) (fun k hk => (hown.lt k hk).1))

theorem IntRow.own {w : World} {base e n : Nat} {v : Value} {d : List Int} (h : w.ownsRow base e 1 v n (d.map (Value.int .i64))) : ∃ a cap, v = .slice a n cap ∧ d.length = n ∧ n ≤ cap ∧ cap ≤ 9223372036854775807 ∧ (a = none → cap = 0) ∧ IntRow w a .i64 d := by
  have hl : d.length = n := by have := h.1; simpa using this
  rcases h.2 with ⟨rfl, h0⟩ | ⟨g, cap, cur, rfl, hb, hh, h1, h2, h3, h4⟩
  · exact ⟨none, 0, by rw [h0], hl, by omega, by omega, fun _ => rfl, fun j hj => by omega⟩
  · refine ⟨_, cap, rfl, hl, h1, h2, fun e => by simp at e, fun j hj => ⟨g, 0, rfl, ?_⟩⟩
    rw [Nat.zero_add, h.cellAt j (by omega)]
    simp [List.getD_eq_getElem?_getD, List.getElem?_eq_getElem hj]

theorem box2 {w w2 : World} {x y : Value} {T : TypeId} (hb : Below (w.alloc (.cells #[x, y] T)).heap.size (w.alloc (.cells #[x, y] T)) w2) :
    w2.cell? ⟨w.heap.size, 0, none⟩ = some x ∧ w2.cell? ⟨w.heap.size, 1, none⟩ = some y ∧ w2.frozen? ⟨w.heap.size, 0, none⟩ = false ∧ w2.frozen? ⟨w.heap.size, 1, none⟩ = false ∧ w.heap.size + 1 ≤ w2.heap.size := by
  refine ⟨?_, ?_, ?_, ?_, by have := hb.size; simp at this; omega⟩
  · rw [hb.cell (p := ⟨w.heap.size, 0, none⟩) (by simp), World.cell?_alloc_at _ _ _ _ rfl]; rfl
  · rw [hb.cell (p := ⟨w.heap.size, 1, none⟩) (by simp), World.cell?_alloc_at _ _ _ _ rfl]; rfl
  · rw [hb.frozen (p := ⟨w.heap.size, 0, none⟩) (by simp)]; exact World.frozen?_alloc_at _ _ _ _ (by simp)
  · rw [hb.frozen (p := ⟨w.heap.size, 1, none⟩) (by simp)]; exact World.frozen?_alloc_at _ _ _ _ (by simp)

theorem IntRow.setCell {w : World} {a : Option Addr} {k : IntKind} {d : List Int} (h : IntRow w a k d) {p : Addr} {u : Value} (hp : w.cell? p = some u) (hu : ∀ z, u ≠ .int k z) (x : Value) : IntRow (w.setCell p x) a k d := fun j hj => by
  obtain ⟨b, off, e, hc⟩ := h j hj
  refine ⟨b, off, e, (World.cell?_setCell_other _ _ _ _ ?_).trans hc⟩
  intro e2
  rw [← e2, hp] at hc
  exact hu _ (Option.some.inj hc)

theorem box2_stored {w : World} {b : Nat} {x y : Value} (b1 : w.cell? ⟨b, 0, none⟩ = some x) (b2 : w.cell? ⟨b, 1, none⟩ = some y) (p q : Value) :
    (w.setCell ⟨b, 0, none⟩ p).cell? ⟨b, 0, none⟩ = some p ∧ ((w.setCell ⟨b, 0, none⟩ p).setCell ⟨b, 1, none⟩ q).cell? ⟨b, 1, none⟩ = some q :=
  ⟨World.cell?_setCell_same _ _ _ b1, World.cell?_setCell_same _ _ _ ((World.cell?_setCell_other _ _ _ _ (by simp)).trans b2)⟩

theorem Below.unalloc {w w2 : World} {o : Obj} (hb : Below (w.alloc o).heap.size (w.alloc o) w2) : Below w.heap.size w w2 :=
  ((Below.refl _ _).alloc (Nat.le_refl _) o).trans (hb.mono (by simp))

theorem set2_far {w : World} {p : Addr} {v x y : Value} {b : Nat} (h : w.cell? p = some v) (hb : p.block ≠ b) : ((w.setCell ⟨b, 0, none⟩ x).setCell ⟨b, 1, none⟩ y).cell? p = some v :=
  (World.cell?_setCell_other _ _ _ _ (fun e => hb (by rw [← e]))).trans ((World.cell?_setCell_other _ _ _ _ (fun e => hb (by rw [← e]))).trans h)

/-- a list of integers that lies in memory is appended to a slice that the call itself made -/
theorem wp_appendInts {P : Program} {o : Oper} {a : Act} {w : World} {K : Act → World → Prop} {Q : Exit → Act → World → Prop} (s x : Operand) (t : TypeId)
    (ho : o.op = .call { callee := .builtin .append, args := #[s, x], argTypes := #[t, t] })
    (w0 : World) (e : TypeId) (i : TypeInfo) (z : Value) (bytes : Nat) (ht : P.underlying t = some (.slice e)) (hi : P.info? e = some i) (hz : i.zero = some z)
    (hsize : i.size = 1) (hby : i.bytes = bytes) (hzs : z.cells.size = 1)
    (v : Value) (n : Nat) (xs : List Value) (hs : a.eval s = v) (hown : w.ownsRow w0.heap.size e 1 v n xs)
    (k : IntKind) (A : Option Addr) (c : Nat) (l : List Int) (hx : a.eval x = .slice A l.length c) (hA : A = none → c = 0) (hr : IntRow w A k l)
    (h63 : n + l.length ≤ maxLen) (hbytes : (n + l.length) * bytes ≤ 140737488355328) (hb : Below w0.heap.size w0 w)
    (h : ∀ v' w', w'.ownsRow w0.heap.size e 1 v' (n + l.length) (xs ++ l.map (Value.int k)) → Below w0.heap.size w0 w' → K (a.put o.dst v') w') : o.wp P a w K Q := by
  rcases A with _ | ad
  · have hl : l = [] := by
      cases l with
      | nil => rfl
      | cons y ys => obtain ⟨_, _, e1, _⟩ := hr 0 (by simp); cases e1
    subst hl
    have hrun := run_append_owned_none (P := P) (w := w) w0.heap.size t o.type e i 1 ht hi v n xs hown
    have hx' : a.eval x = .slice none 0 0 := by rw [hx, hA rfl]; rfl
    have h1 := h v w (by simpa using hown) hb
    unfold Oper.wp
    simp [execOp, ho, resolve, invoke, builtin, hs, hx', hrun, Result.andThen]
    exact h1
  · refine wp_append_own w s x t ho w0.heap.size e i z 1 bytes ht hi hz hsize hby hzs (by decide) v n xs hs hown ad l.length c (l.map (Value.int k)) hx (by simp) ?_ ?_ h63 hbytes hb.size ?_
    · intro j u hj
      rw [List.getElem?_map] at hj
      obtain ⟨y, hy, rfl⟩ := Option.map_eq_some_iff.1 hj
      obtain ⟨hjl, _⟩ := List.getElem?_eq_some_iff.1 hy
      obtain ⟨b, off, e1, hc⟩ := hr j hjl
      obtain rfl := Option.some.inj e1
      rw [List.getD_eq_getElem?_getD, hy] at hc
      have e2 : (⟨b, off, none⟩ : Addr).add j = ⟨b, off + j, none⟩ := by
        unfold Addr.add
        split
        · subst_vars; rfl
        · rfl
      rw [e2]
      exact hc
    · intro u hu
      obtain ⟨y, _, rfl⟩ := List.mem_map.1 hu
      rfl
    · intro v' w' hown' hgrow _
      exact h v' w' hown' (hb.grown hgrow hb.size (fun j hj => (hown.lt j hj).1))

theorem wpList_appendInts {P : Program} {ops : Array Oper} {rest : List Oper} {o : Oper} {a : Act} {w : World} {Q : Exit → Act → World → Prop} (hgd : o.guard = none) (s x : Operand) (t : TypeId)
    (ho : o.op = .call { callee := .builtin .append, args := #[s, x], argTypes := #[t, t] })
    (w0 : World) (e : TypeId) (i : TypeInfo) (z : Value) (bytes : Nat) (ht : P.underlying t = some (.slice e)) (hi : P.info? e = some i) (hz : i.zero = some z)
    (hsize : i.size = 1) (hby : i.bytes = bytes) (hzs : z.cells.size = 1)
    (v : Value) (n : Nat) (xs : List Value) (hs : a.eval s = v) (hown : w.ownsRow w0.heap.size e 1 v n xs)
    (k : IntKind) (A : Option Addr) (c : Nat) (l : List Int) (hx : a.eval x = .slice A l.length c) (hA : A = none → c = 0) (hr : IntRow w A k l)
    (h63 : n + l.length ≤ maxLen) (hbytes : (n + l.length) * bytes ≤ 140737488355328) (hb : Below w0.heap.size w0 w)
    (h : ∀ v' w', w'.ownsRow w0.heap.size e 1 v' (n + l.length) (xs ++ l.map (Value.int k)) → Below w0.heap.size w0 w' → wpList P ops Q rest (a.put o.dst v') w') : wpList P ops Q (o :: rest) a w :=
  wpList_plain hgd fun _ hK => wp_appendInts s x t ho w0 e i z bytes ht hi hz hsize hby hzs v n xs hs hown k A c l hx hA hr h63 hbytes hb fun v' w' h2 h3 => hK _ _ (h v' w' h2 h3)

theorem step_appendInts {P : Program} {ops : Array Oper} {o : Oper} {a : Act} {w : World} {K : Act → World → Prop} {Q : Exit → Act → World → Prop} {E : Prop} (hgd : o.guard = none) (s x : Operand) (t : TypeId)
    (ho : o.op = .call { callee := .builtin .append, args := #[s, x], argTypes := #[t, t] })
    (w0 : World) (e : TypeId) (i : TypeInfo) (z : Value) (bytes : Nat) (ht : P.underlying t = some (.slice e)) (hi : P.info? e = some i) (hz : i.zero = some z)
    (hsize : i.size = 1) (hby : i.bytes = bytes) (hzs : z.cells.size = 1)
    (v : Value) (n : Nat) (xs : List Value) (hs : a.eval s = v) (hown : w.ownsRow w0.heap.size e 1 v n xs)
    (k : IntKind) (A : Option Addr) (m c : Nat) (l : List Int) (hm : l.length = m) (hx : a.eval x = .slice A m c) (hA : A = none → c = 0) (hr : IntRow w A k l)
    (h63 : n + m ≤ maxLen) (hbytes : (n + m) * bytes ≤ 140737488355328) (hb : Below w0.heap.size w0 w)
    (h : ∀ v' w', w'.ownsRow w0.heap.size e 1 v' (n + m) (xs ++ l.map (Value.int k)) → Below w0.heap.size w0 w' → K (a.put o.dst v') w') :
    if Region.wanted o (yielded ops a.tmps) = true then Oper.wp P o a w K Q else E := by
  subst hm
  have hw : Region.wanted o (yielded ops a.tmps) = true := by simp [Region.wanted, hgd]
  rw [if_pos hw]
  exact wp_appendInts s x t ho w0 e i z bytes ht hi hz hsize hby hzs v n xs hs hown k A c l hx hA hr h63 hbytes hb h

theorem eq_of_getD {l m : List Int} (hl : l.length = m.length) (h : ∀ j, j < l.length → l.getD j 0 = m.getD j 0) : l = m := by
  refine List.ext_getElem hl fun j h1 h2 => ?_
  have := h j h1
  simpa [List.getD_eq_getElem?_getD, List.getElem?_eq_getElem h1, List.getElem?_eq_getElem h2] using this

theorem isum_append (l m : List Int) : isum (l ++ m) = isum l + isum m := by
  have h : ∀ (m : List Int) (x : Int), m.foldl (· + ·) x = x + isum m := by
    intro m
    induction m with
    | nil => intro x; simp [isum]
    | cons y ys ih => intro x; unfold isum; rw [List.foldl_cons, List.foldl_cons, ih, ih (0 + y)]; omega
  unfold isum
  rw [List.foldl_append, h]
  rfl

theorem IntRow.drop {w : World} {b off c t : Nat} {k : IntKind} {l : List Int} (h : IntRow w (some ⟨b, off, none⟩) k l) (hc : l.length ≤ c) : IntRow w (if c = t then some ⟨b, off, none⟩ else some ⟨b, off + t, none⟩) k (l.drop t) := fun j hj => by
  rw [List.length_drop] at hj
  rw [if_neg (by omega)]
  obtain ⟨b', off', e, hcell⟩ := h (t + j) (by omega)
  injection e with e
  injection e with e1 e2
  subst e1 e2
  refine ⟨b, off + t, rfl, ?_⟩
  rw [Nat.add_assoc, hcell]
  simp [List.getD_eq_getElem?_getD]

/-- a row of integers, as the shell tells it -/
def RowOf (k : IntKind) (w : World) (a : Option Addr) (len cap : Nat) (zs : List Int) : Prop :=
  (a = none ∧ len = 0 ∧ cap = 0 ∧ zs = []) ∨
  ∃ x, a = some x ∧ len ≤ cap ∧ cap ≤ maxLen ∧ zs.length = cap ∧ (∀ i, i < zs.length → w.cell? (x.add i) = some (.int k (zs.getD i 0))) ∧ ∀ n ∈ zs, (Lit.int k n).wf = true

theorem RowOf.cases {k : IntKind} {w : World} {a : Option Addr} {len cap : Nat} {zs : List Int} (h : RowOf k w a len cap zs) :
    (a = none ∧ len = 0 ∧ cap = 0) ∨ (len = 0 ∧ cap ≤ 9223372036854775807 ∧ ∃ b off sub, a = some ⟨b, off, sub⟩) ∨
    (0 < len ∧ len ≤ cap ∧ cap ≤ 9223372036854775807 ∧ (zs.take len).length = len ∧ (∃ b off, a = some ⟨b, off, none⟩) ∧ IntRow w a k (zs.take len) ∧ ∀ n ∈ zs.take len, (Lit.int k n).wf = true) := by
  rcases h with ⟨h1, h2, h3, _⟩ | ⟨x, rfl, h1, h2, h3, h4, h5⟩
  · exact .inl ⟨h1, h2, h3⟩
  · simp only [maxLen] at h2
    by_cases h0 : len = 0
    · exact .inr (.inl ⟨h0, by omega, x.block, x.off, x.spot, rfl⟩)
    · obtain ⟨b, off, rfl, hc⟩ := ints_at h4 (by omega)
      refine .inr (.inr ⟨by omega, h1, by omega, by rw [List.length_take]; omega, ⟨b, off, rfl⟩, fun j hj => ⟨b, off, rfl, ?_⟩, fun n hn => h5 n (List.mem_of_mem_take hn)⟩)
      rw [List.length_take] at hj
      rw [hc j (by omega), getD_take, if_pos (by omega)]

/-- block g holds just these cells, and each may be written -/
def Kept (w : World) (g : Nat) (cs : Array Value) (t : TypeId) : Prop := w.heap[g]? = some (.cells cs t (0, 0))
theorem Kept.lt {w : World} {g : Nat} {cs : Array Value} {t : TypeId} (h : Kept w g cs t) : g < w.heap.size := by
  refine Nat.lt_of_not_le fun hc => ?_
  unfold Kept at h
  rw [Array.getElem?_eq_none hc] at h
  cases h
theorem Kept.at_ {w : World} {g : Nat} {cs : Array Value} {t : TypeId} (h : Kept w g cs t) (i : Nat) : w.cell? ⟨g, i, none⟩ = cs[i]? ∧ w.frozen? ⟨g, i, none⟩ = false := by
  unfold Kept at h
  exact ⟨by simp [World.cell?, h], by simp [World.frozen?, h]⟩
theorem Kept.new {w : World} {cs : Array Value} {t : TypeId} {g : Nat} (hg : g = w.heap.size) : Kept (w.alloc (.cells cs t)) g cs t := by subst hg; exact heap_alloc_new w _
theorem Kept.below {w w' : World} {g B : Nat} {cs : Array Value} {t : TypeId} (h : Kept w g cs t) (hb : Below B w w') (hg : g < B) : Kept w' g cs t := (hb.block g hg).trans h
theorem Kept.next {w w' : World} {g : Nat} {cs : Array Value} {t : TypeId} (h : Kept w g cs t) (hb : Below w.heap.size w w') : Kept w' g cs t := h.below hb h.lt
theorem Kept.alloc {w : World} {g : Nat} {cs : Array Value} {t : TypeId} (h : Kept w g cs t) (o : Obj) : Kept (w.alloc o) g cs t := h.next ((Below.refl _ _).alloc (Nat.le_refl _) o)
theorem Kept.drewN {w : World} {g : Nat} {cs : Array Value} {t : TypeId} (h : Kept w g cs t) (n : Nat) : Kept (w.drewN n) g cs t := h
theorem Kept.far {w : World} {g : Nat} {cs : Array Value} {t : TypeId} (h : Kept w g cs t) {p : Addr} (hp : g ≠ p.block) (u : Value) : Kept (w.setCell p u) g cs t := (Below.heap_setCell w p u g hp).trans h
theorem Kept.set {w : World} {g : Nat} {cs : Array Value} {t : TypeId} (h : Kept w g cs t) (i : Nat) (u : Value) : Kept (w.setCell ⟨g, i, none⟩ u) g (cs.setIfInBounds i u) t := by
  unfold Kept at h ⊢
  simp [World.setCell, Array.getElem?_modify, h]
theorem Kept.one {w : World} {g : Nat} {x : Value} {t : TypeId} (h : Kept w g #[x] t) : w.cell? ⟨g, 0, none⟩ = some x ∧ w.frozen? ⟨g, 0, none⟩ = false ∧ g < w.heap.size := ⟨(h.at_ 0).1, (h.at_ 0).2, h.lt⟩
theorem Kept.two {w : World} {g : Nat} {x y : Value} {t : TypeId} (h : Kept w g #[x, y] t) : w.cell? ⟨g, 0, none⟩ = some x ∧ w.cell? ⟨g, 1, none⟩ = some y ∧ w.frozen? ⟨g, 0, none⟩ = false ∧ w.frozen? ⟨g, 1, none⟩ = false ∧ g < w.heap.size :=
  ⟨(h.at_ 0).1, (h.at_ 1).1, (h.at_ 0).2, (h.at_ 1).2, h.lt⟩
theorem Kept.three {w : World} {g : Nat} {x y z : Value} {t : TypeId} (h : Kept w g #[x, y, z] t) : w.cell? ⟨g, 0, none⟩ = some x ∧ w.cell? ⟨g, 1, none⟩ = some y ∧ w.cell? ⟨g, 2, none⟩ = some z ∧ w.frozen? ⟨g, 0, none⟩ = false ∧ w.frozen? ⟨g, 1, none⟩ = false ∧ w.frozen? ⟨g, 2, none⟩ = false ∧ g < w.heap.size :=
  ⟨(h.at_ 0).1, (h.at_ 1).1, (h.at_ 2).1, (h.at_ 0).2, (h.at_ 1).2, (h.at_ 2).2, h.lt⟩
theorem Kept.set2 {w : World} {g : Nat} {x y : Value} {t : TypeId} (h : Kept w g #[x, y] t) (p q : Value) : Kept ((w.setCell ⟨g, 0, none⟩ p).setCell ⟨g, 1, none⟩ q) g #[p, q] t := (h.set 0 p).set 1 q
/-- what is read of a struct of two that has just been stored -/
theorem Kept.read2 {w : World} {g : Nat} {x y : Value} {t : TypeId} (h : Kept w g #[x, y] t) (p q : Value) :
    (w.setCell ⟨g, 0, none⟩ p).cell? ⟨g, 0, none⟩ = some p ∧ ((w.setCell ⟨g, 0, none⟩ p).setCell ⟨g, 1, none⟩ q).cell? ⟨g, 1, none⟩ = some q :=
  ⟨((h.set 0 p).at_ 0).1, (((h.set 0 p).set 1 q).at_ 1).1⟩
theorem bset2 {B : Nat} {a w : World} {g : Nat} (h : Below B a w) (hg : B ≤ g) (p q : Value) : Below B a ((w.setCell ⟨g, 0, none⟩ p).setCell ⟨g, 1, none⟩ q) := (h.setCell hg p).setCell hg q
theorem bnext {B : Nat} {a w w' : World} (h : Below B a w) (hB : B ≤ w.heap.size) (hb : Below w.heap.size w w') : Below B a w' := h.trans (hb.mono hB)
theorem bstep {a w w' : World} (h : Below a.heap.size a w) (hb : Below w.heap.size w w') : Below a.heap.size a w' := h.trans (hb.mono h.size)
theorem one_alloc (w : World) (o : Obj) : Below w.heap.size w (w.alloc o) := (Below.refl _ _).alloc (Nat.le_refl _) o
/-- a call that answers a value and has changed nothing that was there -/
def Gives (v : Value) (w : World) (e : Ending) (w' : World) : Prop := e = .returned v ∧ Below w.heap.size w w'
theorem bcell {W w1 : World} (hb : Below W.heap.size W w1) : (∀ b o, b < W.heap.size → w1.cell? ⟨b, o, none⟩ = W.cell? ⟨b, o, none⟩) ∧ (∀ b o, b < W.heap.size → w1.frozen? ⟨b, o, none⟩ = W.frozen? ⟨b, o, none⟩) :=
  ⟨fun b o h => hb.cell (p := ⟨b, o, none⟩) h, fun b o h => hb.frozen (p := ⟨b, o, none⟩) h⟩
theorem gives_int {k : IntKind} {a b : Int} {w w' : World} (h : a = b) (hb : Below w.heap.size w w') : Gives (.int k b) w (.returned (.int k a)) w' := ⟨by rw [h], hb⟩
theorem gives_bool {a b : Bool} {w w' : World} (h : a = b) (hb : Below w.heap.size w w') : Gives (.bool b) w (.returned (.bool a)) w' := ⟨by rw [h], hb⟩
end Go.Proofs.Ytpmoidpncpfnlaa
