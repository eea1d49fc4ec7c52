/- Slices of points that a function owns. -/
import Derived.Test.YtflplliiamodhaaDriftB
import Derived.Laws.OwnMore
import Derived.Deep.RegionHeldLaw
namespace Go.Proofs.Ytflplliiamodhaa
open Go.RowKit
set_option linter.unusedVariables false

def cells2 : List (Int × Int) → List Value
  | [] => []
  | p :: l => .int .i64 p.1 :: .int .i64 p.2 :: cells2 l
theorem cells2_len : ∀ l, (cells2 l).length = l.length * 2
  | [] => rfl
  | p :: l => by simp [cells2, cells2_len l]; omega
theorem cells2_append : ∀ l m, cells2 (l ++ m) = cells2 l ++ cells2 m
  | [], m => rfl
  | p :: l, m => by simp [cells2, cells2_append l m]
theorem cells2_get : ∀ (l : List (Int × Int)) (j : Nat) (u : Value), (cells2 l)[j]? = some u → ∃ i, i < l.length ∧ ((j = i * 2 ∧ u = .int .i64 (l.getD i (0, 0)).1) ∨ (j = i * 2 + 1 ∧ u = .int .i64 (l.getD i (0, 0)).2))
  | [], j, u, h => by simp [cells2] at h
  | p :: l, 0, u, h => ⟨0, by simp, .inl ⟨rfl, by simpa [cells2] using h.symm⟩⟩
  | p :: l, 1, u, h => ⟨0, by simp, .inr ⟨rfl, by simpa [cells2] using h.symm⟩⟩
  | p :: l, j + 2, u, h => by
    obtain ⟨i, hi, h'⟩ := cells2_get l j u (by simpa [cells2] using h)
    refine ⟨i + 1, by simpa using hi, ?_⟩
    rcases h' with ⟨e, eu⟩ | ⟨e, eu⟩
    · exact .inl ⟨by omega, by simpa using eu⟩
    · exact .inr ⟨by omega, by simpa using eu⟩
theorem cells2_at : ∀ (l : List (Int × Int)) (i : Nat), i < l.length → (cells2 l)[i * 2]? = some (.int .i64 (l.getD i (0, 0)).1) ∧ (cells2 l)[i * 2 + 1]? = some (.int .i64 (l.getD i (0, 0)).2)
  | [], i, h => by simp at h
  | p :: l, 0, h => by simp [cells2]
  | p :: l, i + 1, h => by
    have := cells2_at l i (by simpa using h)
    rw [show (i + 1) * 2 = i * 2 + 2 by omega, show i * 2 + 2 + 1 = (i * 2 + 1) + 2 by omega]
    simpa [cells2] using this
theorem wp_appendPairs {P : Program} {o : Oper} {a : Act} {w : World} {K : Act → World → Prop} {Q : Exit → Act → World → Prop} (s x : Operand) (t : TypeId)
    (ho : o.op = .call { callee := .builtin .append, args := #[s, x], argTypes := #[t, t] })
    (w0 : World) (e : TypeId) (i : TypeInfo) (z : Value) (bytes : Nat) (ht : P.underlying t = some (.slice e)) (hi : P.info? e = some i) (hz : i.zero = some z)
    (hsize : i.size = 2) (hby : i.bytes = bytes) (hzs : z.cells.size = 2)
    (v : Value) (n : Nat) (xs : List Value) (hs : a.eval s = v) (hown : w.ownsRow w0.heap.size e 2 v n xs)
    (A : Option Addr) (c : Nat) (l : List (Int × Int)) (hx : a.eval x = .slice A l.length c) (hA : A = none → c = 0) (hr : PairRow w A l)
    (h63 : n + l.length ≤ maxLen) (hbytes : (n + l.length) * bytes ≤ 140737488355328) (hb : Below w0.heap.size w0 w)
    (h : ∀ v' w', w'.ownsRow w0.heap.size e 2 v' (n + l.length) (xs ++ cells2 l) → Below w0.heap.size w0 w' → K (a.put o.dst v') w') : o.wp P a w K Q := by
  rcases A with _ | ad
  · have hl : l = [] := by
      cases l with
      | nil => rfl
      | cons y ys => obtain ⟨_, _, e1, _⟩ := hr 0 (by simp); cases e1
    subst hl
    have hrun := run_append_owned_none (P := P) (w := w) w0.heap.size t o.type e i 2 ht hi v n xs hown
    have hx' : a.eval x = .slice none 0 0 := by rw [hx, hA rfl]; rfl
    have h1 := h v w (by simpa [cells2] using hown) hb
    unfold Oper.wp
    simp [execOp, ho, resolve, invoke, builtin, hs, hx', hrun, Result.andThen]
    exact h1
  · refine wp_append_own w s x t ho w0.heap.size e i z 2 bytes ht hi hz hsize hby hzs (by decide) v n xs hs hown ad l.length c (cells2 l) hx (cells2_len l) ?_ ?_ h63 hbytes hb.size ?_
    · intro j u hj
      obtain ⟨k, hk, h'⟩ := cells2_get l j u hj
      obtain ⟨b, off, e1, c1, c2⟩ := hr k hk
      obtain rfl := Option.some.inj e1
      have e2 : ∀ q, (⟨b, off, none⟩ : Addr).add q = ⟨b, off + q, none⟩ := fun q => by
        unfold Addr.add
        split
        · subst_vars; rfl
        · rfl
      rw [e2]
      rcases h' with ⟨rfl, rfl⟩ | ⟨rfl, rfl⟩
      · exact c1
      · rw [← Nat.add_assoc]; exact c2
    · intro u hu
      obtain ⟨j, hj⟩ := List.getElem?_of_mem hu
      obtain ⟨k, hk, h'⟩ := cells2_get l j u hj
      rcases h' with ⟨_, rfl⟩ | ⟨_, rfl⟩ <;> rfl
    · intro v' w' hown' hgrow _
      exact h v' w' hown' (hb.grown hgrow hb.size (fun j hj => (hown.lt j hj).1))
theorem wpList_appendPairs {P : Program} {ops : Array Oper} {rest : List Oper} {o : Oper} {a : Act} {w : World} {Q : Exit → Act → World → Prop} (hgd : o.guard = none) (s x : Operand) (t : TypeId)
    (ho : o.op = .call { callee := .builtin .append, args := #[s, x], argTypes := #[t, t] })
    (w0 : World) (e : TypeId) (i : TypeInfo) (z : Value) (bytes : Nat) (ht : P.underlying t = some (.slice e)) (hi : P.info? e = some i) (hz : i.zero = some z)
    (hsize : i.size = 2) (hby : i.bytes = bytes) (hzs : z.cells.size = 2)
    (v : Value) (n : Nat) (xs : List Value) (hs : a.eval s = v) (hown : w.ownsRow w0.heap.size e 2 v n xs)
    (A : Option Addr) (c : Nat) (l : List (Int × Int)) (hx : a.eval x = .slice A l.length c) (hA : A = none → c = 0) (hr : PairRow w A l)
    (h63 : n + l.length ≤ maxLen) (hbytes : (n + l.length) * bytes ≤ 140737488355328) (hb : Below w0.heap.size w0 w)
    (h : ∀ v' w', w'.ownsRow w0.heap.size e 2 v' (n + l.length) (xs ++ cells2 l) → Below w0.heap.size w0 w' → wpList P ops Q rest (a.put o.dst v') w') : wpList P ops Q (o :: rest) a w :=
  wpList_plain hgd fun _ hK => wp_appendPairs s x t ho w0 e i z bytes ht hi hz hsize hby hzs v n xs hs hown A c l hx hA hr h63 hbytes hb fun v' w' h2 h3 => hK _ _ (h v' w' h2 h3)
theorem PairRow.own {w : World} {base e n : Nat} {v : Value} {d : List (Int × Int)} (h : w.ownsRow base e 2 v n (cells2 d)) : ∃ a cap, v = .slice a n cap ∧ d.length = n ∧ n ≤ cap ∧ cap ≤ 9223372036854775807 ∧ (a = none → cap = 0) ∧ PairRow w a d := by
  have hl : d.length = n := by have := h.1; rw [cells2_len] at this; omega
  rcases h.2 with ⟨rfl, h0⟩ | ⟨g, cap, cur, rfl, hb, hh, h1, h2, h3, h4⟩
  · exact ⟨none, 0, by rw [h0], hl, by omega, by omega, fun _ => rfl, fun j hj => by omega⟩
  · refine ⟨_, cap, rfl, hl, h1, h2, fun e => by simp at e, fun j hj => ⟨g, 0, rfl, ?_, ?_⟩⟩
    · rw [Nat.zero_add, h.cellAt (j * 2) (by omega)]; exact (cells2_at d j hj).1
    · rw [Nat.zero_add, h.cellAt (j * 2 + 1) (by omega)]; exact (cells2_at d j hj).2
theorem owns_below {w w' : World} {base e size n : Nat} {v : Value} {xs : List Value} (h : w.ownsRow base e size v n xs) (hb : Below w.heap.size w w') : w'.ownsRow base e size v n xs := by
  obtain ⟨h1, h2⟩ := h
  refine ⟨h1, ?_⟩
  rcases h2 with h2 | ⟨g, cap, cur, e1, e2, e3, e4⟩
  · exact .inl h2
  · exact .inr ⟨g, cap, cur, e1, e2, (hb.block g (Array.getElem?_eq_some_iff.1 e3).1).trans e3, e4⟩
theorem info_parts2 {P : Program} {t : TypeId} {z : Value} {s b : Nat} (h : (P.info? t).map (fun i => (i.zero, i.size, i.bytes)) = some (some z, s, b)) : ∃ i, P.info? t = some i ∧ i.zero = some z ∧ i.size = s ∧ i.bytes = b := by
  obtain ⟨i, h1, h2⟩ := Option.map_eq_some_iff.1 h
  simp only [Prod.mk.injEq] at h2
  exact ⟨i, h1, h2.1, h2.2.1, h2.2.2⟩
theorem take_pair (l : List (Int × Int)) (k : Nat) (hk : k < l.length) : l.take (k + 1) = l.take k ++ [l.getD k (0, 0)] := by
  rw [List.take_add_one]
  simp [List.getD, List.getElem?_eq_getElem hk]
theorem pair_one {w : World} {g : Nat} {p q : Int} {T : TypeId} (h : Kept w g #[.int .i64 p, .int .i64 q] T) : PairRow w (some ⟨g, 0, none⟩) [(p, q)] := fun j hj => by
  simp only [List.length_cons, List.length_nil] at hj
  obtain rfl : j = 0 := by omega
  exact ⟨g, 0, rfl, (h.at_ 0).1, (h.at_ 1).1⟩
theorem step_appendPairs {P : Program} {ops : Array Oper} {o : Oper} {a : Act} {w : World} {K : Act → World → Prop} {Q : Exit → Act → World → Prop} {E : Prop} (hgd : o.guard = none) (s x : Operand) (t : TypeId)
    (ho : o.op = .call { callee := .builtin .append, args := #[s, x], argTypes := #[t, t] })
    (w0 : World) (e : TypeId) (i : TypeInfo) (z : Value) (bytes : Nat) (ht : P.underlying t = some (.slice e)) (hi : P.info? e = some i) (hz : i.zero = some z)
    (hsize : i.size = 2) (hby : i.bytes = bytes) (hzs : z.cells.size = 2)
    (v : Value) (n : Nat) (xs : List Value) (hs : a.eval s = v) (hown : w.ownsRow w0.heap.size e 2 v n xs)
    (A : Option Addr) (m c : Nat) (l : List (Int × Int)) (hm : l.length = m) (hx : a.eval x = .slice A m c) (hA : A = none → c = 0) (hr : PairRow w A l)
    (h63 : n + m ≤ maxLen) (hbytes : (n + m) * bytes ≤ 140737488355328) (hb : Below w0.heap.size w0 w)
    (h : ∀ v' w', w'.ownsRow w0.heap.size e 2 v' (n + m) (xs ++ cells2 l) → Below w0.heap.size w0 w' → K (a.put o.dst v') w') :
    if Region.wanted o (yielded ops a.tmps) = true then Oper.wp P o a w K Q else E := by
  subst hm
  have hw : Region.wanted o (yielded ops a.tmps) = true := by simp [Region.wanted, hgd]
  rw [if_pos hw]
  exact wp_appendPairs s x t ho w0 e i z bytes ht hi hz hsize hby hzs v n xs hs hown A c l hx hA hr h63 hbytes hb h
theorem PairRow.take {w : World} {a : Option Addr} {l : List (Int × Int)} (h : PairRow w a l) (n : Nat) : PairRow w a (l.take n) := fun j hj => by
  rw [List.length_take] at hj
  obtain ⟨b, off, e, h1, h2⟩ := h j (by omega)
  have g : (l.take n).getD j (0, 0) = l.getD j (0, 0) := by
    simp only [List.getD_eq_getElem?_getD, List.getElem?_take]
    rw [if_pos (by omega)]
  rw [g]
  exact ⟨b, off, e, h1, h2⟩
theorem PairRow.drop {w : World} {b off : Nat} {l : List (Int × Int)} (h : PairRow w (some ⟨b, off, none⟩) l) (n : Nat) : PairRow w (some ⟨b, off + n * 2, none⟩) (l.drop n) := fun j hj => by
  rw [List.length_drop] at hj
  obtain ⟨b', off', e, h1, h2⟩ := h (n + j) (by omega)
  cases e
  have g : (l.drop n).getD j (0, 0) = l.getD (n + j) (0, 0) := by
    simp only [List.getD_eq_getElem?_getD, List.getElem?_drop]
  rw [g]
  exact ⟨b, off + n * 2, rfl, by rw [show off + n * 2 + j * 2 = off + (n + j) * 2 by omega]; exact h1, by rw [show off + n * 2 + j * 2 + 1 = off + (n + j) * 2 + 1 by omega]; exact h2⟩
end Go.Proofs.Ytflplliiamodhaa
