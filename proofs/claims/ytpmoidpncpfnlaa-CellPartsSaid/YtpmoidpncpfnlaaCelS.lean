/- cell.Bytes: of gen_bytes21.py. -/
import Derived.Test.YtpmoidpncpfnlaaCelQ
import Derived.Test.YtpmoidpncpfnlaaConB
import Derived.Test.YtpmoidpncpfnlaaWideM
import Derived.OwnWalkIn
import Derived.Deep.DeepCutAuto
namespace Go.Proofs.Ytpmoidpncpfnlaa
open Go.RowKit Go.Shelf
set_option linter.unusedVariables false
set_option linter.unusedSimpArgs false
attribute [local go_sem] Oper.semAt_some

/-- the bytes of buckets with their counts -/
def bkB (pre : List (Nat × Int)) : List Int := (pre.map fun p => encs [(p.1 : Int), p.2]).flatten
theorem bkB_snoc (pre : List (Nat × Int)) (x : Nat × Int) : bkB (pre ++ [x]) = bkB pre ++ encs [(x.1 : Int), x.2] := by
  unfold bkB
  rw [List.map_append, List.flatten_append]
  simp
theorem encs2_len (a b : Int) : 2 ≤ (encs [a, b]).length ∧ (encs [a, b]).length ≤ 20 := by
  have h1 := enc_len a.toNat
  have h2 := enc_len b.toNat
  simp [encs]; omega
theorem bkB_len (pre : List (Nat × Int)) : (bkB pre).length ≤ 20 * pre.length := by
  induction pre with
  | nil => exact Nat.le_refl _
  | cons x pre ih =>
    have h : bkB (x :: pre) = encs [(x.1 : Int), x.2] ++ bkB pre := by simp [bkB]
    rw [h, List.length_append, List.length_cons]
    have := encs2_len (x.1 : Int) x.2
    omega
/-- the parts of a cell's bytes -/
def bytesP (c : Ce) : List (List Int) := [encs [c.n, c.ce, c.po], encs ([c.mn, c.mx].map zig), txts [strOfNums (byL c.z)], encs [((fullF c.H 65).length : Int)], bkB (fullF c.H 65)]
theorem wpIn_append_own {F : Fence} {n : Nat} {P : Program} (w : World) {o : Oper} {a : Act} {K : Act → World → Prop} {Q : Exit → Act → World → Prop}
    (s x : Operand) (t : TypeId) (hop : o.op = Op.call { callee := Callee.builtin Builtin.append, args := #[s, x], argTypes := #[t, t] })
    (base : Nat) (e : TypeId) (i : TypeInfo) (z : Value) (size bytes : Nat) (h1 : P.underlying t = some (.slice e)) (h2 : P.info? e = some i) (h3 : i.zero = some z) (h4 : i.size = size) (h5 : i.bytes = bytes) (h6 : z.cells.size = size) (h7 : 0 < size)
    (v : Value) (k : Nat) (xs : List Value) (hs : a.eval s = v) (hown : w.ownsRow base e size v k xs) (ad : Addr) (m c : Nat) (news : List Value) (hx : a.eval x = .slice (some ad) m c) (hn : news.length = m * size)
    (hc : ∀ j u, news[j]? = some u → w.cell? (ad.add j) = some u) (h1c : ∀ u ∈ news, u.oneCell' = true) (b1 : k + m ≤ maxLen) (b2 : (k + m) * bytes ≤ 140737488355328) (b3 : base ≤ w.heap.size)
    (hK : ∀ v' w', w'.ownsRow base e size v' (k + m) (xs ++ news) → w.grownBy w' v.ownBlock → K (a.put o.dst v') w') : o.wpIn F n P a w K Q := by
  obtain ⟨v', w', hrun, r1, r2, r3⟩ := run_append_own (P := P) w base t o.type e i z size bytes h1 h2 h3 h4 h5 h6 h7 v k xs hown ad m c news hn hc h1c b1 b2 b3
  unfold Oper.wpIn
  refine ⟨?_, ?_⟩
  · simp [Oper.about, hop, resolve, Target.leads, Sem.run_pure]
  · rw [Oper.semAt_plain F _ _ (by rw [hop]; intro c hc'; cases hc')]
    simp [execOp, hop, resolve, invoke, builtin, hs, hx, hrun, Result.andThen]
    exact hK v' w' r1 r2
theorem owns_cells {w : World} {base e size n : Nat} {v : Value} {xs : List Value} (h : w.ownsRow base e size v n xs) : ∀ k, v.ownBlock = some k → base ≤ k ∧ ∃ o : Obj, w.heap[k]? = some o ∧ o.isCells = true := fun k hk => by
  rcases h.2 with ⟨rfl, _⟩ | ⟨g, cap, cur, rfl, hb, hh, _⟩
  · cases hk
  · obtain rfl : g = k := by injection hk
    exact ⟨hb, _, hh, rfl⟩
theorem owns_own {W W' : World} {row : Option Nat} {base e size n : Nat} {v : Value} {xs : List Value} (h : W.ownsRow base e size v n xs) (hg : W.grownBy W' row) (hr : ∀ r, row = some r → ∃ o : Obj, W.heap[r]? = some o ∧ o.isCells = false) : W'.ownsRow base e size v n xs := by
  obtain ⟨h1, h2⟩ := h
  refine ⟨h1, ?_⟩
  rcases h2 with h2 | ⟨g, cap, cur, e1, e2, e3, e4⟩
  · exact .inl h2
  · exact .inr ⟨g, cap, cur, e1, e2, (grownBy_keeps_cells hg hr e3 rfl).trans e3, e4⟩
theorem keepsFrom_grown {B : Nat} {W W' : World} {row : Option Nat} (hg : W.grownBy W' row) (hr : ∀ r, row = some r → ∃ o : Obj, W.heap[r]? = some o ∧ o.isCells = true) : KeepsFrom B W W' :=
  ⟨hg.size, fun k o _ hk ho => (hg.block k (Array.getElem?_eq_some_iff.1 hk).1 (fun e => by
    obtain ⟨o', h1, h2⟩ := hr k e.symm
    rw [h1] at hk
    cases hk
    rw [h2] at ho; cases ho)).trans hk⟩
theorem kept_grown {W W' : World} {row : Option Nat} {g base : Nat} {cs : Array Value} {t : TypeId} (h : Kept W g cs t) (hg : W.grownBy W' row) (hr : ∀ r, row = some r → base ≤ r) (hb : g < base) : Kept W' g cs t :=
  (hg.block g h.lt (fun e => by have := hr g e.symm; omega)).trans h
/-- what the loop carries: the cell's box, the count of buckets, the buckets' bytes -/
def ByI (g gn gb base : Nat) (C : Array Value) (pre : List RtT) (W : World) : Prop := Kept W g C 29 ∧ Kept W gn #[.int .i64 (pre.length : Int)] 3 ∧ ∃ v, Kept W gb #[v] 53 ∧ W.ownsRow base 5 1 v (bkB (pre.map (fun x => x.1))).length ((bkB (pre.map (fun x => x.1))).map (Value.int .u8))
theorem byI_own (g gn gb base : Nat) (C : Array Value) : Own (ByI g gn gb base C) := fun s A B row ⟨h1, h2, v, h3, h4⟩ hg hr => ⟨kept_own h1 hg hr, kept_own h2 hg hr, v, kept_own h3 hg hr, owns_own h4 hg hr⟩
theorem parts5 {W : World} {g : Nat} {v1 v2 v3 v4 v5 : Value} {t : TypeId} {l1 l2 l3 l4 l5 : List Int} (h : Kept W g #[v1, v2, v3, v4, v5] t) (h1 : BytesAt W v1 l1) (h2 : BytesAt W v2 l2) (h3 : BytesAt W v3 l3) (h4 : BytesAt W v4 l4) (h5 : BytesAt W v5 l5) : PartsRow W (some ⟨g, 0, none⟩) [l1, l2, l3, l4, l5] := fun j hj => by
  obtain ⟨a1, c1, rfl, p1, -, -, q1⟩ := h1
  obtain ⟨a2, c2, rfl, p2, -, -, q2⟩ := h2
  obtain ⟨a3, c3, rfl, p3, -, -, q3⟩ := h3
  obtain ⟨a4, c4, rfl, p4, -, -, q4⟩ := h4
  obtain ⟨a5, c5, rfl, p5, -, -, q5⟩ := h5
  refine ⟨g, 0, rfl, ?_⟩
  have hj5 : j = 0 ∨ j = 1 ∨ j = 2 ∨ j = 3 ∨ j = 4 := by simp at hj; omega
  rcases hj5 with rfl | rfl | rfl | rfl | rfl
  · exact ⟨a1, c1, (h.at_ 0).1, p1, q1⟩
  · exact ⟨a2, c2, (h.at_ 1).1, p2, q2⟩
  · exact ⟨a3, c3, (h.at_ 2).1, p3, q3⟩
  · exact ⟨a4, c4, (h.at_ 3).1, p4, q4⟩
  · exact ⟨a5, c5, (h.at_ 4).1, p5, q5⟩
theorem rowK {W : World} {g : Nat} {l : List Int} {k : IntKind} {t : TypeId} (h : Kept W g (l.map (Value.int k)).toArray t) : IntRow W (some ⟨g, 0, none⟩) k l := fun j hj => ⟨g, 0, rfl, by
  rw [(h.at_ (0 + j)).1]
  simp [List.getD_eq_getElem?_getD, hj]⟩
def bo0 : Oper := { dst := some 25, op := Op.fieldAddr 29 (Operand.tmp 1) 0, type := 0, pos := "cell.go:109", after := #[], guard := none }
def bo1 : Oper := { dst := some 26, op := Op.load 2 (Operand.tmp 25), type := 2, pos := "cell.go:109", after := #[{ on := 0, ground := Ground.data }], guard := none }
def bo2 : Oper := { dst := some 27, op := Op.convert 2 23 (Operand.tmp 26), type := 23, pos := "cell.go:109", after := #[{ on := 1, ground := Ground.data }], guard := none }
def bo3 : Oper := { dst := some 28, op := Op.fieldAddr 29 (Operand.tmp 1) 4, type := 0, pos := "cell.go:109", after := #[], guard := none }
def bo4 : Oper := { dst := some 29, op := Op.load 2 (Operand.tmp 28), type := 2, pos := "cell.go:109", after := #[{ on := 3, ground := Ground.data }], guard := none }
def bo5 : Oper := { dst := some 30, op := Op.convert 2 23 (Operand.tmp 29), type := 23, pos := "cell.go:109", after := #[{ on := 4, ground := Ground.data }], guard := none }
def bo6 : Oper := { dst := some 31, op := Op.fieldAddr 29 (Operand.tmp 1) 5, type := 0, pos := "cell.go:109", after := #[], guard := none }
def bo7 : Oper := { dst := some 32, op := Op.load 2 (Operand.tmp 31), type := 2, pos := "cell.go:109", after := #[{ on := 6, ground := Ground.data }], guard := none }
def bo8 : Oper := { dst := some 33, op := Op.convert 2 23 (Operand.tmp 32), type := 23, pos := "cell.go:109", after := #[{ on := 7, ground := Ground.data }], guard := none }
def bo9 : Oper := { dst := some 34, op := Op.buildSlice 130 3 #[(0, Operand.tmp 27), (1, Operand.tmp 30), (2, Operand.tmp 33)], type := 130, pos := "cell.go:109", after := #[{ on := 2, ground := Ground.data }, { on := 5, ground := Ground.data }, { on := 8, ground := Ground.data }], guard := none }
def bo10 : Oper := { dst := some 35, op := Op.call { callee := Callee.value (Operand.func 53), args := #[Operand.tmp 34], argTypes := #[130] }, type := 53, pos := "cell.go:110", after := #[{ on := 9, ground := Ground.data }], guard := none }
def bo11 : Oper := { dst := some 36, op := Op.fieldAddr 29 (Operand.tmp 1) 2, type := 0, pos := "cell.go:109", after := #[], guard := none }
def bo12 : Oper := { dst := some 37, op := Op.load 2 (Operand.tmp 36), type := 2, pos := "cell.go:109", after := #[{ on := 11, ground := Ground.data }], guard := none }
def bo13 : Oper := { dst := some 38, op := Op.fieldAddr 29 (Operand.tmp 1) 3, type := 0, pos := "cell.go:109", after := #[], guard := none }
def bo14 : Oper := { dst := some 39, op := Op.load 2 (Operand.tmp 38), type := 2, pos := "cell.go:109", after := #[{ on := 13, ground := Ground.data }], guard := none }
def bo15 : Oper := { dst := some 40, op := Op.buildSlice 22 2 #[(0, Operand.tmp 37), (1, Operand.tmp 39)], type := 22, pos := "cell.go:109", after := #[{ on := 12, ground := Ground.data }, { on := 14, ground := Ground.data }], guard := none }
def bo16 : Oper := { dst := some 41, op := Op.call { callee := Callee.value (Operand.func 55), args := #[Operand.tmp 40], argTypes := #[22] }, type := 53, pos := "cell.go:111", after := #[{ on := 15, ground := Ground.data }, { on := 10, ground := Ground.chain }], guard := none }
def bo17 : Oper := { dst := some 42, op := Op.fieldAddr 29 (Operand.tmp 1) 1, type := 0, pos := "cell.go:109", after := #[], guard := none }
def bo18 : Oper := { dst := some 43, op := Op.load 25 (Operand.tmp 42), type := 25, pos := "cell.go:109", after := #[{ on := 17, ground := Ground.data }], guard := none }
def bo19 : Oper := { dst := some 44, op := Op.call { callee := Callee.value (Operand.func 57), args := #[Operand.tmp 43], argTypes := #[25] }, type := 53, pos := "cell.go:112", after := #[{ on := 18, ground := Ground.data }, { on := 16, ground := Ground.chain }], guard := none }
def bo20 : Oper := { dst := some 45, op := Op.convert 53 9 (Operand.tmp 44), type := 9, pos := "cell.go:109", after := #[{ on := 19, ground := Ground.data }], guard := none }
def bo21 : Oper := { dst := some 46, op := Op.buildSlice 135 1 #[(0, Operand.tmp 45)], type := 135, pos := "cell.go:109", after := #[{ on := 20, ground := Ground.data }], guard := none }
def bo22 : Oper := { dst := some 47, op := Op.call { callee := Callee.value (Operand.func 56), args := #[Operand.tmp 46], argTypes := #[135] }, type := 53, pos := "cell.go:112", after := #[{ on := 21, ground := Ground.data }, { on := 19, ground := Ground.chain }], guard := none }
def bo23 : Oper := { dst := some 48, op := Op.load 3 (Operand.tmp 3), type := 3, pos := "cell.go:109", after := #[], guard := none }
def bo24 : Oper := { dst := some 49, op := Op.convert 3 23 (Operand.tmp 48), type := 23, pos := "cell.go:109", after := #[{ on := 23, ground := Ground.data }], guard := none }
def bo25 : Oper := { dst := some 50, op := Op.buildSlice 130 1 #[(0, Operand.tmp 49)], type := 130, pos := "cell.go:109", after := #[{ on := 24, ground := Ground.data }], guard := none }
def bo26 : Oper := { dst := some 51, op := Op.call { callee := Callee.value (Operand.func 53), args := #[Operand.tmp 50], argTypes := #[130] }, type := 53, pos := "cell.go:113", after := #[{ on := 25, ground := Ground.data }, { on := 22, ground := Ground.chain }], guard := none }
def bo27 : Oper := { dst := some 52, op := Op.load 53 (Operand.tmp 4), type := 53, pos := "cell.go:109", after := #[], guard := none }
def bo28 : Oper := { dst := some 53, op := Op.buildSlice 132 5 #[(0, Operand.tmp 35), (1, Operand.tmp 41), (2, Operand.tmp 47), (3, Operand.tmp 51), (4, Operand.tmp 52)], type := 132, pos := "cell.go:109", after := #[{ on := 10, ground := Ground.data }, { on := 16, ground := Ground.data }, { on := 22, ground := Ground.data }, { on := 26, ground := Ground.data }, { on := 27, ground := Ground.data }], guard := none }
def bo29 : Oper := { dst := some 54, op := Op.call { callee := Callee.value (Operand.func 54), args := #[Operand.tmp 53], argTypes := #[132] }, type := 53, pos := "cell.go:109", after := #[{ on := 28, ground := Ground.data }, { on := 26, ground := Ground.chain }], guard := none }
def bo30 : Oper := { dst := some 2, op := Op.assign (Operand.tmp 54), type := 53, pos := "cell.go:109", after := #[{ on := 29, ground := Ground.data }, { on := 29, ground := Ground.chain }, { on := 0, ground := Ground.phase }, { on := 1, ground := Ground.phase }, { on := 2, ground := Ground.phase }, { on := 3, ground := Ground.phase }, { on := 4, ground := Ground.phase }, { on := 5, ground := Ground.phase }, { on := 6, ground := Ground.phase }, { on := 7, ground := Ground.phase }, { on := 8, ground := Ground.phase }, { on := 9, ground := Ground.phase }, { on := 10, ground := Ground.phase }, { on := 11, ground := Ground.phase }, { on := 12, ground := Ground.phase }, { on := 13, ground := Ground.phase }, { on := 14, ground := Ground.phase }, { on := 15, ground := Ground.phase }, { on := 16, ground := Ground.phase }, { on := 17, ground := Ground.phase }, { on := 18, ground := Ground.phase }, { on := 19, ground := Ground.phase }, { on := 20, ground := Ground.phase }, { on := 21, ground := Ground.phase }, { on := 22, ground := Ground.phase }, { on := 23, ground := Ground.phase }, { on := 24, ground := Ground.phase }, { on := 25, ground := Ground.phase }, { on := 26, ground := Ground.phase }, { on := 27, ground := Ground.phase }, { on := 28, ground := Ground.phase }, { on := 29, ground := Ground.phase }], guard := none }
def ao0 : Oper := { dst := some 17, op := Op.load 53 (Operand.tmp 4), type := 53, pos := "cell.go:107", after := #[], guard := none }
def ao1 : Oper := { dst := some 18, op := Op.move (Operand.tmp 5), type := 3, pos := "cell.go:107", after := #[], guard := none }
def ao2 : Oper := { dst := some 19, op := Op.convert 3 23 (Operand.tmp 18), type := 23, pos := "cell.go:107", after := #[{ on := 1, ground := Ground.data }], guard := none }
def ao3 : Oper := { dst := some 20, op := Op.move (Operand.tmp 6), type := 2, pos := "cell.go:107", after := #[], guard := none }
def ao4 : Oper := { dst := some 21, op := Op.convert 2 23 (Operand.tmp 20), type := 23, pos := "cell.go:107", after := #[{ on := 3, ground := Ground.data }], guard := none }
def ao5 : Oper := { dst := some 22, op := Op.buildSlice 130 2 #[(0, Operand.tmp 19), (1, Operand.tmp 21)], type := 130, pos := "cell.go:107", after := #[{ on := 2, ground := Ground.data }, { on := 4, ground := Ground.data }], guard := none }
def ao6 : Oper := { dst := some 23, op := Op.call { callee := Callee.value (Operand.func 53), args := #[Operand.tmp 22], argTypes := #[130] }, type := 53, pos := "cell.go:107", after := #[{ on := 5, ground := Ground.data }], guard := none }
def ao7 : Oper := { dst := some 24, op := Op.call { callee := Callee.builtin Builtin.append, args := #[Operand.tmp 17, Operand.tmp 23], argTypes := #[53, 53] }, type := 53, pos := "cell.go:107", after := #[{ on := 0, ground := Ground.data }, { on := 6, ground := Ground.data }, { on := 6, ground := Ground.chain }], guard := none }
def ao8 : Oper := { dst := none, op := Op.store 53 (Operand.tmp 4) (Operand.tmp 24), type := 0, pos := "cell.go:107", after := #[{ on := 7, ground := Ground.data }, { on := 7, ground := Ground.chain }, { on := 0, ground := Ground.phase }, { on := 1, ground := Ground.phase }, { on := 2, ground := Ground.phase }, { on := 3, ground := Ground.phase }, { on := 4, ground := Ground.phase }, { on := 5, ground := Ground.phase }, { on := 6, ground := Ground.phase }, { on := 7, ground := Ground.phase }], guard := none }
theorem row_at {w : World} {ad : Addr} {k : IntKind} {l : List Int} (h : IntRow w (some ad) k l) : ∀ j u, (l.map (Value.int k))[j]? = some u → w.cell? (ad.add j) = some u := fun j u hj => by
  rw [List.getElem?_map] at hj
  obtain ⟨y, hy, rfl⟩ := Option.map_eq_some_iff.1 hj
  obtain ⟨hjl, _⟩ := List.getElem?_eq_some_iff.1 hy
  obtain ⟨b, off, e1, hc⟩ := h j hjl
  obtain rfl := Option.some.inj e1
  rw [List.getD_eq_getElem?_getD, hy] at hc
  have e2 : (⟨b, off, none⟩ : Addr).add j = ⟨b, off + j, none⟩ := by
    unfold Addr.add
    split
    · subst_vars; rfl
    · rfl
  rw [e2]
  exact hc
theorem owns_slice {w : World} {base e size n : Nat} {v : Value} {xs : List Value} (h : w.ownsRow base e size v n xs) : ∃ a c, v = .slice a n c := by
  rcases h.2 with ⟨rfl, h0⟩ | ⟨g, cap, cur, rfl, _⟩
  · exact ⟨none, 0, by rw [h0]⟩
  · exact ⟨_, _, rfl⟩
theorem row_some {w : World} {a : Option Addr} {k : IntKind} {l : List Int} (h : IntRow w a k l) (hl : 0 < l.length) : ∃ x, a = some x := by
  obtain ⟨b, off, e, _⟩ := h 0 hl
  exact ⟨_, e⟩
theorem wpIn_append_run {F : Fence} {n : Nat} {P : Program} (w w' : World) {o : Oper} {a : Act} {K : Act → World → Prop} {Q : Exit → Act → World → Prop}
    (s x : Operand) (t : TypeId) (hop : o.op = Op.call { callee := Callee.builtin Builtin.append, args := #[s, x], argTypes := #[t, t] })
    (v u r : Value) (hs : a.eval s = v) (hx : a.eval x = u) (hrun : (Builtin.append_ #[t, t] o.type #[v, u]).run P w = .ok r w') (hK : K (a.put o.dst r) w') : o.wpIn F n P a w K Q := by
  unfold Oper.wpIn
  refine ⟨?_, ?_⟩
  · simp [Oper.about, hop, resolve, Target.leads, Sem.run_pure]
  · rw [Oper.semAt_plain F _ _ (by rw [hop]; intro c hc'; cases hc')]
    simp [execOp, hop, resolve, invoke, builtin, hs, hx, hrun, Result.andThen]
    exact hK
theorem owns_at {W W' : World} {base e size n : Nat} {v : Value} {xs : List Value} (h : W.ownsRow base e size v n xs) (hk : ∀ k, base ≤ k → W'.heap[k]? = W.heap[k]?) : W'.ownsRow base e size v n xs := by
  obtain ⟨h1, h2⟩ := h
  refine ⟨h1, ?_⟩
  rcases h2 with h2 | ⟨g, cap, cur, e1, e2, e3, e4⟩
  · exact .inl h2
  · exact .inr ⟨g, cap, cur, e1, e2, (hk g e2).trans e3, e4⟩
theorem al2 (w : World) (cs : Array Value) (t : TypeId) : Hid (Below w.heap.size w (w.alloc (.cells cs t))) ∧ Hid (Kept (w.alloc (.cells cs t)) w.heap.size cs t) := ⟨Lib.hid (one_alloc _ _), Lib.hid (Kept.new rfl)⟩
theorem tr2 {a b c : World} (h : Hid (Below a.heap.size a b)) (k : Hid (Below b.heap.size b c)) : Hid (Below a.heap.size a c) := Lib.hid (h.out.trans (k.out.mono h.out.size))
theorem qa {α : Type _} (l : List α) (i : Nat) (a : α) : l.toArray.setIfInBounds i a = (l.set i a).toArray := List.setIfInBounds_toArray l i a
theorem qb {α : Type _} (a b : α) (l : List α) : (a :: l).set 0 b = b :: l := rfl
theorem qc {α : Type _} (a b : α) (l : List α) (n : Nat) : (a :: l).set (n + 1) b = a :: l.set n b := rfl
theorem cell_put {W : World} {p : Addr} {u : Value} {G : Nat} {x : Option (List Deferred)} (h : W.cell? p = some u) (hG : W.heap[G]? = some (.deferred x)) (o : Obj) : (W.putObj G o).cell? p = some u := by
  by_cases e : p.block = G
  · rw [World.cell?, e, hG] at h; cases h
  · have h2 : (W.putObj G o).heap[p.block]? = W.heap[p.block]? := (grownBy_putObj' W G o).block p.block (World.block_lt_of_cell? W _ h) (fun q => e (by injection q))
    rw [World.cell?_of_block h2]
    exact h
theorem BytesAt.put {W : World} {v : Value} {l : List Int} {G : Nat} {x : Option (List Deferred)} (h : BytesAt W v l) (hG : W.heap[G]? = some (.deferred x)) (o : Obj) : BytesAt (W.putObj G o) v l := by
  obtain ⟨a, c, h1, h2, h3, h4, h5⟩ := h
  refine ⟨a, c, h1, h2, h3, h4, fun j hj => ?_⟩
  obtain ⟨b, off, e, hc⟩ := h5 j hj
  exact ⟨b, off, e, cell_put hc hG o⟩
def ByP (x : Nat × Int) : Prop := x.1 < 65 ∧ 0 ≤ x.2 ∧ x.2 ≤ 9223372036854775807
abbrev ByT := {x : Nat × Int // ByP x}
/-- what the loop carries: the cell's box, the count of buckets, the buckets' bytes -/
def ByJ (g gn gb base : Nat) (C : Array Value) (pre : List ByT) (W : World) : Prop := Kept W g C 29 ∧ Kept W gn #[.int .i64 (pre.length : Int)] 3 ∧ base ≤ W.heap.size ∧ ∃ v, Kept W gb #[v] 53 ∧ W.ownsRow base 5 1 v (bkB (pre.map (fun x => x.1))).length ((bkB (pre.map (fun x => x.1))).map (Value.int .u8))
theorem byJ_own (g gn gb base : Nat) (C : Array Value) : Own (ByJ g gn gb base C) := fun s A B row ⟨h1, h2, hb, v, h3, h4⟩ hg hr => ⟨kept_own h1 hg hr, kept_own h2 hg hr, Nat.le_trans hb hg.size, v, kept_own h3 hg hr, owns_own h4 hg hr⟩
theorem sz_bytes (s : List Int) (h : s.length = 16) (k : Nat) : (txts [strOfNums s]).length ≤ 900000000 := by
  have h1 := enc_len (strOfNums s).size
  have h2 := strB_len (strOfNums s)
  rw [strOfNums_size, h] at h2
  simp [txts, txt]
  rw [strOfNums_size, h] at h1
  rw [strOfNums_size, h]
  omega
set_option maxHeartbeats 16000000 in
set_option maxRecDepth 1000000 in
theorem cbytes_good (c : Ce) (w : World) (hc : CeIn c) (hrt : rtC c = true) : Calls Try.prog 20 #[.agg c.A] w (ByOut (bytesP c).flatten w) := by
  have hpre : preC c = true := by
    unfold rtC at hrt
    simp only [Bool.and_eq_true] at hrt
    exact hrt.1.1.1
  unfold preC at hpre
  obtain ⟨p1, p2, p3, p4⟩ := of_decide_eq_true hpre
  have hokL := okL_iff.1 (rtC_pos hrt hc.len)
  have CRt := Lib.hid (fun W => right_any c W hc)
  rw [hrt] at CRt
  have i1 := hc.n
  have i2 := hc.ce
  have i3 := hc.po
  unfold InI at i1 i2 i3
  have w1 : IntKind.u64.wrap c.n = c.n := by simp only [IntKind.wrap_u64]; omega
  have w2 : IntKind.u64.wrap c.ce = c.ce := by simp only [IntKind.wrap_u64]; omega
  have w3 : IntKind.u64.wrap c.po = c.po := by simp only [IntKind.wrap_u64]; omega
  have hfl := fullF_len c.H 65
  have w4 : IntKind.u64.wrap ((fullF c.H 65).length : Int) = ((fullF c.H 65).length : Int) := by simp only [IntKind.wrap_u64]; omega
  have C10 : Hid (∀ (W : World) (p : Nat), Kept W p #[.int .u64 c.n, .int .u64 c.ce, .int .u64 c.po] 23 → Calls Try.prog 53 #[.slice (some ⟨p, 0, none⟩) 3 3] W (NewBytes (encs [c.n, c.ce, c.po]) W)) := Lib.hid (fun (W : World) (p : Nat) hk => uints_any (some ⟨p, 0, none⟩) 3 [c.n, c.ce, c.po] W (rowK (l := [c.n, c.ce, c.po]) hk) (by intro x hx; simp at hx; omega) (by simp))
  have C16 : Hid (∀ (W : World) (p : Nat), Kept W p #[.int .i64 c.mn, .int .i64 c.mx] 2 → Calls Try.prog 55 #[.slice (some ⟨p, 0, none⟩) 2 2] W (NewBytes (encs ([c.mn, c.mx].map zig)) W)) := Lib.hid (fun (W : World) (p : Nat) hk => ints_any (some ⟨p, 0, none⟩) 2 [c.mn, c.mx] W (rowK (l := [c.mn, c.mx]) hk) (by intro x hx; simp at hx; rcases hx with rfl | rfl; exact hc.mn; exact hc.mx) (by simp))
  have C19 := Lib.hid (fun (W : World) => wbytes_any c.z W)
  have hbl : (byL c.z).length = 16 := byL_len c.z
  have C22 : Hid (∀ (W : World) (p : Nat), Kept W p #[.string (strOfNums (byL c.z))] 9 → Calls Try.prog 56 #[.slice (some ⟨p, 0, none⟩) 1 1] W (NewBytes (txts [strOfNums (byL c.z)]) W)) := Lib.hid (fun (W : World) (p : Nat) hk => texts_any (some ⟨p, 0, none⟩) 1 [strOfNums (byL c.z)] W (fun j hj => ⟨p, 0, rfl, by
    obtain rfl : j = 0 := by simp at hj; omega
    exact (hk.at_ 0).1⟩) (by simp) (sz_bytes _ hbl 0))
  have C26 : Hid (∀ (W : World) (p : Nat), Kept W p #[.int .u64 ((fullF c.H 65).length : Int)] 23 → Calls Try.prog 53 #[.slice (some ⟨p, 0, none⟩) 1 1] W (NewBytes (encs [((fullF c.H 65).length : Int)]) W)) := Lib.hid (fun (W : World) (p : Nat) hk => uints_any (some ⟨p, 0, none⟩) 1 [((fullF c.H 65).length : Int)] W (rowK (l := [((fullF c.H 65).length : Int)]) hk) (by intro x hx; simp at hx; omega) (by simp))
  have HCV : Hid (∀ (W : World) v, BytesAt W v (byL c.z) → (convert 53 9 v).run Try.prog W = .ok (.string (strOfNums (byL c.z))) W) := Lib.hid fun W v h => by
    obtain ⟨a, cc, rfl, h1, h2, h3, h4⟩ := h
    obtain ⟨b, off, e, _⟩ := h4 0 (by omega)
    subst e
    exact run_convert_bytes_arg W 53 5 Try.underlying53 Try.underlying5 b off _ cc (byL c.z) rfl (fun j hj => by
      obtain ⟨b', off', e', hcell⟩ := h4 j hj
      injection e' with e'; injection e' with e1 e2; subst e1 e2
      exact hcell) 9 Try.underlying9
  have hparts : lenP (bytesP c) ≤ 1000000000 := by
    have q1 : (encs [c.n, c.ce, c.po]).length ≤ 30 := by have a1 := enc_len c.n.toNat; have a2 := enc_len c.ce.toNat; have a3 := enc_len c.po.toNat; simp [encs]; omega
    have q2 : (encs [zig c.mn, zig c.mx]).length ≤ 20 := (encs2_len _ _).2
    have q3 := sz_bytes _ hbl 0
    have q4 : (encs [((fullF c.H 65).length : Int)]).length ≤ 10 := by have a1 := enc_len ((fullF c.H 65).length : Int).toNat; simp [encs] at *; omega
    have q5 := bkB_len (fullF c.H 65)
    simp only [lenP, bytesP, List.map_cons, List.map_nil, List.sum_cons, List.sum_nil]
    omega
  have C29 : Hid (∀ (W : World) (p : Nat), PartsRow W (some ⟨p, 0, none⟩) (bytesP c) → Calls Try.prog 54 #[.slice (some ⟨p, 0, none⟩) 5 5] W (NewBytes (bytesP c).flatten W)) := Lib.hid (fun (W : World) (p : Nat) hk => concat_any (some ⟨p, 0, none⟩) 5 (bytesP c) W hk (by simp [bytesP]) hparts)
  unfold bytesP at C29
  have FINY : Hid (∀ W v, BytesAt W v [encs [c.n, c.ce, c.po], encs ([c.mn, c.mx].map zig), txts [strOfNums (byL c.z)], encs [((fullF c.H 65).length : Int)], bkB (fullF c.H 65)].flatten → Below w.heap.size w W → ByOut (bytesP c).flatten w (.returned v) W) := Lib.hid fun W v h1 h2 => ⟨v, rfl, h1, h2⟩
  have CFu := Lib.hid (fun W => full_any c.H hc.len W)
  have FS := Lib.hid (fun (B : Nat) (W : World) (hB : B < W.heap.size) (hc' : Kept W B (hC c.H) 27) => full_stops Fence.wide 7 trivial rfl (by decide) B w.heap.size c.H hc.len ByP (fun k hk => ⟨hk, hokL k hk, (hc.H k hk).2⟩) W hB hc')
  have c72 : c.A.size = 72 := ce_size _ hc.len
  have d65 : (hC c.H).size = 65 := by rw [hC_size]; exact hc.len
  have K0 : Hid (Kept (w.alloc (.cells c.A 29)) w.heap.size c.A 29) := Lib.hid (Kept.new rfl)
  have B0 : Hid (Below w.heap.size w (w.alloc (.cells c.A 29))) := Lib.hid (one_alloc _ _)
  have R7 : Hid (∀ W, Kept W w.heap.size c.A 29 → W.rangeAt w.heap.size 7 (hC c.H).toList) := Lib.hid fun W h => h.range7
  have CF7 : Hid (∀ W, Kept W w.heap.size c.A 29 → (W.cell? ⟨w.heap.size, 0, none⟩ = some (.int .i64 c.n) ∧ W.cell? ⟨w.heap.size, 1, none⟩ = some (.int .i64 (hiW c.z)) ∧ W.cell? ⟨w.heap.size, 2, none⟩ = some (.int .u64 (loW c.z)) ∧ W.cell? ⟨w.heap.size, 3, none⟩ = some (.int .i64 c.mn) ∧ W.cell? ⟨w.heap.size, 4, none⟩ = some (.int .i64 c.mx) ∧ W.cell? ⟨w.heap.size, 5, none⟩ = some (.int .i64 c.ce) ∧ W.cell? ⟨w.heap.size, 6, none⟩ = some (.int .i64 c.po))) := Lib.hid fun W h => h.cell7
  obtain ⟨i0, hi, hz0, hz1, hz2⟩ := info_parts info_uint8
  obtain ⟨C, hC1⟩ : ∃ C, c.A = C := ⟨_, rfl⟩
  obtain ⟨D, hD⟩ : ∃ D, hC c.H = D := ⟨_, rfl⟩
  rw [hC1] at CRt c72 K0 B0 R7 CF7
  rw [hC1]
  rw [hD] at R7 d65 CFu FS
  have ci : (Try.prog.info? 29).map (·.size) = some C.size := by rw [c72]; exact c_info
  have dl : (Try.prog.info? 27).map (·.size) = some D.toList.length := by rw [Array.length_toList, d65]; exact h_info
  unfold wI at C19
  clear hpre p1 p2 p3 p4 hokL hrt hc i1 i2 i3 hparts hbl hC1 hD c72 d65
  refine (callsIn_wide (n := 8)).1 ?_
  refine callsIn_of_wp_marks Try.func20 rfl trivial ?_ rfl
  refine wpIn_wide.2 ?_
  simp only [Try.ntmps20, List.size_toArray, List.length_cons, List.length_nil, Nat.reduceAdd, Nat.reduceSub, Array.replicate_succ, Array.replicate_zero, List.push_toArray, List.append_toArray, List.nil_append, List.cons_append]
  go_wp2_with (first
    | refine wpList_load_row rfl 29 _ rfl w.heap.size rfl 29 C (0, 0) _ K0.out Try.underlying29 rfl ci ?_)
  refine (CRt.out _).mono ?_
  rintro _ w1 ⟨rfl, b1⟩
  have K1 := Lib.hid (K0.out.next b1)
  have B1 := Lib.hid (B0.out.trans (b1.mono B0.out.size))
  clear b1 K0 B0 CRt
  go_upto_region 5 with fail
  have K2 : Hid (Kept ((w1.alloc (.cells #[.int .i64 0] 3)).alloc (.cells #[.slice none 0 0] 53)) w.heap.size C 29) := Lib.hid ((K1.out.alloc _).alloc _)
  have G1 : Hid (w.heap.size < w1.heap.size) := Lib.hid K1.out.lt
  have N2 := Lib.hid (kept_new2 (w := w1) (x := .int .i64 0) (y := .slice none 0 0) (t := 3) (u := 53))
  have B2 : Hid (Below w.heap.size w ((w1.alloc (.cells #[.int .i64 0] 3)).alloc (.cells #[.slice none 0 0] 53))) := Lib.hid ((B1.out.alloc B1.out.size _).alloc (by have := B1.out.size; simp; omega) _)
  have S2 : Hid (((w1.alloc (.cells #[.int .i64 0] 3)).alloc (.cells #[.slice none 0 0] 53)).heap.size = w1.heap.size + 2) := Lib.hid (by simp)
  generalize (w1.alloc (.cells #[.int .i64 0] 3)).alloc (.cells #[.slice none 0 0] 53) = W4 at *
  have R7' := R7.out _ K2.out
  clear K1 B1
  go_wp2_with (first
    | (refine wpList_load_mid rfl 27 _ rfl w.heap.size 7 rfl D.toList _ R7' h_under rfl dl ?_)
    | (go_at_call 31; refine (CFu.out _).mono ?_; rintro _ _ ⟨rfl, rfl⟩))
  have KC : Hid (Kept (W4.alloc (.cells D 27)) W4.heap.size D 27) := Lib.hid (Kept.new rfl)
  have LB : Hid (Below w.heap.size w (W4.alloc (.cells D 27))) := Lib.hid (B2.out.alloc B2.out.size _)
  have LS : W4.heap.size < (W4.alloc (.cells D 27)).heap.size := by simp
  have LN : w.heap.size ≤ (W4.alloc (.cells D 27)).heap.size := LB.out.size
  have HI0 : Hid (ByJ w.heap.size w1.heap.size (w1.heap.size + 1) (W4.alloc (.cells D 27)).heap.size C [] (W4.alloc (.cells D 27))) := Lib.hid ⟨K2.out.alloc _, N2.out.1.alloc _, Nat.le_refl _, _, N2.out.2.alloc _, World.ownsRow_nil _ _ _ _⟩
  have HB5 : Hid (w1.heap.size + 2 ≤ (W4.alloc (.cells D 27)).heap.size) := Lib.hid (by have := S2.out; simp; omega)
  generalize W4.alloc (.cells D 27) = W5 at *
  have fs := FS.out W4.heap.size W5 LS KC.out
  clear K2 B2 R7 R7' CFu FS KC N2 S2
  obtain ⟨gn, hgn⟩ : ∃ x, w1.heap.size = x := ⟨_, rfl⟩
  rw [hgn] at HI0 HB5 G1
  refine wpIn_wide.1 (wpIn_rangeFunc_ownG (F := Fence.wide) (n := 8) rfl (by decide) (gf := 64) (lb := #[.pointer (some ⟨W4.heap.size, 0, none⟩)]) rfl trivial (enters_of Try.func64 (by kernel_rfl) rfl)
    fs belowK_t (belowK_b LN) (Below.refl _ _) (fun _ => rfl)
    (fun pre W => ByJ w.heap.size gn (gn + 1) W5.heap.size C pre W ∧ Below w.heap.size w W)
    (fun c pre W => False)
    (OwnFrom.and (Own.from (byJ_own _ _ _ _ _) _) (ownFrom_below (Nat.le_refl _) LN))
    (fun c => fun _ _ _ _ h _ _ => h)
    ⟨HI0.out, LB.out⟩ ?act ?assign ?body ?done ?stop)
  case assign =>
    intro l x W K hK
    gi_wp2
    exact hK
  case stop =>
    rintro G cc pre W hG _ h _
    exact h.elim
  case body =>
    rintro l pre x W ⟨⟨hK1, hK2, hbs, sv, hK4, hO⟩, hB⟩ hpl
    obtain ⟨⟨bb, cv⟩, hx0, hx1, hx2⟩ := x
    have e0 : bb < 65 := hx0
    have e1 : 0 ≤ cv := hx1
    have e2 : cv ≤ 9223372036854775807 := hx2
    have HB := Lib.hid hB
    have H1 := Lib.hid hK1
    have H2 := Lib.hid hK2
    have H4 := Lib.hid hK4
    have HBW := Lib.hid hbs
    have OW := Lib.hid hO
    obtain ⟨x1, x2, x3⟩ := hK4.one
    obtain ⟨m1, m2, m3⟩ := hK2.one
    have hpn : (pre.length : Int) ≤ 65 := by omega
    have HPL := Lib.hid hpl
    have CU : Hid (∀ (W : World) (p : Nat), Kept W p #[.int .u64 (bb : Int), .int .u64 cv] 23 → Calls Try.prog 53 #[.slice (some ⟨p, 0, none⟩) 2 2] W (NewBytes (encs [(bb : Int), cv]) W)) := Lib.hid (fun (W : World) (p : Nat) hk => uints_any (some ⟨p, 0, none⟩) 2 [(bb : Int), cv] W (rowK (l := [(bb : Int), cv]) hk) (by intro x hx; simp at hx; omega) (by simp))
    have wb : IntKind.u64.wrap (bb : Int) = (bb : Int) := by simp only [IntKind.wrap_u64]; omega
    have wc : IntKind.u64.wrap cv = cv := by simp only [IntKind.wrap_u64]; omega
    have hmx : Try.prog.follows .mixedOrders = true := by kernel_rfl
    have hle := bkB_len (pre.map (fun x => x.1))
    have h20 := encs2_len (bb : Int) cv
    rw [List.length_map] at hle
    obtain ⟨base, hbase⟩ : ∃ x, W5.heap.size = x := ⟨_, rfl⟩
    rw [hbase] at HBW OW HB5
    have HBASE := Lib.hid hbase
    obtain ⟨BL, hBL⟩ : ∃ x, bkB (pre.map (fun x => x.1)) = x := ⟨_, rfl⟩
    have hsn : bkB ((pre ++ [(⟨(bb, cv), hx0, hx1, hx2⟩ : ByT)]).map (fun x => x.1)) = BL ++ encs [(bb : Int), cv] := by rw [List.map_append, List.map_singleton, bkB_snoc, hBL]
    rw [hBL] at OW hle
    have H63 : Hid (BL.length + (encs [(bb : Int), cv]).length ≤ maxLen ∧ (BL.length + (encs [(bb : Int), cv]).length) * 1 ≤ 140737488355328) := Lib.hid (by unfold maxLen; omega)
    obtain ⟨g1, g2⟩ : w.heap.size < gn ∧ gn + 1 < base := ⟨G1.out, by have := HB5.out; omega⟩
    obtain ⟨v0, hv0⟩ : ∃ V, W.setCell ⟨gn, 0, none⟩ (.int .i64 ((pre.length : Int) + 1)) = V := ⟨_, rfl⟩
    have Z0 : Hid (Kept v0 w.heap.size C 29 ∧ Kept v0 gn #[.int .i64 ((pre.length : Int) + 1)] 3 ∧ Kept v0 (gn + 1) #[sv] 53 ∧ v0.ownsRow base 5 1 sv BL.length (BL.map (Value.int .u8)) ∧ KeepsFrom base W v0 ∧ Below w.heap.size W v0 ∧ base ≤ v0.heap.size) := Lib.hid (by
      rw [← hv0]
      refine ⟨H1.out.far (p := ⟨gn, 0, none⟩) (by simp; omega) _, H2.out.set 0 _, H4.out.far (p := ⟨gn, 0, none⟩) (by simp) _, owns_at (OW.out) (fun k hk => ?_), (KeepsOthers.setCell W _ _).from base, (Below.refl _ W).setCell (by simp; omega) _, by simpa using HBW.out⟩
      exact Below.heap_setCell W ⟨gn, 0, none⟩ _ k (by show k ≠ gn; omega))
    have OWN : Hid (∀ V, Below v0.heap.size v0 V → V.ownsRow base 5 1 sv BL.length (BL.map (Value.int .u8))) := Lib.hid fun V h => owns_below Z0.out.2.2.2.1 h
    have HBS : Hid (∀ V, Below v0.heap.size v0 V → base ≤ V.heap.size) := Lib.hid fun V h => Nat.le_trans Z0.out.2.2.2.2.2.2 h.size
    have HKN : Hid (∀ V, Below v0.heap.size v0 V → ∀ w', V.grownBy w' sv.ownBlock → Kept w' w.heap.size C 29 ∧ Kept w' gn #[.int .i64 ((pre.length : Int) + 1)] 3 ∧ Kept w' (gn + 1) #[sv] 53) := Lib.hid fun V h w' hg => by
      have ob := fun k hk => (owns_cells (OWN.out V h) k hk).1
      exact ⟨kept_grown (Z0.out.1.next h) hg ob (by omega), kept_grown (Z0.out.2.1.next h) hg ob (by omega), kept_grown (Z0.out.2.2.1.next h) hg ob (by omega)⟩
    have FIN9 : Hid (∀ V, Below v0.heap.size v0 V → ∀ w', V.grownBy w' sv.ownBlock → ∀ v', w'.ownsRow base 5 1 v' (BL.length + (encs [(bb : Int), cv]).length) (BL.map (Value.int .u8) ++ (encs [(bb : Int), cv]).map (Value.int .u8)) →
        KeepsFrom base W (w'.setCell ⟨gn + 1, 0, none⟩ v') ∧ Below w.heap.size W (w'.setCell ⟨gn + 1, 0, none⟩ v') ∧ ByJ w.heap.size gn (gn + 1) base C (pre ++ [⟨(bb, cv), hx0, hx1, hx2⟩]) (w'.setCell ⟨gn + 1, 0, none⟩ v') ∧ Below w.heap.size w (w'.setCell ⟨gn + 1, 0, none⟩ v')) := Lib.hid fun V h w' hg v' ho => by
      obtain ⟨k1, k2, k3⟩ := HKN.out V h w' hg
      have oc := owns_cells (OWN.out V h)
      have kf : KeepsFrom base W w' := (Z0.out.2.2.2.2.1.trans (keepsFrom_below h)).trans (keepsFrom_grown hg (fun r e => (oc r e).2))
      have bw : Below w.heap.size W w' := (Z0.out.2.2.2.2.2.1.trans (h.mono (by have := Z0.out.2.2.2.2.2.2; omega))).grown hg (by have := HBS.out V h; omega) (fun k e => by have := (oc k e).1; omega)
      have bs : base ≤ w'.heap.size := Nat.le_trans (HBS.out V h) hg.size
      refine ⟨kf.trans ((KeepsOthers.setCell w' _ _).from base), bw.setCell (by simp; omega) _, ⟨k1.far (by simp; omega) _, ?_, by simpa using bs, v', k3.set 0 v', ?_⟩, (HB.out.trans (bw.mono (Nat.le_refl _))).setCell (by simp; omega) _⟩
      · have e : ((pre ++ [(⟨(bb, cv), hx0, hx1, hx2⟩ : ByT)]).length : Int) = (pre.length : Int) + 1 := by simp
        rw [e]; exact k2.far (by simp) _
      · rw [hsn, List.length_append, List.map_append]
        exact owns_at ho (fun k hk => Below.heap_setCell w' ⟨gn + 1, 0, none⟩ _ k (by show k ≠ gn + 1; omega))
    have HV0 := Lib.hid hv0
    clear hK1 hK2 hK4 hO hB hbs hle h20 hsn hBL hbase g1 g2 hv0 x1 x2 x3
    have L67 : Hid (∀ v6 r6, Below v0.heap.size v0 v6 → BytesAt v6 r6 (encs [(bb : Int), cv]) → ∃ rad rc va vc w', r6 = .slice (some rad) (encs [(bb : Int), cv]).length rc ∧ v6.cell? ⟨gn + 1, 0, none⟩ = some sv ∧ (Builtin.append_ #[53, 53] 53 #[sv, .slice (some rad) (encs [(bb : Int), cv]).length rc]).run Try.prog v6 = .ok (.slice va (BL.length + (encs [(bb : Int), cv]).length) vc) w' ∧ (w'.cell? ⟨gn + 1, 0, none⟩ = some sv ∧ w'.frozen? ⟨gn + 1, 0, none⟩ = false) ∧
        (KeepsFrom W5.heap.size W (w'.setCell ⟨gn + 1, 0, none⟩ (.slice va (BL.length + (encs [(bb : Int), cv]).length) vc)) ∧ Below w.heap.size W (w'.setCell ⟨gn + 1, 0, none⟩ (.slice va (BL.length + (encs [(bb : Int), cv]).length) vc)) ∧ ByJ w.heap.size gn (gn + 1) W5.heap.size C (pre ++ [⟨(bb, cv), hx0, hx1, hx2⟩]) (w'.setCell ⟨gn + 1, 0, none⟩ (.slice va (BL.length + (encs [(bb : Int), cv]).length) vc)) ∧ Below w.heap.size w (w'.setCell ⟨gn + 1, 0, none⟩ (.slice va (BL.length + (encs [(bb : Int), cv]).length) vc)))) := Lib.hid fun v6 r6 A6 hr => by
      obtain ⟨ra, rc, rfl, hrn, -, -, hri⟩ := hr
      obtain ⟨rad, rfl⟩ := row_some hri (by have := (encs2_len (bb : Int) cv).1; omega)
      obtain ⟨v', w', hrun, r1, r2, -⟩ := run_append_own (P := Try.prog) v6 base 53 53 5 i0 (.int .u8 0) 1 1 Try.underlying53 hi hz0 hz1 hz2 rfl (by decide) sv _ _ (OWN.out v6 A6) rad _ rc ((encs [(bb : Int), cv]).map (Value.int .u8)) (by simp) (row_at hri) (fun u hu => by obtain ⟨y, _, rfl⟩ := List.mem_map.1 hu; rfl) H63.out.1 H63.out.2 (HBS.out v6 A6)
      obtain ⟨va, vc, rfl⟩ := owns_slice r1
      obtain ⟨y1, y2, y3⟩ := Kept.one (HKN.out v6 A6 w' r2).2.2
      refine ⟨rad, rc, va, vc, w', rfl, (Kept.one (Z0.out.2.2.1.next A6)).1, hrun, ⟨y1, y2⟩, ?_⟩
      rw [HBASE.out]
      exact FIN9.out v6 A6 w' r2 _ r1
    have L5 : Hid (Kept ((v0.alloc (.cells #[.int .u64 (bb : Int), .int .u64 cv] 23)).drew) v0.heap.size #[.int .u64 (bb : Int), .int .u64 cv] 23 ∧ Below v0.heap.size v0 ((v0.alloc (.cells #[.int .u64 (bb : Int), .int .u64 cv] 23)).drew) ∧ ((v0.alloc (.cells #[.int .u64 (bb : Int), .int .u64 cv] 23)).drew).cell? ⟨gn + 1, 0, none⟩ = some sv) := Lib.hid ⟨(Kept.new rfl).drewN 1, (one_alloc v0 _).drew, (Kept.one (Z0.out.2.2.1.next (one_alloc v0 _).drew)).1⟩
    obtain ⟨x1, x2, x3⟩ := Z0.out.2.2.1.one
    clear FIN9 HKN OWN HBS Z0 OW H1 H2 H4 HBW HB
    gi_wp2
    rw [HV0.out]
    refine wpIn_region_any (by assumption) ?_
    change wpAnyIn _ _ _ _ _ _ _ _ _ (World.drew _)
    refine wpAnyIn_ready (rs := [0, 1, 3]) (by kernel_rfl) (by simp) ?_
    refine AllReadyIn.cons (o := ao0) rfl (fun K hK => ?_) (AllReadyIn.cons (o := ao1) rfl (fun K hK => ?_) (AllReadyIn.cons (o := ao3) rfl (fun K hK => ?_) (AllReadyIn.nil)))
    ·(try simp only [ao0])
     go_simp
     refine hK _ _ ?_
     clear hK K
     refine wpAnyIn_ready (rs := [1, 3]) (by kernel_rfl) (by simp) ?_
     refine AllReadyIn.cons (o := ao1) rfl (fun K hK => ?_) (AllReadyIn.cons (o := ao3) rfl (fun K hK => ?_) (AllReadyIn.nil))
     ·(try simp only [ao1])
      go_simp
      refine hK _ _ ?_
      clear hK K
      refine wpAnyIn_ready (rs := [2, 3]) (by kernel_rfl) (by simp) ?_
      refine AllReadyIn.cons (o := ao2) rfl (fun K hK => ?_) (AllReadyIn.cons (o := ao3) rfl (fun K hK => ?_) (AllReadyIn.nil))
      ·(try simp only [ao2])
       go_simp
       refine hK _ _ ?_
       clear hK K
       refine wpAnyIn_ready (rs := [3]) (by kernel_rfl) (by simp) (AllReadyIn.cons (o := ao3) rfl (fun K hK => ?_) AllReadyIn.nil)
       (try simp only [ao3])
       go_simp
       refine hK _ _ ?_
       clear hK K
       refine wpAnyIn_ready (rs := [4]) (by kernel_rfl) (by simp) (AllReadyIn.cons (o := ao4) rfl (fun K hK => ?_) AllReadyIn.nil)
       (try simp only [ao4])
       go_simp
       refine hK _ _ ?_
       clear hK K
       refine wpAnyIn_ready (rs := [5]) (by kernel_rfl) (by simp) (AllReadyIn.cons (o := ao5) rfl (fun K hK => ?_) AllReadyIn.nil)
       (try simp only [ao5])
       go_simp
       refine hK _ _ ?_
       clear hK K
       obtain ⟨K5, A5, x5⟩ := L5.out
       clear L5
       refine wpAnyIn_ready (rs := [6]) (by kernel_rfl) (by simp) (AllReadyIn.cons (o := ao6) rfl (fun K hK => ?_) AllReadyIn.nil)
       (try simp only [ao6])
       go_simp
       refine ⟨trivial, ?_⟩
       gi_at_call 53
       refine (CallsIn.inRound l (callsIn_wide.2 (CU.out _ _ K5))).mono ?_
       rintro _ v6 ⟨r6, rfl, o6, b6⟩
       dsimp only
       refine hK _ _ ?_
       clear hK K
       obtain ⟨rad, rc, va, vc, w', rfl, x6, hrun, ⟨y1, y2⟩, QF⟩ := L67.out v6 r6 (A5.trans (b6.mono A5.size)) (BytesAt.own o6)
       clear b6 o6 K5 A5 x5
       refine wpAnyIn_ready (rs := [7]) (by kernel_rfl) (by simp) (AllReadyIn.cons (o := ao7) rfl (fun K hK => ?_) AllReadyIn.nil)
       rw [if_pos (by rfl)]
       refine wpIn_append_run v6 w' _ _ 53 rfl _ _ _ rfl rfl hrun ?_
       refine hK _ _ ?_
       clear hK K
       refine wpAnyIn_ready (rs := [8]) (by kernel_rfl) (by simp) (AllReadyIn.cons (o := ao8) rfl (fun K hK => ?_) AllReadyIn.nil)
       (try simp only [ao7, ao8])
       go_simp
       refine hK _ _ ?_
       clear hK K
       refine wpAnyIn_done (by kernel_rfl) ?_ _
       gi_wp2
       exact QF
      ·(try simp only [ao3])
       go_simp
       refine hK _ _ ?_
       clear hK K
       refine wpAnyIn_ready (rs := [2, 4]) (by kernel_rfl) (by simp) ?_
       refine AllReadyIn.cons (o := ao2) rfl (fun K hK => ?_) (AllReadyIn.cons (o := ao4) rfl (fun K hK => ?_) (AllReadyIn.nil))
       ·(try simp only [ao2])
        go_simp
        refine hK _ _ ?_
        clear hK K
        refine wpAnyIn_ready (rs := [4]) (by kernel_rfl) (by simp) (AllReadyIn.cons (o := ao4) rfl (fun K hK => ?_) AllReadyIn.nil)
        (try simp only [ao4])
        go_simp
        refine hK _ _ ?_
        clear hK K
        refine wpAnyIn_ready (rs := [5]) (by kernel_rfl) (by simp) (AllReadyIn.cons (o := ao5) rfl (fun K hK => ?_) AllReadyIn.nil)
        (try simp only [ao5])
        go_simp
        refine hK _ _ ?_
        clear hK K
        obtain ⟨K5, A5, x5⟩ := L5.out
        clear L5
        refine wpAnyIn_ready (rs := [6]) (by kernel_rfl) (by simp) (AllReadyIn.cons (o := ao6) rfl (fun K hK => ?_) AllReadyIn.nil)
        (try simp only [ao6])
        go_simp
        refine ⟨trivial, ?_⟩
        gi_at_call 53
        refine (CallsIn.inRound l (callsIn_wide.2 (CU.out _ _ K5))).mono ?_
        rintro _ v6 ⟨r6, rfl, o6, b6⟩
        dsimp only
        refine hK _ _ ?_
        clear hK K
        obtain ⟨rad, rc, va, vc, w', rfl, x6, hrun, ⟨y1, y2⟩, QF⟩ := L67.out v6 r6 (A5.trans (b6.mono A5.size)) (BytesAt.own o6)
        clear b6 o6 K5 A5 x5
        refine wpAnyIn_ready (rs := [7]) (by kernel_rfl) (by simp) (AllReadyIn.cons (o := ao7) rfl (fun K hK => ?_) AllReadyIn.nil)
        rw [if_pos (by rfl)]
        refine wpIn_append_run v6 w' _ _ 53 rfl _ _ _ rfl rfl hrun ?_
        refine hK _ _ ?_
        clear hK K
        refine wpAnyIn_ready (rs := [8]) (by kernel_rfl) (by simp) (AllReadyIn.cons (o := ao8) rfl (fun K hK => ?_) AllReadyIn.nil)
        (try simp only [ao7, ao8])
        go_simp
        refine hK _ _ ?_
        clear hK K
        refine wpAnyIn_done (by kernel_rfl) ?_ _
        gi_wp2
        exact QF
       ·(try simp only [ao4])
        go_simp
        refine hK _ _ ?_
        clear hK K
        refine wpAnyIn_ready (rs := [2]) (by kernel_rfl) (by simp) (AllReadyIn.cons (o := ao2) rfl (fun K hK => ?_) AllReadyIn.nil)
        (try simp only [ao2])
        go_simp
        refine hK _ _ ?_
        clear hK K
        refine wpAnyIn_ready (rs := [5]) (by kernel_rfl) (by simp) (AllReadyIn.cons (o := ao5) rfl (fun K hK => ?_) AllReadyIn.nil)
        (try simp only [ao5])
        go_simp
        refine hK _ _ ?_
        clear hK K
        obtain ⟨K5, A5, x5⟩ := L5.out
        clear L5
        refine wpAnyIn_ready (rs := [6]) (by kernel_rfl) (by simp) (AllReadyIn.cons (o := ao6) rfl (fun K hK => ?_) AllReadyIn.nil)
        (try simp only [ao6])
        go_simp
        refine ⟨trivial, ?_⟩
        gi_at_call 53
        refine (CallsIn.inRound l (callsIn_wide.2 (CU.out _ _ K5))).mono ?_
        rintro _ v6 ⟨r6, rfl, o6, b6⟩
        dsimp only
        refine hK _ _ ?_
        clear hK K
        obtain ⟨rad, rc, va, vc, w', rfl, x6, hrun, ⟨y1, y2⟩, QF⟩ := L67.out v6 r6 (A5.trans (b6.mono A5.size)) (BytesAt.own o6)
        clear b6 o6 K5 A5 x5
        refine wpAnyIn_ready (rs := [7]) (by kernel_rfl) (by simp) (AllReadyIn.cons (o := ao7) rfl (fun K hK => ?_) AllReadyIn.nil)
        rw [if_pos (by rfl)]
        refine wpIn_append_run v6 w' _ _ 53 rfl _ _ _ rfl rfl hrun ?_
        refine hK _ _ ?_
        clear hK K
        refine wpAnyIn_ready (rs := [8]) (by kernel_rfl) (by simp) (AllReadyIn.cons (o := ao8) rfl (fun K hK => ?_) AllReadyIn.nil)
        (try simp only [ao7, ao8])
        go_simp
        refine hK _ _ ?_
        clear hK K
        refine wpAnyIn_done (by kernel_rfl) ?_ _
        gi_wp2
        exact QF
     ·(try simp only [ao3])
      go_simp
      refine hK _ _ ?_
      clear hK K
      refine wpAnyIn_ready (rs := [1, 4]) (by kernel_rfl) (by simp) ?_
      refine AllReadyIn.cons (o := ao1) rfl (fun K hK => ?_) (AllReadyIn.cons (o := ao4) rfl (fun K hK => ?_) (AllReadyIn.nil))
      ·(try simp only [ao1])
       go_simp
       refine hK _ _ ?_
       clear hK K
       refine wpAnyIn_ready (rs := [2, 4]) (by kernel_rfl) (by simp) ?_
       refine AllReadyIn.cons (o := ao2) rfl (fun K hK => ?_) (AllReadyIn.cons (o := ao4) rfl (fun K hK => ?_) (AllReadyIn.nil))
       ·(try simp only [ao2])
        go_simp
        refine hK _ _ ?_
        clear hK K
        refine wpAnyIn_ready (rs := [4]) (by kernel_rfl) (by simp) (AllReadyIn.cons (o := ao4) rfl (fun K hK => ?_) AllReadyIn.nil)
        (try simp only [ao4])
        go_simp
        refine hK _ _ ?_
        clear hK K
        refine wpAnyIn_ready (rs := [5]) (by kernel_rfl) (by simp) (AllReadyIn.cons (o := ao5) rfl (fun K hK => ?_) AllReadyIn.nil)
        (try simp only [ao5])
        go_simp
        refine hK _ _ ?_
        clear hK K
        obtain ⟨K5, A5, x5⟩ := L5.out
        clear L5
        refine wpAnyIn_ready (rs := [6]) (by kernel_rfl) (by simp) (AllReadyIn.cons (o := ao6) rfl (fun K hK => ?_) AllReadyIn.nil)
        (try simp only [ao6])
        go_simp
        refine ⟨trivial, ?_⟩
        gi_at_call 53
        refine (CallsIn.inRound l (callsIn_wide.2 (CU.out _ _ K5))).mono ?_
        rintro _ v6 ⟨r6, rfl, o6, b6⟩
        dsimp only
        refine hK _ _ ?_
        clear hK K
        obtain ⟨rad, rc, va, vc, w', rfl, x6, hrun, ⟨y1, y2⟩, QF⟩ := L67.out v6 r6 (A5.trans (b6.mono A5.size)) (BytesAt.own o6)
        clear b6 o6 K5 A5 x5
        refine wpAnyIn_ready (rs := [7]) (by kernel_rfl) (by simp) (AllReadyIn.cons (o := ao7) rfl (fun K hK => ?_) AllReadyIn.nil)
        rw [if_pos (by rfl)]
        refine wpIn_append_run v6 w' _ _ 53 rfl _ _ _ rfl rfl hrun ?_
        refine hK _ _ ?_
        clear hK K
        refine wpAnyIn_ready (rs := [8]) (by kernel_rfl) (by simp) (AllReadyIn.cons (o := ao8) rfl (fun K hK => ?_) AllReadyIn.nil)
        (try simp only [ao7, ao8])
        go_simp
        refine hK _ _ ?_
        clear hK K
        refine wpAnyIn_done (by kernel_rfl) ?_ _
        gi_wp2
        exact QF
       ·(try simp only [ao4])
        go_simp
        refine hK _ _ ?_
        clear hK K
        refine wpAnyIn_ready (rs := [2]) (by kernel_rfl) (by simp) (AllReadyIn.cons (o := ao2) rfl (fun K hK => ?_) AllReadyIn.nil)
        (try simp only [ao2])
        go_simp
        refine hK _ _ ?_
        clear hK K
        refine wpAnyIn_ready (rs := [5]) (by kernel_rfl) (by simp) (AllReadyIn.cons (o := ao5) rfl (fun K hK => ?_) AllReadyIn.nil)
        (try simp only [ao5])
        go_simp
        refine hK _ _ ?_
        clear hK K
        obtain ⟨K5, A5, x5⟩ := L5.out
        clear L5
        refine wpAnyIn_ready (rs := [6]) (by kernel_rfl) (by simp) (AllReadyIn.cons (o := ao6) rfl (fun K hK => ?_) AllReadyIn.nil)
        (try simp only [ao6])
        go_simp
        refine ⟨trivial, ?_⟩
        gi_at_call 53
        refine (CallsIn.inRound l (callsIn_wide.2 (CU.out _ _ K5))).mono ?_
        rintro _ v6 ⟨r6, rfl, o6, b6⟩
        dsimp only
        refine hK _ _ ?_
        clear hK K
        obtain ⟨rad, rc, va, vc, w', rfl, x6, hrun, ⟨y1, y2⟩, QF⟩ := L67.out v6 r6 (A5.trans (b6.mono A5.size)) (BytesAt.own o6)
        clear b6 o6 K5 A5 x5
        refine wpAnyIn_ready (rs := [7]) (by kernel_rfl) (by simp) (AllReadyIn.cons (o := ao7) rfl (fun K hK => ?_) AllReadyIn.nil)
        rw [if_pos (by rfl)]
        refine wpIn_append_run v6 w' _ _ 53 rfl _ _ _ rfl rfl hrun ?_
        refine hK _ _ ?_
        clear hK K
        refine wpAnyIn_ready (rs := [8]) (by kernel_rfl) (by simp) (AllReadyIn.cons (o := ao8) rfl (fun K hK => ?_) AllReadyIn.nil)
        (try simp only [ao7, ao8])
        go_simp
        refine hK _ _ ?_
        clear hK K
        refine wpAnyIn_done (by kernel_rfl) ?_ _
        gi_wp2
        exact QF
      ·(try simp only [ao4])
       go_simp
       refine hK _ _ ?_
       clear hK K
       refine wpAnyIn_ready (rs := [1]) (by kernel_rfl) (by simp) (AllReadyIn.cons (o := ao1) rfl (fun K hK => ?_) AllReadyIn.nil)
       (try simp only [ao1])
       go_simp
       refine hK _ _ ?_
       clear hK K
       refine wpAnyIn_ready (rs := [2]) (by kernel_rfl) (by simp) (AllReadyIn.cons (o := ao2) rfl (fun K hK => ?_) AllReadyIn.nil)
       (try simp only [ao2])
       go_simp
       refine hK _ _ ?_
       clear hK K
       refine wpAnyIn_ready (rs := [5]) (by kernel_rfl) (by simp) (AllReadyIn.cons (o := ao5) rfl (fun K hK => ?_) AllReadyIn.nil)
       (try simp only [ao5])
       go_simp
       refine hK _ _ ?_
       clear hK K
       obtain ⟨K5, A5, x5⟩ := L5.out
       clear L5
       refine wpAnyIn_ready (rs := [6]) (by kernel_rfl) (by simp) (AllReadyIn.cons (o := ao6) rfl (fun K hK => ?_) AllReadyIn.nil)
       (try simp only [ao6])
       go_simp
       refine ⟨trivial, ?_⟩
       gi_at_call 53
       refine (CallsIn.inRound l (callsIn_wide.2 (CU.out _ _ K5))).mono ?_
       rintro _ v6 ⟨r6, rfl, o6, b6⟩
       dsimp only
       refine hK _ _ ?_
       clear hK K
       obtain ⟨rad, rc, va, vc, w', rfl, x6, hrun, ⟨y1, y2⟩, QF⟩ := L67.out v6 r6 (A5.trans (b6.mono A5.size)) (BytesAt.own o6)
       clear b6 o6 K5 A5 x5
       refine wpAnyIn_ready (rs := [7]) (by kernel_rfl) (by simp) (AllReadyIn.cons (o := ao7) rfl (fun K hK => ?_) AllReadyIn.nil)
       rw [if_pos (by rfl)]
       refine wpIn_append_run v6 w' _ _ 53 rfl _ _ _ rfl rfl hrun ?_
       refine hK _ _ ?_
       clear hK K
       refine wpAnyIn_ready (rs := [8]) (by kernel_rfl) (by simp) (AllReadyIn.cons (o := ao8) rfl (fun K hK => ?_) AllReadyIn.nil)
       (try simp only [ao7, ao8])
       go_simp
       refine hK _ _ ?_
       clear hK K
       refine wpAnyIn_done (by kernel_rfl) ?_ _
       gi_wp2
       exact QF
    ·(try simp only [ao1])
     go_simp
     refine hK _ _ ?_
     clear hK K
     refine wpAnyIn_ready (rs := [0, 2, 3]) (by kernel_rfl) (by simp) ?_
     refine AllReadyIn.cons (o := ao0) rfl (fun K hK => ?_) (AllReadyIn.cons (o := ao2) rfl (fun K hK => ?_) (AllReadyIn.cons (o := ao3) rfl (fun K hK => ?_) (AllReadyIn.nil)))
     ·(try simp only [ao0])
      go_simp
      refine hK _ _ ?_
      clear hK K
      refine wpAnyIn_ready (rs := [2, 3]) (by kernel_rfl) (by simp) ?_
      refine AllReadyIn.cons (o := ao2) rfl (fun K hK => ?_) (AllReadyIn.cons (o := ao3) rfl (fun K hK => ?_) (AllReadyIn.nil))
      ·(try simp only [ao2])
       go_simp
       refine hK _ _ ?_
       clear hK K
       refine wpAnyIn_ready (rs := [3]) (by kernel_rfl) (by simp) (AllReadyIn.cons (o := ao3) rfl (fun K hK => ?_) AllReadyIn.nil)
       (try simp only [ao3])
       go_simp
       refine hK _ _ ?_
       clear hK K
       refine wpAnyIn_ready (rs := [4]) (by kernel_rfl) (by simp) (AllReadyIn.cons (o := ao4) rfl (fun K hK => ?_) AllReadyIn.nil)
       (try simp only [ao4])
       go_simp
       refine hK _ _ ?_
       clear hK K
       refine wpAnyIn_ready (rs := [5]) (by kernel_rfl) (by simp) (AllReadyIn.cons (o := ao5) rfl (fun K hK => ?_) AllReadyIn.nil)
       (try simp only [ao5])
       go_simp
       refine hK _ _ ?_
       clear hK K
       obtain ⟨K5, A5, x5⟩ := L5.out
       clear L5
       refine wpAnyIn_ready (rs := [6]) (by kernel_rfl) (by simp) (AllReadyIn.cons (o := ao6) rfl (fun K hK => ?_) AllReadyIn.nil)
       (try simp only [ao6])
       go_simp
       refine ⟨trivial, ?_⟩
       gi_at_call 53
       refine (CallsIn.inRound l (callsIn_wide.2 (CU.out _ _ K5))).mono ?_
       rintro _ v6 ⟨r6, rfl, o6, b6⟩
       dsimp only
       refine hK _ _ ?_
       clear hK K
       obtain ⟨rad, rc, va, vc, w', rfl, x6, hrun, ⟨y1, y2⟩, QF⟩ := L67.out v6 r6 (A5.trans (b6.mono A5.size)) (BytesAt.own o6)
       clear b6 o6 K5 A5 x5
       refine wpAnyIn_ready (rs := [7]) (by kernel_rfl) (by simp) (AllReadyIn.cons (o := ao7) rfl (fun K hK => ?_) AllReadyIn.nil)
       rw [if_pos (by rfl)]
       refine wpIn_append_run v6 w' _ _ 53 rfl _ _ _ rfl rfl hrun ?_
       refine hK _ _ ?_
       clear hK K
       refine wpAnyIn_ready (rs := [8]) (by kernel_rfl) (by simp) (AllReadyIn.cons (o := ao8) rfl (fun K hK => ?_) AllReadyIn.nil)
       (try simp only [ao7, ao8])
       go_simp
       refine hK _ _ ?_
       clear hK K
       refine wpAnyIn_done (by kernel_rfl) ?_ _
       gi_wp2
       exact QF
      ·(try simp only [ao3])
       go_simp
       refine hK _ _ ?_
       clear hK K
       refine wpAnyIn_ready (rs := [2, 4]) (by kernel_rfl) (by simp) ?_
       refine AllReadyIn.cons (o := ao2) rfl (fun K hK => ?_) (AllReadyIn.cons (o := ao4) rfl (fun K hK => ?_) (AllReadyIn.nil))
       ·(try simp only [ao2])
        go_simp
        refine hK _ _ ?_
        clear hK K
        refine wpAnyIn_ready (rs := [4]) (by kernel_rfl) (by simp) (AllReadyIn.cons (o := ao4) rfl (fun K hK => ?_) AllReadyIn.nil)
        (try simp only [ao4])
        go_simp
        refine hK _ _ ?_
        clear hK K
        refine wpAnyIn_ready (rs := [5]) (by kernel_rfl) (by simp) (AllReadyIn.cons (o := ao5) rfl (fun K hK => ?_) AllReadyIn.nil)
        (try simp only [ao5])
        go_simp
        refine hK _ _ ?_
        clear hK K
        obtain ⟨K5, A5, x5⟩ := L5.out
        clear L5
        refine wpAnyIn_ready (rs := [6]) (by kernel_rfl) (by simp) (AllReadyIn.cons (o := ao6) rfl (fun K hK => ?_) AllReadyIn.nil)
        (try simp only [ao6])
        go_simp
        refine ⟨trivial, ?_⟩
        gi_at_call 53
        refine (CallsIn.inRound l (callsIn_wide.2 (CU.out _ _ K5))).mono ?_
        rintro _ v6 ⟨r6, rfl, o6, b6⟩
        dsimp only
        refine hK _ _ ?_
        clear hK K
        obtain ⟨rad, rc, va, vc, w', rfl, x6, hrun, ⟨y1, y2⟩, QF⟩ := L67.out v6 r6 (A5.trans (b6.mono A5.size)) (BytesAt.own o6)
        clear b6 o6 K5 A5 x5
        refine wpAnyIn_ready (rs := [7]) (by kernel_rfl) (by simp) (AllReadyIn.cons (o := ao7) rfl (fun K hK => ?_) AllReadyIn.nil)
        rw [if_pos (by rfl)]
        refine wpIn_append_run v6 w' _ _ 53 rfl _ _ _ rfl rfl hrun ?_
        refine hK _ _ ?_
        clear hK K
        refine wpAnyIn_ready (rs := [8]) (by kernel_rfl) (by simp) (AllReadyIn.cons (o := ao8) rfl (fun K hK => ?_) AllReadyIn.nil)
        (try simp only [ao7, ao8])
        go_simp
        refine hK _ _ ?_
        clear hK K
        refine wpAnyIn_done (by kernel_rfl) ?_ _
        gi_wp2
        exact QF
       ·(try simp only [ao4])
        go_simp
        refine hK _ _ ?_
        clear hK K
        refine wpAnyIn_ready (rs := [2]) (by kernel_rfl) (by simp) (AllReadyIn.cons (o := ao2) rfl (fun K hK => ?_) AllReadyIn.nil)
        (try simp only [ao2])
        go_simp
        refine hK _ _ ?_
        clear hK K
        refine wpAnyIn_ready (rs := [5]) (by kernel_rfl) (by simp) (AllReadyIn.cons (o := ao5) rfl (fun K hK => ?_) AllReadyIn.nil)
        (try simp only [ao5])
        go_simp
        refine hK _ _ ?_
        clear hK K
        obtain ⟨K5, A5, x5⟩ := L5.out
        clear L5
        refine wpAnyIn_ready (rs := [6]) (by kernel_rfl) (by simp) (AllReadyIn.cons (o := ao6) rfl (fun K hK => ?_) AllReadyIn.nil)
        (try simp only [ao6])
        go_simp
        refine ⟨trivial, ?_⟩
        gi_at_call 53
        refine (CallsIn.inRound l (callsIn_wide.2 (CU.out _ _ K5))).mono ?_
        rintro _ v6 ⟨r6, rfl, o6, b6⟩
        dsimp only
        refine hK _ _ ?_
        clear hK K
        obtain ⟨rad, rc, va, vc, w', rfl, x6, hrun, ⟨y1, y2⟩, QF⟩ := L67.out v6 r6 (A5.trans (b6.mono A5.size)) (BytesAt.own o6)
        clear b6 o6 K5 A5 x5
        refine wpAnyIn_ready (rs := [7]) (by kernel_rfl) (by simp) (AllReadyIn.cons (o := ao7) rfl (fun K hK => ?_) AllReadyIn.nil)
        rw [if_pos (by rfl)]
        refine wpIn_append_run v6 w' _ _ 53 rfl _ _ _ rfl rfl hrun ?_
        refine hK _ _ ?_
        clear hK K
        refine wpAnyIn_ready (rs := [8]) (by kernel_rfl) (by simp) (AllReadyIn.cons (o := ao8) rfl (fun K hK => ?_) AllReadyIn.nil)
        (try simp only [ao7, ao8])
        go_simp
        refine hK _ _ ?_
        clear hK K
        refine wpAnyIn_done (by kernel_rfl) ?_ _
        gi_wp2
        exact QF
     ·(try simp only [ao2])
      go_simp
      refine hK _ _ ?_
      clear hK K
      refine wpAnyIn_ready (rs := [0, 3]) (by kernel_rfl) (by simp) ?_
      refine AllReadyIn.cons (o := ao0) rfl (fun K hK => ?_) (AllReadyIn.cons (o := ao3) rfl (fun K hK => ?_) (AllReadyIn.nil))
      ·(try simp only [ao0])
       go_simp
       refine hK _ _ ?_
       clear hK K
       refine wpAnyIn_ready (rs := [3]) (by kernel_rfl) (by simp) (AllReadyIn.cons (o := ao3) rfl (fun K hK => ?_) AllReadyIn.nil)
       (try simp only [ao3])
       go_simp
       refine hK _ _ ?_
       clear hK K
       refine wpAnyIn_ready (rs := [4]) (by kernel_rfl) (by simp) (AllReadyIn.cons (o := ao4) rfl (fun K hK => ?_) AllReadyIn.nil)
       (try simp only [ao4])
       go_simp
       refine hK _ _ ?_
       clear hK K
       refine wpAnyIn_ready (rs := [5]) (by kernel_rfl) (by simp) (AllReadyIn.cons (o := ao5) rfl (fun K hK => ?_) AllReadyIn.nil)
       (try simp only [ao5])
       go_simp
       refine hK _ _ ?_
       clear hK K
       obtain ⟨K5, A5, x5⟩ := L5.out
       clear L5
       refine wpAnyIn_ready (rs := [6]) (by kernel_rfl) (by simp) (AllReadyIn.cons (o := ao6) rfl (fun K hK => ?_) AllReadyIn.nil)
       (try simp only [ao6])
       go_simp
       refine ⟨trivial, ?_⟩
       gi_at_call 53
       refine (CallsIn.inRound l (callsIn_wide.2 (CU.out _ _ K5))).mono ?_
       rintro _ v6 ⟨r6, rfl, o6, b6⟩
       dsimp only
       refine hK _ _ ?_
       clear hK K
       obtain ⟨rad, rc, va, vc, w', rfl, x6, hrun, ⟨y1, y2⟩, QF⟩ := L67.out v6 r6 (A5.trans (b6.mono A5.size)) (BytesAt.own o6)
       clear b6 o6 K5 A5 x5
       refine wpAnyIn_ready (rs := [7]) (by kernel_rfl) (by simp) (AllReadyIn.cons (o := ao7) rfl (fun K hK => ?_) AllReadyIn.nil)
       rw [if_pos (by rfl)]
       refine wpIn_append_run v6 w' _ _ 53 rfl _ _ _ rfl rfl hrun ?_
       refine hK _ _ ?_
       clear hK K
       refine wpAnyIn_ready (rs := [8]) (by kernel_rfl) (by simp) (AllReadyIn.cons (o := ao8) rfl (fun K hK => ?_) AllReadyIn.nil)
       (try simp only [ao7, ao8])
       go_simp
       refine hK _ _ ?_
       clear hK K
       refine wpAnyIn_done (by kernel_rfl) ?_ _
       gi_wp2
       exact QF
      ·(try simp only [ao3])
       go_simp
       refine hK _ _ ?_
       clear hK K
       refine wpAnyIn_ready (rs := [0, 4]) (by kernel_rfl) (by simp) ?_
       refine AllReadyIn.cons (o := ao0) rfl (fun K hK => ?_) (AllReadyIn.cons (o := ao4) rfl (fun K hK => ?_) (AllReadyIn.nil))
       ·(try simp only [ao0])
        go_simp
        refine hK _ _ ?_
        clear hK K
        refine wpAnyIn_ready (rs := [4]) (by kernel_rfl) (by simp) (AllReadyIn.cons (o := ao4) rfl (fun K hK => ?_) AllReadyIn.nil)
        (try simp only [ao4])
        go_simp
        refine hK _ _ ?_
        clear hK K
        refine wpAnyIn_ready (rs := [5]) (by kernel_rfl) (by simp) (AllReadyIn.cons (o := ao5) rfl (fun K hK => ?_) AllReadyIn.nil)
        (try simp only [ao5])
        go_simp
        refine hK _ _ ?_
        clear hK K
        obtain ⟨K5, A5, x5⟩ := L5.out
        clear L5
        refine wpAnyIn_ready (rs := [6]) (by kernel_rfl) (by simp) (AllReadyIn.cons (o := ao6) rfl (fun K hK => ?_) AllReadyIn.nil)
        (try simp only [ao6])
        go_simp
        refine ⟨trivial, ?_⟩
        gi_at_call 53
        refine (CallsIn.inRound l (callsIn_wide.2 (CU.out _ _ K5))).mono ?_
        rintro _ v6 ⟨r6, rfl, o6, b6⟩
        dsimp only
        refine hK _ _ ?_
        clear hK K
        obtain ⟨rad, rc, va, vc, w', rfl, x6, hrun, ⟨y1, y2⟩, QF⟩ := L67.out v6 r6 (A5.trans (b6.mono A5.size)) (BytesAt.own o6)
        clear b6 o6 K5 A5 x5
        refine wpAnyIn_ready (rs := [7]) (by kernel_rfl) (by simp) (AllReadyIn.cons (o := ao7) rfl (fun K hK => ?_) AllReadyIn.nil)
        rw [if_pos (by rfl)]
        refine wpIn_append_run v6 w' _ _ 53 rfl _ _ _ rfl rfl hrun ?_
        refine hK _ _ ?_
        clear hK K
        refine wpAnyIn_ready (rs := [8]) (by kernel_rfl) (by simp) (AllReadyIn.cons (o := ao8) rfl (fun K hK => ?_) AllReadyIn.nil)
        (try simp only [ao7, ao8])
        go_simp
        refine hK _ _ ?_
        clear hK K
        refine wpAnyIn_done (by kernel_rfl) ?_ _
        gi_wp2
        exact QF
       ·(try simp only [ao4])
        go_simp
        refine hK _ _ ?_
        clear hK K
        refine wpAnyIn_ready (rs := [0, 5]) (by kernel_rfl) (by simp) ?_
        refine AllReadyIn.cons (o := ao0) rfl (fun K hK => ?_) (AllReadyIn.cons (o := ao5) rfl (fun K hK => ?_) (AllReadyIn.nil))
        ·(try simp only [ao0])
         go_simp
         refine hK _ _ ?_
         clear hK K
         refine wpAnyIn_ready (rs := [5]) (by kernel_rfl) (by simp) (AllReadyIn.cons (o := ao5) rfl (fun K hK => ?_) AllReadyIn.nil)
         (try simp only [ao5])
         go_simp
         refine hK _ _ ?_
         clear hK K
         obtain ⟨K5, A5, x5⟩ := L5.out
         clear L5
         refine wpAnyIn_ready (rs := [6]) (by kernel_rfl) (by simp) (AllReadyIn.cons (o := ao6) rfl (fun K hK => ?_) AllReadyIn.nil)
         (try simp only [ao6])
         go_simp
         refine ⟨trivial, ?_⟩
         gi_at_call 53
         refine (CallsIn.inRound l (callsIn_wide.2 (CU.out _ _ K5))).mono ?_
         rintro _ v6 ⟨r6, rfl, o6, b6⟩
         dsimp only
         refine hK _ _ ?_
         clear hK K
         obtain ⟨rad, rc, va, vc, w', rfl, x6, hrun, ⟨y1, y2⟩, QF⟩ := L67.out v6 r6 (A5.trans (b6.mono A5.size)) (BytesAt.own o6)
         clear b6 o6 K5 A5 x5
         refine wpAnyIn_ready (rs := [7]) (by kernel_rfl) (by simp) (AllReadyIn.cons (o := ao7) rfl (fun K hK => ?_) AllReadyIn.nil)
         rw [if_pos (by rfl)]
         refine wpIn_append_run v6 w' _ _ 53 rfl _ _ _ rfl rfl hrun ?_
         refine hK _ _ ?_
         clear hK K
         refine wpAnyIn_ready (rs := [8]) (by kernel_rfl) (by simp) (AllReadyIn.cons (o := ao8) rfl (fun K hK => ?_) AllReadyIn.nil)
         (try simp only [ao7, ao8])
         go_simp
         refine hK _ _ ?_
         clear hK K
         refine wpAnyIn_done (by kernel_rfl) ?_ _
         gi_wp2
         exact QF
        ·(try simp only [ao5])
         go_simp
         refine hK _ _ ?_
         clear hK K
         obtain ⟨K5, A5, x5⟩ := L5.out
         clear L5
         refine wpAnyIn_ready (rs := [0, 6]) (by kernel_rfl) (by simp) ?_
         refine AllReadyIn.cons (o := ao0) rfl (fun K hK => ?_) (AllReadyIn.cons (o := ao6) rfl (fun K hK => ?_) (AllReadyIn.nil))
         ·(try simp only [ao0])
          go_simp
          refine hK _ _ ?_
          clear hK K
          refine wpAnyIn_ready (rs := [6]) (by kernel_rfl) (by simp) (AllReadyIn.cons (o := ao6) rfl (fun K hK => ?_) AllReadyIn.nil)
          (try simp only [ao6])
          go_simp
          refine ⟨trivial, ?_⟩
          gi_at_call 53
          refine (CallsIn.inRound l (callsIn_wide.2 (CU.out _ _ K5))).mono ?_
          rintro _ v6 ⟨r6, rfl, o6, b6⟩
          dsimp only
          refine hK _ _ ?_
          clear hK K
          obtain ⟨rad, rc, va, vc, w', rfl, x6, hrun, ⟨y1, y2⟩, QF⟩ := L67.out v6 r6 (A5.trans (b6.mono A5.size)) (BytesAt.own o6)
          clear b6 o6 K5 A5 x5
          refine wpAnyIn_ready (rs := [7]) (by kernel_rfl) (by simp) (AllReadyIn.cons (o := ao7) rfl (fun K hK => ?_) AllReadyIn.nil)
          rw [if_pos (by rfl)]
          refine wpIn_append_run v6 w' _ _ 53 rfl _ _ _ rfl rfl hrun ?_
          refine hK _ _ ?_
          clear hK K
          refine wpAnyIn_ready (rs := [8]) (by kernel_rfl) (by simp) (AllReadyIn.cons (o := ao8) rfl (fun K hK => ?_) AllReadyIn.nil)
          (try simp only [ao7, ao8])
          go_simp
          refine hK _ _ ?_
          clear hK K
          refine wpAnyIn_done (by kernel_rfl) ?_ _
          gi_wp2
          exact QF
         ·(try simp only [ao6])
          go_simp
          refine ⟨trivial, ?_⟩
          gi_at_call 53
          refine (CallsIn.inRound l (callsIn_wide.2 (CU.out _ _ K5))).mono ?_
          rintro _ v6 ⟨r6, rfl, o6, b6⟩
          dsimp only
          refine hK _ _ ?_
          clear hK K
          obtain ⟨rad, rc, va, vc, w', rfl, x6, hrun, ⟨y1, y2⟩, QF⟩ := L67.out v6 r6 (A5.trans (b6.mono A5.size)) (BytesAt.own o6)
          clear b6 o6 K5 A5 x5
          refine wpAnyIn_ready (rs := [0]) (by kernel_rfl) (by simp) (AllReadyIn.cons (o := ao0) rfl (fun K hK => ?_) AllReadyIn.nil)
          (try simp only [ao0])
          go_simp
          refine hK _ _ ?_
          clear hK K
          refine wpAnyIn_ready (rs := [7]) (by kernel_rfl) (by simp) (AllReadyIn.cons (o := ao7) rfl (fun K hK => ?_) AllReadyIn.nil)
          rw [if_pos (by rfl)]
          refine wpIn_append_run v6 w' _ _ 53 rfl _ _ _ rfl rfl hrun ?_
          refine hK _ _ ?_
          clear hK K
          refine wpAnyIn_ready (rs := [8]) (by kernel_rfl) (by simp) (AllReadyIn.cons (o := ao8) rfl (fun K hK => ?_) AllReadyIn.nil)
          (try simp only [ao7, ao8])
          go_simp
          refine hK _ _ ?_
          clear hK K
          refine wpAnyIn_done (by kernel_rfl) ?_ _
          gi_wp2
          exact QF
     ·(try simp only [ao3])
      go_simp
      refine hK _ _ ?_
      clear hK K
      refine wpAnyIn_ready (rs := [0, 2, 4]) (by kernel_rfl) (by simp) ?_
      refine AllReadyIn.cons (o := ao0) rfl (fun K hK => ?_) (AllReadyIn.cons (o := ao2) rfl (fun K hK => ?_) (AllReadyIn.cons (o := ao4) rfl (fun K hK => ?_) (AllReadyIn.nil)))
      ·(try simp only [ao0])
       go_simp
       refine hK _ _ ?_
       clear hK K
       refine wpAnyIn_ready (rs := [2, 4]) (by kernel_rfl) (by simp) ?_
       refine AllReadyIn.cons (o := ao2) rfl (fun K hK => ?_) (AllReadyIn.cons (o := ao4) rfl (fun K hK => ?_) (AllReadyIn.nil))
       ·(try simp only [ao2])
        go_simp
        refine hK _ _ ?_
        clear hK K
        refine wpAnyIn_ready (rs := [4]) (by kernel_rfl) (by simp) (AllReadyIn.cons (o := ao4) rfl (fun K hK => ?_) AllReadyIn.nil)
        (try simp only [ao4])
        go_simp
        refine hK _ _ ?_
        clear hK K
        refine wpAnyIn_ready (rs := [5]) (by kernel_rfl) (by simp) (AllReadyIn.cons (o := ao5) rfl (fun K hK => ?_) AllReadyIn.nil)
        (try simp only [ao5])
        go_simp
        refine hK _ _ ?_
        clear hK K
        obtain ⟨K5, A5, x5⟩ := L5.out
        clear L5
        refine wpAnyIn_ready (rs := [6]) (by kernel_rfl) (by simp) (AllReadyIn.cons (o := ao6) rfl (fun K hK => ?_) AllReadyIn.nil)
        (try simp only [ao6])
        go_simp
        refine ⟨trivial, ?_⟩
        gi_at_call 53
        refine (CallsIn.inRound l (callsIn_wide.2 (CU.out _ _ K5))).mono ?_
        rintro _ v6 ⟨r6, rfl, o6, b6⟩
        dsimp only
        refine hK _ _ ?_
        clear hK K
        obtain ⟨rad, rc, va, vc, w', rfl, x6, hrun, ⟨y1, y2⟩, QF⟩ := L67.out v6 r6 (A5.trans (b6.mono A5.size)) (BytesAt.own o6)
        clear b6 o6 K5 A5 x5
        refine wpAnyIn_ready (rs := [7]) (by kernel_rfl) (by simp) (AllReadyIn.cons (o := ao7) rfl (fun K hK => ?_) AllReadyIn.nil)
        rw [if_pos (by rfl)]
        refine wpIn_append_run v6 w' _ _ 53 rfl _ _ _ rfl rfl hrun ?_
        refine hK _ _ ?_
        clear hK K
        refine wpAnyIn_ready (rs := [8]) (by kernel_rfl) (by simp) (AllReadyIn.cons (o := ao8) rfl (fun K hK => ?_) AllReadyIn.nil)
        (try simp only [ao7, ao8])
        go_simp
        refine hK _ _ ?_
        clear hK K
        refine wpAnyIn_done (by kernel_rfl) ?_ _
        gi_wp2
        exact QF
       ·(try simp only [ao4])
        go_simp
        refine hK _ _ ?_
        clear hK K
        refine wpAnyIn_ready (rs := [2]) (by kernel_rfl) (by simp) (AllReadyIn.cons (o := ao2) rfl (fun K hK => ?_) AllReadyIn.nil)
        (try simp only [ao2])
        go_simp
        refine hK _ _ ?_
        clear hK K
        refine wpAnyIn_ready (rs := [5]) (by kernel_rfl) (by simp) (AllReadyIn.cons (o := ao5) rfl (fun K hK => ?_) AllReadyIn.nil)
        (try simp only [ao5])
        go_simp
        refine hK _ _ ?_
        clear hK K
        obtain ⟨K5, A5, x5⟩ := L5.out
        clear L5
        refine wpAnyIn_ready (rs := [6]) (by kernel_rfl) (by simp) (AllReadyIn.cons (o := ao6) rfl (fun K hK => ?_) AllReadyIn.nil)
        (try simp only [ao6])
        go_simp
        refine ⟨trivial, ?_⟩
        gi_at_call 53
        refine (CallsIn.inRound l (callsIn_wide.2 (CU.out _ _ K5))).mono ?_
        rintro _ v6 ⟨r6, rfl, o6, b6⟩
        dsimp only
        refine hK _ _ ?_
        clear hK K
        obtain ⟨rad, rc, va, vc, w', rfl, x6, hrun, ⟨y1, y2⟩, QF⟩ := L67.out v6 r6 (A5.trans (b6.mono A5.size)) (BytesAt.own o6)
        clear b6 o6 K5 A5 x5
        refine wpAnyIn_ready (rs := [7]) (by kernel_rfl) (by simp) (AllReadyIn.cons (o := ao7) rfl (fun K hK => ?_) AllReadyIn.nil)
        rw [if_pos (by rfl)]
        refine wpIn_append_run v6 w' _ _ 53 rfl _ _ _ rfl rfl hrun ?_
        refine hK _ _ ?_
        clear hK K
        refine wpAnyIn_ready (rs := [8]) (by kernel_rfl) (by simp) (AllReadyIn.cons (o := ao8) rfl (fun K hK => ?_) AllReadyIn.nil)
        (try simp only [ao7, ao8])
        go_simp
        refine hK _ _ ?_
        clear hK K
        refine wpAnyIn_done (by kernel_rfl) ?_ _
        gi_wp2
        exact QF
      ·(try simp only [ao2])
       go_simp
       refine hK _ _ ?_
       clear hK K
       refine wpAnyIn_ready (rs := [0, 4]) (by kernel_rfl) (by simp) ?_
       refine AllReadyIn.cons (o := ao0) rfl (fun K hK => ?_) (AllReadyIn.cons (o := ao4) rfl (fun K hK => ?_) (AllReadyIn.nil))
       ·(try simp only [ao0])
        go_simp
        refine hK _ _ ?_
        clear hK K
        refine wpAnyIn_ready (rs := [4]) (by kernel_rfl) (by simp) (AllReadyIn.cons (o := ao4) rfl (fun K hK => ?_) AllReadyIn.nil)
        (try simp only [ao4])
        go_simp
        refine hK _ _ ?_
        clear hK K
        refine wpAnyIn_ready (rs := [5]) (by kernel_rfl) (by simp) (AllReadyIn.cons (o := ao5) rfl (fun K hK => ?_) AllReadyIn.nil)
        (try simp only [ao5])
        go_simp
        refine hK _ _ ?_
        clear hK K
        obtain ⟨K5, A5, x5⟩ := L5.out
        clear L5
        refine wpAnyIn_ready (rs := [6]) (by kernel_rfl) (by simp) (AllReadyIn.cons (o := ao6) rfl (fun K hK => ?_) AllReadyIn.nil)
        (try simp only [ao6])
        go_simp
        refine ⟨trivial, ?_⟩
        gi_at_call 53
        refine (CallsIn.inRound l (callsIn_wide.2 (CU.out _ _ K5))).mono ?_
        rintro _ v6 ⟨r6, rfl, o6, b6⟩
        dsimp only
        refine hK _ _ ?_
        clear hK K
        obtain ⟨rad, rc, va, vc, w', rfl, x6, hrun, ⟨y1, y2⟩, QF⟩ := L67.out v6 r6 (A5.trans (b6.mono A5.size)) (BytesAt.own o6)
        clear b6 o6 K5 A5 x5
        refine wpAnyIn_ready (rs := [7]) (by kernel_rfl) (by simp) (AllReadyIn.cons (o := ao7) rfl (fun K hK => ?_) AllReadyIn.nil)
        rw [if_pos (by rfl)]
        refine wpIn_append_run v6 w' _ _ 53 rfl _ _ _ rfl rfl hrun ?_
        refine hK _ _ ?_
        clear hK K
        refine wpAnyIn_ready (rs := [8]) (by kernel_rfl) (by simp) (AllReadyIn.cons (o := ao8) rfl (fun K hK => ?_) AllReadyIn.nil)
        (try simp only [ao7, ao8])
        go_simp
        refine hK _ _ ?_
        clear hK K
        refine wpAnyIn_done (by kernel_rfl) ?_ _
        gi_wp2
        exact QF
       ·(try simp only [ao4])
        go_simp
        refine hK _ _ ?_
        clear hK K
        refine wpAnyIn_ready (rs := [0, 5]) (by kernel_rfl) (by simp) ?_
        refine AllReadyIn.cons (o := ao0) rfl (fun K hK => ?_) (AllReadyIn.cons (o := ao5) rfl (fun K hK => ?_) (AllReadyIn.nil))
        ·(try simp only [ao0])
         go_simp
         refine hK _ _ ?_
         clear hK K
         refine wpAnyIn_ready (rs := [5]) (by kernel_rfl) (by simp) (AllReadyIn.cons (o := ao5) rfl (fun K hK => ?_) AllReadyIn.nil)
         (try simp only [ao5])
         go_simp
         refine hK _ _ ?_
         clear hK K
         obtain ⟨K5, A5, x5⟩ := L5.out
         clear L5
         refine wpAnyIn_ready (rs := [6]) (by kernel_rfl) (by simp) (AllReadyIn.cons (o := ao6) rfl (fun K hK => ?_) AllReadyIn.nil)
         (try simp only [ao6])
         go_simp
         refine ⟨trivial, ?_⟩
         gi_at_call 53
         refine (CallsIn.inRound l (callsIn_wide.2 (CU.out _ _ K5))).mono ?_
         rintro _ v6 ⟨r6, rfl, o6, b6⟩
         dsimp only
         refine hK _ _ ?_
         clear hK K
         obtain ⟨rad, rc, va, vc, w', rfl, x6, hrun, ⟨y1, y2⟩, QF⟩ := L67.out v6 r6 (A5.trans (b6.mono A5.size)) (BytesAt.own o6)
         clear b6 o6 K5 A5 x5
         refine wpAnyIn_ready (rs := [7]) (by kernel_rfl) (by simp) (AllReadyIn.cons (o := ao7) rfl (fun K hK => ?_) AllReadyIn.nil)
         rw [if_pos (by rfl)]
         refine wpIn_append_run v6 w' _ _ 53 rfl _ _ _ rfl rfl hrun ?_
         refine hK _ _ ?_
         clear hK K
         refine wpAnyIn_ready (rs := [8]) (by kernel_rfl) (by simp) (AllReadyIn.cons (o := ao8) rfl (fun K hK => ?_) AllReadyIn.nil)
         (try simp only [ao7, ao8])
         go_simp
         refine hK _ _ ?_
         clear hK K
         refine wpAnyIn_done (by kernel_rfl) ?_ _
         gi_wp2
         exact QF
        ·(try simp only [ao5])
         go_simp
         refine hK _ _ ?_
         clear hK K
         obtain ⟨K5, A5, x5⟩ := L5.out
         clear L5
         refine wpAnyIn_ready (rs := [0, 6]) (by kernel_rfl) (by simp) ?_
         refine AllReadyIn.cons (o := ao0) rfl (fun K hK => ?_) (AllReadyIn.cons (o := ao6) rfl (fun K hK => ?_) (AllReadyIn.nil))
         ·(try simp only [ao0])
          go_simp
          refine hK _ _ ?_
          clear hK K
          refine wpAnyIn_ready (rs := [6]) (by kernel_rfl) (by simp) (AllReadyIn.cons (o := ao6) rfl (fun K hK => ?_) AllReadyIn.nil)
          (try simp only [ao6])
          go_simp
          refine ⟨trivial, ?_⟩
          gi_at_call 53
          refine (CallsIn.inRound l (callsIn_wide.2 (CU.out _ _ K5))).mono ?_
          rintro _ v6 ⟨r6, rfl, o6, b6⟩
          dsimp only
          refine hK _ _ ?_
          clear hK K
          obtain ⟨rad, rc, va, vc, w', rfl, x6, hrun, ⟨y1, y2⟩, QF⟩ := L67.out v6 r6 (A5.trans (b6.mono A5.size)) (BytesAt.own o6)
          clear b6 o6 K5 A5 x5
          refine wpAnyIn_ready (rs := [7]) (by kernel_rfl) (by simp) (AllReadyIn.cons (o := ao7) rfl (fun K hK => ?_) AllReadyIn.nil)
          rw [if_pos (by rfl)]
          refine wpIn_append_run v6 w' _ _ 53 rfl _ _ _ rfl rfl hrun ?_
          refine hK _ _ ?_
          clear hK K
          refine wpAnyIn_ready (rs := [8]) (by kernel_rfl) (by simp) (AllReadyIn.cons (o := ao8) rfl (fun K hK => ?_) AllReadyIn.nil)
          (try simp only [ao7, ao8])
          go_simp
          refine hK _ _ ?_
          clear hK K
          refine wpAnyIn_done (by kernel_rfl) ?_ _
          gi_wp2
          exact QF
         ·(try simp only [ao6])
          go_simp
          refine ⟨trivial, ?_⟩
          gi_at_call 53
          refine (CallsIn.inRound l (callsIn_wide.2 (CU.out _ _ K5))).mono ?_
          rintro _ v6 ⟨r6, rfl, o6, b6⟩
          dsimp only
          refine hK _ _ ?_
          clear hK K
          obtain ⟨rad, rc, va, vc, w', rfl, x6, hrun, ⟨y1, y2⟩, QF⟩ := L67.out v6 r6 (A5.trans (b6.mono A5.size)) (BytesAt.own o6)
          clear b6 o6 K5 A5 x5
          refine wpAnyIn_ready (rs := [0]) (by kernel_rfl) (by simp) (AllReadyIn.cons (o := ao0) rfl (fun K hK => ?_) AllReadyIn.nil)
          (try simp only [ao0])
          go_simp
          refine hK _ _ ?_
          clear hK K
          refine wpAnyIn_ready (rs := [7]) (by kernel_rfl) (by simp) (AllReadyIn.cons (o := ao7) rfl (fun K hK => ?_) AllReadyIn.nil)
          rw [if_pos (by rfl)]
          refine wpIn_append_run v6 w' _ _ 53 rfl _ _ _ rfl rfl hrun ?_
          refine hK _ _ ?_
          clear hK K
          refine wpAnyIn_ready (rs := [8]) (by kernel_rfl) (by simp) (AllReadyIn.cons (o := ao8) rfl (fun K hK => ?_) AllReadyIn.nil)
          (try simp only [ao7, ao8])
          go_simp
          refine hK _ _ ?_
          clear hK K
          refine wpAnyIn_done (by kernel_rfl) ?_ _
          gi_wp2
          exact QF
      ·(try simp only [ao4])
       go_simp
       refine hK _ _ ?_
       clear hK K
       refine wpAnyIn_ready (rs := [0, 2]) (by kernel_rfl) (by simp) ?_
       refine AllReadyIn.cons (o := ao0) rfl (fun K hK => ?_) (AllReadyIn.cons (o := ao2) rfl (fun K hK => ?_) (AllReadyIn.nil))
       ·(try simp only [ao0])
        go_simp
        refine hK _ _ ?_
        clear hK K
        refine wpAnyIn_ready (rs := [2]) (by kernel_rfl) (by simp) (AllReadyIn.cons (o := ao2) rfl (fun K hK => ?_) AllReadyIn.nil)
        (try simp only [ao2])
        go_simp
        refine hK _ _ ?_
        clear hK K
        refine wpAnyIn_ready (rs := [5]) (by kernel_rfl) (by simp) (AllReadyIn.cons (o := ao5) rfl (fun K hK => ?_) AllReadyIn.nil)
        (try simp only [ao5])
        go_simp
        refine hK _ _ ?_
        clear hK K
        obtain ⟨K5, A5, x5⟩ := L5.out
        clear L5
        refine wpAnyIn_ready (rs := [6]) (by kernel_rfl) (by simp) (AllReadyIn.cons (o := ao6) rfl (fun K hK => ?_) AllReadyIn.nil)
        (try simp only [ao6])
        go_simp
        refine ⟨trivial, ?_⟩
        gi_at_call 53
        refine (CallsIn.inRound l (callsIn_wide.2 (CU.out _ _ K5))).mono ?_
        rintro _ v6 ⟨r6, rfl, o6, b6⟩
        dsimp only
        refine hK _ _ ?_
        clear hK K
        obtain ⟨rad, rc, va, vc, w', rfl, x6, hrun, ⟨y1, y2⟩, QF⟩ := L67.out v6 r6 (A5.trans (b6.mono A5.size)) (BytesAt.own o6)
        clear b6 o6 K5 A5 x5
        refine wpAnyIn_ready (rs := [7]) (by kernel_rfl) (by simp) (AllReadyIn.cons (o := ao7) rfl (fun K hK => ?_) AllReadyIn.nil)
        rw [if_pos (by rfl)]
        refine wpIn_append_run v6 w' _ _ 53 rfl _ _ _ rfl rfl hrun ?_
        refine hK _ _ ?_
        clear hK K
        refine wpAnyIn_ready (rs := [8]) (by kernel_rfl) (by simp) (AllReadyIn.cons (o := ao8) rfl (fun K hK => ?_) AllReadyIn.nil)
        (try simp only [ao7, ao8])
        go_simp
        refine hK _ _ ?_
        clear hK K
        refine wpAnyIn_done (by kernel_rfl) ?_ _
        gi_wp2
        exact QF
       ·(try simp only [ao2])
        go_simp
        refine hK _ _ ?_
        clear hK K
        refine wpAnyIn_ready (rs := [0, 5]) (by kernel_rfl) (by simp) ?_
        refine AllReadyIn.cons (o := ao0) rfl (fun K hK => ?_) (AllReadyIn.cons (o := ao5) rfl (fun K hK => ?_) (AllReadyIn.nil))
        ·(try simp only [ao0])
         go_simp
         refine hK _ _ ?_
         clear hK K
         refine wpAnyIn_ready (rs := [5]) (by kernel_rfl) (by simp) (AllReadyIn.cons (o := ao5) rfl (fun K hK => ?_) AllReadyIn.nil)
         (try simp only [ao5])
         go_simp
         refine hK _ _ ?_
         clear hK K
         obtain ⟨K5, A5, x5⟩ := L5.out
         clear L5
         refine wpAnyIn_ready (rs := [6]) (by kernel_rfl) (by simp) (AllReadyIn.cons (o := ao6) rfl (fun K hK => ?_) AllReadyIn.nil)
         (try simp only [ao6])
         go_simp
         refine ⟨trivial, ?_⟩
         gi_at_call 53
         refine (CallsIn.inRound l (callsIn_wide.2 (CU.out _ _ K5))).mono ?_
         rintro _ v6 ⟨r6, rfl, o6, b6⟩
         dsimp only
         refine hK _ _ ?_
         clear hK K
         obtain ⟨rad, rc, va, vc, w', rfl, x6, hrun, ⟨y1, y2⟩, QF⟩ := L67.out v6 r6 (A5.trans (b6.mono A5.size)) (BytesAt.own o6)
         clear b6 o6 K5 A5 x5
         refine wpAnyIn_ready (rs := [7]) (by kernel_rfl) (by simp) (AllReadyIn.cons (o := ao7) rfl (fun K hK => ?_) AllReadyIn.nil)
         rw [if_pos (by rfl)]
         refine wpIn_append_run v6 w' _ _ 53 rfl _ _ _ rfl rfl hrun ?_
         refine hK _ _ ?_
         clear hK K
         refine wpAnyIn_ready (rs := [8]) (by kernel_rfl) (by simp) (AllReadyIn.cons (o := ao8) rfl (fun K hK => ?_) AllReadyIn.nil)
         (try simp only [ao7, ao8])
         go_simp
         refine hK _ _ ?_
         clear hK K
         refine wpAnyIn_done (by kernel_rfl) ?_ _
         gi_wp2
         exact QF
        ·(try simp only [ao5])
         go_simp
         refine hK _ _ ?_
         clear hK K
         obtain ⟨K5, A5, x5⟩ := L5.out
         clear L5
         refine wpAnyIn_ready (rs := [0, 6]) (by kernel_rfl) (by simp) ?_
         refine AllReadyIn.cons (o := ao0) rfl (fun K hK => ?_) (AllReadyIn.cons (o := ao6) rfl (fun K hK => ?_) (AllReadyIn.nil))
         ·(try simp only [ao0])
          go_simp
          refine hK _ _ ?_
          clear hK K
          refine wpAnyIn_ready (rs := [6]) (by kernel_rfl) (by simp) (AllReadyIn.cons (o := ao6) rfl (fun K hK => ?_) AllReadyIn.nil)
          (try simp only [ao6])
          go_simp
          refine ⟨trivial, ?_⟩
          gi_at_call 53
          refine (CallsIn.inRound l (callsIn_wide.2 (CU.out _ _ K5))).mono ?_
          rintro _ v6 ⟨r6, rfl, o6, b6⟩
          dsimp only
          refine hK _ _ ?_
          clear hK K
          obtain ⟨rad, rc, va, vc, w', rfl, x6, hrun, ⟨y1, y2⟩, QF⟩ := L67.out v6 r6 (A5.trans (b6.mono A5.size)) (BytesAt.own o6)
          clear b6 o6 K5 A5 x5
          refine wpAnyIn_ready (rs := [7]) (by kernel_rfl) (by simp) (AllReadyIn.cons (o := ao7) rfl (fun K hK => ?_) AllReadyIn.nil)
          rw [if_pos (by rfl)]
          refine wpIn_append_run v6 w' _ _ 53 rfl _ _ _ rfl rfl hrun ?_
          refine hK _ _ ?_
          clear hK K
          refine wpAnyIn_ready (rs := [8]) (by kernel_rfl) (by simp) (AllReadyIn.cons (o := ao8) rfl (fun K hK => ?_) AllReadyIn.nil)
          (try simp only [ao7, ao8])
          go_simp
          refine hK _ _ ?_
          clear hK K
          refine wpAnyIn_done (by kernel_rfl) ?_ _
          gi_wp2
          exact QF
         ·(try simp only [ao6])
          go_simp
          refine ⟨trivial, ?_⟩
          gi_at_call 53
          refine (CallsIn.inRound l (callsIn_wide.2 (CU.out _ _ K5))).mono ?_
          rintro _ v6 ⟨r6, rfl, o6, b6⟩
          dsimp only
          refine hK _ _ ?_
          clear hK K
          obtain ⟨rad, rc, va, vc, w', rfl, x6, hrun, ⟨y1, y2⟩, QF⟩ := L67.out v6 r6 (A5.trans (b6.mono A5.size)) (BytesAt.own o6)
          clear b6 o6 K5 A5 x5
          refine wpAnyIn_ready (rs := [0]) (by kernel_rfl) (by simp) (AllReadyIn.cons (o := ao0) rfl (fun K hK => ?_) AllReadyIn.nil)
          (try simp only [ao0])
          go_simp
          refine hK _ _ ?_
          clear hK K
          refine wpAnyIn_ready (rs := [7]) (by kernel_rfl) (by simp) (AllReadyIn.cons (o := ao7) rfl (fun K hK => ?_) AllReadyIn.nil)
          rw [if_pos (by rfl)]
          refine wpIn_append_run v6 w' _ _ 53 rfl _ _ _ rfl rfl hrun ?_
          refine hK _ _ ?_
          clear hK K
          refine wpAnyIn_ready (rs := [8]) (by kernel_rfl) (by simp) (AllReadyIn.cons (o := ao8) rfl (fun K hK => ?_) AllReadyIn.nil)
          (try simp only [ao7, ao8])
          go_simp
          refine hK _ _ ?_
          clear hK K
          refine wpAnyIn_done (by kernel_rfl) ?_ _
          gi_wp2
          exact QF
    ·(try simp only [ao3])
     go_simp
     refine hK _ _ ?_
     clear hK K
     refine wpAnyIn_ready (rs := [0, 1, 4]) (by kernel_rfl) (by simp) ?_
     refine AllReadyIn.cons (o := ao0) rfl (fun K hK => ?_) (AllReadyIn.cons (o := ao1) rfl (fun K hK => ?_) (AllReadyIn.cons (o := ao4) rfl (fun K hK => ?_) (AllReadyIn.nil)))
     ·(try simp only [ao0])
      go_simp
      refine hK _ _ ?_
      clear hK K
      refine wpAnyIn_ready (rs := [1, 4]) (by kernel_rfl) (by simp) ?_
      refine AllReadyIn.cons (o := ao1) rfl (fun K hK => ?_) (AllReadyIn.cons (o := ao4) rfl (fun K hK => ?_) (AllReadyIn.nil))
      ·(try simp only [ao1])
       go_simp
       refine hK _ _ ?_
       clear hK K
       refine wpAnyIn_ready (rs := [2, 4]) (by kernel_rfl) (by simp) ?_
       refine AllReadyIn.cons (o := ao2) rfl (fun K hK => ?_) (AllReadyIn.cons (o := ao4) rfl (fun K hK => ?_) (AllReadyIn.nil))
       ·(try simp only [ao2])
        go_simp
        refine hK _ _ ?_
        clear hK K
        refine wpAnyIn_ready (rs := [4]) (by kernel_rfl) (by simp) (AllReadyIn.cons (o := ao4) rfl (fun K hK => ?_) AllReadyIn.nil)
        (try simp only [ao4])
        go_simp
        refine hK _ _ ?_
        clear hK K
        refine wpAnyIn_ready (rs := [5]) (by kernel_rfl) (by simp) (AllReadyIn.cons (o := ao5) rfl (fun K hK => ?_) AllReadyIn.nil)
        (try simp only [ao5])
        go_simp
        refine hK _ _ ?_
        clear hK K
        obtain ⟨K5, A5, x5⟩ := L5.out
        clear L5
        refine wpAnyIn_ready (rs := [6]) (by kernel_rfl) (by simp) (AllReadyIn.cons (o := ao6) rfl (fun K hK => ?_) AllReadyIn.nil)
        (try simp only [ao6])
        go_simp
        refine ⟨trivial, ?_⟩
        gi_at_call 53
        refine (CallsIn.inRound l (callsIn_wide.2 (CU.out _ _ K5))).mono ?_
        rintro _ v6 ⟨r6, rfl, o6, b6⟩
        dsimp only
        refine hK _ _ ?_
        clear hK K
        obtain ⟨rad, rc, va, vc, w', rfl, x6, hrun, ⟨y1, y2⟩, QF⟩ := L67.out v6 r6 (A5.trans (b6.mono A5.size)) (BytesAt.own o6)
        clear b6 o6 K5 A5 x5
        refine wpAnyIn_ready (rs := [7]) (by kernel_rfl) (by simp) (AllReadyIn.cons (o := ao7) rfl (fun K hK => ?_) AllReadyIn.nil)
        rw [if_pos (by rfl)]
        refine wpIn_append_run v6 w' _ _ 53 rfl _ _ _ rfl rfl hrun ?_
        refine hK _ _ ?_
        clear hK K
        refine wpAnyIn_ready (rs := [8]) (by kernel_rfl) (by simp) (AllReadyIn.cons (o := ao8) rfl (fun K hK => ?_) AllReadyIn.nil)
        (try simp only [ao7, ao8])
        go_simp
        refine hK _ _ ?_
        clear hK K
        refine wpAnyIn_done (by kernel_rfl) ?_ _
        gi_wp2
        exact QF
       ·(try simp only [ao4])
        go_simp
        refine hK _ _ ?_
        clear hK K
        refine wpAnyIn_ready (rs := [2]) (by kernel_rfl) (by simp) (AllReadyIn.cons (o := ao2) rfl (fun K hK => ?_) AllReadyIn.nil)
        (try simp only [ao2])
        go_simp
        refine hK _ _ ?_
        clear hK K
        refine wpAnyIn_ready (rs := [5]) (by kernel_rfl) (by simp) (AllReadyIn.cons (o := ao5) rfl (fun K hK => ?_) AllReadyIn.nil)
        (try simp only [ao5])
        go_simp
        refine hK _ _ ?_
        clear hK K
        obtain ⟨K5, A5, x5⟩ := L5.out
        clear L5
        refine wpAnyIn_ready (rs := [6]) (by kernel_rfl) (by simp) (AllReadyIn.cons (o := ao6) rfl (fun K hK => ?_) AllReadyIn.nil)
        (try simp only [ao6])
        go_simp
        refine ⟨trivial, ?_⟩
        gi_at_call 53
        refine (CallsIn.inRound l (callsIn_wide.2 (CU.out _ _ K5))).mono ?_
        rintro _ v6 ⟨r6, rfl, o6, b6⟩
        dsimp only
        refine hK _ _ ?_
        clear hK K
        obtain ⟨rad, rc, va, vc, w', rfl, x6, hrun, ⟨y1, y2⟩, QF⟩ := L67.out v6 r6 (A5.trans (b6.mono A5.size)) (BytesAt.own o6)
        clear b6 o6 K5 A5 x5
        refine wpAnyIn_ready (rs := [7]) (by kernel_rfl) (by simp) (AllReadyIn.cons (o := ao7) rfl (fun K hK => ?_) AllReadyIn.nil)
        rw [if_pos (by rfl)]
        refine wpIn_append_run v6 w' _ _ 53 rfl _ _ _ rfl rfl hrun ?_
        refine hK _ _ ?_
        clear hK K
        refine wpAnyIn_ready (rs := [8]) (by kernel_rfl) (by simp) (AllReadyIn.cons (o := ao8) rfl (fun K hK => ?_) AllReadyIn.nil)
        (try simp only [ao7, ao8])
        go_simp
        refine hK _ _ ?_
        clear hK K
        refine wpAnyIn_done (by kernel_rfl) ?_ _
        gi_wp2
        exact QF
      ·(try simp only [ao4])
       go_simp
       refine hK _ _ ?_
       clear hK K
       refine wpAnyIn_ready (rs := [1]) (by kernel_rfl) (by simp) (AllReadyIn.cons (o := ao1) rfl (fun K hK => ?_) AllReadyIn.nil)
       (try simp only [ao1])
       go_simp
       refine hK _ _ ?_
       clear hK K
       refine wpAnyIn_ready (rs := [2]) (by kernel_rfl) (by simp) (AllReadyIn.cons (o := ao2) rfl (fun K hK => ?_) AllReadyIn.nil)
       (try simp only [ao2])
       go_simp
       refine hK _ _ ?_
       clear hK K
       refine wpAnyIn_ready (rs := [5]) (by kernel_rfl) (by simp) (AllReadyIn.cons (o := ao5) rfl (fun K hK => ?_) AllReadyIn.nil)
       (try simp only [ao5])
       go_simp
       refine hK _ _ ?_
       clear hK K
       obtain ⟨K5, A5, x5⟩ := L5.out
       clear L5
       refine wpAnyIn_ready (rs := [6]) (by kernel_rfl) (by simp) (AllReadyIn.cons (o := ao6) rfl (fun K hK => ?_) AllReadyIn.nil)
       (try simp only [ao6])
       go_simp
       refine ⟨trivial, ?_⟩
       gi_at_call 53
       refine (CallsIn.inRound l (callsIn_wide.2 (CU.out _ _ K5))).mono ?_
       rintro _ v6 ⟨r6, rfl, o6, b6⟩
       dsimp only
       refine hK _ _ ?_
       clear hK K
       obtain ⟨rad, rc, va, vc, w', rfl, x6, hrun, ⟨y1, y2⟩, QF⟩ := L67.out v6 r6 (A5.trans (b6.mono A5.size)) (BytesAt.own o6)
       clear b6 o6 K5 A5 x5
       refine wpAnyIn_ready (rs := [7]) (by kernel_rfl) (by simp) (AllReadyIn.cons (o := ao7) rfl (fun K hK => ?_) AllReadyIn.nil)
       rw [if_pos (by rfl)]
       refine wpIn_append_run v6 w' _ _ 53 rfl _ _ _ rfl rfl hrun ?_
       refine hK _ _ ?_
       clear hK K
       refine wpAnyIn_ready (rs := [8]) (by kernel_rfl) (by simp) (AllReadyIn.cons (o := ao8) rfl (fun K hK => ?_) AllReadyIn.nil)
       (try simp only [ao7, ao8])
       go_simp
       refine hK _ _ ?_
       clear hK K
       refine wpAnyIn_done (by kernel_rfl) ?_ _
       gi_wp2
       exact QF
     ·(try simp only [ao1])
      go_simp
      refine hK _ _ ?_
      clear hK K
      refine wpAnyIn_ready (rs := [0, 2, 4]) (by kernel_rfl) (by simp) ?_
      refine AllReadyIn.cons (o := ao0) rfl (fun K hK => ?_) (AllReadyIn.cons (o := ao2) rfl (fun K hK => ?_) (AllReadyIn.cons (o := ao4) rfl (fun K hK => ?_) (AllReadyIn.nil)))
      ·(try simp only [ao0])
       go_simp
       refine hK _ _ ?_
       clear hK K
       refine wpAnyIn_ready (rs := [2, 4]) (by kernel_rfl) (by simp) ?_
       refine AllReadyIn.cons (o := ao2) rfl (fun K hK => ?_) (AllReadyIn.cons (o := ao4) rfl (fun K hK => ?_) (AllReadyIn.nil))
       ·(try simp only [ao2])
        go_simp
        refine hK _ _ ?_
        clear hK K
        refine wpAnyIn_ready (rs := [4]) (by kernel_rfl) (by simp) (AllReadyIn.cons (o := ao4) rfl (fun K hK => ?_) AllReadyIn.nil)
        (try simp only [ao4])
        go_simp
        refine hK _ _ ?_
        clear hK K
        refine wpAnyIn_ready (rs := [5]) (by kernel_rfl) (by simp) (AllReadyIn.cons (o := ao5) rfl (fun K hK => ?_) AllReadyIn.nil)
        (try simp only [ao5])
        go_simp
        refine hK _ _ ?_
        clear hK K
        obtain ⟨K5, A5, x5⟩ := L5.out
        clear L5
        refine wpAnyIn_ready (rs := [6]) (by kernel_rfl) (by simp) (AllReadyIn.cons (o := ao6) rfl (fun K hK => ?_) AllReadyIn.nil)
        (try simp only [ao6])
        go_simp
        refine ⟨trivial, ?_⟩
        gi_at_call 53
        refine (CallsIn.inRound l (callsIn_wide.2 (CU.out _ _ K5))).mono ?_
        rintro _ v6 ⟨r6, rfl, o6, b6⟩
        dsimp only
        refine hK _ _ ?_
        clear hK K
        obtain ⟨rad, rc, va, vc, w', rfl, x6, hrun, ⟨y1, y2⟩, QF⟩ := L67.out v6 r6 (A5.trans (b6.mono A5.size)) (BytesAt.own o6)
        clear b6 o6 K5 A5 x5
        refine wpAnyIn_ready (rs := [7]) (by kernel_rfl) (by simp) (AllReadyIn.cons (o := ao7) rfl (fun K hK => ?_) AllReadyIn.nil)
        rw [if_pos (by rfl)]
        refine wpIn_append_run v6 w' _ _ 53 rfl _ _ _ rfl rfl hrun ?_
        refine hK _ _ ?_
        clear hK K
        refine wpAnyIn_ready (rs := [8]) (by kernel_rfl) (by simp) (AllReadyIn.cons (o := ao8) rfl (fun K hK => ?_) AllReadyIn.nil)
        (try simp only [ao7, ao8])
        go_simp
        refine hK _ _ ?_
        clear hK K
        refine wpAnyIn_done (by kernel_rfl) ?_ _
        gi_wp2
        exact QF
       ·(try simp only [ao4])
        go_simp
        refine hK _ _ ?_
        clear hK K
        refine wpAnyIn_ready (rs := [2]) (by kernel_rfl) (by simp) (AllReadyIn.cons (o := ao2) rfl (fun K hK => ?_) AllReadyIn.nil)
        (try simp only [ao2])
        go_simp
        refine hK _ _ ?_
        clear hK K
        refine wpAnyIn_ready (rs := [5]) (by kernel_rfl) (by simp) (AllReadyIn.cons (o := ao5) rfl (fun K hK => ?_) AllReadyIn.nil)
        (try simp only [ao5])
        go_simp
        refine hK _ _ ?_
        clear hK K
        obtain ⟨K5, A5, x5⟩ := L5.out
        clear L5
        refine wpAnyIn_ready (rs := [6]) (by kernel_rfl) (by simp) (AllReadyIn.cons (o := ao6) rfl (fun K hK => ?_) AllReadyIn.nil)
        (try simp only [ao6])
        go_simp
        refine ⟨trivial, ?_⟩
        gi_at_call 53
        refine (CallsIn.inRound l (callsIn_wide.2 (CU.out _ _ K5))).mono ?_
        rintro _ v6 ⟨r6, rfl, o6, b6⟩
        dsimp only
        refine hK _ _ ?_
        clear hK K
        obtain ⟨rad, rc, va, vc, w', rfl, x6, hrun, ⟨y1, y2⟩, QF⟩ := L67.out v6 r6 (A5.trans (b6.mono A5.size)) (BytesAt.own o6)
        clear b6 o6 K5 A5 x5
        refine wpAnyIn_ready (rs := [7]) (by kernel_rfl) (by simp) (AllReadyIn.cons (o := ao7) rfl (fun K hK => ?_) AllReadyIn.nil)
        rw [if_pos (by rfl)]
        refine wpIn_append_run v6 w' _ _ 53 rfl _ _ _ rfl rfl hrun ?_
        refine hK _ _ ?_
        clear hK K
        refine wpAnyIn_ready (rs := [8]) (by kernel_rfl) (by simp) (AllReadyIn.cons (o := ao8) rfl (fun K hK => ?_) AllReadyIn.nil)
        (try simp only [ao7, ao8])
        go_simp
        refine hK _ _ ?_
        clear hK K
        refine wpAnyIn_done (by kernel_rfl) ?_ _
        gi_wp2
        exact QF
      ·(try simp only [ao2])
       go_simp
       refine hK _ _ ?_
       clear hK K
       refine wpAnyIn_ready (rs := [0, 4]) (by kernel_rfl) (by simp) ?_
       refine AllReadyIn.cons (o := ao0) rfl (fun K hK => ?_) (AllReadyIn.cons (o := ao4) rfl (fun K hK => ?_) (AllReadyIn.nil))
       ·(try simp only [ao0])
        go_simp
        refine hK _ _ ?_
        clear hK K
        refine wpAnyIn_ready (rs := [4]) (by kernel_rfl) (by simp) (AllReadyIn.cons (o := ao4) rfl (fun K hK => ?_) AllReadyIn.nil)
        (try simp only [ao4])
        go_simp
        refine hK _ _ ?_
        clear hK K
        refine wpAnyIn_ready (rs := [5]) (by kernel_rfl) (by simp) (AllReadyIn.cons (o := ao5) rfl (fun K hK => ?_) AllReadyIn.nil)
        (try simp only [ao5])
        go_simp
        refine hK _ _ ?_
        clear hK K
        obtain ⟨K5, A5, x5⟩ := L5.out
        clear L5
        refine wpAnyIn_ready (rs := [6]) (by kernel_rfl) (by simp) (AllReadyIn.cons (o := ao6) rfl (fun K hK => ?_) AllReadyIn.nil)
        (try simp only [ao6])
        go_simp
        refine ⟨trivial, ?_⟩
        gi_at_call 53
        refine (CallsIn.inRound l (callsIn_wide.2 (CU.out _ _ K5))).mono ?_
        rintro _ v6 ⟨r6, rfl, o6, b6⟩
        dsimp only
        refine hK _ _ ?_
        clear hK K
        obtain ⟨rad, rc, va, vc, w', rfl, x6, hrun, ⟨y1, y2⟩, QF⟩ := L67.out v6 r6 (A5.trans (b6.mono A5.size)) (BytesAt.own o6)
        clear b6 o6 K5 A5 x5
        refine wpAnyIn_ready (rs := [7]) (by kernel_rfl) (by simp) (AllReadyIn.cons (o := ao7) rfl (fun K hK => ?_) AllReadyIn.nil)
        rw [if_pos (by rfl)]
        refine wpIn_append_run v6 w' _ _ 53 rfl _ _ _ rfl rfl hrun ?_
        refine hK _ _ ?_
        clear hK K
        refine wpAnyIn_ready (rs := [8]) (by kernel_rfl) (by simp) (AllReadyIn.cons (o := ao8) rfl (fun K hK => ?_) AllReadyIn.nil)
        (try simp only [ao7, ao8])
        go_simp
        refine hK _ _ ?_
        clear hK K
        refine wpAnyIn_done (by kernel_rfl) ?_ _
        gi_wp2
        exact QF
       ·(try simp only [ao4])
        go_simp
        refine hK _ _ ?_
        clear hK K
        refine wpAnyIn_ready (rs := [0, 5]) (by kernel_rfl) (by simp) ?_
        refine AllReadyIn.cons (o := ao0) rfl (fun K hK => ?_) (AllReadyIn.cons (o := ao5) rfl (fun K hK => ?_) (AllReadyIn.nil))
        ·(try simp only [ao0])
         go_simp
         refine hK _ _ ?_
         clear hK K
         refine wpAnyIn_ready (rs := [5]) (by kernel_rfl) (by simp) (AllReadyIn.cons (o := ao5) rfl (fun K hK => ?_) AllReadyIn.nil)
         (try simp only [ao5])
         go_simp
         refine hK _ _ ?_
         clear hK K
         obtain ⟨K5, A5, x5⟩ := L5.out
         clear L5
         refine wpAnyIn_ready (rs := [6]) (by kernel_rfl) (by simp) (AllReadyIn.cons (o := ao6) rfl (fun K hK => ?_) AllReadyIn.nil)
         (try simp only [ao6])
         go_simp
         refine ⟨trivial, ?_⟩
         gi_at_call 53
         refine (CallsIn.inRound l (callsIn_wide.2 (CU.out _ _ K5))).mono ?_
         rintro _ v6 ⟨r6, rfl, o6, b6⟩
         dsimp only
         refine hK _ _ ?_
         clear hK K
         obtain ⟨rad, rc, va, vc, w', rfl, x6, hrun, ⟨y1, y2⟩, QF⟩ := L67.out v6 r6 (A5.trans (b6.mono A5.size)) (BytesAt.own o6)
         clear b6 o6 K5 A5 x5
         refine wpAnyIn_ready (rs := [7]) (by kernel_rfl) (by simp) (AllReadyIn.cons (o := ao7) rfl (fun K hK => ?_) AllReadyIn.nil)
         rw [if_pos (by rfl)]
         refine wpIn_append_run v6 w' _ _ 53 rfl _ _ _ rfl rfl hrun ?_
         refine hK _ _ ?_
         clear hK K
         refine wpAnyIn_ready (rs := [8]) (by kernel_rfl) (by simp) (AllReadyIn.cons (o := ao8) rfl (fun K hK => ?_) AllReadyIn.nil)
         (try simp only [ao7, ao8])
         go_simp
         refine hK _ _ ?_
         clear hK K
         refine wpAnyIn_done (by kernel_rfl) ?_ _
         gi_wp2
         exact QF
        ·(try simp only [ao5])
         go_simp
         refine hK _ _ ?_
         clear hK K
         obtain ⟨K5, A5, x5⟩ := L5.out
         clear L5
         refine wpAnyIn_ready (rs := [0, 6]) (by kernel_rfl) (by simp) ?_
         refine AllReadyIn.cons (o := ao0) rfl (fun K hK => ?_) (AllReadyIn.cons (o := ao6) rfl (fun K hK => ?_) (AllReadyIn.nil))
         ·(try simp only [ao0])
          go_simp
          refine hK _ _ ?_
          clear hK K
          refine wpAnyIn_ready (rs := [6]) (by kernel_rfl) (by simp) (AllReadyIn.cons (o := ao6) rfl (fun K hK => ?_) AllReadyIn.nil)
          (try simp only [ao6])
          go_simp
          refine ⟨trivial, ?_⟩
          gi_at_call 53
          refine (CallsIn.inRound l (callsIn_wide.2 (CU.out _ _ K5))).mono ?_
          rintro _ v6 ⟨r6, rfl, o6, b6⟩
          dsimp only
          refine hK _ _ ?_
          clear hK K
          obtain ⟨rad, rc, va, vc, w', rfl, x6, hrun, ⟨y1, y2⟩, QF⟩ := L67.out v6 r6 (A5.trans (b6.mono A5.size)) (BytesAt.own o6)
          clear b6 o6 K5 A5 x5
          refine wpAnyIn_ready (rs := [7]) (by kernel_rfl) (by simp) (AllReadyIn.cons (o := ao7) rfl (fun K hK => ?_) AllReadyIn.nil)
          rw [if_pos (by rfl)]
          refine wpIn_append_run v6 w' _ _ 53 rfl _ _ _ rfl rfl hrun ?_
          refine hK _ _ ?_
          clear hK K
          refine wpAnyIn_ready (rs := [8]) (by kernel_rfl) (by simp) (AllReadyIn.cons (o := ao8) rfl (fun K hK => ?_) AllReadyIn.nil)
          (try simp only [ao7, ao8])
          go_simp
          refine hK _ _ ?_
          clear hK K
          refine wpAnyIn_done (by kernel_rfl) ?_ _
          gi_wp2
          exact QF
         ·(try simp only [ao6])
          go_simp
          refine ⟨trivial, ?_⟩
          gi_at_call 53
          refine (CallsIn.inRound l (callsIn_wide.2 (CU.out _ _ K5))).mono ?_
          rintro _ v6 ⟨r6, rfl, o6, b6⟩
          dsimp only
          refine hK _ _ ?_
          clear hK K
          obtain ⟨rad, rc, va, vc, w', rfl, x6, hrun, ⟨y1, y2⟩, QF⟩ := L67.out v6 r6 (A5.trans (b6.mono A5.size)) (BytesAt.own o6)
          clear b6 o6 K5 A5 x5
          refine wpAnyIn_ready (rs := [0]) (by kernel_rfl) (by simp) (AllReadyIn.cons (o := ao0) rfl (fun K hK => ?_) AllReadyIn.nil)
          (try simp only [ao0])
          go_simp
          refine hK _ _ ?_
          clear hK K
          refine wpAnyIn_ready (rs := [7]) (by kernel_rfl) (by simp) (AllReadyIn.cons (o := ao7) rfl (fun K hK => ?_) AllReadyIn.nil)
          rw [if_pos (by rfl)]
          refine wpIn_append_run v6 w' _ _ 53 rfl _ _ _ rfl rfl hrun ?_
          refine hK _ _ ?_
          clear hK K
          refine wpAnyIn_ready (rs := [8]) (by kernel_rfl) (by simp) (AllReadyIn.cons (o := ao8) rfl (fun K hK => ?_) AllReadyIn.nil)
          (try simp only [ao7, ao8])
          go_simp
          refine hK _ _ ?_
          clear hK K
          refine wpAnyIn_done (by kernel_rfl) ?_ _
          gi_wp2
          exact QF
      ·(try simp only [ao4])
       go_simp
       refine hK _ _ ?_
       clear hK K
       refine wpAnyIn_ready (rs := [0, 2]) (by kernel_rfl) (by simp) ?_
       refine AllReadyIn.cons (o := ao0) rfl (fun K hK => ?_) (AllReadyIn.cons (o := ao2) rfl (fun K hK => ?_) (AllReadyIn.nil))
       ·(try simp only [ao0])
        go_simp
        refine hK _ _ ?_
        clear hK K
        refine wpAnyIn_ready (rs := [2]) (by kernel_rfl) (by simp) (AllReadyIn.cons (o := ao2) rfl (fun K hK => ?_) AllReadyIn.nil)
        (try simp only [ao2])
        go_simp
        refine hK _ _ ?_
        clear hK K
        refine wpAnyIn_ready (rs := [5]) (by kernel_rfl) (by simp) (AllReadyIn.cons (o := ao5) rfl (fun K hK => ?_) AllReadyIn.nil)
        (try simp only [ao5])
        go_simp
        refine hK _ _ ?_
        clear hK K
        obtain ⟨K5, A5, x5⟩ := L5.out
        clear L5
        refine wpAnyIn_ready (rs := [6]) (by kernel_rfl) (by simp) (AllReadyIn.cons (o := ao6) rfl (fun K hK => ?_) AllReadyIn.nil)
        (try simp only [ao6])
        go_simp
        refine ⟨trivial, ?_⟩
        gi_at_call 53
        refine (CallsIn.inRound l (callsIn_wide.2 (CU.out _ _ K5))).mono ?_
        rintro _ v6 ⟨r6, rfl, o6, b6⟩
        dsimp only
        refine hK _ _ ?_
        clear hK K
        obtain ⟨rad, rc, va, vc, w', rfl, x6, hrun, ⟨y1, y2⟩, QF⟩ := L67.out v6 r6 (A5.trans (b6.mono A5.size)) (BytesAt.own o6)
        clear b6 o6 K5 A5 x5
        refine wpAnyIn_ready (rs := [7]) (by kernel_rfl) (by simp) (AllReadyIn.cons (o := ao7) rfl (fun K hK => ?_) AllReadyIn.nil)
        rw [if_pos (by rfl)]
        refine wpIn_append_run v6 w' _ _ 53 rfl _ _ _ rfl rfl hrun ?_
        refine hK _ _ ?_
        clear hK K
        refine wpAnyIn_ready (rs := [8]) (by kernel_rfl) (by simp) (AllReadyIn.cons (o := ao8) rfl (fun K hK => ?_) AllReadyIn.nil)
        (try simp only [ao7, ao8])
        go_simp
        refine hK _ _ ?_
        clear hK K
        refine wpAnyIn_done (by kernel_rfl) ?_ _
        gi_wp2
        exact QF
       ·(try simp only [ao2])
        go_simp
        refine hK _ _ ?_
        clear hK K
        refine wpAnyIn_ready (rs := [0, 5]) (by kernel_rfl) (by simp) ?_
        refine AllReadyIn.cons (o := ao0) rfl (fun K hK => ?_) (AllReadyIn.cons (o := ao5) rfl (fun K hK => ?_) (AllReadyIn.nil))
        ·(try simp only [ao0])
         go_simp
         refine hK _ _ ?_
         clear hK K
         refine wpAnyIn_ready (rs := [5]) (by kernel_rfl) (by simp) (AllReadyIn.cons (o := ao5) rfl (fun K hK => ?_) AllReadyIn.nil)
         (try simp only [ao5])
         go_simp
         refine hK _ _ ?_
         clear hK K
         obtain ⟨K5, A5, x5⟩ := L5.out
         clear L5
         refine wpAnyIn_ready (rs := [6]) (by kernel_rfl) (by simp) (AllReadyIn.cons (o := ao6) rfl (fun K hK => ?_) AllReadyIn.nil)
         (try simp only [ao6])
         go_simp
         refine ⟨trivial, ?_⟩
         gi_at_call 53
         refine (CallsIn.inRound l (callsIn_wide.2 (CU.out _ _ K5))).mono ?_
         rintro _ v6 ⟨r6, rfl, o6, b6⟩
         dsimp only
         refine hK _ _ ?_
         clear hK K
         obtain ⟨rad, rc, va, vc, w', rfl, x6, hrun, ⟨y1, y2⟩, QF⟩ := L67.out v6 r6 (A5.trans (b6.mono A5.size)) (BytesAt.own o6)
         clear b6 o6 K5 A5 x5
         refine wpAnyIn_ready (rs := [7]) (by kernel_rfl) (by simp) (AllReadyIn.cons (o := ao7) rfl (fun K hK => ?_) AllReadyIn.nil)
         rw [if_pos (by rfl)]
         refine wpIn_append_run v6 w' _ _ 53 rfl _ _ _ rfl rfl hrun ?_
         refine hK _ _ ?_
         clear hK K
         refine wpAnyIn_ready (rs := [8]) (by kernel_rfl) (by simp) (AllReadyIn.cons (o := ao8) rfl (fun K hK => ?_) AllReadyIn.nil)
         (try simp only [ao7, ao8])
         go_simp
         refine hK _ _ ?_
         clear hK K
         refine wpAnyIn_done (by kernel_rfl) ?_ _
         gi_wp2
         exact QF
        ·(try simp only [ao5])
         go_simp
         refine hK _ _ ?_
         clear hK K
         obtain ⟨K5, A5, x5⟩ := L5.out
         clear L5
         refine wpAnyIn_ready (rs := [0, 6]) (by kernel_rfl) (by simp) ?_
         refine AllReadyIn.cons (o := ao0) rfl (fun K hK => ?_) (AllReadyIn.cons (o := ao6) rfl (fun K hK => ?_) (AllReadyIn.nil))
         ·(try simp only [ao0])
          go_simp
          refine hK _ _ ?_
          clear hK K
          refine wpAnyIn_ready (rs := [6]) (by kernel_rfl) (by simp) (AllReadyIn.cons (o := ao6) rfl (fun K hK => ?_) AllReadyIn.nil)
          (try simp only [ao6])
          go_simp
          refine ⟨trivial, ?_⟩
          gi_at_call 53
          refine (CallsIn.inRound l (callsIn_wide.2 (CU.out _ _ K5))).mono ?_
          rintro _ v6 ⟨r6, rfl, o6, b6⟩
          dsimp only
          refine hK _ _ ?_
          clear hK K
          obtain ⟨rad, rc, va, vc, w', rfl, x6, hrun, ⟨y1, y2⟩, QF⟩ := L67.out v6 r6 (A5.trans (b6.mono A5.size)) (BytesAt.own o6)
          clear b6 o6 K5 A5 x5
          refine wpAnyIn_ready (rs := [7]) (by kernel_rfl) (by simp) (AllReadyIn.cons (o := ao7) rfl (fun K hK => ?_) AllReadyIn.nil)
          rw [if_pos (by rfl)]
          refine wpIn_append_run v6 w' _ _ 53 rfl _ _ _ rfl rfl hrun ?_
          refine hK _ _ ?_
          clear hK K
          refine wpAnyIn_ready (rs := [8]) (by kernel_rfl) (by simp) (AllReadyIn.cons (o := ao8) rfl (fun K hK => ?_) AllReadyIn.nil)
          (try simp only [ao7, ao8])
          go_simp
          refine hK _ _ ?_
          clear hK K
          refine wpAnyIn_done (by kernel_rfl) ?_ _
          gi_wp2
          exact QF
         ·(try simp only [ao6])
          go_simp
          refine ⟨trivial, ?_⟩
          gi_at_call 53
          refine (CallsIn.inRound l (callsIn_wide.2 (CU.out _ _ K5))).mono ?_
          rintro _ v6 ⟨r6, rfl, o6, b6⟩
          dsimp only
          refine hK _ _ ?_
          clear hK K
          obtain ⟨rad, rc, va, vc, w', rfl, x6, hrun, ⟨y1, y2⟩, QF⟩ := L67.out v6 r6 (A5.trans (b6.mono A5.size)) (BytesAt.own o6)
          clear b6 o6 K5 A5 x5
          refine wpAnyIn_ready (rs := [0]) (by kernel_rfl) (by simp) (AllReadyIn.cons (o := ao0) rfl (fun K hK => ?_) AllReadyIn.nil)
          (try simp only [ao0])
          go_simp
          refine hK _ _ ?_
          clear hK K
          refine wpAnyIn_ready (rs := [7]) (by kernel_rfl) (by simp) (AllReadyIn.cons (o := ao7) rfl (fun K hK => ?_) AllReadyIn.nil)
          rw [if_pos (by rfl)]
          refine wpIn_append_run v6 w' _ _ 53 rfl _ _ _ rfl rfl hrun ?_
          refine hK _ _ ?_
          clear hK K
          refine wpAnyIn_ready (rs := [8]) (by kernel_rfl) (by simp) (AllReadyIn.cons (o := ao8) rfl (fun K hK => ?_) AllReadyIn.nil)
          (try simp only [ao7, ao8])
          go_simp
          refine hK _ _ ?_
          clear hK K
          refine wpAnyIn_done (by kernel_rfl) ?_ _
          gi_wp2
          exact QF
     ·(try simp only [ao4])
      go_simp
      refine hK _ _ ?_
      clear hK K
      refine wpAnyIn_ready (rs := [0, 1]) (by kernel_rfl) (by simp) ?_
      refine AllReadyIn.cons (o := ao0) rfl (fun K hK => ?_) (AllReadyIn.cons (o := ao1) rfl (fun K hK => ?_) (AllReadyIn.nil))
      ·(try simp only [ao0])
       go_simp
       refine hK _ _ ?_
       clear hK K
       refine wpAnyIn_ready (rs := [1]) (by kernel_rfl) (by simp) (AllReadyIn.cons (o := ao1) rfl (fun K hK => ?_) AllReadyIn.nil)
       (try simp only [ao1])
       go_simp
       refine hK _ _ ?_
       clear hK K
       refine wpAnyIn_ready (rs := [2]) (by kernel_rfl) (by simp) (AllReadyIn.cons (o := ao2) rfl (fun K hK => ?_) AllReadyIn.nil)
       (try simp only [ao2])
       go_simp
       refine hK _ _ ?_
       clear hK K
       refine wpAnyIn_ready (rs := [5]) (by kernel_rfl) (by simp) (AllReadyIn.cons (o := ao5) rfl (fun K hK => ?_) AllReadyIn.nil)
       (try simp only [ao5])
       go_simp
       refine hK _ _ ?_
       clear hK K
       obtain ⟨K5, A5, x5⟩ := L5.out
       clear L5
       refine wpAnyIn_ready (rs := [6]) (by kernel_rfl) (by simp) (AllReadyIn.cons (o := ao6) rfl (fun K hK => ?_) AllReadyIn.nil)
       (try simp only [ao6])
       go_simp
       refine ⟨trivial, ?_⟩
       gi_at_call 53
       refine (CallsIn.inRound l (callsIn_wide.2 (CU.out _ _ K5))).mono ?_
       rintro _ v6 ⟨r6, rfl, o6, b6⟩
       dsimp only
       refine hK _ _ ?_
       clear hK K
       obtain ⟨rad, rc, va, vc, w', rfl, x6, hrun, ⟨y1, y2⟩, QF⟩ := L67.out v6 r6 (A5.trans (b6.mono A5.size)) (BytesAt.own o6)
       clear b6 o6 K5 A5 x5
       refine wpAnyIn_ready (rs := [7]) (by kernel_rfl) (by simp) (AllReadyIn.cons (o := ao7) rfl (fun K hK => ?_) AllReadyIn.nil)
       rw [if_pos (by rfl)]
       refine wpIn_append_run v6 w' _ _ 53 rfl _ _ _ rfl rfl hrun ?_
       refine hK _ _ ?_
       clear hK K
       refine wpAnyIn_ready (rs := [8]) (by kernel_rfl) (by simp) (AllReadyIn.cons (o := ao8) rfl (fun K hK => ?_) AllReadyIn.nil)
       (try simp only [ao7, ao8])
       go_simp
       refine hK _ _ ?_
       clear hK K
       refine wpAnyIn_done (by kernel_rfl) ?_ _
       gi_wp2
       exact QF
      ·(try simp only [ao1])
       go_simp
       refine hK _ _ ?_
       clear hK K
       refine wpAnyIn_ready (rs := [0, 2]) (by kernel_rfl) (by simp) ?_
       refine AllReadyIn.cons (o := ao0) rfl (fun K hK => ?_) (AllReadyIn.cons (o := ao2) rfl (fun K hK => ?_) (AllReadyIn.nil))
       ·(try simp only [ao0])
        go_simp
        refine hK _ _ ?_
        clear hK K
        refine wpAnyIn_ready (rs := [2]) (by kernel_rfl) (by simp) (AllReadyIn.cons (o := ao2) rfl (fun K hK => ?_) AllReadyIn.nil)
        (try simp only [ao2])
        go_simp
        refine hK _ _ ?_
        clear hK K
        refine wpAnyIn_ready (rs := [5]) (by kernel_rfl) (by simp) (AllReadyIn.cons (o := ao5) rfl (fun K hK => ?_) AllReadyIn.nil)
        (try simp only [ao5])
        go_simp
        refine hK _ _ ?_
        clear hK K
        obtain ⟨K5, A5, x5⟩ := L5.out
        clear L5
        refine wpAnyIn_ready (rs := [6]) (by kernel_rfl) (by simp) (AllReadyIn.cons (o := ao6) rfl (fun K hK => ?_) AllReadyIn.nil)
        (try simp only [ao6])
        go_simp
        refine ⟨trivial, ?_⟩
        gi_at_call 53
        refine (CallsIn.inRound l (callsIn_wide.2 (CU.out _ _ K5))).mono ?_
        rintro _ v6 ⟨r6, rfl, o6, b6⟩
        dsimp only
        refine hK _ _ ?_
        clear hK K
        obtain ⟨rad, rc, va, vc, w', rfl, x6, hrun, ⟨y1, y2⟩, QF⟩ := L67.out v6 r6 (A5.trans (b6.mono A5.size)) (BytesAt.own o6)
        clear b6 o6 K5 A5 x5
        refine wpAnyIn_ready (rs := [7]) (by kernel_rfl) (by simp) (AllReadyIn.cons (o := ao7) rfl (fun K hK => ?_) AllReadyIn.nil)
        rw [if_pos (by rfl)]
        refine wpIn_append_run v6 w' _ _ 53 rfl _ _ _ rfl rfl hrun ?_
        refine hK _ _ ?_
        clear hK K
        refine wpAnyIn_ready (rs := [8]) (by kernel_rfl) (by simp) (AllReadyIn.cons (o := ao8) rfl (fun K hK => ?_) AllReadyIn.nil)
        (try simp only [ao7, ao8])
        go_simp
        refine hK _ _ ?_
        clear hK K
        refine wpAnyIn_done (by kernel_rfl) ?_ _
        gi_wp2
        exact QF
       ·(try simp only [ao2])
        go_simp
        refine hK _ _ ?_
        clear hK K
        refine wpAnyIn_ready (rs := [0, 5]) (by kernel_rfl) (by simp) ?_
        refine AllReadyIn.cons (o := ao0) rfl (fun K hK => ?_) (AllReadyIn.cons (o := ao5) rfl (fun K hK => ?_) (AllReadyIn.nil))
        ·(try simp only [ao0])
         go_simp
         refine hK _ _ ?_
         clear hK K
         refine wpAnyIn_ready (rs := [5]) (by kernel_rfl) (by simp) (AllReadyIn.cons (o := ao5) rfl (fun K hK => ?_) AllReadyIn.nil)
         (try simp only [ao5])
         go_simp
         refine hK _ _ ?_
         clear hK K
         obtain ⟨K5, A5, x5⟩ := L5.out
         clear L5
         refine wpAnyIn_ready (rs := [6]) (by kernel_rfl) (by simp) (AllReadyIn.cons (o := ao6) rfl (fun K hK => ?_) AllReadyIn.nil)
         (try simp only [ao6])
         go_simp
         refine ⟨trivial, ?_⟩
         gi_at_call 53
         refine (CallsIn.inRound l (callsIn_wide.2 (CU.out _ _ K5))).mono ?_
         rintro _ v6 ⟨r6, rfl, o6, b6⟩
         dsimp only
         refine hK _ _ ?_
         clear hK K
         obtain ⟨rad, rc, va, vc, w', rfl, x6, hrun, ⟨y1, y2⟩, QF⟩ := L67.out v6 r6 (A5.trans (b6.mono A5.size)) (BytesAt.own o6)
         clear b6 o6 K5 A5 x5
         refine wpAnyIn_ready (rs := [7]) (by kernel_rfl) (by simp) (AllReadyIn.cons (o := ao7) rfl (fun K hK => ?_) AllReadyIn.nil)
         rw [if_pos (by rfl)]
         refine wpIn_append_run v6 w' _ _ 53 rfl _ _ _ rfl rfl hrun ?_
         refine hK _ _ ?_
         clear hK K
         refine wpAnyIn_ready (rs := [8]) (by kernel_rfl) (by simp) (AllReadyIn.cons (o := ao8) rfl (fun K hK => ?_) AllReadyIn.nil)
         (try simp only [ao7, ao8])
         go_simp
         refine hK _ _ ?_
         clear hK K
         refine wpAnyIn_done (by kernel_rfl) ?_ _
         gi_wp2
         exact QF
        ·(try simp only [ao5])
         go_simp
         refine hK _ _ ?_
         clear hK K
         obtain ⟨K5, A5, x5⟩ := L5.out
         clear L5
         refine wpAnyIn_ready (rs := [0, 6]) (by kernel_rfl) (by simp) ?_
         refine AllReadyIn.cons (o := ao0) rfl (fun K hK => ?_) (AllReadyIn.cons (o := ao6) rfl (fun K hK => ?_) (AllReadyIn.nil))
         ·(try simp only [ao0])
          go_simp
          refine hK _ _ ?_
          clear hK K
          refine wpAnyIn_ready (rs := [6]) (by kernel_rfl) (by simp) (AllReadyIn.cons (o := ao6) rfl (fun K hK => ?_) AllReadyIn.nil)
          (try simp only [ao6])
          go_simp
          refine ⟨trivial, ?_⟩
          gi_at_call 53
          refine (CallsIn.inRound l (callsIn_wide.2 (CU.out _ _ K5))).mono ?_
          rintro _ v6 ⟨r6, rfl, o6, b6⟩
          dsimp only
          refine hK _ _ ?_
          clear hK K
          obtain ⟨rad, rc, va, vc, w', rfl, x6, hrun, ⟨y1, y2⟩, QF⟩ := L67.out v6 r6 (A5.trans (b6.mono A5.size)) (BytesAt.own o6)
          clear b6 o6 K5 A5 x5
          refine wpAnyIn_ready (rs := [7]) (by kernel_rfl) (by simp) (AllReadyIn.cons (o := ao7) rfl (fun K hK => ?_) AllReadyIn.nil)
          rw [if_pos (by rfl)]
          refine wpIn_append_run v6 w' _ _ 53 rfl _ _ _ rfl rfl hrun ?_
          refine hK _ _ ?_
          clear hK K
          refine wpAnyIn_ready (rs := [8]) (by kernel_rfl) (by simp) (AllReadyIn.cons (o := ao8) rfl (fun K hK => ?_) AllReadyIn.nil)
          (try simp only [ao7, ao8])
          go_simp
          refine hK _ _ ?_
          clear hK K
          refine wpAnyIn_done (by kernel_rfl) ?_ _
          gi_wp2
          exact QF
         ·(try simp only [ao6])
          go_simp
          refine ⟨trivial, ?_⟩
          gi_at_call 53
          refine (CallsIn.inRound l (callsIn_wide.2 (CU.out _ _ K5))).mono ?_
          rintro _ v6 ⟨r6, rfl, o6, b6⟩
          dsimp only
          refine hK _ _ ?_
          clear hK K
          obtain ⟨rad, rc, va, vc, w', rfl, x6, hrun, ⟨y1, y2⟩, QF⟩ := L67.out v6 r6 (A5.trans (b6.mono A5.size)) (BytesAt.own o6)
          clear b6 o6 K5 A5 x5
          refine wpAnyIn_ready (rs := [0]) (by kernel_rfl) (by simp) (AllReadyIn.cons (o := ao0) rfl (fun K hK => ?_) AllReadyIn.nil)
          (try simp only [ao0])
          go_simp
          refine hK _ _ ?_
          clear hK K
          refine wpAnyIn_ready (rs := [7]) (by kernel_rfl) (by simp) (AllReadyIn.cons (o := ao7) rfl (fun K hK => ?_) AllReadyIn.nil)
          rw [if_pos (by rfl)]
          refine wpIn_append_run v6 w' _ _ 53 rfl _ _ _ rfl rfl hrun ?_
          refine hK _ _ ?_
          clear hK K
          refine wpAnyIn_ready (rs := [8]) (by kernel_rfl) (by simp) (AllReadyIn.cons (o := ao8) rfl (fun K hK => ?_) AllReadyIn.nil)
          (try simp only [ao7, ao8])
          go_simp
          refine hK _ _ ?_
          clear hK K
          refine wpAnyIn_done (by kernel_rfl) ?_ _
          gi_wp2
          exact QF
  case done =>
    rintro G ys W hG hys ⟨⟨hK1, hK2, hbs, sv, hK4, hO⟩, hB⟩ hD
    have hys' : ys.map (fun x => x.1) = fullF c.H 65 := hys
    have hlen : (ys.length : Int) = ((fullF c.H 65).length : Int) := by rw [← hys', List.length_map]
    rw [hlen] at hK2
    rw [hys'] at hO
    obtain ⟨sva, svc, rfl⟩ := owns_slice hO
    have HGW : Hid (w.heap.size ≤ G) := Lib.hid (by omega)
    have HGK : Hid (W.drew.heap[G]? = some (.deferred (some []))) := Lib.hid hD
    have HG : Hid (G < W.drew.heap.size) := Lib.hid (Array.getElem?_eq_some_iff.1 hD).1
    have BV0 : Hid (BytesAt W.drew (.slice sva (bkB (fullF c.H 65)).length svc) (bkB (fullF c.H 65))) := Lib.hid ((BytesAt.own hO).drewN 1)
    have SS : Hid (Kept W.drew w.heap.size C 29 ∧ Kept W.drew gn #[.int .i64 ((fullF c.H 65).length : Int)] 3 ∧ Kept W.drew (gn + 1) #[.slice sva (bkB (fullF c.H 65)).length svc] 53) := Lib.hid ⟨hK1.drewN 1, hK2.drewN 1, hK4.drewN 1⟩
    have BL : Hid (∀ V, Below W.drew.heap.size W.drew V → Below w.heap.size w V) := Lib.hid fun V h => hB.drew.trans (h.mono hB.size)
    clear hys hys' hlen hK1 hK2 hK4 hO hB hbs hD LB HI0 fs hG
    have CF : Hid (∀ W', Kept W' w.heap.size C 29 ∧ Kept W' gn #[.int .i64 ((fullF c.H 65).length : Int)] 3 ∧ Kept W' (gn + 1) #[.slice sva (bkB (fullF c.H 65)).length svc] 53 → W'.cell? ⟨w.heap.size, 0, none⟩ = some (.int .i64 c.n) ∧ W'.cell? ⟨w.heap.size, 1, none⟩ = some (.int .i64 (hiW c.z)) ∧ W'.cell? ⟨w.heap.size, 2, none⟩ = some (.int .u64 (loW c.z)) ∧ W'.cell? ⟨w.heap.size, 3, none⟩ = some (.int .i64 c.mn) ∧ W'.cell? ⟨w.heap.size, 4, none⟩ = some (.int .i64 c.mx) ∧ W'.cell? ⟨w.heap.size, 5, none⟩ = some (.int .i64 c.ce) ∧ W'.cell? ⟨w.heap.size, 6, none⟩ = some (.int .i64 c.po) ∧ W'.cell? ⟨gn, 0, none⟩ = some (.int .i64 ((fullF c.H 65).length : Int)) ∧ W'.cell? ⟨gn + 1, 0, none⟩ = some (.slice sva (bkB (fullF c.H 65)).length svc)) := Lib.hid fun W' h => by
      obtain ⟨q0, q1, q2, q3, q4, q5, q6⟩ := CF7.out W' h.1
      exact ⟨q0, q1, q2, q3, q4, q5, q6, (Kept.one h.2.1).1, (Kept.one h.2.2).1⟩
    clear CF7
    generalize c.mn = mn at *
    generalize c.mx = mx at *
    generalize c.n = n at *
    generalize c.ce = ce at *
    generalize c.po = po at *
    generalize hiW c.z = zh at *
    generalize loW c.z = zl at *
    generalize strOfNums (byL c.z) = sb at *
    have fl0 : (0 : Int) ≤ ((fullF c.H 65).length : Int) := by omega
    generalize ((fullF c.H 65).length : Int) = fl at *
    clear hfl
    generalize encs [n, ce, po] = L10 at *
    generalize encs ([mn, mx].map zig) = L16 at *
    generalize txts [sb] = L22 at *
    generalize encs [fl] = L26 at *
    generalize bkB (fullF c.H 65) = L5 at *
    go_upto_region 10 with fail
    refine Code.wp_mono (fun e a w q => noPan_out q) ?_
    refine wp_region_held_drew (S := fun W' => Hid (Kept W' w.heap.size C 29 ∧ Kept W' gn #[.int .i64 fl] 3 ∧ Kept W' (gn + 1) #[.slice sva L5.length svc] 53)) (by kernel_rfl) SS (fun hHeld => ?_)
    generalize W.drew = d0 at *
    have KS : Hid (∀ V, Below d0.heap.size d0 V → Hid (Kept V w.heap.size C 29 ∧ Kept V gn #[.int .i64 fl] 3 ∧ Kept V (gn + 1) #[.slice sva L5.length svc] 53)) := Lib.hid fun V h => Lib.hid ⟨SS.out.1.next h, SS.out.2.1.next h, SS.out.2.2.next h⟩
    have A0 : Hid (Below d0.heap.size d0 d0) := Lib.hid (Below.refl _ _)
    have HFIN : Hid (∀ d v, Below d0.heap.size d0 d → BytesAt d v [L10, L16, L22, L26, L5].flatten → d.heap[G]? = some (.deferred (some [])) ∧ ByOut (bytesP c).flatten w (.returned v) (d.putObj G (.deferred none))) := Lib.hid fun d v hb hv => by
      have zk : d.heap[G]? = some (.deferred (some [])) := (hb.block G HG.out).trans HGK.out
      exact ⟨zk, FINY.out _ _ (BytesAt.put hv zk (.deferred none)) ((BL.out _ hb).trans (belowK_b (w := w) (Nat.le_refl _) d G _ _ HGW.out zk rfl rfl))⟩
    clear SS
    refine wpAnyH_take (i := 0) (oi := bo0) (v := ?_) rfl (by kernel_rfl) (by kernel_rfl) (by kernel_rfl) (fun _ _ _ h => h) (Or.inl ⟨by rfl, ?_⟩) hHeld ?_
    rotate_left
    ·((intro w hSw; obtain ⟨s0, s1, s2, s3, s4, s5, s6, s7, s8⟩ := CF.out _ hSw.out; (try simp only [bo0]); go_simp); (try with_reducible rfl))
    (try simp only [Act.put, bo0, qa, qb, qc])
    refine wpAnyH_take (i := 1) (oi := bo1) (v := ?_) rfl (by kernel_rfl) (by kernel_rfl) (by kernel_rfl) (fun _ _ _ h => h) (Or.inl ⟨by rfl, ?_⟩) hHeld ?_
    rotate_left
    ·((intro w hSw; obtain ⟨s0, s1, s2, s3, s4, s5, s6, s7, s8⟩ := CF.out _ hSw.out; (try simp only [bo1]); go_simp); (try with_reducible rfl))
    (try simp only [Act.put, bo1, qa, qb, qc])
    refine wpAnyH_take (i := 2) (oi := bo2) (v := ?_) rfl (by kernel_rfl) (by kernel_rfl) (by kernel_rfl) (fun _ _ _ h => h) (Or.inl ⟨by rfl, ?_⟩) hHeld ?_
    rotate_left
    ·((intro w hSw; obtain ⟨s0, s1, s2, s3, s4, s5, s6, s7, s8⟩ := CF.out _ hSw.out; (try simp only [bo2]); go_simp); (try with_reducible rfl))
    (try simp only [Act.put, bo2, qa, qb, qc])
    refine wpAnyH_take (i := 3) (oi := bo3) (v := ?_) rfl (by kernel_rfl) (by kernel_rfl) (by kernel_rfl) (fun _ _ _ h => h) (Or.inl ⟨by rfl, ?_⟩) hHeld ?_
    rotate_left
    ·((intro w hSw; obtain ⟨s0, s1, s2, s3, s4, s5, s6, s7, s8⟩ := CF.out _ hSw.out; (try simp only [bo3]); go_simp); (try with_reducible rfl))
    (try simp only [Act.put, bo3, qa, qb, qc])
    refine wpAnyH_take (i := 4) (oi := bo4) (v := ?_) rfl (by kernel_rfl) (by kernel_rfl) (by kernel_rfl) (fun _ _ _ h => h) (Or.inl ⟨by rfl, ?_⟩) hHeld ?_
    rotate_left
    ·((intro w hSw; obtain ⟨s0, s1, s2, s3, s4, s5, s6, s7, s8⟩ := CF.out _ hSw.out; (try simp only [bo4]); go_simp); (try with_reducible rfl))
    (try simp only [Act.put, bo4, qa, qb, qc])
    refine wpAnyH_take (i := 5) (oi := bo5) (v := ?_) rfl (by kernel_rfl) (by kernel_rfl) (by kernel_rfl) (fun _ _ _ h => h) (Or.inl ⟨by rfl, ?_⟩) hHeld ?_
    rotate_left
    ·((intro w hSw; obtain ⟨s0, s1, s2, s3, s4, s5, s6, s7, s8⟩ := CF.out _ hSw.out; (try simp only [bo5]); go_simp); (try with_reducible rfl))
    (try simp only [Act.put, bo5, qa, qb, qc])
    refine wpAnyH_take (i := 6) (oi := bo6) (v := ?_) rfl (by kernel_rfl) (by kernel_rfl) (by kernel_rfl) (fun _ _ _ h => h) (Or.inl ⟨by rfl, ?_⟩) hHeld ?_
    rotate_left
    ·((intro w hSw; obtain ⟨s0, s1, s2, s3, s4, s5, s6, s7, s8⟩ := CF.out _ hSw.out; (try simp only [bo6]); go_simp); (try with_reducible rfl))
    (try simp only [Act.put, bo6, qa, qb, qc])
    refine wpAnyH_take (i := 7) (oi := bo7) (v := ?_) rfl (by kernel_rfl) (by kernel_rfl) (by kernel_rfl) (fun _ _ _ h => h) (Or.inl ⟨by rfl, ?_⟩) hHeld ?_
    rotate_left
    ·((intro w hSw; obtain ⟨s0, s1, s2, s3, s4, s5, s6, s7, s8⟩ := CF.out _ hSw.out; (try simp only [bo7]); go_simp); (try with_reducible rfl))
    (try simp only [Act.put, bo7, qa, qb, qc])
    refine wpAnyH_take (i := 8) (oi := bo8) (v := ?_) rfl (by kernel_rfl) (by kernel_rfl) (by kernel_rfl) (fun _ _ _ h => h) (Or.inl ⟨by rfl, ?_⟩) hHeld ?_
    rotate_left
    ·((intro w hSw; obtain ⟨s0, s1, s2, s3, s4, s5, s6, s7, s8⟩ := CF.out _ hSw.out; (try simp only [bo8]); go_simp); (try with_reducible rfl))
    (try simp only [Act.put, bo8, qa, qb, qc])
    refine wpAnyH_take (i := 11) (oi := bo11) (v := ?_) rfl (by kernel_rfl) (by kernel_rfl) (by kernel_rfl) (fun _ _ _ h => h) (Or.inl ⟨by rfl, ?_⟩) hHeld ?_
    rotate_left
    ·((intro w hSw; obtain ⟨s0, s1, s2, s3, s4, s5, s6, s7, s8⟩ := CF.out _ hSw.out; (try simp only [bo11]); go_simp); (try with_reducible rfl))
    (try simp only [Act.put, bo11, qa, qb, qc])
    refine wpAnyH_take (i := 12) (oi := bo12) (v := ?_) rfl (by kernel_rfl) (by kernel_rfl) (by kernel_rfl) (fun _ _ _ h => h) (Or.inl ⟨by rfl, ?_⟩) hHeld ?_
    rotate_left
    ·((intro w hSw; obtain ⟨s0, s1, s2, s3, s4, s5, s6, s7, s8⟩ := CF.out _ hSw.out; (try simp only [bo12]); go_simp); (try with_reducible rfl))
    (try simp only [Act.put, bo12, qa, qb, qc])
    refine wpAnyH_take (i := 13) (oi := bo13) (v := ?_) rfl (by kernel_rfl) (by kernel_rfl) (by kernel_rfl) (fun _ _ _ h => h) (Or.inl ⟨by rfl, ?_⟩) hHeld ?_
    rotate_left
    ·((intro w hSw; obtain ⟨s0, s1, s2, s3, s4, s5, s6, s7, s8⟩ := CF.out _ hSw.out; (try simp only [bo13]); go_simp); (try with_reducible rfl))
    (try simp only [Act.put, bo13, qa, qb, qc])
    refine wpAnyH_take (i := 14) (oi := bo14) (v := ?_) rfl (by kernel_rfl) (by kernel_rfl) (by kernel_rfl) (fun _ _ _ h => h) (Or.inl ⟨by rfl, ?_⟩) hHeld ?_
    rotate_left
    ·((intro w hSw; obtain ⟨s0, s1, s2, s3, s4, s5, s6, s7, s8⟩ := CF.out _ hSw.out; (try simp only [bo14]); go_simp); (try with_reducible rfl))
    (try simp only [Act.put, bo14, qa, qb, qc])
    refine wpAnyH_take (i := 17) (oi := bo17) (v := ?_) rfl (by kernel_rfl) (by kernel_rfl) (by kernel_rfl) (fun _ _ _ h => h) (Or.inl ⟨by rfl, ?_⟩) hHeld ?_
    rotate_left
    ·((intro w hSw; obtain ⟨s0, s1, s2, s3, s4, s5, s6, s7, s8⟩ := CF.out _ hSw.out; (try simp only [bo17]); go_simp); (try with_reducible rfl))
    (try simp only [Act.put, bo17, qa, qb, qc])
    refine wpAnyH_take (i := 18) (oi := bo18) (v := ?_) rfl (by kernel_rfl) (by kernel_rfl) (by kernel_rfl) (fun _ _ _ h => h) (Or.inl ⟨by rfl, ?_⟩) hHeld ?_
    rotate_left
    ·((intro w hSw; obtain ⟨s0, s1, s2, s3, s4, s5, s6, s7, s8⟩ := CF.out _ hSw.out; (try simp only [bo18]); go_simp); (try with_reducible rfl))
    (try simp only [Act.put, bo18, qa, qb, qc])
    refine wpAnyH_take (i := 23) (oi := bo23) (v := ?_) rfl (by kernel_rfl) (by kernel_rfl) (by kernel_rfl) (fun _ _ _ h => h) (Or.inl ⟨by rfl, ?_⟩) hHeld ?_
    rotate_left
    ·((intro w hSw; obtain ⟨s0, s1, s2, s3, s4, s5, s6, s7, s8⟩ := CF.out _ hSw.out; (try simp only [bo23]); go_simp); (try with_reducible rfl))
    (try simp only [Act.put, bo23, qa, qb, qc])
    refine wpAnyH_take (i := 24) (oi := bo24) (v := ?_) rfl (by kernel_rfl) (by kernel_rfl) (by kernel_rfl) (fun _ _ _ h => h) (Or.inl ⟨by rfl, ?_⟩) hHeld ?_
    rotate_left
    ·((intro w hSw; obtain ⟨s0, s1, s2, s3, s4, s5, s6, s7, s8⟩ := CF.out _ hSw.out; (try simp only [bo24]); go_simp); (try with_reducible rfl))
    (try simp only [Act.put, bo24, qa, qb, qc])
    refine wpAnyH_take (i := 27) (oi := bo27) (v := ?_) rfl (by kernel_rfl) (by kernel_rfl) (by kernel_rfl) (fun _ _ _ h => h) (Or.inl ⟨by rfl, ?_⟩) hHeld ?_
    rotate_left
    ·((intro w hSw; obtain ⟨s0, s1, s2, s3, s4, s5, s6, s7, s8⟩ := CF.out _ hSw.out; (try simp only [bo27]); go_simp); (try with_reducible rfl))
    (try simp only [Act.put, bo27, qa, qb, qc])
    refine wpAnyH_ready (rs := [9, 15, 25]) (by kernel_rfl) (by simp) ?_
    refine AllReadyH.cons (o := bo9) rfl (fun K hK => ?_) (AllReadyH.cons (o := bo15) rfl (fun K hK => ?_) (AllReadyH.cons (o := bo25) rfl (fun K hK => ?_) (AllReadyH.nil)))
    ·(try simp only [bo9])
     go_simp
     obtain ⟨C1, K9_1⟩ := al2 d0 #[.int .u64 n, .int .u64 ce, .int .u64 po] 23
     have A1 := tr2 A0 C1
     refine hK.out _ _ ?_ (fun hHeld => ?_)
     ·exact KS.out _ A1.out
     clear hK K
     (try simp only [Act.put, bo9, qa, qb, qc])
     generalize d0.alloc _ = d1 at *
     refine wpAnyH_ready (rs := [10, 15, 25]) (by kernel_rfl) (by simp) ?_
     refine AllReadyH.cons (o := bo10) rfl (fun K hK => ?_) (AllReadyH.cons (o := bo15) rfl (fun K hK => ?_) (AllReadyH.cons (o := bo25) rfl (fun K hK => ?_) (AllReadyH.nil)))
     ·(try simp only [bo10])
      go_simp
      (with_reducible refine (C10.out _ _ K9_1.out).mono ?_)
      rintro _ d2 ⟨v10, rfl, o2, b2⟩
      obtain ⟨va10, vc10, rfl⟩ := owns_slice o2
      have C2 := Lib.hid b2
      have B10_2 := Lib.hid (BytesAt.own o2)
      have A2 := tr2 A1 C2
      clear o2 b2
      refine hK.out _ _ ?_ (fun hHeld => ?_)
      ·exact KS.out _ A2.out
      clear hK K
      (try simp only [Act.put, bo10, qa, qb, qc])
      refine wpAnyH_ready (rs := [15, 25]) (by kernel_rfl) (by simp) ?_
      refine AllReadyH.cons (o := bo15) rfl (fun K hK => ?_) (AllReadyH.cons (o := bo25) rfl (fun K hK => ?_) (AllReadyH.nil))
      ·(try simp only [bo15])
       go_simp
       obtain ⟨C3, K15_3⟩ := al2 d2 #[.int .i64 mn, .int .i64 mx] 2
       have A3 := tr2 A2 C3
       refine hK.out _ _ ?_ (fun hHeld => ?_)
       ·exact KS.out _ A3.out
       clear hK K
       (try simp only [Act.put, bo15, qa, qb, qc])
       generalize d2.alloc _ = d3 at *
       refine wpAnyH_ready (rs := [16, 25]) (by kernel_rfl) (by simp) ?_
       refine AllReadyH.cons (o := bo16) rfl (fun K hK => ?_) (AllReadyH.cons (o := bo25) rfl (fun K hK => ?_) (AllReadyH.nil))
       ·(try simp only [bo16])
        go_simp
        (with_reducible refine (C16.out _ _ K15_3.out).mono ?_)
        rintro _ d4 ⟨v16, rfl, o4, b4⟩
        obtain ⟨va16, vc16, rfl⟩ := owns_slice o4
        have C4 := Lib.hid b4
        have B16_4 := Lib.hid (BytesAt.own o4)
        have A4 := tr2 A3 C4
        clear o4 b4
        refine hK.out _ _ ?_ (fun hHeld => ?_)
        ·exact KS.out _ A4.out
        clear hK K
        (try simp only [Act.put, bo16, qa, qb, qc])
        refine wpAnyH_ready (rs := [19, 25]) (by kernel_rfl) (by simp) ?_
        refine AllReadyH.cons (o := bo19) rfl (fun K hK => ?_) (AllReadyH.cons (o := bo25) rfl (fun K hK => ?_) (AllReadyH.nil))
        ·(try simp only [bo19])
         go_simp
         (with_reducible refine (C19.out _).mono ?_)
         rintro _ d5 ⟨v19, rfl, o5, b5⟩
         have C5 := Lib.hid b5
         have B19_5 := Lib.hid o5
         have A5 := tr2 A4 C5
         clear o5 b5
         refine hK.out _ _ ?_ (fun hHeld => ?_)
         ·exact KS.out _ A5.out
         clear hK K
         (try simp only [Act.put, bo19, qa, qb, qc])
         refine wpAnyH_ready (rs := [20, 25]) (by kernel_rfl) (by simp) ?_
         refine AllReadyH.cons (o := bo20) rfl (fun K hK => ?_) (AllReadyH.cons (o := bo25) rfl (fun K hK => ?_) (AllReadyH.nil))
         ·have hcv := HCV.out _ _ B19_5.out
          (try simp only [bo20])
          go_simp
          refine hK.out _ _ ?_ (fun hHeld => ?_)
          ·exact KS.out _ A5.out
          clear hK K
          (try simp only [Act.put, bo20, qa, qb, qc])
          refine wpAnyH_ready (rs := [21, 25]) (by kernel_rfl) (by simp) ?_
          refine AllReadyH.cons (o := bo21) rfl (fun K hK => ?_) (AllReadyH.cons (o := bo25) rfl (fun K hK => ?_) (AllReadyH.nil))
          ·(try simp only [bo21])
           go_simp
           obtain ⟨C6, K21_6⟩ := al2 d5 #[.string sb] 9
           have A6 := tr2 A5 C6
           refine hK.out _ _ ?_ (fun hHeld => ?_)
           ·exact KS.out _ A6.out
           clear hK K
           (try simp only [Act.put, bo21, qa, qb, qc])
           generalize d5.alloc _ = d6 at *
           refine wpAnyH_ready (rs := [22, 25]) (by kernel_rfl) (by simp) ?_
           refine AllReadyH.cons (o := bo22) rfl (fun K hK => ?_) (AllReadyH.cons (o := bo25) rfl (fun K hK => ?_) (AllReadyH.nil))
           ·(try simp only [bo22])
            go_simp
            (with_reducible refine (C22.out _ _ K21_6.out).mono ?_)
            rintro _ d7 ⟨v22, rfl, o7, b7⟩
            obtain ⟨va22, vc22, rfl⟩ := owns_slice o7
            have C7 := Lib.hid b7
            have B22_7 := Lib.hid (BytesAt.own o7)
            have A7 := tr2 A6 C7
            clear o7 b7
            refine hK.out _ _ ?_ (fun hHeld => ?_)
            ·exact KS.out _ A7.out
            clear hK K
            (try simp only [Act.put, bo22, qa, qb, qc])
            refine wpAnyH_ready (rs := [25]) (by kernel_rfl) (by simp) (AllReadyH.cons (o := bo25) rfl (fun K hK => ?_) AllReadyH.nil)
            (try simp only [bo25])
            go_simp
            obtain ⟨C8, K25_8⟩ := al2 d7 #[.int .u64 fl] 23
            have A8 := tr2 A7 C8
            refine hK.out _ _ ?_ (fun hHeld => ?_)
            ·exact KS.out _ A8.out
            clear hK K
            (try simp only [Act.put, bo25, qa, qb, qc])
            generalize d7.alloc _ = d8 at *
            refine wpAnyH_ready (rs := [26]) (by kernel_rfl) (by simp) (AllReadyH.cons (o := bo26) rfl (fun K hK => ?_) AllReadyH.nil)
            (try simp only [bo26])
            go_simp
            (with_reducible refine (C26.out _ _ K25_8.out).mono ?_)
            rintro _ d9 ⟨v26, rfl, o9, b9⟩
            obtain ⟨va26, vc26, rfl⟩ := owns_slice o9
            have C9 := Lib.hid b9
            have B26_9 := Lib.hid (BytesAt.own o9)
            have A9 := tr2 A8 C9
            clear o9 b9
            refine hK.out _ _ ?_ (fun hHeld => ?_)
            ·exact KS.out _ A9.out
            clear hK K
            (try simp only [Act.put, bo26, qa, qb, qc])
            refine wpAnyH_ready (rs := [28]) (by kernel_rfl) (by simp) (AllReadyH.cons (o := bo28) rfl (fun K hK => ?_) AllReadyH.nil)
            (try simp only [bo28])
            go_simp
            obtain ⟨C10, K28_10⟩ := al2 d9 #[.slice va10 L10.length vc10, .slice va16 L16.length vc16, .slice va22 L22.length vc22, .slice va26 L26.length vc26, .slice sva L5.length svc] 53
            have A10 := tr2 A9 C10
            refine hK.out _ _ ?_ (fun hHeld => ?_)
            ·exact KS.out _ A10.out
            clear hK K
            (try simp only [Act.put, bo28, qa, qb, qc])
            generalize d9.alloc _ = d10 at *
            refine wpAnyH_ready (rs := [29]) (by kernel_rfl) (by simp) (AllReadyH.cons (o := bo29) rfl (fun K hK => ?_) AllReadyH.nil)
            (try simp only [bo29])
            go_simp
            (with_reducible refine (C29.out _ _ (parts5 K28_10.out ((((((((B10_2.out.below C3.out).below C4.out).below C5.out).below C6.out).below C7.out).below C8.out).below C9.out).below C10.out) ((((((B16_4.out.below C5.out).below C6.out).below C7.out).below C8.out).below C9.out).below C10.out) (((B22_7.out.below C8.out).below C9.out).below C10.out) (B26_9.out.below C10.out) ((((((((((BV0.out.below C1.out).below C2.out).below C3.out).below C4.out).below C5.out).below C6.out).below C7.out).below C8.out).below C9.out).below C10.out))).mono ?_)
            rintro _ d11 ⟨v29, rfl, o11, b11⟩
            have C11 := Lib.hid b11
            have B29_11 := Lib.hid (BytesAt.own o11)
            have A11 := tr2 A10 C11
            clear o11 b11
            refine hK.out _ _ ?_ (fun hHeld => ?_)
            ·exact KS.out _ A11.out
            clear hK K
            (try simp only [Act.put, bo29, qa, qb, qc])
            refine wpAnyH_take (i := 30) (oi := bo30) (v := ?_) rfl (by kernel_rfl) (by kernel_rfl) (by kernel_rfl) (fun _ _ _ h => h) (Or.inl ⟨by rfl, ?_⟩) hHeld ?_
            rotate_left
            ·((intro w hSw; obtain ⟨s0, s1, s2, s3, s4, s5, s6, s7, s8⟩ := CF.out _ hSw.out; (try simp only [bo30]); go_simp); (try with_reducible rfl))
            (try simp only [Act.put, bo30, qa, qb, qc])
            refine wpAnyH_done (by kernel_rfl) ?_ _
            obtain ⟨zk, HY⟩ := HFIN.out _ _ A11.out B29_11.out
            clear hHeld
            refine noPan_normal ?_
            go_wp2
            exact ⟨by simp, .inl ⟨_, _, rfl, run_takeDeferred zk, _, by simp [results, Try.f20, go_sem], HY⟩⟩
           ·(try simp only [bo25])
            go_simp
            obtain ⟨C7, K25_7⟩ := al2 d6 #[.int .u64 fl] 23
            have A7 := tr2 A6 C7
            refine hK.out _ _ ?_ (fun hHeld => ?_)
            ·exact KS.out _ A7.out
            clear hK K
            (try simp only [Act.put, bo25, qa, qb, qc])
            generalize d6.alloc _ = d7 at *
            refine wpAnyH_ready (rs := [22]) (by kernel_rfl) (by simp) (AllReadyH.cons (o := bo22) rfl (fun K hK => ?_) AllReadyH.nil)
            (try simp only [bo22])
            go_simp
            (with_reducible refine (C22.out _ _ (K21_6.out.next C7.out)).mono ?_)
            rintro _ d8 ⟨v22, rfl, o8, b8⟩
            obtain ⟨va22, vc22, rfl⟩ := owns_slice o8
            have C8 := Lib.hid b8
            have B22_8 := Lib.hid (BytesAt.own o8)
            have A8 := tr2 A7 C8
            clear o8 b8
            refine hK.out _ _ ?_ (fun hHeld => ?_)
            ·exact KS.out _ A8.out
            clear hK K
            (try simp only [Act.put, bo22, qa, qb, qc])
            refine wpAnyH_ready (rs := [26]) (by kernel_rfl) (by simp) (AllReadyH.cons (o := bo26) rfl (fun K hK => ?_) AllReadyH.nil)
            (try simp only [bo26])
            go_simp
            (with_reducible refine (C26.out _ _ (K25_7.out.next C8.out)).mono ?_)
            rintro _ d9 ⟨v26, rfl, o9, b9⟩
            obtain ⟨va26, vc26, rfl⟩ := owns_slice o9
            have C9 := Lib.hid b9
            have B26_9 := Lib.hid (BytesAt.own o9)
            have A9 := tr2 A8 C9
            clear o9 b9
            refine hK.out _ _ ?_ (fun hHeld => ?_)
            ·exact KS.out _ A9.out
            clear hK K
            (try simp only [Act.put, bo26, qa, qb, qc])
            refine wpAnyH_ready (rs := [28]) (by kernel_rfl) (by simp) (AllReadyH.cons (o := bo28) rfl (fun K hK => ?_) AllReadyH.nil)
            (try simp only [bo28])
            go_simp
            obtain ⟨C10, K28_10⟩ := al2 d9 #[.slice va10 L10.length vc10, .slice va16 L16.length vc16, .slice va22 L22.length vc22, .slice va26 L26.length vc26, .slice sva L5.length svc] 53
            have A10 := tr2 A9 C10
            refine hK.out _ _ ?_ (fun hHeld => ?_)
            ·exact KS.out _ A10.out
            clear hK K
            (try simp only [Act.put, bo28, qa, qb, qc])
            generalize d9.alloc _ = d10 at *
            refine wpAnyH_ready (rs := [29]) (by kernel_rfl) (by simp) (AllReadyH.cons (o := bo29) rfl (fun K hK => ?_) AllReadyH.nil)
            (try simp only [bo29])
            go_simp
            (with_reducible refine (C29.out _ _ (parts5 K28_10.out ((((((((B10_2.out.below C3.out).below C4.out).below C5.out).below C6.out).below C7.out).below C8.out).below C9.out).below C10.out) ((((((B16_4.out.below C5.out).below C6.out).below C7.out).below C8.out).below C9.out).below C10.out) ((B22_8.out.below C9.out).below C10.out) (B26_9.out.below C10.out) ((((((((((BV0.out.below C1.out).below C2.out).below C3.out).below C4.out).below C5.out).below C6.out).below C7.out).below C8.out).below C9.out).below C10.out))).mono ?_)
            rintro _ d11 ⟨v29, rfl, o11, b11⟩
            have C11 := Lib.hid b11
            have B29_11 := Lib.hid (BytesAt.own o11)
            have A11 := tr2 A10 C11
            clear o11 b11
            refine hK.out _ _ ?_ (fun hHeld => ?_)
            ·exact KS.out _ A11.out
            clear hK K
            (try simp only [Act.put, bo29, qa, qb, qc])
            refine wpAnyH_take (i := 30) (oi := bo30) (v := ?_) rfl (by kernel_rfl) (by kernel_rfl) (by kernel_rfl) (fun _ _ _ h => h) (Or.inl ⟨by rfl, ?_⟩) hHeld ?_
            rotate_left
            ·((intro w hSw; obtain ⟨s0, s1, s2, s3, s4, s5, s6, s7, s8⟩ := CF.out _ hSw.out; (try simp only [bo30]); go_simp); (try with_reducible rfl))
            (try simp only [Act.put, bo30, qa, qb, qc])
            refine wpAnyH_done (by kernel_rfl) ?_ _
            obtain ⟨zk, HY⟩ := HFIN.out _ _ A11.out B29_11.out
            clear hHeld
            refine noPan_normal ?_
            go_wp2
            exact ⟨by simp, .inl ⟨_, _, rfl, run_takeDeferred zk, _, by simp [results, Try.f20, go_sem], HY⟩⟩
          ·(try simp only [bo25])
           go_simp
           obtain ⟨C6, K25_6⟩ := al2 d5 #[.int .u64 fl] 23
           have A6 := tr2 A5 C6
           refine hK.out _ _ ?_ (fun hHeld => ?_)
           ·exact KS.out _ A6.out
           clear hK K
           (try simp only [Act.put, bo25, qa, qb, qc])
           generalize d5.alloc _ = d6 at *
           refine wpAnyH_ready (rs := [21]) (by kernel_rfl) (by simp) (AllReadyH.cons (o := bo21) rfl (fun K hK => ?_) AllReadyH.nil)
           (try simp only [bo21])
           go_simp
           obtain ⟨C7, K21_7⟩ := al2 d6 #[.string sb] 9
           have A7 := tr2 A6 C7
           refine hK.out _ _ ?_ (fun hHeld => ?_)
           ·exact KS.out _ A7.out
           clear hK K
           (try simp only [Act.put, bo21, qa, qb, qc])
           generalize d6.alloc _ = d7 at *
           refine wpAnyH_ready (rs := [22]) (by kernel_rfl) (by simp) (AllReadyH.cons (o := bo22) rfl (fun K hK => ?_) AllReadyH.nil)
           (try simp only [bo22])
           go_simp
           (with_reducible refine (C22.out _ _ K21_7.out).mono ?_)
           rintro _ d8 ⟨v22, rfl, o8, b8⟩
           obtain ⟨va22, vc22, rfl⟩ := owns_slice o8
           have C8 := Lib.hid b8
           have B22_8 := Lib.hid (BytesAt.own o8)
           have A8 := tr2 A7 C8
           clear o8 b8
           refine hK.out _ _ ?_ (fun hHeld => ?_)
           ·exact KS.out _ A8.out
           clear hK K
           (try simp only [Act.put, bo22, qa, qb, qc])
           refine wpAnyH_ready (rs := [26]) (by kernel_rfl) (by simp) (AllReadyH.cons (o := bo26) rfl (fun K hK => ?_) AllReadyH.nil)
           (try simp only [bo26])
           go_simp
           (with_reducible refine (C26.out _ _ ((K25_6.out.next C7.out).next C8.out)).mono ?_)
           rintro _ d9 ⟨v26, rfl, o9, b9⟩
           obtain ⟨va26, vc26, rfl⟩ := owns_slice o9
           have C9 := Lib.hid b9
           have B26_9 := Lib.hid (BytesAt.own o9)
           have A9 := tr2 A8 C9
           clear o9 b9
           refine hK.out _ _ ?_ (fun hHeld => ?_)
           ·exact KS.out _ A9.out
           clear hK K
           (try simp only [Act.put, bo26, qa, qb, qc])
           refine wpAnyH_ready (rs := [28]) (by kernel_rfl) (by simp) (AllReadyH.cons (o := bo28) rfl (fun K hK => ?_) AllReadyH.nil)
           (try simp only [bo28])
           go_simp
           obtain ⟨C10, K28_10⟩ := al2 d9 #[.slice va10 L10.length vc10, .slice va16 L16.length vc16, .slice va22 L22.length vc22, .slice va26 L26.length vc26, .slice sva L5.length svc] 53
           have A10 := tr2 A9 C10
           refine hK.out _ _ ?_ (fun hHeld => ?_)
           ·exact KS.out _ A10.out
           clear hK K
           (try simp only [Act.put, bo28, qa, qb, qc])
           generalize d9.alloc _ = d10 at *
           refine wpAnyH_ready (rs := [29]) (by kernel_rfl) (by simp) (AllReadyH.cons (o := bo29) rfl (fun K hK => ?_) AllReadyH.nil)
           (try simp only [bo29])
           go_simp
           (with_reducible refine (C29.out _ _ (parts5 K28_10.out ((((((((B10_2.out.below C3.out).below C4.out).below C5.out).below C6.out).below C7.out).below C8.out).below C9.out).below C10.out) ((((((B16_4.out.below C5.out).below C6.out).below C7.out).below C8.out).below C9.out).below C10.out) ((B22_8.out.below C9.out).below C10.out) (B26_9.out.below C10.out) ((((((((((BV0.out.below C1.out).below C2.out).below C3.out).below C4.out).below C5.out).below C6.out).below C7.out).below C8.out).below C9.out).below C10.out))).mono ?_)
           rintro _ d11 ⟨v29, rfl, o11, b11⟩
           have C11 := Lib.hid b11
           have B29_11 := Lib.hid (BytesAt.own o11)
           have A11 := tr2 A10 C11
           clear o11 b11
           refine hK.out _ _ ?_ (fun hHeld => ?_)
           ·exact KS.out _ A11.out
           clear hK K
           (try simp only [Act.put, bo29, qa, qb, qc])
           refine wpAnyH_take (i := 30) (oi := bo30) (v := ?_) rfl (by kernel_rfl) (by kernel_rfl) (by kernel_rfl) (fun _ _ _ h => h) (Or.inl ⟨by rfl, ?_⟩) hHeld ?_
           rotate_left
           ·((intro w hSw; obtain ⟨s0, s1, s2, s3, s4, s5, s6, s7, s8⟩ := CF.out _ hSw.out; (try simp only [bo30]); go_simp); (try with_reducible rfl))
           (try simp only [Act.put, bo30, qa, qb, qc])
           refine wpAnyH_done (by kernel_rfl) ?_ _
           obtain ⟨zk, HY⟩ := HFIN.out _ _ A11.out B29_11.out
           clear hHeld
           refine noPan_normal ?_
           go_wp2
           exact ⟨by simp, .inl ⟨_, _, rfl, run_takeDeferred zk, _, by simp [results, Try.f20, go_sem], HY⟩⟩
         ·(try simp only [bo25])
          go_simp
          obtain ⟨C6, K25_6⟩ := al2 d5 #[.int .u64 fl] 23
          have A6 := tr2 A5 C6
          refine hK.out _ _ ?_ (fun hHeld => ?_)
          ·exact KS.out _ A6.out
          clear hK K
          (try simp only [Act.put, bo25, qa, qb, qc])
          generalize d5.alloc _ = d6 at *
          refine wpAnyH_ready (rs := [20]) (by kernel_rfl) (by simp) (AllReadyH.cons (o := bo20) rfl (fun K hK => ?_) AllReadyH.nil)
          have hcv := HCV.out _ _ (B19_5.out.below C6.out)
          (try simp only [bo20])
          go_simp
          refine hK.out _ _ ?_ (fun hHeld => ?_)
          ·exact KS.out _ A6.out
          clear hK K
          (try simp only [Act.put, bo20, qa, qb, qc])
          refine wpAnyH_ready (rs := [21]) (by kernel_rfl) (by simp) (AllReadyH.cons (o := bo21) rfl (fun K hK => ?_) AllReadyH.nil)
          (try simp only [bo21])
          go_simp
          obtain ⟨C7, K21_7⟩ := al2 d6 #[.string sb] 9
          have A7 := tr2 A6 C7
          refine hK.out _ _ ?_ (fun hHeld => ?_)
          ·exact KS.out _ A7.out
          clear hK K
          (try simp only [Act.put, bo21, qa, qb, qc])
          generalize d6.alloc _ = d7 at *
          refine wpAnyH_ready (rs := [22]) (by kernel_rfl) (by simp) (AllReadyH.cons (o := bo22) rfl (fun K hK => ?_) AllReadyH.nil)
          (try simp only [bo22])
          go_simp
          (with_reducible refine (C22.out _ _ K21_7.out).mono ?_)
          rintro _ d8 ⟨v22, rfl, o8, b8⟩
          obtain ⟨va22, vc22, rfl⟩ := owns_slice o8
          have C8 := Lib.hid b8
          have B22_8 := Lib.hid (BytesAt.own o8)
          have A8 := tr2 A7 C8
          clear o8 b8
          refine hK.out _ _ ?_ (fun hHeld => ?_)
          ·exact KS.out _ A8.out
          clear hK K
          (try simp only [Act.put, bo22, qa, qb, qc])
          refine wpAnyH_ready (rs := [26]) (by kernel_rfl) (by simp) (AllReadyH.cons (o := bo26) rfl (fun K hK => ?_) AllReadyH.nil)
          (try simp only [bo26])
          go_simp
          (with_reducible refine (C26.out _ _ ((K25_6.out.next C7.out).next C8.out)).mono ?_)
          rintro _ d9 ⟨v26, rfl, o9, b9⟩
          obtain ⟨va26, vc26, rfl⟩ := owns_slice o9
          have C9 := Lib.hid b9
          have B26_9 := Lib.hid (BytesAt.own o9)
          have A9 := tr2 A8 C9
          clear o9 b9
          refine hK.out _ _ ?_ (fun hHeld => ?_)
          ·exact KS.out _ A9.out
          clear hK K
          (try simp only [Act.put, bo26, qa, qb, qc])
          refine wpAnyH_ready (rs := [28]) (by kernel_rfl) (by simp) (AllReadyH.cons (o := bo28) rfl (fun K hK => ?_) AllReadyH.nil)
          (try simp only [bo28])
          go_simp
          obtain ⟨C10, K28_10⟩ := al2 d9 #[.slice va10 L10.length vc10, .slice va16 L16.length vc16, .slice va22 L22.length vc22, .slice va26 L26.length vc26, .slice sva L5.length svc] 53
          have A10 := tr2 A9 C10
          refine hK.out _ _ ?_ (fun hHeld => ?_)
          ·exact KS.out _ A10.out
          clear hK K
          (try simp only [Act.put, bo28, qa, qb, qc])
          generalize d9.alloc _ = d10 at *
          refine wpAnyH_ready (rs := [29]) (by kernel_rfl) (by simp) (AllReadyH.cons (o := bo29) rfl (fun K hK => ?_) AllReadyH.nil)
          (try simp only [bo29])
          go_simp
          (with_reducible refine (C29.out _ _ (parts5 K28_10.out ((((((((B10_2.out.below C3.out).below C4.out).below C5.out).below C6.out).below C7.out).below C8.out).below C9.out).below C10.out) ((((((B16_4.out.below C5.out).below C6.out).below C7.out).below C8.out).below C9.out).below C10.out) ((B22_8.out.below C9.out).below C10.out) (B26_9.out.below C10.out) ((((((((((BV0.out.below C1.out).below C2.out).below C3.out).below C4.out).below C5.out).below C6.out).below C7.out).below C8.out).below C9.out).below C10.out))).mono ?_)
          rintro _ d11 ⟨v29, rfl, o11, b11⟩
          have C11 := Lib.hid b11
          have B29_11 := Lib.hid (BytesAt.own o11)
          have A11 := tr2 A10 C11
          clear o11 b11
          refine hK.out _ _ ?_ (fun hHeld => ?_)
          ·exact KS.out _ A11.out
          clear hK K
          (try simp only [Act.put, bo29, qa, qb, qc])
          refine wpAnyH_take (i := 30) (oi := bo30) (v := ?_) rfl (by kernel_rfl) (by kernel_rfl) (by kernel_rfl) (fun _ _ _ h => h) (Or.inl ⟨by rfl, ?_⟩) hHeld ?_
          rotate_left
          ·((intro w hSw; obtain ⟨s0, s1, s2, s3, s4, s5, s6, s7, s8⟩ := CF.out _ hSw.out; (try simp only [bo30]); go_simp); (try with_reducible rfl))
          (try simp only [Act.put, bo30, qa, qb, qc])
          refine wpAnyH_done (by kernel_rfl) ?_ _
          obtain ⟨zk, HY⟩ := HFIN.out _ _ A11.out B29_11.out
          clear hHeld
          refine noPan_normal ?_
          go_wp2
          exact ⟨by simp, .inl ⟨_, _, rfl, run_takeDeferred zk, _, by simp [results, Try.f20, go_sem], HY⟩⟩
        ·(try simp only [bo25])
         go_simp
         obtain ⟨C5, K25_5⟩ := al2 d4 #[.int .u64 fl] 23
         have A5 := tr2 A4 C5
         refine hK.out _ _ ?_ (fun hHeld => ?_)
         ·exact KS.out _ A5.out
         clear hK K
         (try simp only [Act.put, bo25, qa, qb, qc])
         generalize d4.alloc _ = d5 at *
         refine wpAnyH_ready (rs := [19]) (by kernel_rfl) (by simp) (AllReadyH.cons (o := bo19) rfl (fun K hK => ?_) AllReadyH.nil)
         (try simp only [bo19])
         go_simp
         (with_reducible refine (C19.out _).mono ?_)
         rintro _ d6 ⟨v19, rfl, o6, b6⟩
         have C6 := Lib.hid b6
         have B19_6 := Lib.hid o6
         have A6 := tr2 A5 C6
         clear o6 b6
         refine hK.out _ _ ?_ (fun hHeld => ?_)
         ·exact KS.out _ A6.out
         clear hK K
         (try simp only [Act.put, bo19, qa, qb, qc])
         refine wpAnyH_ready (rs := [20]) (by kernel_rfl) (by simp) (AllReadyH.cons (o := bo20) rfl (fun K hK => ?_) AllReadyH.nil)
         have hcv := HCV.out _ _ B19_6.out
         (try simp only [bo20])
         go_simp
         refine hK.out _ _ ?_ (fun hHeld => ?_)
         ·exact KS.out _ A6.out
         clear hK K
         (try simp only [Act.put, bo20, qa, qb, qc])
         refine wpAnyH_ready (rs := [21]) (by kernel_rfl) (by simp) (AllReadyH.cons (o := bo21) rfl (fun K hK => ?_) AllReadyH.nil)
         (try simp only [bo21])
         go_simp
         obtain ⟨C7, K21_7⟩ := al2 d6 #[.string sb] 9
         have A7 := tr2 A6 C7
         refine hK.out _ _ ?_ (fun hHeld => ?_)
         ·exact KS.out _ A7.out
         clear hK K
         (try simp only [Act.put, bo21, qa, qb, qc])
         generalize d6.alloc _ = d7 at *
         refine wpAnyH_ready (rs := [22]) (by kernel_rfl) (by simp) (AllReadyH.cons (o := bo22) rfl (fun K hK => ?_) AllReadyH.nil)
         (try simp only [bo22])
         go_simp
         (with_reducible refine (C22.out _ _ K21_7.out).mono ?_)
         rintro _ d8 ⟨v22, rfl, o8, b8⟩
         obtain ⟨va22, vc22, rfl⟩ := owns_slice o8
         have C8 := Lib.hid b8
         have B22_8 := Lib.hid (BytesAt.own o8)
         have A8 := tr2 A7 C8
         clear o8 b8
         refine hK.out _ _ ?_ (fun hHeld => ?_)
         ·exact KS.out _ A8.out
         clear hK K
         (try simp only [Act.put, bo22, qa, qb, qc])
         refine wpAnyH_ready (rs := [26]) (by kernel_rfl) (by simp) (AllReadyH.cons (o := bo26) rfl (fun K hK => ?_) AllReadyH.nil)
         (try simp only [bo26])
         go_simp
         (with_reducible refine (C26.out _ _ (((K25_5.out.next C6.out).next C7.out).next C8.out)).mono ?_)
         rintro _ d9 ⟨v26, rfl, o9, b9⟩
         obtain ⟨va26, vc26, rfl⟩ := owns_slice o9
         have C9 := Lib.hid b9
         have B26_9 := Lib.hid (BytesAt.own o9)
         have A9 := tr2 A8 C9
         clear o9 b9
         refine hK.out _ _ ?_ (fun hHeld => ?_)
         ·exact KS.out _ A9.out
         clear hK K
         (try simp only [Act.put, bo26, qa, qb, qc])
         refine wpAnyH_ready (rs := [28]) (by kernel_rfl) (by simp) (AllReadyH.cons (o := bo28) rfl (fun K hK => ?_) AllReadyH.nil)
         (try simp only [bo28])
         go_simp
         obtain ⟨C10, K28_10⟩ := al2 d9 #[.slice va10 L10.length vc10, .slice va16 L16.length vc16, .slice va22 L22.length vc22, .slice va26 L26.length vc26, .slice sva L5.length svc] 53
         have A10 := tr2 A9 C10
         refine hK.out _ _ ?_ (fun hHeld => ?_)
         ·exact KS.out _ A10.out
         clear hK K
         (try simp only [Act.put, bo28, qa, qb, qc])
         generalize d9.alloc _ = d10 at *
         refine wpAnyH_ready (rs := [29]) (by kernel_rfl) (by simp) (AllReadyH.cons (o := bo29) rfl (fun K hK => ?_) AllReadyH.nil)
         (try simp only [bo29])
         go_simp
         (with_reducible refine (C29.out _ _ (parts5 K28_10.out ((((((((B10_2.out.below C3.out).below C4.out).below C5.out).below C6.out).below C7.out).below C8.out).below C9.out).below C10.out) ((((((B16_4.out.below C5.out).below C6.out).below C7.out).below C8.out).below C9.out).below C10.out) ((B22_8.out.below C9.out).below C10.out) (B26_9.out.below C10.out) ((((((((((BV0.out.below C1.out).below C2.out).below C3.out).below C4.out).below C5.out).below C6.out).below C7.out).below C8.out).below C9.out).below C10.out))).mono ?_)
         rintro _ d11 ⟨v29, rfl, o11, b11⟩
         have C11 := Lib.hid b11
         have B29_11 := Lib.hid (BytesAt.own o11)
         have A11 := tr2 A10 C11
         clear o11 b11
         refine hK.out _ _ ?_ (fun hHeld => ?_)
         ·exact KS.out _ A11.out
         clear hK K
         (try simp only [Act.put, bo29, qa, qb, qc])
         refine wpAnyH_take (i := 30) (oi := bo30) (v := ?_) rfl (by kernel_rfl) (by kernel_rfl) (by kernel_rfl) (fun _ _ _ h => h) (Or.inl ⟨by rfl, ?_⟩) hHeld ?_
         rotate_left
         ·((intro w hSw; obtain ⟨s0, s1, s2, s3, s4, s5, s6, s7, s8⟩ := CF.out _ hSw.out; (try simp only [bo30]); go_simp); (try with_reducible rfl))
         (try simp only [Act.put, bo30, qa, qb, qc])
         refine wpAnyH_done (by kernel_rfl) ?_ _
         obtain ⟨zk, HY⟩ := HFIN.out _ _ A11.out B29_11.out
         clear hHeld
         refine noPan_normal ?_
         go_wp2
         exact ⟨by simp, .inl ⟨_, _, rfl, run_takeDeferred zk, _, by simp [results, Try.f20, go_sem], HY⟩⟩
       ·(try simp only [bo25])
        go_simp
        obtain ⟨C4, K25_4⟩ := al2 d3 #[.int .u64 fl] 23
        have A4 := tr2 A3 C4
        refine hK.out _ _ ?_ (fun hHeld => ?_)
        ·exact KS.out _ A4.out
        clear hK K
        (try simp only [Act.put, bo25, qa, qb, qc])
        generalize d3.alloc _ = d4 at *
        refine wpAnyH_ready (rs := [16]) (by kernel_rfl) (by simp) (AllReadyH.cons (o := bo16) rfl (fun K hK => ?_) AllReadyH.nil)
        (try simp only [bo16])
        go_simp
        (with_reducible refine (C16.out _ _ (K15_3.out.next C4.out)).mono ?_)
        rintro _ d5 ⟨v16, rfl, o5, b5⟩
        obtain ⟨va16, vc16, rfl⟩ := owns_slice o5
        have C5 := Lib.hid b5
        have B16_5 := Lib.hid (BytesAt.own o5)
        have A5 := tr2 A4 C5
        clear o5 b5
        refine hK.out _ _ ?_ (fun hHeld => ?_)
        ·exact KS.out _ A5.out
        clear hK K
        (try simp only [Act.put, bo16, qa, qb, qc])
        refine wpAnyH_ready (rs := [19]) (by kernel_rfl) (by simp) (AllReadyH.cons (o := bo19) rfl (fun K hK => ?_) AllReadyH.nil)
        (try simp only [bo19])
        go_simp
        (with_reducible refine (C19.out _).mono ?_)
        rintro _ d6 ⟨v19, rfl, o6, b6⟩
        have C6 := Lib.hid b6
        have B19_6 := Lib.hid o6
        have A6 := tr2 A5 C6
        clear o6 b6
        refine hK.out _ _ ?_ (fun hHeld => ?_)
        ·exact KS.out _ A6.out
        clear hK K
        (try simp only [Act.put, bo19, qa, qb, qc])
        refine wpAnyH_ready (rs := [20]) (by kernel_rfl) (by simp) (AllReadyH.cons (o := bo20) rfl (fun K hK => ?_) AllReadyH.nil)
        have hcv := HCV.out _ _ B19_6.out
        (try simp only [bo20])
        go_simp
        refine hK.out _ _ ?_ (fun hHeld => ?_)
        ·exact KS.out _ A6.out
        clear hK K
        (try simp only [Act.put, bo20, qa, qb, qc])
        refine wpAnyH_ready (rs := [21]) (by kernel_rfl) (by simp) (AllReadyH.cons (o := bo21) rfl (fun K hK => ?_) AllReadyH.nil)
        (try simp only [bo21])
        go_simp
        obtain ⟨C7, K21_7⟩ := al2 d6 #[.string sb] 9
        have A7 := tr2 A6 C7
        refine hK.out _ _ ?_ (fun hHeld => ?_)
        ·exact KS.out _ A7.out
        clear hK K
        (try simp only [Act.put, bo21, qa, qb, qc])
        generalize d6.alloc _ = d7 at *
        refine wpAnyH_ready (rs := [22]) (by kernel_rfl) (by simp) (AllReadyH.cons (o := bo22) rfl (fun K hK => ?_) AllReadyH.nil)
        (try simp only [bo22])
        go_simp
        (with_reducible refine (C22.out _ _ K21_7.out).mono ?_)
        rintro _ d8 ⟨v22, rfl, o8, b8⟩
        obtain ⟨va22, vc22, rfl⟩ := owns_slice o8
        have C8 := Lib.hid b8
        have B22_8 := Lib.hid (BytesAt.own o8)
        have A8 := tr2 A7 C8
        clear o8 b8
        refine hK.out _ _ ?_ (fun hHeld => ?_)
        ·exact KS.out _ A8.out
        clear hK K
        (try simp only [Act.put, bo22, qa, qb, qc])
        refine wpAnyH_ready (rs := [26]) (by kernel_rfl) (by simp) (AllReadyH.cons (o := bo26) rfl (fun K hK => ?_) AllReadyH.nil)
        (try simp only [bo26])
        go_simp
        (with_reducible refine (C26.out _ _ ((((K25_4.out.next C5.out).next C6.out).next C7.out).next C8.out)).mono ?_)
        rintro _ d9 ⟨v26, rfl, o9, b9⟩
        obtain ⟨va26, vc26, rfl⟩ := owns_slice o9
        have C9 := Lib.hid b9
        have B26_9 := Lib.hid (BytesAt.own o9)
        have A9 := tr2 A8 C9
        clear o9 b9
        refine hK.out _ _ ?_ (fun hHeld => ?_)
        ·exact KS.out _ A9.out
        clear hK K
        (try simp only [Act.put, bo26, qa, qb, qc])
        refine wpAnyH_ready (rs := [28]) (by kernel_rfl) (by simp) (AllReadyH.cons (o := bo28) rfl (fun K hK => ?_) AllReadyH.nil)
        (try simp only [bo28])
        go_simp
        obtain ⟨C10, K28_10⟩ := al2 d9 #[.slice va10 L10.length vc10, .slice va16 L16.length vc16, .slice va22 L22.length vc22, .slice va26 L26.length vc26, .slice sva L5.length svc] 53
        have A10 := tr2 A9 C10
        refine hK.out _ _ ?_ (fun hHeld => ?_)
        ·exact KS.out _ A10.out
        clear hK K
        (try simp only [Act.put, bo28, qa, qb, qc])
        generalize d9.alloc _ = d10 at *
        refine wpAnyH_ready (rs := [29]) (by kernel_rfl) (by simp) (AllReadyH.cons (o := bo29) rfl (fun K hK => ?_) AllReadyH.nil)
        (try simp only [bo29])
        go_simp
        (with_reducible refine (C29.out _ _ (parts5 K28_10.out ((((((((B10_2.out.below C3.out).below C4.out).below C5.out).below C6.out).below C7.out).below C8.out).below C9.out).below C10.out) (((((B16_5.out.below C6.out).below C7.out).below C8.out).below C9.out).below C10.out) ((B22_8.out.below C9.out).below C10.out) (B26_9.out.below C10.out) ((((((((((BV0.out.below C1.out).below C2.out).below C3.out).below C4.out).below C5.out).below C6.out).below C7.out).below C8.out).below C9.out).below C10.out))).mono ?_)
        rintro _ d11 ⟨v29, rfl, o11, b11⟩
        have C11 := Lib.hid b11
        have B29_11 := Lib.hid (BytesAt.own o11)
        have A11 := tr2 A10 C11
        clear o11 b11
        refine hK.out _ _ ?_ (fun hHeld => ?_)
        ·exact KS.out _ A11.out
        clear hK K
        (try simp only [Act.put, bo29, qa, qb, qc])
        refine wpAnyH_take (i := 30) (oi := bo30) (v := ?_) rfl (by kernel_rfl) (by kernel_rfl) (by kernel_rfl) (fun _ _ _ h => h) (Or.inl ⟨by rfl, ?_⟩) hHeld ?_
        rotate_left
        ·((intro w hSw; obtain ⟨s0, s1, s2, s3, s4, s5, s6, s7, s8⟩ := CF.out _ hSw.out; (try simp only [bo30]); go_simp); (try with_reducible rfl))
        (try simp only [Act.put, bo30, qa, qb, qc])
        refine wpAnyH_done (by kernel_rfl) ?_ _
        obtain ⟨zk, HY⟩ := HFIN.out _ _ A11.out B29_11.out
        clear hHeld
        refine noPan_normal ?_
        go_wp2
        exact ⟨by simp, .inl ⟨_, _, rfl, run_takeDeferred zk, _, by simp [results, Try.f20, go_sem], HY⟩⟩
      ·(try simp only [bo25])
       go_simp
       obtain ⟨C3, K25_3⟩ := al2 d2 #[.int .u64 fl] 23
       have A3 := tr2 A2 C3
       refine hK.out _ _ ?_ (fun hHeld => ?_)
       ·exact KS.out _ A3.out
       clear hK K
       (try simp only [Act.put, bo25, qa, qb, qc])
       generalize d2.alloc _ = d3 at *
       refine wpAnyH_ready (rs := [15]) (by kernel_rfl) (by simp) (AllReadyH.cons (o := bo15) rfl (fun K hK => ?_) AllReadyH.nil)
       (try simp only [bo15])
       go_simp
       obtain ⟨C4, K15_4⟩ := al2 d3 #[.int .i64 mn, .int .i64 mx] 2
       have A4 := tr2 A3 C4
       refine hK.out _ _ ?_ (fun hHeld => ?_)
       ·exact KS.out _ A4.out
       clear hK K
       (try simp only [Act.put, bo15, qa, qb, qc])
       generalize d3.alloc _ = d4 at *
       refine wpAnyH_ready (rs := [16]) (by kernel_rfl) (by simp) (AllReadyH.cons (o := bo16) rfl (fun K hK => ?_) AllReadyH.nil)
       (try simp only [bo16])
       go_simp
       (with_reducible refine (C16.out _ _ K15_4.out).mono ?_)
       rintro _ d5 ⟨v16, rfl, o5, b5⟩
       obtain ⟨va16, vc16, rfl⟩ := owns_slice o5
       have C5 := Lib.hid b5
       have B16_5 := Lib.hid (BytesAt.own o5)
       have A5 := tr2 A4 C5
       clear o5 b5
       refine hK.out _ _ ?_ (fun hHeld => ?_)
       ·exact KS.out _ A5.out
       clear hK K
       (try simp only [Act.put, bo16, qa, qb, qc])
       refine wpAnyH_ready (rs := [19]) (by kernel_rfl) (by simp) (AllReadyH.cons (o := bo19) rfl (fun K hK => ?_) AllReadyH.nil)
       (try simp only [bo19])
       go_simp
       (with_reducible refine (C19.out _).mono ?_)
       rintro _ d6 ⟨v19, rfl, o6, b6⟩
       have C6 := Lib.hid b6
       have B19_6 := Lib.hid o6
       have A6 := tr2 A5 C6
       clear o6 b6
       refine hK.out _ _ ?_ (fun hHeld => ?_)
       ·exact KS.out _ A6.out
       clear hK K
       (try simp only [Act.put, bo19, qa, qb, qc])
       refine wpAnyH_ready (rs := [20]) (by kernel_rfl) (by simp) (AllReadyH.cons (o := bo20) rfl (fun K hK => ?_) AllReadyH.nil)
       have hcv := HCV.out _ _ B19_6.out
       (try simp only [bo20])
       go_simp
       refine hK.out _ _ ?_ (fun hHeld => ?_)
       ·exact KS.out _ A6.out
       clear hK K
       (try simp only [Act.put, bo20, qa, qb, qc])
       refine wpAnyH_ready (rs := [21]) (by kernel_rfl) (by simp) (AllReadyH.cons (o := bo21) rfl (fun K hK => ?_) AllReadyH.nil)
       (try simp only [bo21])
       go_simp
       obtain ⟨C7, K21_7⟩ := al2 d6 #[.string sb] 9
       have A7 := tr2 A6 C7
       refine hK.out _ _ ?_ (fun hHeld => ?_)
       ·exact KS.out _ A7.out
       clear hK K
       (try simp only [Act.put, bo21, qa, qb, qc])
       generalize d6.alloc _ = d7 at *
       refine wpAnyH_ready (rs := [22]) (by kernel_rfl) (by simp) (AllReadyH.cons (o := bo22) rfl (fun K hK => ?_) AllReadyH.nil)
       (try simp only [bo22])
       go_simp
       (with_reducible refine (C22.out _ _ K21_7.out).mono ?_)
       rintro _ d8 ⟨v22, rfl, o8, b8⟩
       obtain ⟨va22, vc22, rfl⟩ := owns_slice o8
       have C8 := Lib.hid b8
       have B22_8 := Lib.hid (BytesAt.own o8)
       have A8 := tr2 A7 C8
       clear o8 b8
       refine hK.out _ _ ?_ (fun hHeld => ?_)
       ·exact KS.out _ A8.out
       clear hK K
       (try simp only [Act.put, bo22, qa, qb, qc])
       refine wpAnyH_ready (rs := [26]) (by kernel_rfl) (by simp) (AllReadyH.cons (o := bo26) rfl (fun K hK => ?_) AllReadyH.nil)
       (try simp only [bo26])
       go_simp
       (with_reducible refine (C26.out _ _ (((((K25_3.out.next C4.out).next C5.out).next C6.out).next C7.out).next C8.out)).mono ?_)
       rintro _ d9 ⟨v26, rfl, o9, b9⟩
       obtain ⟨va26, vc26, rfl⟩ := owns_slice o9
       have C9 := Lib.hid b9
       have B26_9 := Lib.hid (BytesAt.own o9)
       have A9 := tr2 A8 C9
       clear o9 b9
       refine hK.out _ _ ?_ (fun hHeld => ?_)
       ·exact KS.out _ A9.out
       clear hK K
       (try simp only [Act.put, bo26, qa, qb, qc])
       refine wpAnyH_ready (rs := [28]) (by kernel_rfl) (by simp) (AllReadyH.cons (o := bo28) rfl (fun K hK => ?_) AllReadyH.nil)
       (try simp only [bo28])
       go_simp
       obtain ⟨C10, K28_10⟩ := al2 d9 #[.slice va10 L10.length vc10, .slice va16 L16.length vc16, .slice va22 L22.length vc22, .slice va26 L26.length vc26, .slice sva L5.length svc] 53
       have A10 := tr2 A9 C10
       refine hK.out _ _ ?_ (fun hHeld => ?_)
       ·exact KS.out _ A10.out
       clear hK K
       (try simp only [Act.put, bo28, qa, qb, qc])
       generalize d9.alloc _ = d10 at *
       refine wpAnyH_ready (rs := [29]) (by kernel_rfl) (by simp) (AllReadyH.cons (o := bo29) rfl (fun K hK => ?_) AllReadyH.nil)
       (try simp only [bo29])
       go_simp
       (with_reducible refine (C29.out _ _ (parts5 K28_10.out ((((((((B10_2.out.below C3.out).below C4.out).below C5.out).below C6.out).below C7.out).below C8.out).below C9.out).below C10.out) (((((B16_5.out.below C6.out).below C7.out).below C8.out).below C9.out).below C10.out) ((B22_8.out.below C9.out).below C10.out) (B26_9.out.below C10.out) ((((((((((BV0.out.below C1.out).below C2.out).below C3.out).below C4.out).below C5.out).below C6.out).below C7.out).below C8.out).below C9.out).below C10.out))).mono ?_)
       rintro _ d11 ⟨v29, rfl, o11, b11⟩
       have C11 := Lib.hid b11
       have B29_11 := Lib.hid (BytesAt.own o11)
       have A11 := tr2 A10 C11
       clear o11 b11
       refine hK.out _ _ ?_ (fun hHeld => ?_)
       ·exact KS.out _ A11.out
       clear hK K
       (try simp only [Act.put, bo29, qa, qb, qc])
       refine wpAnyH_take (i := 30) (oi := bo30) (v := ?_) rfl (by kernel_rfl) (by kernel_rfl) (by kernel_rfl) (fun _ _ _ h => h) (Or.inl ⟨by rfl, ?_⟩) hHeld ?_
       rotate_left
       ·((intro w hSw; obtain ⟨s0, s1, s2, s3, s4, s5, s6, s7, s8⟩ := CF.out _ hSw.out; (try simp only [bo30]); go_simp); (try with_reducible rfl))
       (try simp only [Act.put, bo30, qa, qb, qc])
       refine wpAnyH_done (by kernel_rfl) ?_ _
       obtain ⟨zk, HY⟩ := HFIN.out _ _ A11.out B29_11.out
       clear hHeld
       refine noPan_normal ?_
       go_wp2
       exact ⟨by simp, .inl ⟨_, _, rfl, run_takeDeferred zk, _, by simp [results, Try.f20, go_sem], HY⟩⟩
     ·(try simp only [bo15])
      go_simp
      obtain ⟨C2, K15_2⟩ := al2 d1 #[.int .i64 mn, .int .i64 mx] 2
      have A2 := tr2 A1 C2
      refine hK.out _ _ ?_ (fun hHeld => ?_)
      ·exact KS.out _ A2.out
      clear hK K
      (try simp only [Act.put, bo15, qa, qb, qc])
      generalize d1.alloc _ = d2 at *
      refine wpAnyH_ready (rs := [10, 25]) (by kernel_rfl) (by simp) ?_
      refine AllReadyH.cons (o := bo10) rfl (fun K hK => ?_) (AllReadyH.cons (o := bo25) rfl (fun K hK => ?_) (AllReadyH.nil))
      ·(try simp only [bo10])
       go_simp
       (with_reducible refine (C10.out _ _ (K9_1.out.next C2.out)).mono ?_)
       rintro _ d3 ⟨v10, rfl, o3, b3⟩
       obtain ⟨va10, vc10, rfl⟩ := owns_slice o3
       have C3 := Lib.hid b3
       have B10_3 := Lib.hid (BytesAt.own o3)
       have A3 := tr2 A2 C3
       clear o3 b3
       refine hK.out _ _ ?_ (fun hHeld => ?_)
       ·exact KS.out _ A3.out
       clear hK K
       (try simp only [Act.put, bo10, qa, qb, qc])
       refine wpAnyH_ready (rs := [16, 25]) (by kernel_rfl) (by simp) ?_
       refine AllReadyH.cons (o := bo16) rfl (fun K hK => ?_) (AllReadyH.cons (o := bo25) rfl (fun K hK => ?_) (AllReadyH.nil))
       ·(try simp only [bo16])
        go_simp
        (with_reducible refine (C16.out _ _ (K15_2.out.next C3.out)).mono ?_)
        rintro _ d4 ⟨v16, rfl, o4, b4⟩
        obtain ⟨va16, vc16, rfl⟩ := owns_slice o4
        have C4 := Lib.hid b4
        have B16_4 := Lib.hid (BytesAt.own o4)
        have A4 := tr2 A3 C4
        clear o4 b4
        refine hK.out _ _ ?_ (fun hHeld => ?_)
        ·exact KS.out _ A4.out
        clear hK K
        (try simp only [Act.put, bo16, qa, qb, qc])
        refine wpAnyH_ready (rs := [19, 25]) (by kernel_rfl) (by simp) ?_
        refine AllReadyH.cons (o := bo19) rfl (fun K hK => ?_) (AllReadyH.cons (o := bo25) rfl (fun K hK => ?_) (AllReadyH.nil))
        ·(try simp only [bo19])
         go_simp
         (with_reducible refine (C19.out _).mono ?_)
         rintro _ d5 ⟨v19, rfl, o5, b5⟩
         have C5 := Lib.hid b5
         have B19_5 := Lib.hid o5
         have A5 := tr2 A4 C5
         clear o5 b5
         refine hK.out _ _ ?_ (fun hHeld => ?_)
         ·exact KS.out _ A5.out
         clear hK K
         (try simp only [Act.put, bo19, qa, qb, qc])
         refine wpAnyH_ready (rs := [20, 25]) (by kernel_rfl) (by simp) ?_
         refine AllReadyH.cons (o := bo20) rfl (fun K hK => ?_) (AllReadyH.cons (o := bo25) rfl (fun K hK => ?_) (AllReadyH.nil))
         ·have hcv := HCV.out _ _ B19_5.out
          (try simp only [bo20])
          go_simp
          refine hK.out _ _ ?_ (fun hHeld => ?_)
          ·exact KS.out _ A5.out
          clear hK K
          (try simp only [Act.put, bo20, qa, qb, qc])
          refine wpAnyH_ready (rs := [21, 25]) (by kernel_rfl) (by simp) ?_
          refine AllReadyH.cons (o := bo21) rfl (fun K hK => ?_) (AllReadyH.cons (o := bo25) rfl (fun K hK => ?_) (AllReadyH.nil))
          ·(try simp only [bo21])
           go_simp
           obtain ⟨C6, K21_6⟩ := al2 d5 #[.string sb] 9
           have A6 := tr2 A5 C6
           refine hK.out _ _ ?_ (fun hHeld => ?_)
           ·exact KS.out _ A6.out
           clear hK K
           (try simp only [Act.put, bo21, qa, qb, qc])
           generalize d5.alloc _ = d6 at *
           refine wpAnyH_ready (rs := [22, 25]) (by kernel_rfl) (by simp) ?_
           refine AllReadyH.cons (o := bo22) rfl (fun K hK => ?_) (AllReadyH.cons (o := bo25) rfl (fun K hK => ?_) (AllReadyH.nil))
           ·(try simp only [bo22])
            go_simp
            (with_reducible refine (C22.out _ _ K21_6.out).mono ?_)
            rintro _ d7 ⟨v22, rfl, o7, b7⟩
            obtain ⟨va22, vc22, rfl⟩ := owns_slice o7
            have C7 := Lib.hid b7
            have B22_7 := Lib.hid (BytesAt.own o7)
            have A7 := tr2 A6 C7
            clear o7 b7
            refine hK.out _ _ ?_ (fun hHeld => ?_)
            ·exact KS.out _ A7.out
            clear hK K
            (try simp only [Act.put, bo22, qa, qb, qc])
            refine wpAnyH_ready (rs := [25]) (by kernel_rfl) (by simp) (AllReadyH.cons (o := bo25) rfl (fun K hK => ?_) AllReadyH.nil)
            (try simp only [bo25])
            go_simp
            obtain ⟨C8, K25_8⟩ := al2 d7 #[.int .u64 fl] 23
            have A8 := tr2 A7 C8
            refine hK.out _ _ ?_ (fun hHeld => ?_)
            ·exact KS.out _ A8.out
            clear hK K
            (try simp only [Act.put, bo25, qa, qb, qc])
            generalize d7.alloc _ = d8 at *
            refine wpAnyH_ready (rs := [26]) (by kernel_rfl) (by simp) (AllReadyH.cons (o := bo26) rfl (fun K hK => ?_) AllReadyH.nil)
            (try simp only [bo26])
            go_simp
            (with_reducible refine (C26.out _ _ K25_8.out).mono ?_)
            rintro _ d9 ⟨v26, rfl, o9, b9⟩
            obtain ⟨va26, vc26, rfl⟩ := owns_slice o9
            have C9 := Lib.hid b9
            have B26_9 := Lib.hid (BytesAt.own o9)
            have A9 := tr2 A8 C9
            clear o9 b9
            refine hK.out _ _ ?_ (fun hHeld => ?_)
            ·exact KS.out _ A9.out
            clear hK K
            (try simp only [Act.put, bo26, qa, qb, qc])
            refine wpAnyH_ready (rs := [28]) (by kernel_rfl) (by simp) (AllReadyH.cons (o := bo28) rfl (fun K hK => ?_) AllReadyH.nil)
            (try simp only [bo28])
            go_simp
            obtain ⟨C10, K28_10⟩ := al2 d9 #[.slice va10 L10.length vc10, .slice va16 L16.length vc16, .slice va22 L22.length vc22, .slice va26 L26.length vc26, .slice sva L5.length svc] 53
            have A10 := tr2 A9 C10
            refine hK.out _ _ ?_ (fun hHeld => ?_)
            ·exact KS.out _ A10.out
            clear hK K
            (try simp only [Act.put, bo28, qa, qb, qc])
            generalize d9.alloc _ = d10 at *
            refine wpAnyH_ready (rs := [29]) (by kernel_rfl) (by simp) (AllReadyH.cons (o := bo29) rfl (fun K hK => ?_) AllReadyH.nil)
            (try simp only [bo29])
            go_simp
            (with_reducible refine (C29.out _ _ (parts5 K28_10.out (((((((B10_3.out.below C4.out).below C5.out).below C6.out).below C7.out).below C8.out).below C9.out).below C10.out) ((((((B16_4.out.below C5.out).below C6.out).below C7.out).below C8.out).below C9.out).below C10.out) (((B22_7.out.below C8.out).below C9.out).below C10.out) (B26_9.out.below C10.out) ((((((((((BV0.out.below C1.out).below C2.out).below C3.out).below C4.out).below C5.out).below C6.out).below C7.out).below C8.out).below C9.out).below C10.out))).mono ?_)
            rintro _ d11 ⟨v29, rfl, o11, b11⟩
            have C11 := Lib.hid b11
            have B29_11 := Lib.hid (BytesAt.own o11)
            have A11 := tr2 A10 C11
            clear o11 b11
            refine hK.out _ _ ?_ (fun hHeld => ?_)
            ·exact KS.out _ A11.out
            clear hK K
            (try simp only [Act.put, bo29, qa, qb, qc])
            refine wpAnyH_take (i := 30) (oi := bo30) (v := ?_) rfl (by kernel_rfl) (by kernel_rfl) (by kernel_rfl) (fun _ _ _ h => h) (Or.inl ⟨by rfl, ?_⟩) hHeld ?_
            rotate_left
            ·((intro w hSw; obtain ⟨s0, s1, s2, s3, s4, s5, s6, s7, s8⟩ := CF.out _ hSw.out; (try simp only [bo30]); go_simp); (try with_reducible rfl))
            (try simp only [Act.put, bo30, qa, qb, qc])
            refine wpAnyH_done (by kernel_rfl) ?_ _
            obtain ⟨zk, HY⟩ := HFIN.out _ _ A11.out B29_11.out
            clear hHeld
            refine noPan_normal ?_
            go_wp2
            exact ⟨by simp, .inl ⟨_, _, rfl, run_takeDeferred zk, _, by simp [results, Try.f20, go_sem], HY⟩⟩
           ·(try simp only [bo25])
            go_simp
            obtain ⟨C7, K25_7⟩ := al2 d6 #[.int .u64 fl] 23
            have A7 := tr2 A6 C7
            refine hK.out _ _ ?_ (fun hHeld => ?_)
            ·exact KS.out _ A7.out
            clear hK K
            (try simp only [Act.put, bo25, qa, qb, qc])
            generalize d6.alloc _ = d7 at *
            refine wpAnyH_ready (rs := [22]) (by kernel_rfl) (by simp) (AllReadyH.cons (o := bo22) rfl (fun K hK => ?_) AllReadyH.nil)
            (try simp only [bo22])
            go_simp
            (with_reducible refine (C22.out _ _ (K21_6.out.next C7.out)).mono ?_)
            rintro _ d8 ⟨v22, rfl, o8, b8⟩
            obtain ⟨va22, vc22, rfl⟩ := owns_slice o8
            have C8 := Lib.hid b8
            have B22_8 := Lib.hid (BytesAt.own o8)
            have A8 := tr2 A7 C8
            clear o8 b8
            refine hK.out _ _ ?_ (fun hHeld => ?_)
            ·exact KS.out _ A8.out
            clear hK K
            (try simp only [Act.put, bo22, qa, qb, qc])
            refine wpAnyH_ready (rs := [26]) (by kernel_rfl) (by simp) (AllReadyH.cons (o := bo26) rfl (fun K hK => ?_) AllReadyH.nil)
            (try simp only [bo26])
            go_simp
            (with_reducible refine (C26.out _ _ (K25_7.out.next C8.out)).mono ?_)
            rintro _ d9 ⟨v26, rfl, o9, b9⟩
            obtain ⟨va26, vc26, rfl⟩ := owns_slice o9
            have C9 := Lib.hid b9
            have B26_9 := Lib.hid (BytesAt.own o9)
            have A9 := tr2 A8 C9
            clear o9 b9
            refine hK.out _ _ ?_ (fun hHeld => ?_)
            ·exact KS.out _ A9.out
            clear hK K
            (try simp only [Act.put, bo26, qa, qb, qc])
            refine wpAnyH_ready (rs := [28]) (by kernel_rfl) (by simp) (AllReadyH.cons (o := bo28) rfl (fun K hK => ?_) AllReadyH.nil)
            (try simp only [bo28])
            go_simp
            obtain ⟨C10, K28_10⟩ := al2 d9 #[.slice va10 L10.length vc10, .slice va16 L16.length vc16, .slice va22 L22.length vc22, .slice va26 L26.length vc26, .slice sva L5.length svc] 53
            have A10 := tr2 A9 C10
            refine hK.out _ _ ?_ (fun hHeld => ?_)
            ·exact KS.out _ A10.out
            clear hK K
            (try simp only [Act.put, bo28, qa, qb, qc])
            generalize d9.alloc _ = d10 at *
            refine wpAnyH_ready (rs := [29]) (by kernel_rfl) (by simp) (AllReadyH.cons (o := bo29) rfl (fun K hK => ?_) AllReadyH.nil)
            (try simp only [bo29])
            go_simp
            (with_reducible refine (C29.out _ _ (parts5 K28_10.out (((((((B10_3.out.below C4.out).below C5.out).below C6.out).below C7.out).below C8.out).below C9.out).below C10.out) ((((((B16_4.out.below C5.out).below C6.out).below C7.out).below C8.out).below C9.out).below C10.out) ((B22_8.out.below C9.out).below C10.out) (B26_9.out.below C10.out) ((((((((((BV0.out.below C1.out).below C2.out).below C3.out).below C4.out).below C5.out).below C6.out).below C7.out).below C8.out).below C9.out).below C10.out))).mono ?_)
            rintro _ d11 ⟨v29, rfl, o11, b11⟩
            have C11 := Lib.hid b11
            have B29_11 := Lib.hid (BytesAt.own o11)
            have A11 := tr2 A10 C11
            clear o11 b11
            refine hK.out _ _ ?_ (fun hHeld => ?_)
            ·exact KS.out _ A11.out
            clear hK K
            (try simp only [Act.put, bo29, qa, qb, qc])
            refine wpAnyH_take (i := 30) (oi := bo30) (v := ?_) rfl (by kernel_rfl) (by kernel_rfl) (by kernel_rfl) (fun _ _ _ h => h) (Or.inl ⟨by rfl, ?_⟩) hHeld ?_
            rotate_left
            ·((intro w hSw; obtain ⟨s0, s1, s2, s3, s4, s5, s6, s7, s8⟩ := CF.out _ hSw.out; (try simp only [bo30]); go_simp); (try with_reducible rfl))
            (try simp only [Act.put, bo30, qa, qb, qc])
            refine wpAnyH_done (by kernel_rfl) ?_ _
            obtain ⟨zk, HY⟩ := HFIN.out _ _ A11.out B29_11.out
            clear hHeld
            refine noPan_normal ?_
            go_wp2
            exact ⟨by simp, .inl ⟨_, _, rfl, run_takeDeferred zk, _, by simp [results, Try.f20, go_sem], HY⟩⟩
          ·(try simp only [bo25])
           go_simp
           obtain ⟨C6, K25_6⟩ := al2 d5 #[.int .u64 fl] 23
           have A6 := tr2 A5 C6
           refine hK.out _ _ ?_ (fun hHeld => ?_)
           ·exact KS.out _ A6.out
           clear hK K
           (try simp only [Act.put, bo25, qa, qb, qc])
           generalize d5.alloc _ = d6 at *
           refine wpAnyH_ready (rs := [21]) (by kernel_rfl) (by simp) (AllReadyH.cons (o := bo21) rfl (fun K hK => ?_) AllReadyH.nil)
           (try simp only [bo21])
           go_simp
           obtain ⟨C7, K21_7⟩ := al2 d6 #[.string sb] 9
           have A7 := tr2 A6 C7
           refine hK.out _ _ ?_ (fun hHeld => ?_)
           ·exact KS.out _ A7.out
           clear hK K
           (try simp only [Act.put, bo21, qa, qb, qc])
           generalize d6.alloc _ = d7 at *
           refine wpAnyH_ready (rs := [22]) (by kernel_rfl) (by simp) (AllReadyH.cons (o := bo22) rfl (fun K hK => ?_) AllReadyH.nil)
           (try simp only [bo22])
           go_simp
           (with_reducible refine (C22.out _ _ K21_7.out).mono ?_)
           rintro _ d8 ⟨v22, rfl, o8, b8⟩
           obtain ⟨va22, vc22, rfl⟩ := owns_slice o8
           have C8 := Lib.hid b8
           have B22_8 := Lib.hid (BytesAt.own o8)
           have A8 := tr2 A7 C8
           clear o8 b8
           refine hK.out _ _ ?_ (fun hHeld => ?_)
           ·exact KS.out _ A8.out
           clear hK K
           (try simp only [Act.put, bo22, qa, qb, qc])
           refine wpAnyH_ready (rs := [26]) (by kernel_rfl) (by simp) (AllReadyH.cons (o := bo26) rfl (fun K hK => ?_) AllReadyH.nil)
           (try simp only [bo26])
           go_simp
           (with_reducible refine (C26.out _ _ ((K25_6.out.next C7.out).next C8.out)).mono ?_)
           rintro _ d9 ⟨v26, rfl, o9, b9⟩
           obtain ⟨va26, vc26, rfl⟩ := owns_slice o9
           have C9 := Lib.hid b9
           have B26_9 := Lib.hid (BytesAt.own o9)
           have A9 := tr2 A8 C9
           clear o9 b9
           refine hK.out _ _ ?_ (fun hHeld => ?_)
           ·exact KS.out _ A9.out
           clear hK K
           (try simp only [Act.put, bo26, qa, qb, qc])
           refine wpAnyH_ready (rs := [28]) (by kernel_rfl) (by simp) (AllReadyH.cons (o := bo28) rfl (fun K hK => ?_) AllReadyH.nil)
           (try simp only [bo28])
           go_simp
           obtain ⟨C10, K28_10⟩ := al2 d9 #[.slice va10 L10.length vc10, .slice va16 L16.length vc16, .slice va22 L22.length vc22, .slice va26 L26.length vc26, .slice sva L5.length svc] 53
           have A10 := tr2 A9 C10
           refine hK.out _ _ ?_ (fun hHeld => ?_)
           ·exact KS.out _ A10.out
           clear hK K
           (try simp only [Act.put, bo28, qa, qb, qc])
           generalize d9.alloc _ = d10 at *
           refine wpAnyH_ready (rs := [29]) (by kernel_rfl) (by simp) (AllReadyH.cons (o := bo29) rfl (fun K hK => ?_) AllReadyH.nil)
           (try simp only [bo29])
           go_simp
           (with_reducible refine (C29.out _ _ (parts5 K28_10.out (((((((B10_3.out.below C4.out).below C5.out).below C6.out).below C7.out).below C8.out).below C9.out).below C10.out) ((((((B16_4.out.below C5.out).below C6.out).below C7.out).below C8.out).below C9.out).below C10.out) ((B22_8.out.below C9.out).below C10.out) (B26_9.out.below C10.out) ((((((((((BV0.out.below C1.out).below C2.out).below C3.out).below C4.out).below C5.out).below C6.out).below C7.out).below C8.out).below C9.out).below C10.out))).mono ?_)
           rintro _ d11 ⟨v29, rfl, o11, b11⟩
           have C11 := Lib.hid b11
           have B29_11 := Lib.hid (BytesAt.own o11)
           have A11 := tr2 A10 C11
           clear o11 b11
           refine hK.out _ _ ?_ (fun hHeld => ?_)
           ·exact KS.out _ A11.out
           clear hK K
           (try simp only [Act.put, bo29, qa, qb, qc])
           refine wpAnyH_take (i := 30) (oi := bo30) (v := ?_) rfl (by kernel_rfl) (by kernel_rfl) (by kernel_rfl) (fun _ _ _ h => h) (Or.inl ⟨by rfl, ?_⟩) hHeld ?_
           rotate_left
           ·((intro w hSw; obtain ⟨s0, s1, s2, s3, s4, s5, s6, s7, s8⟩ := CF.out _ hSw.out; (try simp only [bo30]); go_simp); (try with_reducible rfl))
           (try simp only [Act.put, bo30, qa, qb, qc])
           refine wpAnyH_done (by kernel_rfl) ?_ _
           obtain ⟨zk, HY⟩ := HFIN.out _ _ A11.out B29_11.out
           clear hHeld
           refine noPan_normal ?_
           go_wp2
           exact ⟨by simp, .inl ⟨_, _, rfl, run_takeDeferred zk, _, by simp [results, Try.f20, go_sem], HY⟩⟩
         ·(try simp only [bo25])
          go_simp
          obtain ⟨C6, K25_6⟩ := al2 d5 #[.int .u64 fl] 23
          have A6 := tr2 A5 C6
          refine hK.out _ _ ?_ (fun hHeld => ?_)
          ·exact KS.out _ A6.out
          clear hK K
          (try simp only [Act.put, bo25, qa, qb, qc])
          generalize d5.alloc _ = d6 at *
          refine wpAnyH_ready (rs := [20]) (by kernel_rfl) (by simp) (AllReadyH.cons (o := bo20) rfl (fun K hK => ?_) AllReadyH.nil)
          have hcv := HCV.out _ _ (B19_5.out.below C6.out)
          (try simp only [bo20])
          go_simp
          refine hK.out _ _ ?_ (fun hHeld => ?_)
          ·exact KS.out _ A6.out
          clear hK K
          (try simp only [Act.put, bo20, qa, qb, qc])
          refine wpAnyH_ready (rs := [21]) (by kernel_rfl) (by simp) (AllReadyH.cons (o := bo21) rfl (fun K hK => ?_) AllReadyH.nil)
          (try simp only [bo21])
          go_simp
          obtain ⟨C7, K21_7⟩ := al2 d6 #[.string sb] 9
          have A7 := tr2 A6 C7
          refine hK.out _ _ ?_ (fun hHeld => ?_)
          ·exact KS.out _ A7.out
          clear hK K
          (try simp only [Act.put, bo21, qa, qb, qc])
          generalize d6.alloc _ = d7 at *
          refine wpAnyH_ready (rs := [22]) (by kernel_rfl) (by simp) (AllReadyH.cons (o := bo22) rfl (fun K hK => ?_) AllReadyH.nil)
          (try simp only [bo22])
          go_simp
          (with_reducible refine (C22.out _ _ K21_7.out).mono ?_)
          rintro _ d8 ⟨v22, rfl, o8, b8⟩
          obtain ⟨va22, vc22, rfl⟩ := owns_slice o8
          have C8 := Lib.hid b8
          have B22_8 := Lib.hid (BytesAt.own o8)
          have A8 := tr2 A7 C8
          clear o8 b8
          refine hK.out _ _ ?_ (fun hHeld => ?_)
          ·exact KS.out _ A8.out
          clear hK K
          (try simp only [Act.put, bo22, qa, qb, qc])
          refine wpAnyH_ready (rs := [26]) (by kernel_rfl) (by simp) (AllReadyH.cons (o := bo26) rfl (fun K hK => ?_) AllReadyH.nil)
          (try simp only [bo26])
          go_simp
          (with_reducible refine (C26.out _ _ ((K25_6.out.next C7.out).next C8.out)).mono ?_)
          rintro _ d9 ⟨v26, rfl, o9, b9⟩
          obtain ⟨va26, vc26, rfl⟩ := owns_slice o9
          have C9 := Lib.hid b9
          have B26_9 := Lib.hid (BytesAt.own o9)
          have A9 := tr2 A8 C9
          clear o9 b9
          refine hK.out _ _ ?_ (fun hHeld => ?_)
          ·exact KS.out _ A9.out
          clear hK K
          (try simp only [Act.put, bo26, qa, qb, qc])
          refine wpAnyH_ready (rs := [28]) (by kernel_rfl) (by simp) (AllReadyH.cons (o := bo28) rfl (fun K hK => ?_) AllReadyH.nil)
          (try simp only [bo28])
          go_simp
          obtain ⟨C10, K28_10⟩ := al2 d9 #[.slice va10 L10.length vc10, .slice va16 L16.length vc16, .slice va22 L22.length vc22, .slice va26 L26.length vc26, .slice sva L5.length svc] 53
          have A10 := tr2 A9 C10
          refine hK.out _ _ ?_ (fun hHeld => ?_)
          ·exact KS.out _ A10.out
          clear hK K
          (try simp only [Act.put, bo28, qa, qb, qc])
          generalize d9.alloc _ = d10 at *
          refine wpAnyH_ready (rs := [29]) (by kernel_rfl) (by simp) (AllReadyH.cons (o := bo29) rfl (fun K hK => ?_) AllReadyH.nil)
          (try simp only [bo29])
          go_simp
          (with_reducible refine (C29.out _ _ (parts5 K28_10.out (((((((B10_3.out.below C4.out).below C5.out).below C6.out).below C7.out).below C8.out).below C9.out).below C10.out) ((((((B16_4.out.below C5.out).below C6.out).below C7.out).below C8.out).below C9.out).below C10.out) ((B22_8.out.below C9.out).below C10.out) (B26_9.out.below C10.out) ((((((((((BV0.out.below C1.out).below C2.out).below C3.out).below C4.out).below C5.out).below C6.out).below C7.out).below C8.out).below C9.out).below C10.out))).mono ?_)
          rintro _ d11 ⟨v29, rfl, o11, b11⟩
          have C11 := Lib.hid b11
          have B29_11 := Lib.hid (BytesAt.own o11)
          have A11 := tr2 A10 C11
          clear o11 b11
          refine hK.out _ _ ?_ (fun hHeld => ?_)
          ·exact KS.out _ A11.out
          clear hK K
          (try simp only [Act.put, bo29, qa, qb, qc])
          refine wpAnyH_take (i := 30) (oi := bo30) (v := ?_) rfl (by kernel_rfl) (by kernel_rfl) (by kernel_rfl) (fun _ _ _ h => h) (Or.inl ⟨by rfl, ?_⟩) hHeld ?_
          rotate_left
          ·((intro w hSw; obtain ⟨s0, s1, s2, s3, s4, s5, s6, s7, s8⟩ := CF.out _ hSw.out; (try simp only [bo30]); go_simp); (try with_reducible rfl))
          (try simp only [Act.put, bo30, qa, qb, qc])
          refine wpAnyH_done (by kernel_rfl) ?_ _
          obtain ⟨zk, HY⟩ := HFIN.out _ _ A11.out B29_11.out
          clear hHeld
          refine noPan_normal ?_
          go_wp2
          exact ⟨by simp, .inl ⟨_, _, rfl, run_takeDeferred zk, _, by simp [results, Try.f20, go_sem], HY⟩⟩
        ·(try simp only [bo25])
         go_simp
         obtain ⟨C5, K25_5⟩ := al2 d4 #[.int .u64 fl] 23
         have A5 := tr2 A4 C5
         refine hK.out _ _ ?_ (fun hHeld => ?_)
         ·exact KS.out _ A5.out
         clear hK K
         (try simp only [Act.put, bo25, qa, qb, qc])
         generalize d4.alloc _ = d5 at *
         refine wpAnyH_ready (rs := [19]) (by kernel_rfl) (by simp) (AllReadyH.cons (o := bo19) rfl (fun K hK => ?_) AllReadyH.nil)
         (try simp only [bo19])
         go_simp
         (with_reducible refine (C19.out _).mono ?_)
         rintro _ d6 ⟨v19, rfl, o6, b6⟩
         have C6 := Lib.hid b6
         have B19_6 := Lib.hid o6
         have A6 := tr2 A5 C6
         clear o6 b6
         refine hK.out _ _ ?_ (fun hHeld => ?_)
         ·exact KS.out _ A6.out
         clear hK K
         (try simp only [Act.put, bo19, qa, qb, qc])
         refine wpAnyH_ready (rs := [20]) (by kernel_rfl) (by simp) (AllReadyH.cons (o := bo20) rfl (fun K hK => ?_) AllReadyH.nil)
         have hcv := HCV.out _ _ B19_6.out
         (try simp only [bo20])
         go_simp
         refine hK.out _ _ ?_ (fun hHeld => ?_)
         ·exact KS.out _ A6.out
         clear hK K
         (try simp only [Act.put, bo20, qa, qb, qc])
         refine wpAnyH_ready (rs := [21]) (by kernel_rfl) (by simp) (AllReadyH.cons (o := bo21) rfl (fun K hK => ?_) AllReadyH.nil)
         (try simp only [bo21])
         go_simp
         obtain ⟨C7, K21_7⟩ := al2 d6 #[.string sb] 9
         have A7 := tr2 A6 C7
         refine hK.out _ _ ?_ (fun hHeld => ?_)
         ·exact KS.out _ A7.out
         clear hK K
         (try simp only [Act.put, bo21, qa, qb, qc])
         generalize d6.alloc _ = d7 at *
         refine wpAnyH_ready (rs := [22]) (by kernel_rfl) (by simp) (AllReadyH.cons (o := bo22) rfl (fun K hK => ?_) AllReadyH.nil)
         (try simp only [bo22])
         go_simp
         (with_reducible refine (C22.out _ _ K21_7.out).mono ?_)
         rintro _ d8 ⟨v22, rfl, o8, b8⟩
         obtain ⟨va22, vc22, rfl⟩ := owns_slice o8
         have C8 := Lib.hid b8
         have B22_8 := Lib.hid (BytesAt.own o8)
         have A8 := tr2 A7 C8
         clear o8 b8
         refine hK.out _ _ ?_ (fun hHeld => ?_)
         ·exact KS.out _ A8.out
         clear hK K
         (try simp only [Act.put, bo22, qa, qb, qc])
         refine wpAnyH_ready (rs := [26]) (by kernel_rfl) (by simp) (AllReadyH.cons (o := bo26) rfl (fun K hK => ?_) AllReadyH.nil)
         (try simp only [bo26])
         go_simp
         (with_reducible refine (C26.out _ _ (((K25_5.out.next C6.out).next C7.out).next C8.out)).mono ?_)
         rintro _ d9 ⟨v26, rfl, o9, b9⟩
         obtain ⟨va26, vc26, rfl⟩ := owns_slice o9
         have C9 := Lib.hid b9
         have B26_9 := Lib.hid (BytesAt.own o9)
         have A9 := tr2 A8 C9
         clear o9 b9
         refine hK.out _ _ ?_ (fun hHeld => ?_)
         ·exact KS.out _ A9.out
         clear hK K
         (try simp only [Act.put, bo26, qa, qb, qc])
         refine wpAnyH_ready (rs := [28]) (by kernel_rfl) (by simp) (AllReadyH.cons (o := bo28) rfl (fun K hK => ?_) AllReadyH.nil)
         (try simp only [bo28])
         go_simp
         obtain ⟨C10, K28_10⟩ := al2 d9 #[.slice va10 L10.length vc10, .slice va16 L16.length vc16, .slice va22 L22.length vc22, .slice va26 L26.length vc26, .slice sva L5.length svc] 53
         have A10 := tr2 A9 C10
         refine hK.out _ _ ?_ (fun hHeld => ?_)
         ·exact KS.out _ A10.out
         clear hK K
         (try simp only [Act.put, bo28, qa, qb, qc])
         generalize d9.alloc _ = d10 at *
         refine wpAnyH_ready (rs := [29]) (by kernel_rfl) (by simp) (AllReadyH.cons (o := bo29) rfl (fun K hK => ?_) AllReadyH.nil)
         (try simp only [bo29])
         go_simp
         (with_reducible refine (C29.out _ _ (parts5 K28_10.out (((((((B10_3.out.below C4.out).below C5.out).below C6.out).below C7.out).below C8.out).below C9.out).below C10.out) ((((((B16_4.out.below C5.out).below C6.out).below C7.out).below C8.out).below C9.out).below C10.out) ((B22_8.out.below C9.out).below C10.out) (B26_9.out.below C10.out) ((((((((((BV0.out.below C1.out).below C2.out).below C3.out).below C4.out).below C5.out).below C6.out).below C7.out).below C8.out).below C9.out).below C10.out))).mono ?_)
         rintro _ d11 ⟨v29, rfl, o11, b11⟩
         have C11 := Lib.hid b11
         have B29_11 := Lib.hid (BytesAt.own o11)
         have A11 := tr2 A10 C11
         clear o11 b11
         refine hK.out _ _ ?_ (fun hHeld => ?_)
         ·exact KS.out _ A11.out
         clear hK K
         (try simp only [Act.put, bo29, qa, qb, qc])
         refine wpAnyH_take (i := 30) (oi := bo30) (v := ?_) rfl (by kernel_rfl) (by kernel_rfl) (by kernel_rfl) (fun _ _ _ h => h) (Or.inl ⟨by rfl, ?_⟩) hHeld ?_
         rotate_left
         ·((intro w hSw; obtain ⟨s0, s1, s2, s3, s4, s5, s6, s7, s8⟩ := CF.out _ hSw.out; (try simp only [bo30]); go_simp); (try with_reducible rfl))
         (try simp only [Act.put, bo30, qa, qb, qc])
         refine wpAnyH_done (by kernel_rfl) ?_ _
         obtain ⟨zk, HY⟩ := HFIN.out _ _ A11.out B29_11.out
         clear hHeld
         refine noPan_normal ?_
         go_wp2
         exact ⟨by simp, .inl ⟨_, _, rfl, run_takeDeferred zk, _, by simp [results, Try.f20, go_sem], HY⟩⟩
       ·(try simp only [bo25])
        go_simp
        obtain ⟨C4, K25_4⟩ := al2 d3 #[.int .u64 fl] 23
        have A4 := tr2 A3 C4
        refine hK.out _ _ ?_ (fun hHeld => ?_)
        ·exact KS.out _ A4.out
        clear hK K
        (try simp only [Act.put, bo25, qa, qb, qc])
        generalize d3.alloc _ = d4 at *
        refine wpAnyH_ready (rs := [16]) (by kernel_rfl) (by simp) (AllReadyH.cons (o := bo16) rfl (fun K hK => ?_) AllReadyH.nil)
        (try simp only [bo16])
        go_simp
        (with_reducible refine (C16.out _ _ ((K15_2.out.next C3.out).next C4.out)).mono ?_)
        rintro _ d5 ⟨v16, rfl, o5, b5⟩
        obtain ⟨va16, vc16, rfl⟩ := owns_slice o5
        have C5 := Lib.hid b5
        have B16_5 := Lib.hid (BytesAt.own o5)
        have A5 := tr2 A4 C5
        clear o5 b5
        refine hK.out _ _ ?_ (fun hHeld => ?_)
        ·exact KS.out _ A5.out
        clear hK K
        (try simp only [Act.put, bo16, qa, qb, qc])
        refine wpAnyH_ready (rs := [19]) (by kernel_rfl) (by simp) (AllReadyH.cons (o := bo19) rfl (fun K hK => ?_) AllReadyH.nil)
        (try simp only [bo19])
        go_simp
        (with_reducible refine (C19.out _).mono ?_)
        rintro _ d6 ⟨v19, rfl, o6, b6⟩
        have C6 := Lib.hid b6
        have B19_6 := Lib.hid o6
        have A6 := tr2 A5 C6
        clear o6 b6
        refine hK.out _ _ ?_ (fun hHeld => ?_)
        ·exact KS.out _ A6.out
        clear hK K
        (try simp only [Act.put, bo19, qa, qb, qc])
        refine wpAnyH_ready (rs := [20]) (by kernel_rfl) (by simp) (AllReadyH.cons (o := bo20) rfl (fun K hK => ?_) AllReadyH.nil)
        have hcv := HCV.out _ _ B19_6.out
        (try simp only [bo20])
        go_simp
        refine hK.out _ _ ?_ (fun hHeld => ?_)
        ·exact KS.out _ A6.out
        clear hK K
        (try simp only [Act.put, bo20, qa, qb, qc])
        refine wpAnyH_ready (rs := [21]) (by kernel_rfl) (by simp) (AllReadyH.cons (o := bo21) rfl (fun K hK => ?_) AllReadyH.nil)
        (try simp only [bo21])
        go_simp
        obtain ⟨C7, K21_7⟩ := al2 d6 #[.string sb] 9
        have A7 := tr2 A6 C7
        refine hK.out _ _ ?_ (fun hHeld => ?_)
        ·exact KS.out _ A7.out
        clear hK K
        (try simp only [Act.put, bo21, qa, qb, qc])
        generalize d6.alloc _ = d7 at *
        refine wpAnyH_ready (rs := [22]) (by kernel_rfl) (by simp) (AllReadyH.cons (o := bo22) rfl (fun K hK => ?_) AllReadyH.nil)
        (try simp only [bo22])
        go_simp
        (with_reducible refine (C22.out _ _ K21_7.out).mono ?_)
        rintro _ d8 ⟨v22, rfl, o8, b8⟩
        obtain ⟨va22, vc22, rfl⟩ := owns_slice o8
        have C8 := Lib.hid b8
        have B22_8 := Lib.hid (BytesAt.own o8)
        have A8 := tr2 A7 C8
        clear o8 b8
        refine hK.out _ _ ?_ (fun hHeld => ?_)
        ·exact KS.out _ A8.out
        clear hK K
        (try simp only [Act.put, bo22, qa, qb, qc])
        refine wpAnyH_ready (rs := [26]) (by kernel_rfl) (by simp) (AllReadyH.cons (o := bo26) rfl (fun K hK => ?_) AllReadyH.nil)
        (try simp only [bo26])
        go_simp
        (with_reducible refine (C26.out _ _ ((((K25_4.out.next C5.out).next C6.out).next C7.out).next C8.out)).mono ?_)
        rintro _ d9 ⟨v26, rfl, o9, b9⟩
        obtain ⟨va26, vc26, rfl⟩ := owns_slice o9
        have C9 := Lib.hid b9
        have B26_9 := Lib.hid (BytesAt.own o9)
        have A9 := tr2 A8 C9
        clear o9 b9
        refine hK.out _ _ ?_ (fun hHeld => ?_)
        ·exact KS.out _ A9.out
        clear hK K
        (try simp only [Act.put, bo26, qa, qb, qc])
        refine wpAnyH_ready (rs := [28]) (by kernel_rfl) (by simp) (AllReadyH.cons (o := bo28) rfl (fun K hK => ?_) AllReadyH.nil)
        (try simp only [bo28])
        go_simp
        obtain ⟨C10, K28_10⟩ := al2 d9 #[.slice va10 L10.length vc10, .slice va16 L16.length vc16, .slice va22 L22.length vc22, .slice va26 L26.length vc26, .slice sva L5.length svc] 53
        have A10 := tr2 A9 C10
        refine hK.out _ _ ?_ (fun hHeld => ?_)
        ·exact KS.out _ A10.out
        clear hK K
        (try simp only [Act.put, bo28, qa, qb, qc])
        generalize d9.alloc _ = d10 at *
        refine wpAnyH_ready (rs := [29]) (by kernel_rfl) (by simp) (AllReadyH.cons (o := bo29) rfl (fun K hK => ?_) AllReadyH.nil)
        (try simp only [bo29])
        go_simp
        (with_reducible refine (C29.out _ _ (parts5 K28_10.out (((((((B10_3.out.below C4.out).below C5.out).below C6.out).below C7.out).below C8.out).below C9.out).below C10.out) (((((B16_5.out.below C6.out).below C7.out).below C8.out).below C9.out).below C10.out) ((B22_8.out.below C9.out).below C10.out) (B26_9.out.below C10.out) ((((((((((BV0.out.below C1.out).below C2.out).below C3.out).below C4.out).below C5.out).below C6.out).below C7.out).below C8.out).below C9.out).below C10.out))).mono ?_)
        rintro _ d11 ⟨v29, rfl, o11, b11⟩
        have C11 := Lib.hid b11
        have B29_11 := Lib.hid (BytesAt.own o11)
        have A11 := tr2 A10 C11
        clear o11 b11
        refine hK.out _ _ ?_ (fun hHeld => ?_)
        ·exact KS.out _ A11.out
        clear hK K
        (try simp only [Act.put, bo29, qa, qb, qc])
        refine wpAnyH_take (i := 30) (oi := bo30) (v := ?_) rfl (by kernel_rfl) (by kernel_rfl) (by kernel_rfl) (fun _ _ _ h => h) (Or.inl ⟨by rfl, ?_⟩) hHeld ?_
        rotate_left
        ·((intro w hSw; obtain ⟨s0, s1, s2, s3, s4, s5, s6, s7, s8⟩ := CF.out _ hSw.out; (try simp only [bo30]); go_simp); (try with_reducible rfl))
        (try simp only [Act.put, bo30, qa, qb, qc])
        refine wpAnyH_done (by kernel_rfl) ?_ _
        obtain ⟨zk, HY⟩ := HFIN.out _ _ A11.out B29_11.out
        clear hHeld
        refine noPan_normal ?_
        go_wp2
        exact ⟨by simp, .inl ⟨_, _, rfl, run_takeDeferred zk, _, by simp [results, Try.f20, go_sem], HY⟩⟩
      ·(try simp only [bo25])
       go_simp
       obtain ⟨C3, K25_3⟩ := al2 d2 #[.int .u64 fl] 23
       have A3 := tr2 A2 C3
       refine hK.out _ _ ?_ (fun hHeld => ?_)
       ·exact KS.out _ A3.out
       clear hK K
       (try simp only [Act.put, bo25, qa, qb, qc])
       generalize d2.alloc _ = d3 at *
       refine wpAnyH_ready (rs := [10]) (by kernel_rfl) (by simp) (AllReadyH.cons (o := bo10) rfl (fun K hK => ?_) AllReadyH.nil)
       (try simp only [bo10])
       go_simp
       (with_reducible refine (C10.out _ _ ((K9_1.out.next C2.out).next C3.out)).mono ?_)
       rintro _ d4 ⟨v10, rfl, o4, b4⟩
       obtain ⟨va10, vc10, rfl⟩ := owns_slice o4
       have C4 := Lib.hid b4
       have B10_4 := Lib.hid (BytesAt.own o4)
       have A4 := tr2 A3 C4
       clear o4 b4
       refine hK.out _ _ ?_ (fun hHeld => ?_)
       ·exact KS.out _ A4.out
       clear hK K
       (try simp only [Act.put, bo10, qa, qb, qc])
       refine wpAnyH_ready (rs := [16]) (by kernel_rfl) (by simp) (AllReadyH.cons (o := bo16) rfl (fun K hK => ?_) AllReadyH.nil)
       (try simp only [bo16])
       go_simp
       (with_reducible refine (C16.out _ _ ((K15_2.out.next C3.out).next C4.out)).mono ?_)
       rintro _ d5 ⟨v16, rfl, o5, b5⟩
       obtain ⟨va16, vc16, rfl⟩ := owns_slice o5
       have C5 := Lib.hid b5
       have B16_5 := Lib.hid (BytesAt.own o5)
       have A5 := tr2 A4 C5
       clear o5 b5
       refine hK.out _ _ ?_ (fun hHeld => ?_)
       ·exact KS.out _ A5.out
       clear hK K
       (try simp only [Act.put, bo16, qa, qb, qc])
       refine wpAnyH_ready (rs := [19]) (by kernel_rfl) (by simp) (AllReadyH.cons (o := bo19) rfl (fun K hK => ?_) AllReadyH.nil)
       (try simp only [bo19])
       go_simp
       (with_reducible refine (C19.out _).mono ?_)
       rintro _ d6 ⟨v19, rfl, o6, b6⟩
       have C6 := Lib.hid b6
       have B19_6 := Lib.hid o6
       have A6 := tr2 A5 C6
       clear o6 b6
       refine hK.out _ _ ?_ (fun hHeld => ?_)
       ·exact KS.out _ A6.out
       clear hK K
       (try simp only [Act.put, bo19, qa, qb, qc])
       refine wpAnyH_ready (rs := [20]) (by kernel_rfl) (by simp) (AllReadyH.cons (o := bo20) rfl (fun K hK => ?_) AllReadyH.nil)
       have hcv := HCV.out _ _ B19_6.out
       (try simp only [bo20])
       go_simp
       refine hK.out _ _ ?_ (fun hHeld => ?_)
       ·exact KS.out _ A6.out
       clear hK K
       (try simp only [Act.put, bo20, qa, qb, qc])
       refine wpAnyH_ready (rs := [21]) (by kernel_rfl) (by simp) (AllReadyH.cons (o := bo21) rfl (fun K hK => ?_) AllReadyH.nil)
       (try simp only [bo21])
       go_simp
       obtain ⟨C7, K21_7⟩ := al2 d6 #[.string sb] 9
       have A7 := tr2 A6 C7
       refine hK.out _ _ ?_ (fun hHeld => ?_)
       ·exact KS.out _ A7.out
       clear hK K
       (try simp only [Act.put, bo21, qa, qb, qc])
       generalize d6.alloc _ = d7 at *
       refine wpAnyH_ready (rs := [22]) (by kernel_rfl) (by simp) (AllReadyH.cons (o := bo22) rfl (fun K hK => ?_) AllReadyH.nil)
       (try simp only [bo22])
       go_simp
       (with_reducible refine (C22.out _ _ K21_7.out).mono ?_)
       rintro _ d8 ⟨v22, rfl, o8, b8⟩
       obtain ⟨va22, vc22, rfl⟩ := owns_slice o8
       have C8 := Lib.hid b8
       have B22_8 := Lib.hid (BytesAt.own o8)
       have A8 := tr2 A7 C8
       clear o8 b8
       refine hK.out _ _ ?_ (fun hHeld => ?_)
       ·exact KS.out _ A8.out
       clear hK K
       (try simp only [Act.put, bo22, qa, qb, qc])
       refine wpAnyH_ready (rs := [26]) (by kernel_rfl) (by simp) (AllReadyH.cons (o := bo26) rfl (fun K hK => ?_) AllReadyH.nil)
       (try simp only [bo26])
       go_simp
       (with_reducible refine (C26.out _ _ (((((K25_3.out.next C4.out).next C5.out).next C6.out).next C7.out).next C8.out)).mono ?_)
       rintro _ d9 ⟨v26, rfl, o9, b9⟩
       obtain ⟨va26, vc26, rfl⟩ := owns_slice o9
       have C9 := Lib.hid b9
       have B26_9 := Lib.hid (BytesAt.own o9)
       have A9 := tr2 A8 C9
       clear o9 b9
       refine hK.out _ _ ?_ (fun hHeld => ?_)
       ·exact KS.out _ A9.out
       clear hK K
       (try simp only [Act.put, bo26, qa, qb, qc])
       refine wpAnyH_ready (rs := [28]) (by kernel_rfl) (by simp) (AllReadyH.cons (o := bo28) rfl (fun K hK => ?_) AllReadyH.nil)
       (try simp only [bo28])
       go_simp
       obtain ⟨C10, K28_10⟩ := al2 d9 #[.slice va10 L10.length vc10, .slice va16 L16.length vc16, .slice va22 L22.length vc22, .slice va26 L26.length vc26, .slice sva L5.length svc] 53
       have A10 := tr2 A9 C10
       refine hK.out _ _ ?_ (fun hHeld => ?_)
       ·exact KS.out _ A10.out
       clear hK K
       (try simp only [Act.put, bo28, qa, qb, qc])
       generalize d9.alloc _ = d10 at *
       refine wpAnyH_ready (rs := [29]) (by kernel_rfl) (by simp) (AllReadyH.cons (o := bo29) rfl (fun K hK => ?_) AllReadyH.nil)
       (try simp only [bo29])
       go_simp
       (with_reducible refine (C29.out _ _ (parts5 K28_10.out ((((((B10_4.out.below C5.out).below C6.out).below C7.out).below C8.out).below C9.out).below C10.out) (((((B16_5.out.below C6.out).below C7.out).below C8.out).below C9.out).below C10.out) ((B22_8.out.below C9.out).below C10.out) (B26_9.out.below C10.out) ((((((((((BV0.out.below C1.out).below C2.out).below C3.out).below C4.out).below C5.out).below C6.out).below C7.out).below C8.out).below C9.out).below C10.out))).mono ?_)
       rintro _ d11 ⟨v29, rfl, o11, b11⟩
       have C11 := Lib.hid b11
       have B29_11 := Lib.hid (BytesAt.own o11)
       have A11 := tr2 A10 C11
       clear o11 b11
       refine hK.out _ _ ?_ (fun hHeld => ?_)
       ·exact KS.out _ A11.out
       clear hK K
       (try simp only [Act.put, bo29, qa, qb, qc])
       refine wpAnyH_take (i := 30) (oi := bo30) (v := ?_) rfl (by kernel_rfl) (by kernel_rfl) (by kernel_rfl) (fun _ _ _ h => h) (Or.inl ⟨by rfl, ?_⟩) hHeld ?_
       rotate_left
       ·((intro w hSw; obtain ⟨s0, s1, s2, s3, s4, s5, s6, s7, s8⟩ := CF.out _ hSw.out; (try simp only [bo30]); go_simp); (try with_reducible rfl))
       (try simp only [Act.put, bo30, qa, qb, qc])
       refine wpAnyH_done (by kernel_rfl) ?_ _
       obtain ⟨zk, HY⟩ := HFIN.out _ _ A11.out B29_11.out
       clear hHeld
       refine noPan_normal ?_
       go_wp2
       exact ⟨by simp, .inl ⟨_, _, rfl, run_takeDeferred zk, _, by simp [results, Try.f20, go_sem], HY⟩⟩
     ·(try simp only [bo25])
      go_simp
      obtain ⟨C2, K25_2⟩ := al2 d1 #[.int .u64 fl] 23
      have A2 := tr2 A1 C2
      refine hK.out _ _ ?_ (fun hHeld => ?_)
      ·exact KS.out _ A2.out
      clear hK K
      (try simp only [Act.put, bo25, qa, qb, qc])
      generalize d1.alloc _ = d2 at *
      refine wpAnyH_ready (rs := [10, 15]) (by kernel_rfl) (by simp) ?_
      refine AllReadyH.cons (o := bo10) rfl (fun K hK => ?_) (AllReadyH.cons (o := bo15) rfl (fun K hK => ?_) (AllReadyH.nil))
      ·(try simp only [bo10])
       go_simp
       (with_reducible refine (C10.out _ _ (K9_1.out.next C2.out)).mono ?_)
       rintro _ d3 ⟨v10, rfl, o3, b3⟩
       obtain ⟨va10, vc10, rfl⟩ := owns_slice o3
       have C3 := Lib.hid b3
       have B10_3 := Lib.hid (BytesAt.own o3)
       have A3 := tr2 A2 C3
       clear o3 b3
       refine hK.out _ _ ?_ (fun hHeld => ?_)
       ·exact KS.out _ A3.out
       clear hK K
       (try simp only [Act.put, bo10, qa, qb, qc])
       refine wpAnyH_ready (rs := [15]) (by kernel_rfl) (by simp) (AllReadyH.cons (o := bo15) rfl (fun K hK => ?_) AllReadyH.nil)
       (try simp only [bo15])
       go_simp
       obtain ⟨C4, K15_4⟩ := al2 d3 #[.int .i64 mn, .int .i64 mx] 2
       have A4 := tr2 A3 C4
       refine hK.out _ _ ?_ (fun hHeld => ?_)
       ·exact KS.out _ A4.out
       clear hK K
       (try simp only [Act.put, bo15, qa, qb, qc])
       generalize d3.alloc _ = d4 at *
       refine wpAnyH_ready (rs := [16]) (by kernel_rfl) (by simp) (AllReadyH.cons (o := bo16) rfl (fun K hK => ?_) AllReadyH.nil)
       (try simp only [bo16])
       go_simp
       (with_reducible refine (C16.out _ _ K15_4.out).mono ?_)
       rintro _ d5 ⟨v16, rfl, o5, b5⟩
       obtain ⟨va16, vc16, rfl⟩ := owns_slice o5
       have C5 := Lib.hid b5
       have B16_5 := Lib.hid (BytesAt.own o5)
       have A5 := tr2 A4 C5
       clear o5 b5
       refine hK.out _ _ ?_ (fun hHeld => ?_)
       ·exact KS.out _ A5.out
       clear hK K
       (try simp only [Act.put, bo16, qa, qb, qc])
       refine wpAnyH_ready (rs := [19]) (by kernel_rfl) (by simp) (AllReadyH.cons (o := bo19) rfl (fun K hK => ?_) AllReadyH.nil)
       (try simp only [bo19])
       go_simp
       (with_reducible refine (C19.out _).mono ?_)
       rintro _ d6 ⟨v19, rfl, o6, b6⟩
       have C6 := Lib.hid b6
       have B19_6 := Lib.hid o6
       have A6 := tr2 A5 C6
       clear o6 b6
       refine hK.out _ _ ?_ (fun hHeld => ?_)
       ·exact KS.out _ A6.out
       clear hK K
       (try simp only [Act.put, bo19, qa, qb, qc])
       refine wpAnyH_ready (rs := [20]) (by kernel_rfl) (by simp) (AllReadyH.cons (o := bo20) rfl (fun K hK => ?_) AllReadyH.nil)
       have hcv := HCV.out _ _ B19_6.out
       (try simp only [bo20])
       go_simp
       refine hK.out _ _ ?_ (fun hHeld => ?_)
       ·exact KS.out _ A6.out
       clear hK K
       (try simp only [Act.put, bo20, qa, qb, qc])
       refine wpAnyH_ready (rs := [21]) (by kernel_rfl) (by simp) (AllReadyH.cons (o := bo21) rfl (fun K hK => ?_) AllReadyH.nil)
       (try simp only [bo21])
       go_simp
       obtain ⟨C7, K21_7⟩ := al2 d6 #[.string sb] 9
       have A7 := tr2 A6 C7
       refine hK.out _ _ ?_ (fun hHeld => ?_)
       ·exact KS.out _ A7.out
       clear hK K
       (try simp only [Act.put, bo21, qa, qb, qc])
       generalize d6.alloc _ = d7 at *
       refine wpAnyH_ready (rs := [22]) (by kernel_rfl) (by simp) (AllReadyH.cons (o := bo22) rfl (fun K hK => ?_) AllReadyH.nil)
       (try simp only [bo22])
       go_simp
       (with_reducible refine (C22.out _ _ K21_7.out).mono ?_)
       rintro _ d8 ⟨v22, rfl, o8, b8⟩
       obtain ⟨va22, vc22, rfl⟩ := owns_slice o8
       have C8 := Lib.hid b8
       have B22_8 := Lib.hid (BytesAt.own o8)
       have A8 := tr2 A7 C8
       clear o8 b8
       refine hK.out _ _ ?_ (fun hHeld => ?_)
       ·exact KS.out _ A8.out
       clear hK K
       (try simp only [Act.put, bo22, qa, qb, qc])
       refine wpAnyH_ready (rs := [26]) (by kernel_rfl) (by simp) (AllReadyH.cons (o := bo26) rfl (fun K hK => ?_) AllReadyH.nil)
       (try simp only [bo26])
       go_simp
       (with_reducible refine (C26.out _ _ ((((((K25_2.out.next C3.out).next C4.out).next C5.out).next C6.out).next C7.out).next C8.out)).mono ?_)
       rintro _ d9 ⟨v26, rfl, o9, b9⟩
       obtain ⟨va26, vc26, rfl⟩ := owns_slice o9
       have C9 := Lib.hid b9
       have B26_9 := Lib.hid (BytesAt.own o9)
       have A9 := tr2 A8 C9
       clear o9 b9
       refine hK.out _ _ ?_ (fun hHeld => ?_)
       ·exact KS.out _ A9.out
       clear hK K
       (try simp only [Act.put, bo26, qa, qb, qc])
       refine wpAnyH_ready (rs := [28]) (by kernel_rfl) (by simp) (AllReadyH.cons (o := bo28) rfl (fun K hK => ?_) AllReadyH.nil)
       (try simp only [bo28])
       go_simp
       obtain ⟨C10, K28_10⟩ := al2 d9 #[.slice va10 L10.length vc10, .slice va16 L16.length vc16, .slice va22 L22.length vc22, .slice va26 L26.length vc26, .slice sva L5.length svc] 53
       have A10 := tr2 A9 C10
       refine hK.out _ _ ?_ (fun hHeld => ?_)
       ·exact KS.out _ A10.out
       clear hK K
       (try simp only [Act.put, bo28, qa, qb, qc])
       generalize d9.alloc _ = d10 at *
       refine wpAnyH_ready (rs := [29]) (by kernel_rfl) (by simp) (AllReadyH.cons (o := bo29) rfl (fun K hK => ?_) AllReadyH.nil)
       (try simp only [bo29])
       go_simp
       (with_reducible refine (C29.out _ _ (parts5 K28_10.out (((((((B10_3.out.below C4.out).below C5.out).below C6.out).below C7.out).below C8.out).below C9.out).below C10.out) (((((B16_5.out.below C6.out).below C7.out).below C8.out).below C9.out).below C10.out) ((B22_8.out.below C9.out).below C10.out) (B26_9.out.below C10.out) ((((((((((BV0.out.below C1.out).below C2.out).below C3.out).below C4.out).below C5.out).below C6.out).below C7.out).below C8.out).below C9.out).below C10.out))).mono ?_)
       rintro _ d11 ⟨v29, rfl, o11, b11⟩
       have C11 := Lib.hid b11
       have B29_11 := Lib.hid (BytesAt.own o11)
       have A11 := tr2 A10 C11
       clear o11 b11
       refine hK.out _ _ ?_ (fun hHeld => ?_)
       ·exact KS.out _ A11.out
       clear hK K
       (try simp only [Act.put, bo29, qa, qb, qc])
       refine wpAnyH_take (i := 30) (oi := bo30) (v := ?_) rfl (by kernel_rfl) (by kernel_rfl) (by kernel_rfl) (fun _ _ _ h => h) (Or.inl ⟨by rfl, ?_⟩) hHeld ?_
       rotate_left
       ·((intro w hSw; obtain ⟨s0, s1, s2, s3, s4, s5, s6, s7, s8⟩ := CF.out _ hSw.out; (try simp only [bo30]); go_simp); (try with_reducible rfl))
       (try simp only [Act.put, bo30, qa, qb, qc])
       refine wpAnyH_done (by kernel_rfl) ?_ _
       obtain ⟨zk, HY⟩ := HFIN.out _ _ A11.out B29_11.out
       clear hHeld
       refine noPan_normal ?_
       go_wp2
       exact ⟨by simp, .inl ⟨_, _, rfl, run_takeDeferred zk, _, by simp [results, Try.f20, go_sem], HY⟩⟩
      ·(try simp only [bo15])
       go_simp
       obtain ⟨C3, K15_3⟩ := al2 d2 #[.int .i64 mn, .int .i64 mx] 2
       have A3 := tr2 A2 C3
       refine hK.out _ _ ?_ (fun hHeld => ?_)
       ·exact KS.out _ A3.out
       clear hK K
       (try simp only [Act.put, bo15, qa, qb, qc])
       generalize d2.alloc _ = d3 at *
       refine wpAnyH_ready (rs := [10]) (by kernel_rfl) (by simp) (AllReadyH.cons (o := bo10) rfl (fun K hK => ?_) AllReadyH.nil)
       (try simp only [bo10])
       go_simp
       (with_reducible refine (C10.out _ _ ((K9_1.out.next C2.out).next C3.out)).mono ?_)
       rintro _ d4 ⟨v10, rfl, o4, b4⟩
       obtain ⟨va10, vc10, rfl⟩ := owns_slice o4
       have C4 := Lib.hid b4
       have B10_4 := Lib.hid (BytesAt.own o4)
       have A4 := tr2 A3 C4
       clear o4 b4
       refine hK.out _ _ ?_ (fun hHeld => ?_)
       ·exact KS.out _ A4.out
       clear hK K
       (try simp only [Act.put, bo10, qa, qb, qc])
       refine wpAnyH_ready (rs := [16]) (by kernel_rfl) (by simp) (AllReadyH.cons (o := bo16) rfl (fun K hK => ?_) AllReadyH.nil)
       (try simp only [bo16])
       go_simp
       (with_reducible refine (C16.out _ _ (K15_3.out.next C4.out)).mono ?_)
       rintro _ d5 ⟨v16, rfl, o5, b5⟩
       obtain ⟨va16, vc16, rfl⟩ := owns_slice o5
       have C5 := Lib.hid b5
       have B16_5 := Lib.hid (BytesAt.own o5)
       have A5 := tr2 A4 C5
       clear o5 b5
       refine hK.out _ _ ?_ (fun hHeld => ?_)
       ·exact KS.out _ A5.out
       clear hK K
       (try simp only [Act.put, bo16, qa, qb, qc])
       refine wpAnyH_ready (rs := [19]) (by kernel_rfl) (by simp) (AllReadyH.cons (o := bo19) rfl (fun K hK => ?_) AllReadyH.nil)
       (try simp only [bo19])
       go_simp
       (with_reducible refine (C19.out _).mono ?_)
       rintro _ d6 ⟨v19, rfl, o6, b6⟩
       have C6 := Lib.hid b6
       have B19_6 := Lib.hid o6
       have A6 := tr2 A5 C6
       clear o6 b6
       refine hK.out _ _ ?_ (fun hHeld => ?_)
       ·exact KS.out _ A6.out
       clear hK K
       (try simp only [Act.put, bo19, qa, qb, qc])
       refine wpAnyH_ready (rs := [20]) (by kernel_rfl) (by simp) (AllReadyH.cons (o := bo20) rfl (fun K hK => ?_) AllReadyH.nil)
       have hcv := HCV.out _ _ B19_6.out
       (try simp only [bo20])
       go_simp
       refine hK.out _ _ ?_ (fun hHeld => ?_)
       ·exact KS.out _ A6.out
       clear hK K
       (try simp only [Act.put, bo20, qa, qb, qc])
       refine wpAnyH_ready (rs := [21]) (by kernel_rfl) (by simp) (AllReadyH.cons (o := bo21) rfl (fun K hK => ?_) AllReadyH.nil)
       (try simp only [bo21])
       go_simp
       obtain ⟨C7, K21_7⟩ := al2 d6 #[.string sb] 9
       have A7 := tr2 A6 C7
       refine hK.out _ _ ?_ (fun hHeld => ?_)
       ·exact KS.out _ A7.out
       clear hK K
       (try simp only [Act.put, bo21, qa, qb, qc])
       generalize d6.alloc _ = d7 at *
       refine wpAnyH_ready (rs := [22]) (by kernel_rfl) (by simp) (AllReadyH.cons (o := bo22) rfl (fun K hK => ?_) AllReadyH.nil)
       (try simp only [bo22])
       go_simp
       (with_reducible refine (C22.out _ _ K21_7.out).mono ?_)
       rintro _ d8 ⟨v22, rfl, o8, b8⟩
       obtain ⟨va22, vc22, rfl⟩ := owns_slice o8
       have C8 := Lib.hid b8
       have B22_8 := Lib.hid (BytesAt.own o8)
       have A8 := tr2 A7 C8
       clear o8 b8
       refine hK.out _ _ ?_ (fun hHeld => ?_)
       ·exact KS.out _ A8.out
       clear hK K
       (try simp only [Act.put, bo22, qa, qb, qc])
       refine wpAnyH_ready (rs := [26]) (by kernel_rfl) (by simp) (AllReadyH.cons (o := bo26) rfl (fun K hK => ?_) AllReadyH.nil)
       (try simp only [bo26])
       go_simp
       (with_reducible refine (C26.out _ _ ((((((K25_2.out.next C3.out).next C4.out).next C5.out).next C6.out).next C7.out).next C8.out)).mono ?_)
       rintro _ d9 ⟨v26, rfl, o9, b9⟩
       obtain ⟨va26, vc26, rfl⟩ := owns_slice o9
       have C9 := Lib.hid b9
       have B26_9 := Lib.hid (BytesAt.own o9)
       have A9 := tr2 A8 C9
       clear o9 b9
       refine hK.out _ _ ?_ (fun hHeld => ?_)
       ·exact KS.out _ A9.out
       clear hK K
       (try simp only [Act.put, bo26, qa, qb, qc])
       refine wpAnyH_ready (rs := [28]) (by kernel_rfl) (by simp) (AllReadyH.cons (o := bo28) rfl (fun K hK => ?_) AllReadyH.nil)
       (try simp only [bo28])
       go_simp
       obtain ⟨C10, K28_10⟩ := al2 d9 #[.slice va10 L10.length vc10, .slice va16 L16.length vc16, .slice va22 L22.length vc22, .slice va26 L26.length vc26, .slice sva L5.length svc] 53
       have A10 := tr2 A9 C10
       refine hK.out _ _ ?_ (fun hHeld => ?_)
       ·exact KS.out _ A10.out
       clear hK K
       (try simp only [Act.put, bo28, qa, qb, qc])
       generalize d9.alloc _ = d10 at *
       refine wpAnyH_ready (rs := [29]) (by kernel_rfl) (by simp) (AllReadyH.cons (o := bo29) rfl (fun K hK => ?_) AllReadyH.nil)
       (try simp only [bo29])
       go_simp
       (with_reducible refine (C29.out _ _ (parts5 K28_10.out ((((((B10_4.out.below C5.out).below C6.out).below C7.out).below C8.out).below C9.out).below C10.out) (((((B16_5.out.below C6.out).below C7.out).below C8.out).below C9.out).below C10.out) ((B22_8.out.below C9.out).below C10.out) (B26_9.out.below C10.out) ((((((((((BV0.out.below C1.out).below C2.out).below C3.out).below C4.out).below C5.out).below C6.out).below C7.out).below C8.out).below C9.out).below C10.out))).mono ?_)
       rintro _ d11 ⟨v29, rfl, o11, b11⟩
       have C11 := Lib.hid b11
       have B29_11 := Lib.hid (BytesAt.own o11)
       have A11 := tr2 A10 C11
       clear o11 b11
       refine hK.out _ _ ?_ (fun hHeld => ?_)
       ·exact KS.out _ A11.out
       clear hK K
       (try simp only [Act.put, bo29, qa, qb, qc])
       refine wpAnyH_take (i := 30) (oi := bo30) (v := ?_) rfl (by kernel_rfl) (by kernel_rfl) (by kernel_rfl) (fun _ _ _ h => h) (Or.inl ⟨by rfl, ?_⟩) hHeld ?_
       rotate_left
       ·((intro w hSw; obtain ⟨s0, s1, s2, s3, s4, s5, s6, s7, s8⟩ := CF.out _ hSw.out; (try simp only [bo30]); go_simp); (try with_reducible rfl))
       (try simp only [Act.put, bo30, qa, qb, qc])
       refine wpAnyH_done (by kernel_rfl) ?_ _
       obtain ⟨zk, HY⟩ := HFIN.out _ _ A11.out B29_11.out
       clear hHeld
       refine noPan_normal ?_
       go_wp2
       exact ⟨by simp, .inl ⟨_, _, rfl, run_takeDeferred zk, _, by simp [results, Try.f20, go_sem], HY⟩⟩
    ·(try simp only [bo15])
     go_simp
     obtain ⟨C1, K15_1⟩ := al2 d0 #[.int .i64 mn, .int .i64 mx] 2
     have A1 := tr2 A0 C1
     refine hK.out _ _ ?_ (fun hHeld => ?_)
     ·exact KS.out _ A1.out
     clear hK K
     (try simp only [Act.put, bo15, qa, qb, qc])
     generalize d0.alloc _ = d1 at *
     refine wpAnyH_ready (rs := [9, 25]) (by kernel_rfl) (by simp) ?_
     refine AllReadyH.cons (o := bo9) rfl (fun K hK => ?_) (AllReadyH.cons (o := bo25) rfl (fun K hK => ?_) (AllReadyH.nil))
     ·(try simp only [bo9])
      go_simp
      obtain ⟨C2, K9_2⟩ := al2 d1 #[.int .u64 n, .int .u64 ce, .int .u64 po] 23
      have A2 := tr2 A1 C2
      refine hK.out _ _ ?_ (fun hHeld => ?_)
      ·exact KS.out _ A2.out
      clear hK K
      (try simp only [Act.put, bo9, qa, qb, qc])
      generalize d1.alloc _ = d2 at *
      refine wpAnyH_ready (rs := [10, 25]) (by kernel_rfl) (by simp) ?_
      refine AllReadyH.cons (o := bo10) rfl (fun K hK => ?_) (AllReadyH.cons (o := bo25) rfl (fun K hK => ?_) (AllReadyH.nil))
      ·(try simp only [bo10])
       go_simp
       (with_reducible refine (C10.out _ _ K9_2.out).mono ?_)
       rintro _ d3 ⟨v10, rfl, o3, b3⟩
       obtain ⟨va10, vc10, rfl⟩ := owns_slice o3
       have C3 := Lib.hid b3
       have B10_3 := Lib.hid (BytesAt.own o3)
       have A3 := tr2 A2 C3
       clear o3 b3
       refine hK.out _ _ ?_ (fun hHeld => ?_)
       ·exact KS.out _ A3.out
       clear hK K
       (try simp only [Act.put, bo10, qa, qb, qc])
       refine wpAnyH_ready (rs := [16, 25]) (by kernel_rfl) (by simp) ?_
       refine AllReadyH.cons (o := bo16) rfl (fun K hK => ?_) (AllReadyH.cons (o := bo25) rfl (fun K hK => ?_) (AllReadyH.nil))
       ·(try simp only [bo16])
        go_simp
        (with_reducible refine (C16.out _ _ ((K15_1.out.next C2.out).next C3.out)).mono ?_)
        rintro _ d4 ⟨v16, rfl, o4, b4⟩
        obtain ⟨va16, vc16, rfl⟩ := owns_slice o4
        have C4 := Lib.hid b4
        have B16_4 := Lib.hid (BytesAt.own o4)
        have A4 := tr2 A3 C4
        clear o4 b4
        refine hK.out _ _ ?_ (fun hHeld => ?_)
        ·exact KS.out _ A4.out
        clear hK K
        (try simp only [Act.put, bo16, qa, qb, qc])
        refine wpAnyH_ready (rs := [19, 25]) (by kernel_rfl) (by simp) ?_
        refine AllReadyH.cons (o := bo19) rfl (fun K hK => ?_) (AllReadyH.cons (o := bo25) rfl (fun K hK => ?_) (AllReadyH.nil))
        ·(try simp only [bo19])
         go_simp
         (with_reducible refine (C19.out _).mono ?_)
         rintro _ d5 ⟨v19, rfl, o5, b5⟩
         have C5 := Lib.hid b5
         have B19_5 := Lib.hid o5
         have A5 := tr2 A4 C5
         clear o5 b5
         refine hK.out _ _ ?_ (fun hHeld => ?_)
         ·exact KS.out _ A5.out
         clear hK K
         (try simp only [Act.put, bo19, qa, qb, qc])
         refine wpAnyH_ready (rs := [20, 25]) (by kernel_rfl) (by simp) ?_
         refine AllReadyH.cons (o := bo20) rfl (fun K hK => ?_) (AllReadyH.cons (o := bo25) rfl (fun K hK => ?_) (AllReadyH.nil))
         ·have hcv := HCV.out _ _ B19_5.out
          (try simp only [bo20])
          go_simp
          refine hK.out _ _ ?_ (fun hHeld => ?_)
          ·exact KS.out _ A5.out
          clear hK K
          (try simp only [Act.put, bo20, qa, qb, qc])
          refine wpAnyH_ready (rs := [21, 25]) (by kernel_rfl) (by simp) ?_
          refine AllReadyH.cons (o := bo21) rfl (fun K hK => ?_) (AllReadyH.cons (o := bo25) rfl (fun K hK => ?_) (AllReadyH.nil))
          ·(try simp only [bo21])
           go_simp
           obtain ⟨C6, K21_6⟩ := al2 d5 #[.string sb] 9
           have A6 := tr2 A5 C6
           refine hK.out _ _ ?_ (fun hHeld => ?_)
           ·exact KS.out _ A6.out
           clear hK K
           (try simp only [Act.put, bo21, qa, qb, qc])
           generalize d5.alloc _ = d6 at *
           refine wpAnyH_ready (rs := [22, 25]) (by kernel_rfl) (by simp) ?_
           refine AllReadyH.cons (o := bo22) rfl (fun K hK => ?_) (AllReadyH.cons (o := bo25) rfl (fun K hK => ?_) (AllReadyH.nil))
           ·(try simp only [bo22])
            go_simp
            (with_reducible refine (C22.out _ _ K21_6.out).mono ?_)
            rintro _ d7 ⟨v22, rfl, o7, b7⟩
            obtain ⟨va22, vc22, rfl⟩ := owns_slice o7
            have C7 := Lib.hid b7
            have B22_7 := Lib.hid (BytesAt.own o7)
            have A7 := tr2 A6 C7
            clear o7 b7
            refine hK.out _ _ ?_ (fun hHeld => ?_)
            ·exact KS.out _ A7.out
            clear hK K
            (try simp only [Act.put, bo22, qa, qb, qc])
            refine wpAnyH_ready (rs := [25]) (by kernel_rfl) (by simp) (AllReadyH.cons (o := bo25) rfl (fun K hK => ?_) AllReadyH.nil)
            (try simp only [bo25])
            go_simp
            obtain ⟨C8, K25_8⟩ := al2 d7 #[.int .u64 fl] 23
            have A8 := tr2 A7 C8
            refine hK.out _ _ ?_ (fun hHeld => ?_)
            ·exact KS.out _ A8.out
            clear hK K
            (try simp only [Act.put, bo25, qa, qb, qc])
            generalize d7.alloc _ = d8 at *
            refine wpAnyH_ready (rs := [26]) (by kernel_rfl) (by simp) (AllReadyH.cons (o := bo26) rfl (fun K hK => ?_) AllReadyH.nil)
            (try simp only [bo26])
            go_simp
            (with_reducible refine (C26.out _ _ K25_8.out).mono ?_)
            rintro _ d9 ⟨v26, rfl, o9, b9⟩
            obtain ⟨va26, vc26, rfl⟩ := owns_slice o9
            have C9 := Lib.hid b9
            have B26_9 := Lib.hid (BytesAt.own o9)
            have A9 := tr2 A8 C9
            clear o9 b9
            refine hK.out _ _ ?_ (fun hHeld => ?_)
            ·exact KS.out _ A9.out
            clear hK K
            (try simp only [Act.put, bo26, qa, qb, qc])
            refine wpAnyH_ready (rs := [28]) (by kernel_rfl) (by simp) (AllReadyH.cons (o := bo28) rfl (fun K hK => ?_) AllReadyH.nil)
            (try simp only [bo28])
            go_simp
            obtain ⟨C10, K28_10⟩ := al2 d9 #[.slice va10 L10.length vc10, .slice va16 L16.length vc16, .slice va22 L22.length vc22, .slice va26 L26.length vc26, .slice sva L5.length svc] 53
            have A10 := tr2 A9 C10
            refine hK.out _ _ ?_ (fun hHeld => ?_)
            ·exact KS.out _ A10.out
            clear hK K
            (try simp only [Act.put, bo28, qa, qb, qc])
            generalize d9.alloc _ = d10 at *
            refine wpAnyH_ready (rs := [29]) (by kernel_rfl) (by simp) (AllReadyH.cons (o := bo29) rfl (fun K hK => ?_) AllReadyH.nil)
            (try simp only [bo29])
            go_simp
            (with_reducible refine (C29.out _ _ (parts5 K28_10.out (((((((B10_3.out.below C4.out).below C5.out).below C6.out).below C7.out).below C8.out).below C9.out).below C10.out) ((((((B16_4.out.below C5.out).below C6.out).below C7.out).below C8.out).below C9.out).below C10.out) (((B22_7.out.below C8.out).below C9.out).below C10.out) (B26_9.out.below C10.out) ((((((((((BV0.out.below C1.out).below C2.out).below C3.out).below C4.out).below C5.out).below C6.out).below C7.out).below C8.out).below C9.out).below C10.out))).mono ?_)
            rintro _ d11 ⟨v29, rfl, o11, b11⟩
            have C11 := Lib.hid b11
            have B29_11 := Lib.hid (BytesAt.own o11)
            have A11 := tr2 A10 C11
            clear o11 b11
            refine hK.out _ _ ?_ (fun hHeld => ?_)
            ·exact KS.out _ A11.out
            clear hK K
            (try simp only [Act.put, bo29, qa, qb, qc])
            refine wpAnyH_take (i := 30) (oi := bo30) (v := ?_) rfl (by kernel_rfl) (by kernel_rfl) (by kernel_rfl) (fun _ _ _ h => h) (Or.inl ⟨by rfl, ?_⟩) hHeld ?_
            rotate_left
            ·((intro w hSw; obtain ⟨s0, s1, s2, s3, s4, s5, s6, s7, s8⟩ := CF.out _ hSw.out; (try simp only [bo30]); go_simp); (try with_reducible rfl))
            (try simp only [Act.put, bo30, qa, qb, qc])
            refine wpAnyH_done (by kernel_rfl) ?_ _
            obtain ⟨zk, HY⟩ := HFIN.out _ _ A11.out B29_11.out
            clear hHeld
            refine noPan_normal ?_
            go_wp2
            exact ⟨by simp, .inl ⟨_, _, rfl, run_takeDeferred zk, _, by simp [results, Try.f20, go_sem], HY⟩⟩
           ·(try simp only [bo25])
            go_simp
            obtain ⟨C7, K25_7⟩ := al2 d6 #[.int .u64 fl] 23
            have A7 := tr2 A6 C7
            refine hK.out _ _ ?_ (fun hHeld => ?_)
            ·exact KS.out _ A7.out
            clear hK K
            (try simp only [Act.put, bo25, qa, qb, qc])
            generalize d6.alloc _ = d7 at *
            refine wpAnyH_ready (rs := [22]) (by kernel_rfl) (by simp) (AllReadyH.cons (o := bo22) rfl (fun K hK => ?_) AllReadyH.nil)
            (try simp only [bo22])
            go_simp
            (with_reducible refine (C22.out _ _ (K21_6.out.next C7.out)).mono ?_)
            rintro _ d8 ⟨v22, rfl, o8, b8⟩
            obtain ⟨va22, vc22, rfl⟩ := owns_slice o8
            have C8 := Lib.hid b8
            have B22_8 := Lib.hid (BytesAt.own o8)
            have A8 := tr2 A7 C8
            clear o8 b8
            refine hK.out _ _ ?_ (fun hHeld => ?_)
            ·exact KS.out _ A8.out
            clear hK K
            (try simp only [Act.put, bo22, qa, qb, qc])
            refine wpAnyH_ready (rs := [26]) (by kernel_rfl) (by simp) (AllReadyH.cons (o := bo26) rfl (fun K hK => ?_) AllReadyH.nil)
            (try simp only [bo26])
            go_simp
            (with_reducible refine (C26.out _ _ (K25_7.out.next C8.out)).mono ?_)
            rintro _ d9 ⟨v26, rfl, o9, b9⟩
            obtain ⟨va26, vc26, rfl⟩ := owns_slice o9
            have C9 := Lib.hid b9
            have B26_9 := Lib.hid (BytesAt.own o9)
            have A9 := tr2 A8 C9
            clear o9 b9
            refine hK.out _ _ ?_ (fun hHeld => ?_)
            ·exact KS.out _ A9.out
            clear hK K
            (try simp only [Act.put, bo26, qa, qb, qc])
            refine wpAnyH_ready (rs := [28]) (by kernel_rfl) (by simp) (AllReadyH.cons (o := bo28) rfl (fun K hK => ?_) AllReadyH.nil)
            (try simp only [bo28])
            go_simp
            obtain ⟨C10, K28_10⟩ := al2 d9 #[.slice va10 L10.length vc10, .slice va16 L16.length vc16, .slice va22 L22.length vc22, .slice va26 L26.length vc26, .slice sva L5.length svc] 53
            have A10 := tr2 A9 C10
            refine hK.out _ _ ?_ (fun hHeld => ?_)
            ·exact KS.out _ A10.out
            clear hK K
            (try simp only [Act.put, bo28, qa, qb, qc])
            generalize d9.alloc _ = d10 at *
            refine wpAnyH_ready (rs := [29]) (by kernel_rfl) (by simp) (AllReadyH.cons (o := bo29) rfl (fun K hK => ?_) AllReadyH.nil)
            (try simp only [bo29])
            go_simp
            (with_reducible refine (C29.out _ _ (parts5 K28_10.out (((((((B10_3.out.below C4.out).below C5.out).below C6.out).below C7.out).below C8.out).below C9.out).below C10.out) ((((((B16_4.out.below C5.out).below C6.out).below C7.out).below C8.out).below C9.out).below C10.out) ((B22_8.out.below C9.out).below C10.out) (B26_9.out.below C10.out) ((((((((((BV0.out.below C1.out).below C2.out).below C3.out).below C4.out).below C5.out).below C6.out).below C7.out).below C8.out).below C9.out).below C10.out))).mono ?_)
            rintro _ d11 ⟨v29, rfl, o11, b11⟩
            have C11 := Lib.hid b11
            have B29_11 := Lib.hid (BytesAt.own o11)
            have A11 := tr2 A10 C11
            clear o11 b11
            refine hK.out _ _ ?_ (fun hHeld => ?_)
            ·exact KS.out _ A11.out
            clear hK K
            (try simp only [Act.put, bo29, qa, qb, qc])
            refine wpAnyH_take (i := 30) (oi := bo30) (v := ?_) rfl (by kernel_rfl) (by kernel_rfl) (by kernel_rfl) (fun _ _ _ h => h) (Or.inl ⟨by rfl, ?_⟩) hHeld ?_
            rotate_left
            ·((intro w hSw; obtain ⟨s0, s1, s2, s3, s4, s5, s6, s7, s8⟩ := CF.out _ hSw.out; (try simp only [bo30]); go_simp); (try with_reducible rfl))
            (try simp only [Act.put, bo30, qa, qb, qc])
            refine wpAnyH_done (by kernel_rfl) ?_ _
            obtain ⟨zk, HY⟩ := HFIN.out _ _ A11.out B29_11.out
            clear hHeld
            refine noPan_normal ?_
            go_wp2
            exact ⟨by simp, .inl ⟨_, _, rfl, run_takeDeferred zk, _, by simp [results, Try.f20, go_sem], HY⟩⟩
          ·(try simp only [bo25])
           go_simp
           obtain ⟨C6, K25_6⟩ := al2 d5 #[.int .u64 fl] 23
           have A6 := tr2 A5 C6
           refine hK.out _ _ ?_ (fun hHeld => ?_)
           ·exact KS.out _ A6.out
           clear hK K
           (try simp only [Act.put, bo25, qa, qb, qc])
           generalize d5.alloc _ = d6 at *
           refine wpAnyH_ready (rs := [21]) (by kernel_rfl) (by simp) (AllReadyH.cons (o := bo21) rfl (fun K hK => ?_) AllReadyH.nil)
           (try simp only [bo21])
           go_simp
           obtain ⟨C7, K21_7⟩ := al2 d6 #[.string sb] 9
           have A7 := tr2 A6 C7
           refine hK.out _ _ ?_ (fun hHeld => ?_)
           ·exact KS.out _ A7.out
           clear hK K
           (try simp only [Act.put, bo21, qa, qb, qc])
           generalize d6.alloc _ = d7 at *
           refine wpAnyH_ready (rs := [22]) (by kernel_rfl) (by simp) (AllReadyH.cons (o := bo22) rfl (fun K hK => ?_) AllReadyH.nil)
           (try simp only [bo22])
           go_simp
           (with_reducible refine (C22.out _ _ K21_7.out).mono ?_)
           rintro _ d8 ⟨v22, rfl, o8, b8⟩
           obtain ⟨va22, vc22, rfl⟩ := owns_slice o8
           have C8 := Lib.hid b8
           have B22_8 := Lib.hid (BytesAt.own o8)
           have A8 := tr2 A7 C8
           clear o8 b8
           refine hK.out _ _ ?_ (fun hHeld => ?_)
           ·exact KS.out _ A8.out
           clear hK K
           (try simp only [Act.put, bo22, qa, qb, qc])
           refine wpAnyH_ready (rs := [26]) (by kernel_rfl) (by simp) (AllReadyH.cons (o := bo26) rfl (fun K hK => ?_) AllReadyH.nil)
           (try simp only [bo26])
           go_simp
           (with_reducible refine (C26.out _ _ ((K25_6.out.next C7.out).next C8.out)).mono ?_)
           rintro _ d9 ⟨v26, rfl, o9, b9⟩
           obtain ⟨va26, vc26, rfl⟩ := owns_slice o9
           have C9 := Lib.hid b9
           have B26_9 := Lib.hid (BytesAt.own o9)
           have A9 := tr2 A8 C9
           clear o9 b9
           refine hK.out _ _ ?_ (fun hHeld => ?_)
           ·exact KS.out _ A9.out
           clear hK K
           (try simp only [Act.put, bo26, qa, qb, qc])
           refine wpAnyH_ready (rs := [28]) (by kernel_rfl) (by simp) (AllReadyH.cons (o := bo28) rfl (fun K hK => ?_) AllReadyH.nil)
           (try simp only [bo28])
           go_simp
           obtain ⟨C10, K28_10⟩ := al2 d9 #[.slice va10 L10.length vc10, .slice va16 L16.length vc16, .slice va22 L22.length vc22, .slice va26 L26.length vc26, .slice sva L5.length svc] 53
           have A10 := tr2 A9 C10
           refine hK.out _ _ ?_ (fun hHeld => ?_)
           ·exact KS.out _ A10.out
           clear hK K
           (try simp only [Act.put, bo28, qa, qb, qc])
           generalize d9.alloc _ = d10 at *
           refine wpAnyH_ready (rs := [29]) (by kernel_rfl) (by simp) (AllReadyH.cons (o := bo29) rfl (fun K hK => ?_) AllReadyH.nil)
           (try simp only [bo29])
           go_simp
           (with_reducible refine (C29.out _ _ (parts5 K28_10.out (((((((B10_3.out.below C4.out).below C5.out).below C6.out).below C7.out).below C8.out).below C9.out).below C10.out) ((((((B16_4.out.below C5.out).below C6.out).below C7.out).below C8.out).below C9.out).below C10.out) ((B22_8.out.below C9.out).below C10.out) (B26_9.out.below C10.out) ((((((((((BV0.out.below C1.out).below C2.out).below C3.out).below C4.out).below C5.out).below C6.out).below C7.out).below C8.out).below C9.out).below C10.out))).mono ?_)
           rintro _ d11 ⟨v29, rfl, o11, b11⟩
           have C11 := Lib.hid b11
           have B29_11 := Lib.hid (BytesAt.own o11)
           have A11 := tr2 A10 C11
           clear o11 b11
           refine hK.out _ _ ?_ (fun hHeld => ?_)
           ·exact KS.out _ A11.out
           clear hK K
           (try simp only [Act.put, bo29, qa, qb, qc])
           refine wpAnyH_take (i := 30) (oi := bo30) (v := ?_) rfl (by kernel_rfl) (by kernel_rfl) (by kernel_rfl) (fun _ _ _ h => h) (Or.inl ⟨by rfl, ?_⟩) hHeld ?_
           rotate_left
           ·((intro w hSw; obtain ⟨s0, s1, s2, s3, s4, s5, s6, s7, s8⟩ := CF.out _ hSw.out; (try simp only [bo30]); go_simp); (try with_reducible rfl))
           (try simp only [Act.put, bo30, qa, qb, qc])
           refine wpAnyH_done (by kernel_rfl) ?_ _
           obtain ⟨zk, HY⟩ := HFIN.out _ _ A11.out B29_11.out
           clear hHeld
           refine noPan_normal ?_
           go_wp2
           exact ⟨by simp, .inl ⟨_, _, rfl, run_takeDeferred zk, _, by simp [results, Try.f20, go_sem], HY⟩⟩
         ·(try simp only [bo25])
          go_simp
          obtain ⟨C6, K25_6⟩ := al2 d5 #[.int .u64 fl] 23
          have A6 := tr2 A5 C6
          refine hK.out _ _ ?_ (fun hHeld => ?_)
          ·exact KS.out _ A6.out
          clear hK K
          (try simp only [Act.put, bo25, qa, qb, qc])
          generalize d5.alloc _ = d6 at *
          refine wpAnyH_ready (rs := [20]) (by kernel_rfl) (by simp) (AllReadyH.cons (o := bo20) rfl (fun K hK => ?_) AllReadyH.nil)
          have hcv := HCV.out _ _ (B19_5.out.below C6.out)
          (try simp only [bo20])
          go_simp
          refine hK.out _ _ ?_ (fun hHeld => ?_)
          ·exact KS.out _ A6.out
          clear hK K
          (try simp only [Act.put, bo20, qa, qb, qc])
          refine wpAnyH_ready (rs := [21]) (by kernel_rfl) (by simp) (AllReadyH.cons (o := bo21) rfl (fun K hK => ?_) AllReadyH.nil)
          (try simp only [bo21])
          go_simp
          obtain ⟨C7, K21_7⟩ := al2 d6 #[.string sb] 9
          have A7 := tr2 A6 C7
          refine hK.out _ _ ?_ (fun hHeld => ?_)
          ·exact KS.out _ A7.out
          clear hK K
          (try simp only [Act.put, bo21, qa, qb, qc])
          generalize d6.alloc _ = d7 at *
          refine wpAnyH_ready (rs := [22]) (by kernel_rfl) (by simp) (AllReadyH.cons (o := bo22) rfl (fun K hK => ?_) AllReadyH.nil)
          (try simp only [bo22])
          go_simp
          (with_reducible refine (C22.out _ _ K21_7.out).mono ?_)
          rintro _ d8 ⟨v22, rfl, o8, b8⟩
          obtain ⟨va22, vc22, rfl⟩ := owns_slice o8
          have C8 := Lib.hid b8
          have B22_8 := Lib.hid (BytesAt.own o8)
          have A8 := tr2 A7 C8
          clear o8 b8
          refine hK.out _ _ ?_ (fun hHeld => ?_)
          ·exact KS.out _ A8.out
          clear hK K
          (try simp only [Act.put, bo22, qa, qb, qc])
          refine wpAnyH_ready (rs := [26]) (by kernel_rfl) (by simp) (AllReadyH.cons (o := bo26) rfl (fun K hK => ?_) AllReadyH.nil)
          (try simp only [bo26])
          go_simp
          (with_reducible refine (C26.out _ _ ((K25_6.out.next C7.out).next C8.out)).mono ?_)
          rintro _ d9 ⟨v26, rfl, o9, b9⟩
          obtain ⟨va26, vc26, rfl⟩ := owns_slice o9
          have C9 := Lib.hid b9
          have B26_9 := Lib.hid (BytesAt.own o9)
          have A9 := tr2 A8 C9
          clear o9 b9
          refine hK.out _ _ ?_ (fun hHeld => ?_)
          ·exact KS.out _ A9.out
          clear hK K
          (try simp only [Act.put, bo26, qa, qb, qc])
          refine wpAnyH_ready (rs := [28]) (by kernel_rfl) (by simp) (AllReadyH.cons (o := bo28) rfl (fun K hK => ?_) AllReadyH.nil)
          (try simp only [bo28])
          go_simp
          obtain ⟨C10, K28_10⟩ := al2 d9 #[.slice va10 L10.length vc10, .slice va16 L16.length vc16, .slice va22 L22.length vc22, .slice va26 L26.length vc26, .slice sva L5.length svc] 53
          have A10 := tr2 A9 C10
          refine hK.out _ _ ?_ (fun hHeld => ?_)
          ·exact KS.out _ A10.out
          clear hK K
          (try simp only [Act.put, bo28, qa, qb, qc])
          generalize d9.alloc _ = d10 at *
          refine wpAnyH_ready (rs := [29]) (by kernel_rfl) (by simp) (AllReadyH.cons (o := bo29) rfl (fun K hK => ?_) AllReadyH.nil)
          (try simp only [bo29])
          go_simp
          (with_reducible refine (C29.out _ _ (parts5 K28_10.out (((((((B10_3.out.below C4.out).below C5.out).below C6.out).below C7.out).below C8.out).below C9.out).below C10.out) ((((((B16_4.out.below C5.out).below C6.out).below C7.out).below C8.out).below C9.out).below C10.out) ((B22_8.out.below C9.out).below C10.out) (B26_9.out.below C10.out) ((((((((((BV0.out.below C1.out).below C2.out).below C3.out).below C4.out).below C5.out).below C6.out).below C7.out).below C8.out).below C9.out).below C10.out))).mono ?_)
          rintro _ d11 ⟨v29, rfl, o11, b11⟩
          have C11 := Lib.hid b11
          have B29_11 := Lib.hid (BytesAt.own o11)
          have A11 := tr2 A10 C11
          clear o11 b11
          refine hK.out _ _ ?_ (fun hHeld => ?_)
          ·exact KS.out _ A11.out
          clear hK K
          (try simp only [Act.put, bo29, qa, qb, qc])
          refine wpAnyH_take (i := 30) (oi := bo30) (v := ?_) rfl (by kernel_rfl) (by kernel_rfl) (by kernel_rfl) (fun _ _ _ h => h) (Or.inl ⟨by rfl, ?_⟩) hHeld ?_
          rotate_left
          ·((intro w hSw; obtain ⟨s0, s1, s2, s3, s4, s5, s6, s7, s8⟩ := CF.out _ hSw.out; (try simp only [bo30]); go_simp); (try with_reducible rfl))
          (try simp only [Act.put, bo30, qa, qb, qc])
          refine wpAnyH_done (by kernel_rfl) ?_ _
          obtain ⟨zk, HY⟩ := HFIN.out _ _ A11.out B29_11.out
          clear hHeld
          refine noPan_normal ?_
          go_wp2
          exact ⟨by simp, .inl ⟨_, _, rfl, run_takeDeferred zk, _, by simp [results, Try.f20, go_sem], HY⟩⟩
        ·(try simp only [bo25])
         go_simp
         obtain ⟨C5, K25_5⟩ := al2 d4 #[.int .u64 fl] 23
         have A5 := tr2 A4 C5
         refine hK.out _ _ ?_ (fun hHeld => ?_)
         ·exact KS.out _ A5.out
         clear hK K
         (try simp only [Act.put, bo25, qa, qb, qc])
         generalize d4.alloc _ = d5 at *
         refine wpAnyH_ready (rs := [19]) (by kernel_rfl) (by simp) (AllReadyH.cons (o := bo19) rfl (fun K hK => ?_) AllReadyH.nil)
         (try simp only [bo19])
         go_simp
         (with_reducible refine (C19.out _).mono ?_)
         rintro _ d6 ⟨v19, rfl, o6, b6⟩
         have C6 := Lib.hid b6
         have B19_6 := Lib.hid o6
         have A6 := tr2 A5 C6
         clear o6 b6
         refine hK.out _ _ ?_ (fun hHeld => ?_)
         ·exact KS.out _ A6.out
         clear hK K
         (try simp only [Act.put, bo19, qa, qb, qc])
         refine wpAnyH_ready (rs := [20]) (by kernel_rfl) (by simp) (AllReadyH.cons (o := bo20) rfl (fun K hK => ?_) AllReadyH.nil)
         have hcv := HCV.out _ _ B19_6.out
         (try simp only [bo20])
         go_simp
         refine hK.out _ _ ?_ (fun hHeld => ?_)
         ·exact KS.out _ A6.out
         clear hK K
         (try simp only [Act.put, bo20, qa, qb, qc])
         refine wpAnyH_ready (rs := [21]) (by kernel_rfl) (by simp) (AllReadyH.cons (o := bo21) rfl (fun K hK => ?_) AllReadyH.nil)
         (try simp only [bo21])
         go_simp
         obtain ⟨C7, K21_7⟩ := al2 d6 #[.string sb] 9
         have A7 := tr2 A6 C7
         refine hK.out _ _ ?_ (fun hHeld => ?_)
         ·exact KS.out _ A7.out
         clear hK K
         (try simp only [Act.put, bo21, qa, qb, qc])
         generalize d6.alloc _ = d7 at *
         refine wpAnyH_ready (rs := [22]) (by kernel_rfl) (by simp) (AllReadyH.cons (o := bo22) rfl (fun K hK => ?_) AllReadyH.nil)
         (try simp only [bo22])
         go_simp
         (with_reducible refine (C22.out _ _ K21_7.out).mono ?_)
         rintro _ d8 ⟨v22, rfl, o8, b8⟩
         obtain ⟨va22, vc22, rfl⟩ := owns_slice o8
         have C8 := Lib.hid b8
         have B22_8 := Lib.hid (BytesAt.own o8)
         have A8 := tr2 A7 C8
         clear o8 b8
         refine hK.out _ _ ?_ (fun hHeld => ?_)
         ·exact KS.out _ A8.out
         clear hK K
         (try simp only [Act.put, bo22, qa, qb, qc])
         refine wpAnyH_ready (rs := [26]) (by kernel_rfl) (by simp) (AllReadyH.cons (o := bo26) rfl (fun K hK => ?_) AllReadyH.nil)
         (try simp only [bo26])
         go_simp
         (with_reducible refine (C26.out _ _ (((K25_5.out.next C6.out).next C7.out).next C8.out)).mono ?_)
         rintro _ d9 ⟨v26, rfl, o9, b9⟩
         obtain ⟨va26, vc26, rfl⟩ := owns_slice o9
         have C9 := Lib.hid b9
         have B26_9 := Lib.hid (BytesAt.own o9)
         have A9 := tr2 A8 C9
         clear o9 b9
         refine hK.out _ _ ?_ (fun hHeld => ?_)
         ·exact KS.out _ A9.out
         clear hK K
         (try simp only [Act.put, bo26, qa, qb, qc])
         refine wpAnyH_ready (rs := [28]) (by kernel_rfl) (by simp) (AllReadyH.cons (o := bo28) rfl (fun K hK => ?_) AllReadyH.nil)
         (try simp only [bo28])
         go_simp
         obtain ⟨C10, K28_10⟩ := al2 d9 #[.slice va10 L10.length vc10, .slice va16 L16.length vc16, .slice va22 L22.length vc22, .slice va26 L26.length vc26, .slice sva L5.length svc] 53
         have A10 := tr2 A9 C10
         refine hK.out _ _ ?_ (fun hHeld => ?_)
         ·exact KS.out _ A10.out
         clear hK K
         (try simp only [Act.put, bo28, qa, qb, qc])
         generalize d9.alloc _ = d10 at *
         refine wpAnyH_ready (rs := [29]) (by kernel_rfl) (by simp) (AllReadyH.cons (o := bo29) rfl (fun K hK => ?_) AllReadyH.nil)
         (try simp only [bo29])
         go_simp
         (with_reducible refine (C29.out _ _ (parts5 K28_10.out (((((((B10_3.out.below C4.out).below C5.out).below C6.out).below C7.out).below C8.out).below C9.out).below C10.out) ((((((B16_4.out.below C5.out).below C6.out).below C7.out).below C8.out).below C9.out).below C10.out) ((B22_8.out.below C9.out).below C10.out) (B26_9.out.below C10.out) ((((((((((BV0.out.below C1.out).below C2.out).below C3.out).below C4.out).below C5.out).below C6.out).below C7.out).below C8.out).below C9.out).below C10.out))).mono ?_)
         rintro _ d11 ⟨v29, rfl, o11, b11⟩
         have C11 := Lib.hid b11
         have B29_11 := Lib.hid (BytesAt.own o11)
         have A11 := tr2 A10 C11
         clear o11 b11
         refine hK.out _ _ ?_ (fun hHeld => ?_)
         ·exact KS.out _ A11.out
         clear hK K
         (try simp only [Act.put, bo29, qa, qb, qc])
         refine wpAnyH_take (i := 30) (oi := bo30) (v := ?_) rfl (by kernel_rfl) (by kernel_rfl) (by kernel_rfl) (fun _ _ _ h => h) (Or.inl ⟨by rfl, ?_⟩) hHeld ?_
         rotate_left
         ·((intro w hSw; obtain ⟨s0, s1, s2, s3, s4, s5, s6, s7, s8⟩ := CF.out _ hSw.out; (try simp only [bo30]); go_simp); (try with_reducible rfl))
         (try simp only [Act.put, bo30, qa, qb, qc])
         refine wpAnyH_done (by kernel_rfl) ?_ _
         obtain ⟨zk, HY⟩ := HFIN.out _ _ A11.out B29_11.out
         clear hHeld
         refine noPan_normal ?_
         go_wp2
         exact ⟨by simp, .inl ⟨_, _, rfl, run_takeDeferred zk, _, by simp [results, Try.f20, go_sem], HY⟩⟩
       ·(try simp only [bo25])
        go_simp
        obtain ⟨C4, K25_4⟩ := al2 d3 #[.int .u64 fl] 23
        have A4 := tr2 A3 C4
        refine hK.out _ _ ?_ (fun hHeld => ?_)
        ·exact KS.out _ A4.out
        clear hK K
        (try simp only [Act.put, bo25, qa, qb, qc])
        generalize d3.alloc _ = d4 at *
        refine wpAnyH_ready (rs := [16]) (by kernel_rfl) (by simp) (AllReadyH.cons (o := bo16) rfl (fun K hK => ?_) AllReadyH.nil)
        (try simp only [bo16])
        go_simp
        (with_reducible refine (C16.out _ _ (((K15_1.out.next C2.out).next C3.out).next C4.out)).mono ?_)
        rintro _ d5 ⟨v16, rfl, o5, b5⟩
        obtain ⟨va16, vc16, rfl⟩ := owns_slice o5
        have C5 := Lib.hid b5
        have B16_5 := Lib.hid (BytesAt.own o5)
        have A5 := tr2 A4 C5
        clear o5 b5
        refine hK.out _ _ ?_ (fun hHeld => ?_)
        ·exact KS.out _ A5.out
        clear hK K
        (try simp only [Act.put, bo16, qa, qb, qc])
        refine wpAnyH_ready (rs := [19]) (by kernel_rfl) (by simp) (AllReadyH.cons (o := bo19) rfl (fun K hK => ?_) AllReadyH.nil)
        (try simp only [bo19])
        go_simp
        (with_reducible refine (C19.out _).mono ?_)
        rintro _ d6 ⟨v19, rfl, o6, b6⟩
        have C6 := Lib.hid b6
        have B19_6 := Lib.hid o6
        have A6 := tr2 A5 C6
        clear o6 b6
        refine hK.out _ _ ?_ (fun hHeld => ?_)
        ·exact KS.out _ A6.out
        clear hK K
        (try simp only [Act.put, bo19, qa, qb, qc])
        refine wpAnyH_ready (rs := [20]) (by kernel_rfl) (by simp) (AllReadyH.cons (o := bo20) rfl (fun K hK => ?_) AllReadyH.nil)
        have hcv := HCV.out _ _ B19_6.out
        (try simp only [bo20])
        go_simp
        refine hK.out _ _ ?_ (fun hHeld => ?_)
        ·exact KS.out _ A6.out
        clear hK K
        (try simp only [Act.put, bo20, qa, qb, qc])
        refine wpAnyH_ready (rs := [21]) (by kernel_rfl) (by simp) (AllReadyH.cons (o := bo21) rfl (fun K hK => ?_) AllReadyH.nil)
        (try simp only [bo21])
        go_simp
        obtain ⟨C7, K21_7⟩ := al2 d6 #[.string sb] 9
        have A7 := tr2 A6 C7
        refine hK.out _ _ ?_ (fun hHeld => ?_)
        ·exact KS.out _ A7.out
        clear hK K
        (try simp only [Act.put, bo21, qa, qb, qc])
        generalize d6.alloc _ = d7 at *
        refine wpAnyH_ready (rs := [22]) (by kernel_rfl) (by simp) (AllReadyH.cons (o := bo22) rfl (fun K hK => ?_) AllReadyH.nil)
        (try simp only [bo22])
        go_simp
        (with_reducible refine (C22.out _ _ K21_7.out).mono ?_)
        rintro _ d8 ⟨v22, rfl, o8, b8⟩
        obtain ⟨va22, vc22, rfl⟩ := owns_slice o8
        have C8 := Lib.hid b8
        have B22_8 := Lib.hid (BytesAt.own o8)
        have A8 := tr2 A7 C8
        clear o8 b8
        refine hK.out _ _ ?_ (fun hHeld => ?_)
        ·exact KS.out _ A8.out
        clear hK K
        (try simp only [Act.put, bo22, qa, qb, qc])
        refine wpAnyH_ready (rs := [26]) (by kernel_rfl) (by simp) (AllReadyH.cons (o := bo26) rfl (fun K hK => ?_) AllReadyH.nil)
        (try simp only [bo26])
        go_simp
        (with_reducible refine (C26.out _ _ ((((K25_4.out.next C5.out).next C6.out).next C7.out).next C8.out)).mono ?_)
        rintro _ d9 ⟨v26, rfl, o9, b9⟩
        obtain ⟨va26, vc26, rfl⟩ := owns_slice o9
        have C9 := Lib.hid b9
        have B26_9 := Lib.hid (BytesAt.own o9)
        have A9 := tr2 A8 C9
        clear o9 b9
        refine hK.out _ _ ?_ (fun hHeld => ?_)
        ·exact KS.out _ A9.out
        clear hK K
        (try simp only [Act.put, bo26, qa, qb, qc])
        refine wpAnyH_ready (rs := [28]) (by kernel_rfl) (by simp) (AllReadyH.cons (o := bo28) rfl (fun K hK => ?_) AllReadyH.nil)
        (try simp only [bo28])
        go_simp
        obtain ⟨C10, K28_10⟩ := al2 d9 #[.slice va10 L10.length vc10, .slice va16 L16.length vc16, .slice va22 L22.length vc22, .slice va26 L26.length vc26, .slice sva L5.length svc] 53
        have A10 := tr2 A9 C10
        refine hK.out _ _ ?_ (fun hHeld => ?_)
        ·exact KS.out _ A10.out
        clear hK K
        (try simp only [Act.put, bo28, qa, qb, qc])
        generalize d9.alloc _ = d10 at *
        refine wpAnyH_ready (rs := [29]) (by kernel_rfl) (by simp) (AllReadyH.cons (o := bo29) rfl (fun K hK => ?_) AllReadyH.nil)
        (try simp only [bo29])
        go_simp
        (with_reducible refine (C29.out _ _ (parts5 K28_10.out (((((((B10_3.out.below C4.out).below C5.out).below C6.out).below C7.out).below C8.out).below C9.out).below C10.out) (((((B16_5.out.below C6.out).below C7.out).below C8.out).below C9.out).below C10.out) ((B22_8.out.below C9.out).below C10.out) (B26_9.out.below C10.out) ((((((((((BV0.out.below C1.out).below C2.out).below C3.out).below C4.out).below C5.out).below C6.out).below C7.out).below C8.out).below C9.out).below C10.out))).mono ?_)
        rintro _ d11 ⟨v29, rfl, o11, b11⟩
        have C11 := Lib.hid b11
        have B29_11 := Lib.hid (BytesAt.own o11)
        have A11 := tr2 A10 C11
        clear o11 b11
        refine hK.out _ _ ?_ (fun hHeld => ?_)
        ·exact KS.out _ A11.out
        clear hK K
        (try simp only [Act.put, bo29, qa, qb, qc])
        refine wpAnyH_take (i := 30) (oi := bo30) (v := ?_) rfl (by kernel_rfl) (by kernel_rfl) (by kernel_rfl) (fun _ _ _ h => h) (Or.inl ⟨by rfl, ?_⟩) hHeld ?_
        rotate_left
        ·((intro w hSw; obtain ⟨s0, s1, s2, s3, s4, s5, s6, s7, s8⟩ := CF.out _ hSw.out; (try simp only [bo30]); go_simp); (try with_reducible rfl))
        (try simp only [Act.put, bo30, qa, qb, qc])
        refine wpAnyH_done (by kernel_rfl) ?_ _
        obtain ⟨zk, HY⟩ := HFIN.out _ _ A11.out B29_11.out
        clear hHeld
        refine noPan_normal ?_
        go_wp2
        exact ⟨by simp, .inl ⟨_, _, rfl, run_takeDeferred zk, _, by simp [results, Try.f20, go_sem], HY⟩⟩
      ·(try simp only [bo25])
       go_simp
       obtain ⟨C3, K25_3⟩ := al2 d2 #[.int .u64 fl] 23
       have A3 := tr2 A2 C3
       refine hK.out _ _ ?_ (fun hHeld => ?_)
       ·exact KS.out _ A3.out
       clear hK K
       (try simp only [Act.put, bo25, qa, qb, qc])
       generalize d2.alloc _ = d3 at *
       refine wpAnyH_ready (rs := [10]) (by kernel_rfl) (by simp) (AllReadyH.cons (o := bo10) rfl (fun K hK => ?_) AllReadyH.nil)
       (try simp only [bo10])
       go_simp
       (with_reducible refine (C10.out _ _ (K9_2.out.next C3.out)).mono ?_)
       rintro _ d4 ⟨v10, rfl, o4, b4⟩
       obtain ⟨va10, vc10, rfl⟩ := owns_slice o4
       have C4 := Lib.hid b4
       have B10_4 := Lib.hid (BytesAt.own o4)
       have A4 := tr2 A3 C4
       clear o4 b4
       refine hK.out _ _ ?_ (fun hHeld => ?_)
       ·exact KS.out _ A4.out
       clear hK K
       (try simp only [Act.put, bo10, qa, qb, qc])
       refine wpAnyH_ready (rs := [16]) (by kernel_rfl) (by simp) (AllReadyH.cons (o := bo16) rfl (fun K hK => ?_) AllReadyH.nil)
       (try simp only [bo16])
       go_simp
       (with_reducible refine (C16.out _ _ (((K15_1.out.next C2.out).next C3.out).next C4.out)).mono ?_)
       rintro _ d5 ⟨v16, rfl, o5, b5⟩
       obtain ⟨va16, vc16, rfl⟩ := owns_slice o5
       have C5 := Lib.hid b5
       have B16_5 := Lib.hid (BytesAt.own o5)
       have A5 := tr2 A4 C5
       clear o5 b5
       refine hK.out _ _ ?_ (fun hHeld => ?_)
       ·exact KS.out _ A5.out
       clear hK K
       (try simp only [Act.put, bo16, qa, qb, qc])
       refine wpAnyH_ready (rs := [19]) (by kernel_rfl) (by simp) (AllReadyH.cons (o := bo19) rfl (fun K hK => ?_) AllReadyH.nil)
       (try simp only [bo19])
       go_simp
       (with_reducible refine (C19.out _).mono ?_)
       rintro _ d6 ⟨v19, rfl, o6, b6⟩
       have C6 := Lib.hid b6
       have B19_6 := Lib.hid o6
       have A6 := tr2 A5 C6
       clear o6 b6
       refine hK.out _ _ ?_ (fun hHeld => ?_)
       ·exact KS.out _ A6.out
       clear hK K
       (try simp only [Act.put, bo19, qa, qb, qc])
       refine wpAnyH_ready (rs := [20]) (by kernel_rfl) (by simp) (AllReadyH.cons (o := bo20) rfl (fun K hK => ?_) AllReadyH.nil)
       have hcv := HCV.out _ _ B19_6.out
       (try simp only [bo20])
       go_simp
       refine hK.out _ _ ?_ (fun hHeld => ?_)
       ·exact KS.out _ A6.out
       clear hK K
       (try simp only [Act.put, bo20, qa, qb, qc])
       refine wpAnyH_ready (rs := [21]) (by kernel_rfl) (by simp) (AllReadyH.cons (o := bo21) rfl (fun K hK => ?_) AllReadyH.nil)
       (try simp only [bo21])
       go_simp
       obtain ⟨C7, K21_7⟩ := al2 d6 #[.string sb] 9
       have A7 := tr2 A6 C7
       refine hK.out _ _ ?_ (fun hHeld => ?_)
       ·exact KS.out _ A7.out
       clear hK K
       (try simp only [Act.put, bo21, qa, qb, qc])
       generalize d6.alloc _ = d7 at *
       refine wpAnyH_ready (rs := [22]) (by kernel_rfl) (by simp) (AllReadyH.cons (o := bo22) rfl (fun K hK => ?_) AllReadyH.nil)
       (try simp only [bo22])
       go_simp
       (with_reducible refine (C22.out _ _ K21_7.out).mono ?_)
       rintro _ d8 ⟨v22, rfl, o8, b8⟩
       obtain ⟨va22, vc22, rfl⟩ := owns_slice o8
       have C8 := Lib.hid b8
       have B22_8 := Lib.hid (BytesAt.own o8)
       have A8 := tr2 A7 C8
       clear o8 b8
       refine hK.out _ _ ?_ (fun hHeld => ?_)
       ·exact KS.out _ A8.out
       clear hK K
       (try simp only [Act.put, bo22, qa, qb, qc])
       refine wpAnyH_ready (rs := [26]) (by kernel_rfl) (by simp) (AllReadyH.cons (o := bo26) rfl (fun K hK => ?_) AllReadyH.nil)
       (try simp only [bo26])
       go_simp
       (with_reducible refine (C26.out _ _ (((((K25_3.out.next C4.out).next C5.out).next C6.out).next C7.out).next C8.out)).mono ?_)
       rintro _ d9 ⟨v26, rfl, o9, b9⟩
       obtain ⟨va26, vc26, rfl⟩ := owns_slice o9
       have C9 := Lib.hid b9
       have B26_9 := Lib.hid (BytesAt.own o9)
       have A9 := tr2 A8 C9
       clear o9 b9
       refine hK.out _ _ ?_ (fun hHeld => ?_)
       ·exact KS.out _ A9.out
       clear hK K
       (try simp only [Act.put, bo26, qa, qb, qc])
       refine wpAnyH_ready (rs := [28]) (by kernel_rfl) (by simp) (AllReadyH.cons (o := bo28) rfl (fun K hK => ?_) AllReadyH.nil)
       (try simp only [bo28])
       go_simp
       obtain ⟨C10, K28_10⟩ := al2 d9 #[.slice va10 L10.length vc10, .slice va16 L16.length vc16, .slice va22 L22.length vc22, .slice va26 L26.length vc26, .slice sva L5.length svc] 53
       have A10 := tr2 A9 C10
       refine hK.out _ _ ?_ (fun hHeld => ?_)
       ·exact KS.out _ A10.out
       clear hK K
       (try simp only [Act.put, bo28, qa, qb, qc])
       generalize d9.alloc _ = d10 at *
       refine wpAnyH_ready (rs := [29]) (by kernel_rfl) (by simp) (AllReadyH.cons (o := bo29) rfl (fun K hK => ?_) AllReadyH.nil)
       (try simp only [bo29])
       go_simp
       (with_reducible refine (C29.out _ _ (parts5 K28_10.out ((((((B10_4.out.below C5.out).below C6.out).below C7.out).below C8.out).below C9.out).below C10.out) (((((B16_5.out.below C6.out).below C7.out).below C8.out).below C9.out).below C10.out) ((B22_8.out.below C9.out).below C10.out) (B26_9.out.below C10.out) ((((((((((BV0.out.below C1.out).below C2.out).below C3.out).below C4.out).below C5.out).below C6.out).below C7.out).below C8.out).below C9.out).below C10.out))).mono ?_)
       rintro _ d11 ⟨v29, rfl, o11, b11⟩
       have C11 := Lib.hid b11
       have B29_11 := Lib.hid (BytesAt.own o11)
       have A11 := tr2 A10 C11
       clear o11 b11
       refine hK.out _ _ ?_ (fun hHeld => ?_)
       ·exact KS.out _ A11.out
       clear hK K
       (try simp only [Act.put, bo29, qa, qb, qc])
       refine wpAnyH_take (i := 30) (oi := bo30) (v := ?_) rfl (by kernel_rfl) (by kernel_rfl) (by kernel_rfl) (fun _ _ _ h => h) (Or.inl ⟨by rfl, ?_⟩) hHeld ?_
       rotate_left
       ·((intro w hSw; obtain ⟨s0, s1, s2, s3, s4, s5, s6, s7, s8⟩ := CF.out _ hSw.out; (try simp only [bo30]); go_simp); (try with_reducible rfl))
       (try simp only [Act.put, bo30, qa, qb, qc])
       refine wpAnyH_done (by kernel_rfl) ?_ _
       obtain ⟨zk, HY⟩ := HFIN.out _ _ A11.out B29_11.out
       clear hHeld
       refine noPan_normal ?_
       go_wp2
       exact ⟨by simp, .inl ⟨_, _, rfl, run_takeDeferred zk, _, by simp [results, Try.f20, go_sem], HY⟩⟩
     ·(try simp only [bo25])
      go_simp
      obtain ⟨C2, K25_2⟩ := al2 d1 #[.int .u64 fl] 23
      have A2 := tr2 A1 C2
      refine hK.out _ _ ?_ (fun hHeld => ?_)
      ·exact KS.out _ A2.out
      clear hK K
      (try simp only [Act.put, bo25, qa, qb, qc])
      generalize d1.alloc _ = d2 at *
      refine wpAnyH_ready (rs := [9]) (by kernel_rfl) (by simp) (AllReadyH.cons (o := bo9) rfl (fun K hK => ?_) AllReadyH.nil)
      (try simp only [bo9])
      go_simp
      obtain ⟨C3, K9_3⟩ := al2 d2 #[.int .u64 n, .int .u64 ce, .int .u64 po] 23
      have A3 := tr2 A2 C3
      refine hK.out _ _ ?_ (fun hHeld => ?_)
      ·exact KS.out _ A3.out
      clear hK K
      (try simp only [Act.put, bo9, qa, qb, qc])
      generalize d2.alloc _ = d3 at *
      refine wpAnyH_ready (rs := [10]) (by kernel_rfl) (by simp) (AllReadyH.cons (o := bo10) rfl (fun K hK => ?_) AllReadyH.nil)
      (try simp only [bo10])
      go_simp
      (with_reducible refine (C10.out _ _ K9_3.out).mono ?_)
      rintro _ d4 ⟨v10, rfl, o4, b4⟩
      obtain ⟨va10, vc10, rfl⟩ := owns_slice o4
      have C4 := Lib.hid b4
      have B10_4 := Lib.hid (BytesAt.own o4)
      have A4 := tr2 A3 C4
      clear o4 b4
      refine hK.out _ _ ?_ (fun hHeld => ?_)
      ·exact KS.out _ A4.out
      clear hK K
      (try simp only [Act.put, bo10, qa, qb, qc])
      refine wpAnyH_ready (rs := [16]) (by kernel_rfl) (by simp) (AllReadyH.cons (o := bo16) rfl (fun K hK => ?_) AllReadyH.nil)
      (try simp only [bo16])
      go_simp
      (with_reducible refine (C16.out _ _ (((K15_1.out.next C2.out).next C3.out).next C4.out)).mono ?_)
      rintro _ d5 ⟨v16, rfl, o5, b5⟩
      obtain ⟨va16, vc16, rfl⟩ := owns_slice o5
      have C5 := Lib.hid b5
      have B16_5 := Lib.hid (BytesAt.own o5)
      have A5 := tr2 A4 C5
      clear o5 b5
      refine hK.out _ _ ?_ (fun hHeld => ?_)
      ·exact KS.out _ A5.out
      clear hK K
      (try simp only [Act.put, bo16, qa, qb, qc])
      refine wpAnyH_ready (rs := [19]) (by kernel_rfl) (by simp) (AllReadyH.cons (o := bo19) rfl (fun K hK => ?_) AllReadyH.nil)
      (try simp only [bo19])
      go_simp
      (with_reducible refine (C19.out _).mono ?_)
      rintro _ d6 ⟨v19, rfl, o6, b6⟩
      have C6 := Lib.hid b6
      have B19_6 := Lib.hid o6
      have A6 := tr2 A5 C6
      clear o6 b6
      refine hK.out _ _ ?_ (fun hHeld => ?_)
      ·exact KS.out _ A6.out
      clear hK K
      (try simp only [Act.put, bo19, qa, qb, qc])
      refine wpAnyH_ready (rs := [20]) (by kernel_rfl) (by simp) (AllReadyH.cons (o := bo20) rfl (fun K hK => ?_) AllReadyH.nil)
      have hcv := HCV.out _ _ B19_6.out
      (try simp only [bo20])
      go_simp
      refine hK.out _ _ ?_ (fun hHeld => ?_)
      ·exact KS.out _ A6.out
      clear hK K
      (try simp only [Act.put, bo20, qa, qb, qc])
      refine wpAnyH_ready (rs := [21]) (by kernel_rfl) (by simp) (AllReadyH.cons (o := bo21) rfl (fun K hK => ?_) AllReadyH.nil)
      (try simp only [bo21])
      go_simp
      obtain ⟨C7, K21_7⟩ := al2 d6 #[.string sb] 9
      have A7 := tr2 A6 C7
      refine hK.out _ _ ?_ (fun hHeld => ?_)
      ·exact KS.out _ A7.out
      clear hK K
      (try simp only [Act.put, bo21, qa, qb, qc])
      generalize d6.alloc _ = d7 at *
      refine wpAnyH_ready (rs := [22]) (by kernel_rfl) (by simp) (AllReadyH.cons (o := bo22) rfl (fun K hK => ?_) AllReadyH.nil)
      (try simp only [bo22])
      go_simp
      (with_reducible refine (C22.out _ _ K21_7.out).mono ?_)
      rintro _ d8 ⟨v22, rfl, o8, b8⟩
      obtain ⟨va22, vc22, rfl⟩ := owns_slice o8
      have C8 := Lib.hid b8
      have B22_8 := Lib.hid (BytesAt.own o8)
      have A8 := tr2 A7 C8
      clear o8 b8
      refine hK.out _ _ ?_ (fun hHeld => ?_)
      ·exact KS.out _ A8.out
      clear hK K
      (try simp only [Act.put, bo22, qa, qb, qc])
      refine wpAnyH_ready (rs := [26]) (by kernel_rfl) (by simp) (AllReadyH.cons (o := bo26) rfl (fun K hK => ?_) AllReadyH.nil)
      (try simp only [bo26])
      go_simp
      (with_reducible refine (C26.out _ _ ((((((K25_2.out.next C3.out).next C4.out).next C5.out).next C6.out).next C7.out).next C8.out)).mono ?_)
      rintro _ d9 ⟨v26, rfl, o9, b9⟩
      obtain ⟨va26, vc26, rfl⟩ := owns_slice o9
      have C9 := Lib.hid b9
      have B26_9 := Lib.hid (BytesAt.own o9)
      have A9 := tr2 A8 C9
      clear o9 b9
      refine hK.out _ _ ?_ (fun hHeld => ?_)
      ·exact KS.out _ A9.out
      clear hK K
      (try simp only [Act.put, bo26, qa, qb, qc])
      refine wpAnyH_ready (rs := [28]) (by kernel_rfl) (by simp) (AllReadyH.cons (o := bo28) rfl (fun K hK => ?_) AllReadyH.nil)
      (try simp only [bo28])
      go_simp
      obtain ⟨C10, K28_10⟩ := al2 d9 #[.slice va10 L10.length vc10, .slice va16 L16.length vc16, .slice va22 L22.length vc22, .slice va26 L26.length vc26, .slice sva L5.length svc] 53
      have A10 := tr2 A9 C10
      refine hK.out _ _ ?_ (fun hHeld => ?_)
      ·exact KS.out _ A10.out
      clear hK K
      (try simp only [Act.put, bo28, qa, qb, qc])
      generalize d9.alloc _ = d10 at *
      refine wpAnyH_ready (rs := [29]) (by kernel_rfl) (by simp) (AllReadyH.cons (o := bo29) rfl (fun K hK => ?_) AllReadyH.nil)
      (try simp only [bo29])
      go_simp
      (with_reducible refine (C29.out _ _ (parts5 K28_10.out ((((((B10_4.out.below C5.out).below C6.out).below C7.out).below C8.out).below C9.out).below C10.out) (((((B16_5.out.below C6.out).below C7.out).below C8.out).below C9.out).below C10.out) ((B22_8.out.below C9.out).below C10.out) (B26_9.out.below C10.out) ((((((((((BV0.out.below C1.out).below C2.out).below C3.out).below C4.out).below C5.out).below C6.out).below C7.out).below C8.out).below C9.out).below C10.out))).mono ?_)
      rintro _ d11 ⟨v29, rfl, o11, b11⟩
      have C11 := Lib.hid b11
      have B29_11 := Lib.hid (BytesAt.own o11)
      have A11 := tr2 A10 C11
      clear o11 b11
      refine hK.out _ _ ?_ (fun hHeld => ?_)
      ·exact KS.out _ A11.out
      clear hK K
      (try simp only [Act.put, bo29, qa, qb, qc])
      refine wpAnyH_take (i := 30) (oi := bo30) (v := ?_) rfl (by kernel_rfl) (by kernel_rfl) (by kernel_rfl) (fun _ _ _ h => h) (Or.inl ⟨by rfl, ?_⟩) hHeld ?_
      rotate_left
      ·((intro w hSw; obtain ⟨s0, s1, s2, s3, s4, s5, s6, s7, s8⟩ := CF.out _ hSw.out; (try simp only [bo30]); go_simp); (try with_reducible rfl))
      (try simp only [Act.put, bo30, qa, qb, qc])
      refine wpAnyH_done (by kernel_rfl) ?_ _
      obtain ⟨zk, HY⟩ := HFIN.out _ _ A11.out B29_11.out
      clear hHeld
      refine noPan_normal ?_
      go_wp2
      exact ⟨by simp, .inl ⟨_, _, rfl, run_takeDeferred zk, _, by simp [results, Try.f20, go_sem], HY⟩⟩
    ·(try simp only [bo25])
     go_simp
     obtain ⟨C1, K25_1⟩ := al2 d0 #[.int .u64 fl] 23
     have A1 := tr2 A0 C1
     refine hK.out _ _ ?_ (fun hHeld => ?_)
     ·exact KS.out _ A1.out
     clear hK K
     (try simp only [Act.put, bo25, qa, qb, qc])
     generalize d0.alloc _ = d1 at *
     refine wpAnyH_ready (rs := [9, 15]) (by kernel_rfl) (by simp) ?_
     refine AllReadyH.cons (o := bo9) rfl (fun K hK => ?_) (AllReadyH.cons (o := bo15) rfl (fun K hK => ?_) (AllReadyH.nil))
     ·(try simp only [bo9])
      go_simp
      obtain ⟨C2, K9_2⟩ := al2 d1 #[.int .u64 n, .int .u64 ce, .int .u64 po] 23
      have A2 := tr2 A1 C2
      refine hK.out _ _ ?_ (fun hHeld => ?_)
      ·exact KS.out _ A2.out
      clear hK K
      (try simp only [Act.put, bo9, qa, qb, qc])
      generalize d1.alloc _ = d2 at *
      refine wpAnyH_ready (rs := [10, 15]) (by kernel_rfl) (by simp) ?_
      refine AllReadyH.cons (o := bo10) rfl (fun K hK => ?_) (AllReadyH.cons (o := bo15) rfl (fun K hK => ?_) (AllReadyH.nil))
      ·(try simp only [bo10])
       go_simp
       (with_reducible refine (C10.out _ _ K9_2.out).mono ?_)
       rintro _ d3 ⟨v10, rfl, o3, b3⟩
       obtain ⟨va10, vc10, rfl⟩ := owns_slice o3
       have C3 := Lib.hid b3
       have B10_3 := Lib.hid (BytesAt.own o3)
       have A3 := tr2 A2 C3
       clear o3 b3
       refine hK.out _ _ ?_ (fun hHeld => ?_)
       ·exact KS.out _ A3.out
       clear hK K
       (try simp only [Act.put, bo10, qa, qb, qc])
       refine wpAnyH_ready (rs := [15]) (by kernel_rfl) (by simp) (AllReadyH.cons (o := bo15) rfl (fun K hK => ?_) AllReadyH.nil)
       (try simp only [bo15])
       go_simp
       obtain ⟨C4, K15_4⟩ := al2 d3 #[.int .i64 mn, .int .i64 mx] 2
       have A4 := tr2 A3 C4
       refine hK.out _ _ ?_ (fun hHeld => ?_)
       ·exact KS.out _ A4.out
       clear hK K
       (try simp only [Act.put, bo15, qa, qb, qc])
       generalize d3.alloc _ = d4 at *
       refine wpAnyH_ready (rs := [16]) (by kernel_rfl) (by simp) (AllReadyH.cons (o := bo16) rfl (fun K hK => ?_) AllReadyH.nil)
       (try simp only [bo16])
       go_simp
       (with_reducible refine (C16.out _ _ K15_4.out).mono ?_)
       rintro _ d5 ⟨v16, rfl, o5, b5⟩
       obtain ⟨va16, vc16, rfl⟩ := owns_slice o5
       have C5 := Lib.hid b5
       have B16_5 := Lib.hid (BytesAt.own o5)
       have A5 := tr2 A4 C5
       clear o5 b5
       refine hK.out _ _ ?_ (fun hHeld => ?_)
       ·exact KS.out _ A5.out
       clear hK K
       (try simp only [Act.put, bo16, qa, qb, qc])
       refine wpAnyH_ready (rs := [19]) (by kernel_rfl) (by simp) (AllReadyH.cons (o := bo19) rfl (fun K hK => ?_) AllReadyH.nil)
       (try simp only [bo19])
       go_simp
       (with_reducible refine (C19.out _).mono ?_)
       rintro _ d6 ⟨v19, rfl, o6, b6⟩
       have C6 := Lib.hid b6
       have B19_6 := Lib.hid o6
       have A6 := tr2 A5 C6
       clear o6 b6
       refine hK.out _ _ ?_ (fun hHeld => ?_)
       ·exact KS.out _ A6.out
       clear hK K
       (try simp only [Act.put, bo19, qa, qb, qc])
       refine wpAnyH_ready (rs := [20]) (by kernel_rfl) (by simp) (AllReadyH.cons (o := bo20) rfl (fun K hK => ?_) AllReadyH.nil)
       have hcv := HCV.out _ _ B19_6.out
       (try simp only [bo20])
       go_simp
       refine hK.out _ _ ?_ (fun hHeld => ?_)
       ·exact KS.out _ A6.out
       clear hK K
       (try simp only [Act.put, bo20, qa, qb, qc])
       refine wpAnyH_ready (rs := [21]) (by kernel_rfl) (by simp) (AllReadyH.cons (o := bo21) rfl (fun K hK => ?_) AllReadyH.nil)
       (try simp only [bo21])
       go_simp
       obtain ⟨C7, K21_7⟩ := al2 d6 #[.string sb] 9
       have A7 := tr2 A6 C7
       refine hK.out _ _ ?_ (fun hHeld => ?_)
       ·exact KS.out _ A7.out
       clear hK K
       (try simp only [Act.put, bo21, qa, qb, qc])
       generalize d6.alloc _ = d7 at *
       refine wpAnyH_ready (rs := [22]) (by kernel_rfl) (by simp) (AllReadyH.cons (o := bo22) rfl (fun K hK => ?_) AllReadyH.nil)
       (try simp only [bo22])
       go_simp
       (with_reducible refine (C22.out _ _ K21_7.out).mono ?_)
       rintro _ d8 ⟨v22, rfl, o8, b8⟩
       obtain ⟨va22, vc22, rfl⟩ := owns_slice o8
       have C8 := Lib.hid b8
       have B22_8 := Lib.hid (BytesAt.own o8)
       have A8 := tr2 A7 C8
       clear o8 b8
       refine hK.out _ _ ?_ (fun hHeld => ?_)
       ·exact KS.out _ A8.out
       clear hK K
       (try simp only [Act.put, bo22, qa, qb, qc])
       refine wpAnyH_ready (rs := [26]) (by kernel_rfl) (by simp) (AllReadyH.cons (o := bo26) rfl (fun K hK => ?_) AllReadyH.nil)
       (try simp only [bo26])
       go_simp
       (with_reducible refine (C26.out _ _ (((((((K25_1.out.next C2.out).next C3.out).next C4.out).next C5.out).next C6.out).next C7.out).next C8.out)).mono ?_)
       rintro _ d9 ⟨v26, rfl, o9, b9⟩
       obtain ⟨va26, vc26, rfl⟩ := owns_slice o9
       have C9 := Lib.hid b9
       have B26_9 := Lib.hid (BytesAt.own o9)
       have A9 := tr2 A8 C9
       clear o9 b9
       refine hK.out _ _ ?_ (fun hHeld => ?_)
       ·exact KS.out _ A9.out
       clear hK K
       (try simp only [Act.put, bo26, qa, qb, qc])
       refine wpAnyH_ready (rs := [28]) (by kernel_rfl) (by simp) (AllReadyH.cons (o := bo28) rfl (fun K hK => ?_) AllReadyH.nil)
       (try simp only [bo28])
       go_simp
       obtain ⟨C10, K28_10⟩ := al2 d9 #[.slice va10 L10.length vc10, .slice va16 L16.length vc16, .slice va22 L22.length vc22, .slice va26 L26.length vc26, .slice sva L5.length svc] 53
       have A10 := tr2 A9 C10
       refine hK.out _ _ ?_ (fun hHeld => ?_)
       ·exact KS.out _ A10.out
       clear hK K
       (try simp only [Act.put, bo28, qa, qb, qc])
       generalize d9.alloc _ = d10 at *
       refine wpAnyH_ready (rs := [29]) (by kernel_rfl) (by simp) (AllReadyH.cons (o := bo29) rfl (fun K hK => ?_) AllReadyH.nil)
       (try simp only [bo29])
       go_simp
       (with_reducible refine (C29.out _ _ (parts5 K28_10.out (((((((B10_3.out.below C4.out).below C5.out).below C6.out).below C7.out).below C8.out).below C9.out).below C10.out) (((((B16_5.out.below C6.out).below C7.out).below C8.out).below C9.out).below C10.out) ((B22_8.out.below C9.out).below C10.out) (B26_9.out.below C10.out) ((((((((((BV0.out.below C1.out).below C2.out).below C3.out).below C4.out).below C5.out).below C6.out).below C7.out).below C8.out).below C9.out).below C10.out))).mono ?_)
       rintro _ d11 ⟨v29, rfl, o11, b11⟩
       have C11 := Lib.hid b11
       have B29_11 := Lib.hid (BytesAt.own o11)
       have A11 := tr2 A10 C11
       clear o11 b11
       refine hK.out _ _ ?_ (fun hHeld => ?_)
       ·exact KS.out _ A11.out
       clear hK K
       (try simp only [Act.put, bo29, qa, qb, qc])
       refine wpAnyH_take (i := 30) (oi := bo30) (v := ?_) rfl (by kernel_rfl) (by kernel_rfl) (by kernel_rfl) (fun _ _ _ h => h) (Or.inl ⟨by rfl, ?_⟩) hHeld ?_
       rotate_left
       ·((intro w hSw; obtain ⟨s0, s1, s2, s3, s4, s5, s6, s7, s8⟩ := CF.out _ hSw.out; (try simp only [bo30]); go_simp); (try with_reducible rfl))
       (try simp only [Act.put, bo30, qa, qb, qc])
       refine wpAnyH_done (by kernel_rfl) ?_ _
       obtain ⟨zk, HY⟩ := HFIN.out _ _ A11.out B29_11.out
       clear hHeld
       refine noPan_normal ?_
       go_wp2
       exact ⟨by simp, .inl ⟨_, _, rfl, run_takeDeferred zk, _, by simp [results, Try.f20, go_sem], HY⟩⟩
      ·(try simp only [bo15])
       go_simp
       obtain ⟨C3, K15_3⟩ := al2 d2 #[.int .i64 mn, .int .i64 mx] 2
       have A3 := tr2 A2 C3
       refine hK.out _ _ ?_ (fun hHeld => ?_)
       ·exact KS.out _ A3.out
       clear hK K
       (try simp only [Act.put, bo15, qa, qb, qc])
       generalize d2.alloc _ = d3 at *
       refine wpAnyH_ready (rs := [10]) (by kernel_rfl) (by simp) (AllReadyH.cons (o := bo10) rfl (fun K hK => ?_) AllReadyH.nil)
       (try simp only [bo10])
       go_simp
       (with_reducible refine (C10.out _ _ (K9_2.out.next C3.out)).mono ?_)
       rintro _ d4 ⟨v10, rfl, o4, b4⟩
       obtain ⟨va10, vc10, rfl⟩ := owns_slice o4
       have C4 := Lib.hid b4
       have B10_4 := Lib.hid (BytesAt.own o4)
       have A4 := tr2 A3 C4
       clear o4 b4
       refine hK.out _ _ ?_ (fun hHeld => ?_)
       ·exact KS.out _ A4.out
       clear hK K
       (try simp only [Act.put, bo10, qa, qb, qc])
       refine wpAnyH_ready (rs := [16]) (by kernel_rfl) (by simp) (AllReadyH.cons (o := bo16) rfl (fun K hK => ?_) AllReadyH.nil)
       (try simp only [bo16])
       go_simp
       (with_reducible refine (C16.out _ _ (K15_3.out.next C4.out)).mono ?_)
       rintro _ d5 ⟨v16, rfl, o5, b5⟩
       obtain ⟨va16, vc16, rfl⟩ := owns_slice o5
       have C5 := Lib.hid b5
       have B16_5 := Lib.hid (BytesAt.own o5)
       have A5 := tr2 A4 C5
       clear o5 b5
       refine hK.out _ _ ?_ (fun hHeld => ?_)
       ·exact KS.out _ A5.out
       clear hK K
       (try simp only [Act.put, bo16, qa, qb, qc])
       refine wpAnyH_ready (rs := [19]) (by kernel_rfl) (by simp) (AllReadyH.cons (o := bo19) rfl (fun K hK => ?_) AllReadyH.nil)
       (try simp only [bo19])
       go_simp
       (with_reducible refine (C19.out _).mono ?_)
       rintro _ d6 ⟨v19, rfl, o6, b6⟩
       have C6 := Lib.hid b6
       have B19_6 := Lib.hid o6
       have A6 := tr2 A5 C6
       clear o6 b6
       refine hK.out _ _ ?_ (fun hHeld => ?_)
       ·exact KS.out _ A6.out
       clear hK K
       (try simp only [Act.put, bo19, qa, qb, qc])
       refine wpAnyH_ready (rs := [20]) (by kernel_rfl) (by simp) (AllReadyH.cons (o := bo20) rfl (fun K hK => ?_) AllReadyH.nil)
       have hcv := HCV.out _ _ B19_6.out
       (try simp only [bo20])
       go_simp
       refine hK.out _ _ ?_ (fun hHeld => ?_)
       ·exact KS.out _ A6.out
       clear hK K
       (try simp only [Act.put, bo20, qa, qb, qc])
       refine wpAnyH_ready (rs := [21]) (by kernel_rfl) (by simp) (AllReadyH.cons (o := bo21) rfl (fun K hK => ?_) AllReadyH.nil)
       (try simp only [bo21])
       go_simp
       obtain ⟨C7, K21_7⟩ := al2 d6 #[.string sb] 9
       have A7 := tr2 A6 C7
       refine hK.out _ _ ?_ (fun hHeld => ?_)
       ·exact KS.out _ A7.out
       clear hK K
       (try simp only [Act.put, bo21, qa, qb, qc])
       generalize d6.alloc _ = d7 at *
       refine wpAnyH_ready (rs := [22]) (by kernel_rfl) (by simp) (AllReadyH.cons (o := bo22) rfl (fun K hK => ?_) AllReadyH.nil)
       (try simp only [bo22])
       go_simp
       (with_reducible refine (C22.out _ _ K21_7.out).mono ?_)
       rintro _ d8 ⟨v22, rfl, o8, b8⟩
       obtain ⟨va22, vc22, rfl⟩ := owns_slice o8
       have C8 := Lib.hid b8
       have B22_8 := Lib.hid (BytesAt.own o8)
       have A8 := tr2 A7 C8
       clear o8 b8
       refine hK.out _ _ ?_ (fun hHeld => ?_)
       ·exact KS.out _ A8.out
       clear hK K
       (try simp only [Act.put, bo22, qa, qb, qc])
       refine wpAnyH_ready (rs := [26]) (by kernel_rfl) (by simp) (AllReadyH.cons (o := bo26) rfl (fun K hK => ?_) AllReadyH.nil)
       (try simp only [bo26])
       go_simp
       (with_reducible refine (C26.out _ _ (((((((K25_1.out.next C2.out).next C3.out).next C4.out).next C5.out).next C6.out).next C7.out).next C8.out)).mono ?_)
       rintro _ d9 ⟨v26, rfl, o9, b9⟩
       obtain ⟨va26, vc26, rfl⟩ := owns_slice o9
       have C9 := Lib.hid b9
       have B26_9 := Lib.hid (BytesAt.own o9)
       have A9 := tr2 A8 C9
       clear o9 b9
       refine hK.out _ _ ?_ (fun hHeld => ?_)
       ·exact KS.out _ A9.out
       clear hK K
       (try simp only [Act.put, bo26, qa, qb, qc])
       refine wpAnyH_ready (rs := [28]) (by kernel_rfl) (by simp) (AllReadyH.cons (o := bo28) rfl (fun K hK => ?_) AllReadyH.nil)
       (try simp only [bo28])
       go_simp
       obtain ⟨C10, K28_10⟩ := al2 d9 #[.slice va10 L10.length vc10, .slice va16 L16.length vc16, .slice va22 L22.length vc22, .slice va26 L26.length vc26, .slice sva L5.length svc] 53
       have A10 := tr2 A9 C10
       refine hK.out _ _ ?_ (fun hHeld => ?_)
       ·exact KS.out _ A10.out
       clear hK K
       (try simp only [Act.put, bo28, qa, qb, qc])
       generalize d9.alloc _ = d10 at *
       refine wpAnyH_ready (rs := [29]) (by kernel_rfl) (by simp) (AllReadyH.cons (o := bo29) rfl (fun K hK => ?_) AllReadyH.nil)
       (try simp only [bo29])
       go_simp
       (with_reducible refine (C29.out _ _ (parts5 K28_10.out ((((((B10_4.out.below C5.out).below C6.out).below C7.out).below C8.out).below C9.out).below C10.out) (((((B16_5.out.below C6.out).below C7.out).below C8.out).below C9.out).below C10.out) ((B22_8.out.below C9.out).below C10.out) (B26_9.out.below C10.out) ((((((((((BV0.out.below C1.out).below C2.out).below C3.out).below C4.out).below C5.out).below C6.out).below C7.out).below C8.out).below C9.out).below C10.out))).mono ?_)
       rintro _ d11 ⟨v29, rfl, o11, b11⟩
       have C11 := Lib.hid b11
       have B29_11 := Lib.hid (BytesAt.own o11)
       have A11 := tr2 A10 C11
       clear o11 b11
       refine hK.out _ _ ?_ (fun hHeld => ?_)
       ·exact KS.out _ A11.out
       clear hK K
       (try simp only [Act.put, bo29, qa, qb, qc])
       refine wpAnyH_take (i := 30) (oi := bo30) (v := ?_) rfl (by kernel_rfl) (by kernel_rfl) (by kernel_rfl) (fun _ _ _ h => h) (Or.inl ⟨by rfl, ?_⟩) hHeld ?_
       rotate_left
       ·((intro w hSw; obtain ⟨s0, s1, s2, s3, s4, s5, s6, s7, s8⟩ := CF.out _ hSw.out; (try simp only [bo30]); go_simp); (try with_reducible rfl))
       (try simp only [Act.put, bo30, qa, qb, qc])
       refine wpAnyH_done (by kernel_rfl) ?_ _
       obtain ⟨zk, HY⟩ := HFIN.out _ _ A11.out B29_11.out
       clear hHeld
       refine noPan_normal ?_
       go_wp2
       exact ⟨by simp, .inl ⟨_, _, rfl, run_takeDeferred zk, _, by simp [results, Try.f20, go_sem], HY⟩⟩
     ·(try simp only [bo15])
      go_simp
      obtain ⟨C2, K15_2⟩ := al2 d1 #[.int .i64 mn, .int .i64 mx] 2
      have A2 := tr2 A1 C2
      refine hK.out _ _ ?_ (fun hHeld => ?_)
      ·exact KS.out _ A2.out
      clear hK K
      (try simp only [Act.put, bo15, qa, qb, qc])
      generalize d1.alloc _ = d2 at *
      refine wpAnyH_ready (rs := [9]) (by kernel_rfl) (by simp) (AllReadyH.cons (o := bo9) rfl (fun K hK => ?_) AllReadyH.nil)
      (try simp only [bo9])
      go_simp
      obtain ⟨C3, K9_3⟩ := al2 d2 #[.int .u64 n, .int .u64 ce, .int .u64 po] 23
      have A3 := tr2 A2 C3
      refine hK.out _ _ ?_ (fun hHeld => ?_)
      ·exact KS.out _ A3.out
      clear hK K
      (try simp only [Act.put, bo9, qa, qb, qc])
      generalize d2.alloc _ = d3 at *
      refine wpAnyH_ready (rs := [10]) (by kernel_rfl) (by simp) (AllReadyH.cons (o := bo10) rfl (fun K hK => ?_) AllReadyH.nil)
      (try simp only [bo10])
      go_simp
      (with_reducible refine (C10.out _ _ K9_3.out).mono ?_)
      rintro _ d4 ⟨v10, rfl, o4, b4⟩
      obtain ⟨va10, vc10, rfl⟩ := owns_slice o4
      have C4 := Lib.hid b4
      have B10_4 := Lib.hid (BytesAt.own o4)
      have A4 := tr2 A3 C4
      clear o4 b4
      refine hK.out _ _ ?_ (fun hHeld => ?_)
      ·exact KS.out _ A4.out
      clear hK K
      (try simp only [Act.put, bo10, qa, qb, qc])
      refine wpAnyH_ready (rs := [16]) (by kernel_rfl) (by simp) (AllReadyH.cons (o := bo16) rfl (fun K hK => ?_) AllReadyH.nil)
      (try simp only [bo16])
      go_simp
      (with_reducible refine (C16.out _ _ ((K15_2.out.next C3.out).next C4.out)).mono ?_)
      rintro _ d5 ⟨v16, rfl, o5, b5⟩
      obtain ⟨va16, vc16, rfl⟩ := owns_slice o5
      have C5 := Lib.hid b5
      have B16_5 := Lib.hid (BytesAt.own o5)
      have A5 := tr2 A4 C5
      clear o5 b5
      refine hK.out _ _ ?_ (fun hHeld => ?_)
      ·exact KS.out _ A5.out
      clear hK K
      (try simp only [Act.put, bo16, qa, qb, qc])
      refine wpAnyH_ready (rs := [19]) (by kernel_rfl) (by simp) (AllReadyH.cons (o := bo19) rfl (fun K hK => ?_) AllReadyH.nil)
      (try simp only [bo19])
      go_simp
      (with_reducible refine (C19.out _).mono ?_)
      rintro _ d6 ⟨v19, rfl, o6, b6⟩
      have C6 := Lib.hid b6
      have B19_6 := Lib.hid o6
      have A6 := tr2 A5 C6
      clear o6 b6
      refine hK.out _ _ ?_ (fun hHeld => ?_)
      ·exact KS.out _ A6.out
      clear hK K
      (try simp only [Act.put, bo19, qa, qb, qc])
      refine wpAnyH_ready (rs := [20]) (by kernel_rfl) (by simp) (AllReadyH.cons (o := bo20) rfl (fun K hK => ?_) AllReadyH.nil)
      have hcv := HCV.out _ _ B19_6.out
      (try simp only [bo20])
      go_simp
      refine hK.out _ _ ?_ (fun hHeld => ?_)
      ·exact KS.out _ A6.out
      clear hK K
      (try simp only [Act.put, bo20, qa, qb, qc])
      refine wpAnyH_ready (rs := [21]) (by kernel_rfl) (by simp) (AllReadyH.cons (o := bo21) rfl (fun K hK => ?_) AllReadyH.nil)
      (try simp only [bo21])
      go_simp
      obtain ⟨C7, K21_7⟩ := al2 d6 #[.string sb] 9
      have A7 := tr2 A6 C7
      refine hK.out _ _ ?_ (fun hHeld => ?_)
      ·exact KS.out _ A7.out
      clear hK K
      (try simp only [Act.put, bo21, qa, qb, qc])
      generalize d6.alloc _ = d7 at *
      refine wpAnyH_ready (rs := [22]) (by kernel_rfl) (by simp) (AllReadyH.cons (o := bo22) rfl (fun K hK => ?_) AllReadyH.nil)
      (try simp only [bo22])
      go_simp
      (with_reducible refine (C22.out _ _ K21_7.out).mono ?_)
      rintro _ d8 ⟨v22, rfl, o8, b8⟩
      obtain ⟨va22, vc22, rfl⟩ := owns_slice o8
      have C8 := Lib.hid b8
      have B22_8 := Lib.hid (BytesAt.own o8)
      have A8 := tr2 A7 C8
      clear o8 b8
      refine hK.out _ _ ?_ (fun hHeld => ?_)
      ·exact KS.out _ A8.out
      clear hK K
      (try simp only [Act.put, bo22, qa, qb, qc])
      refine wpAnyH_ready (rs := [26]) (by kernel_rfl) (by simp) (AllReadyH.cons (o := bo26) rfl (fun K hK => ?_) AllReadyH.nil)
      (try simp only [bo26])
      go_simp
      (with_reducible refine (C26.out _ _ (((((((K25_1.out.next C2.out).next C3.out).next C4.out).next C5.out).next C6.out).next C7.out).next C8.out)).mono ?_)
      rintro _ d9 ⟨v26, rfl, o9, b9⟩
      obtain ⟨va26, vc26, rfl⟩ := owns_slice o9
      have C9 := Lib.hid b9
      have B26_9 := Lib.hid (BytesAt.own o9)
      have A9 := tr2 A8 C9
      clear o9 b9
      refine hK.out _ _ ?_ (fun hHeld => ?_)
      ·exact KS.out _ A9.out
      clear hK K
      (try simp only [Act.put, bo26, qa, qb, qc])
      refine wpAnyH_ready (rs := [28]) (by kernel_rfl) (by simp) (AllReadyH.cons (o := bo28) rfl (fun K hK => ?_) AllReadyH.nil)
      (try simp only [bo28])
      go_simp
      obtain ⟨C10, K28_10⟩ := al2 d9 #[.slice va10 L10.length vc10, .slice va16 L16.length vc16, .slice va22 L22.length vc22, .slice va26 L26.length vc26, .slice sva L5.length svc] 53
      have A10 := tr2 A9 C10
      refine hK.out _ _ ?_ (fun hHeld => ?_)
      ·exact KS.out _ A10.out
      clear hK K
      (try simp only [Act.put, bo28, qa, qb, qc])
      generalize d9.alloc _ = d10 at *
      refine wpAnyH_ready (rs := [29]) (by kernel_rfl) (by simp) (AllReadyH.cons (o := bo29) rfl (fun K hK => ?_) AllReadyH.nil)
      (try simp only [bo29])
      go_simp
      (with_reducible refine (C29.out _ _ (parts5 K28_10.out ((((((B10_4.out.below C5.out).below C6.out).below C7.out).below C8.out).below C9.out).below C10.out) (((((B16_5.out.below C6.out).below C7.out).below C8.out).below C9.out).below C10.out) ((B22_8.out.below C9.out).below C10.out) (B26_9.out.below C10.out) ((((((((((BV0.out.below C1.out).below C2.out).below C3.out).below C4.out).below C5.out).below C6.out).below C7.out).below C8.out).below C9.out).below C10.out))).mono ?_)
      rintro _ d11 ⟨v29, rfl, o11, b11⟩
      have C11 := Lib.hid b11
      have B29_11 := Lib.hid (BytesAt.own o11)
      have A11 := tr2 A10 C11
      clear o11 b11
      refine hK.out _ _ ?_ (fun hHeld => ?_)
      ·exact KS.out _ A11.out
      clear hK K
      (try simp only [Act.put, bo29, qa, qb, qc])
      refine wpAnyH_take (i := 30) (oi := bo30) (v := ?_) rfl (by kernel_rfl) (by kernel_rfl) (by kernel_rfl) (fun _ _ _ h => h) (Or.inl ⟨by rfl, ?_⟩) hHeld ?_
      rotate_left
      ·((intro w hSw; obtain ⟨s0, s1, s2, s3, s4, s5, s6, s7, s8⟩ := CF.out _ hSw.out; (try simp only [bo30]); go_simp); (try with_reducible rfl))
      (try simp only [Act.put, bo30, qa, qb, qc])
      refine wpAnyH_done (by kernel_rfl) ?_ _
      obtain ⟨zk, HY⟩ := HFIN.out _ _ A11.out B29_11.out
      clear hHeld
      refine noPan_normal ?_
      go_wp2
      exact ⟨by simp, .inl ⟨_, _, rfl, run_takeDeferred zk, _, by simp [results, Try.f20, go_sem], HY⟩⟩
end Go.Proofs.Ytpmoidpncpfnlaa
