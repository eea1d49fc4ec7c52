/- SweepTurns, walked: of gen_turn17.py. -/
import Derived.Test.YtllkdohomkofhaaMostW
import Derived.Test.YtllkdohomkofhaaTurnM
namespace Go.Proofs.Ytllkdohomkofhaa
open Go.RowKit
set_option linter.unusedVariables false
set_option linter.unusedSimpArgs false

theorem PairRow.take {w : World} {a : Option Addr} {l : List (Int × Int)} (h : PairRow w a l) (n : Nat) : PairRow w a (l.take n) := fun j hj => by
  rw [List.length_take] at hj
  obtain ⟨b, off, e, h1, h2⟩ := h j (by omega)
  have g : (l.take n).getD j (0, 0) = l.getD j (0, 0) := by
    simp only [List.getD_eq_getElem?_getD, List.getElem?_take]
    rw [if_pos (by omega)]
  rw [g]
  exact ⟨b, off, e, h1, h2⟩
theorem PairRow.drop {w : World} {b off : Nat} {l : List (Int × Int)} (h : PairRow w (some ⟨b, off, none⟩) l) (n : Nat) : PairRow w (some ⟨b, off + n * 2, none⟩) (l.drop n) := fun j hj => by
  rw [List.length_drop] at hj
  obtain ⟨b', off', e, h1, h2⟩ := h (n + j) (by omega)
  cases e
  have g : (l.drop n).getD j (0, 0) = l.getD (n + j) (0, 0) := by
    simp only [List.getD_eq_getElem?_getD, List.getElem?_drop]
  rw [g]
  exact ⟨b, off + n * 2, rfl, by rw [show off + n * 2 + j * 2 = off + (n + j) * 2 by omega]; exact h1, by rw [show off + n * 2 + j * 2 + 1 = off + (n + j) * 2 + 1 by omega]; exact h2⟩
theorem wpList_appendOne {P : Program} {ops : Array Oper} {rest : List Oper} {o : Oper} {a : Act} {w : World} {Q : Exit → Act → World → Prop} (hgd : o.guard = none) (s x : Operand) (t : TypeId)
    (ho : o.op = .call { callee := .builtin .append, args := #[s, x], argTypes := #[t, t] })
    (base : Nat) (e : TypeId) (i : TypeInfo) (z : Value) (bytes : Nat) (ht : P.underlying t = some (.slice e)) (hi : P.info? e = some i) (hz : i.zero = some z)
    (hsize : i.size = 2) (hby : i.bytes = bytes) (hzs : z.cells.size = 2)
    (v : Value) (n : Nat) (xs : List Value) (hs : a.eval s = v) (hown : w.ownsRow base e 2 v n xs)
    (g : Nat) (p q : Int) (T : TypeId) (hx : a.eval x = .slice (some ⟨g, 0, none⟩) 1 1) (hk : Kept w g #[.int .i64 p, .int .i64 q] T)
    (h63 : n + 1 ≤ maxLen) (hbytes : (n + 1) * bytes ≤ 140737488355328) (hb : base ≤ w.heap.size)
    (h : ∀ v' w', w'.ownsRow base e 2 v' (n + 1) (xs ++ cells2 [(p, q)]) → w.grownBy w' v.ownBlock → wpList P ops Q rest (a.put o.dst v') w') : wpList P ops Q (o :: rest) a w := by
  refine wpList_plain hgd fun K hK => ?_
  refine wp_append_own w s x t ho base e i z 2 bytes ht hi hz hsize hby hzs (by decide) v n xs hs hown ⟨g, 0, none⟩ 1 1 (cells2 [(p, q)]) hx rfl ?_ ?_ h63 hbytes hb ?_
  · intro j u hj
    have e2 : (⟨g, 0, none⟩ : Addr).add j = ⟨g, j, none⟩ := by
      unfold Addr.add
      split
      · subst_vars; rfl
      · simp
    rw [e2]
    have h1 := hk.at_ j
    have h2 : (#[Value.int .i64 p, .int .i64 q] : Array Value)[j]? = some u := by
      rw [← hj, ← Array.getElem?_toList]
      rfl
    rw [h2] at h1
    exact h1.1
  · intro u hu
    simp [cells2] at hu
    rcases hu with rfl | rfl <;> rfl
  · intro v' w' hown' hgrow _
    exact hK _ _ (h v' w' hown' hgrow)
theorem kept_grown {W W' : World} {row : Option Nat} {g : Nat} {cs : Array Value} {t : TypeId} (h : Kept W g cs t) (hg : W.grownBy W' row) (hr : some g ≠ row) : Kept W' g cs t := (hg.block g h.lt hr).trans h
theorem g_neq_self (a b : Int) (w : World) : (binOp .neq 25 (.agg #[.int .i64 a, .int .i64 b]) (.agg #[.int .i64 a, .int .i64 b])).run Try.prog w = .ok (.bool false) w := by
  simp [go_sem]
theorem turns_out (xa : Option Addr) (n c : Nat) (t f : Int) (w : World) (h : (100 : Int) < (n : Int) ∨ (¬ (100 : Int) < (n : Int) ∧ t < 0) ∨ (¬ (100 : Int) < (n : Int) ∧ ¬ t < 0 ∧ (n : Int) < t)) :
    Calls Try.prog 6 #[.slice xa n c, .int .i64 t, .int .i64 f] w fun e w' => e = .returned (.bool true) ∧ Below w.heap.size w w' := by
  rcases h with h | ⟨h1, h2⟩ | ⟨h1, h2, h3⟩
  all_goals
    go_enter Try.func6, Try.ntmps6
    go_wp2_with fail
    refine (alive_any _).mono ?_
    rintro _ w1 ⟨rfl, b1⟩
    have B1 := Lib.hid b1
    clear b1
    go_wp2
    go_ret
    exact ⟨rfl, B1.out⟩
def TS (w W : World) (xa : Option Addr) (L : List (Int × Int)) (B0 : Nat) (v : Value) (M : List (Int × Int)) : Prop :=
  Hid (PairRow W xa L) ∧ Hid (W.ownsRow B0 25 2 v M.length (cells2 M)) ∧ Hid (Below w.heap.size w W) ∧ w.heap.size ≤ B0 ∧ B0 ≤ W.heap.size
theorem TS.step {w W W' : World} {xa : Option Addr} {L M : List (Int × Int)} {B0 : Nat} {v : Value} (h : TS w W xa L B0 v M) (b : Below W.heap.size W W') : TS w W' xa L B0 v M :=
  ⟨Lib.hid (h.1.out.below b), Lib.hid (owns_below h.2.1.out b), Lib.hid (h.2.2.1.out.trans (b.mono h.2.2.1.out.size)), h.2.2.2.1, Nat.le_trans h.2.2.2.2 b.size⟩
theorem TS.alloc {w W : World} {xa : Option Addr} {L M : List (Int × Int)} {B0 : Nat} {v : Value} (h : TS w W xa L B0 v M) (o : Obj) : TS w (W.alloc o) xa L B0 v M := h.step (one_alloc W o)
theorem TS.row {w W : World} {xa a : Option Addr} {L M : List (Int × Int)} {B0 n cap : Nat} (h : TS w W xa L B0 (.slice a n cap) M) : PairRow W a M := by
  obtain ⟨a', cap', e, -, -, -, -, hp⟩ := PairRow.own h.2.1.out
  cases e
  exact hp
def TK (W : World) (v : Value) (g : Nat) (p q : Int) : Prop := Kept W g #[.int .i64 p, .int .i64 q] 25 ∧ some g ≠ v.ownBlock
theorem TK.next {W W' : World} {v : Value} {g : Nat} {p q : Int} (h : TK W v g p q) (b : Below W.heap.size W W') : TK W' v g p q := ⟨h.1.next b, h.2⟩
theorem TK.alloc {W : World} {v : Value} {g : Nat} {p q : Int} (h : TK W v g p q) (o : Obj) : TK (W.alloc o) v g p q := h.next (one_alloc W o)
theorem TK.new {w W : World} {xa : Option Addr} {L M : List (Int × Int)} {B0 : Nat} {v : Value} (h : TS w W xa L B0 v M) (p q : Int) : TK (W.alloc (.cells #[.int .i64 p, .int .i64 q] 25)) v W.heap.size p q :=
  ⟨Kept.new rfl, fun e => by have := (h.2.1.out.lt _ e.symm).2; omega⟩
theorem best_le {L : List (Int × Int)} {b : Int × Int} {n : Int} (h : BestP L b n) : 0 ≤ n ∧ n ≤ L.length := by
  rcases h with ⟨rfl, _, _⟩ | ⟨h0, h1, _⟩
  · omega
  · have : votes L b.1 ≤ L.length := List.countP_le_length
    omega
set_option maxHeartbeats 4000000 in
theorem turns_any (xa xb : Option Addr) (c T : Nat) (L : List (Int × Int)) (f : Int) (w : World) (hx : PairRow w xa L) (hxb : PairRow w xb (L.drop T)) (hxan : xa = none → c = 0) (hxbn : xb = none → c - T = 0) (hin : ∀ p ∈ L, InP p) (hL : L.length ≤ 100) (hT : T ≤ L.length) (hfi : InI f)
    (hs1 : ∀ W, (Instr.slice 22 (.slice xa L.length c) none (some (.int .i64 (T : Int))) none).run Try.prog W = .ok (.slice xa (L.take T).length c) W)
    (hs2 : ∀ W, (Instr.slice 22 (.slice xa L.length c) (some (.int .i64 (T : Int))) none none).run Try.prog W = .ok (.slice xb (L.drop T).length (c - T)) W) :
    Calls Try.prog 6 #[.slice xa L.length c, .int .i64 (T : Int), .int .i64 f] w fun e w' => e = .returned (.bool true) ∧ Below w.heap.size w w' := by
  obtain ⟨i0, hi, hz0, hz1, hz2⟩ := info_parts2 info_gap
  obtain ⟨M, hM⟩ : ∃ M, L.drop T ++ L.take T = M := ⟨_, rfl⟩
  have hperm : M.Perm L := by
    rw [← hM]
    exact (List.perm_append_comm).trans (by rw [List.take_append_drop])
  have HPM := Lib.hid hperm
  have hinM : ∀ p ∈ M, InP p := fun p hp => hin p (hperm.mem_iff.1 hp)
  have hinF : ∀ p ∈ M ++ [fullP], InP p := fun p hp => by
    rcases List.mem_append.1 hp with h | h
    · exact hinM p h
    · simp at h; subst h; exact ⟨by unfold InI fullP; decide, by unfold InI fullP; decide⟩
  have hml : M.length = L.length := hperm.length_eq
  have HX := Lib.hid hx
  have HXB := Lib.hid hxb
  have HXAN := Lib.hid hxan
  have HXBN := Lib.hid hxbn
  have HLL := Lib.hid hL
  have HML := Lib.hid hml
  have HINM := Lib.hid hinM
  have hll : (L.drop T).length + (L.take T).length ≤ 100 := by rw [List.length_drop, List.length_take]; omega
  have hb1 : 0 + (L.drop T).length ≤ maxLen := by unfold maxLen; omega
  have hb2 : (0 + (L.drop T).length) * 16 ≤ 140737488355328 := by omega
  have hb3 : 0 + (L.drop T).length + (L.take T).length ≤ maxLen := by unfold maxLen; omega
  have hb4 : (0 + (L.drop T).length + (L.take T).length) * 16 ≤ 140737488355328 := by omega
  have HCAT : Hid (cells2 (L.drop T) ++ cells2 (L.take T) = cells2 M ∧ 0 + (L.drop T).length + (L.take T).length = M.length) := Lib.hid ⟨by rw [← cells2_append, hM], by rw [← hM, List.length_append]; omega⟩
  have CB : Hid (∀ W, PairRow W xa L → Calls Try.prog 8 #[.slice xa L.length c] W (BestOut L W)) := Lib.hid fun W h => best_any xa c L W h hin (by omega)
  have CBM : Hid (∀ W a c, PairRow W a M → Calls Try.prog 8 #[.slice a M.length c] W (BestOut M W)) := Lib.hid fun W a c h => best_any a c M W h hinM (by omega)
  have CBF : Hid (∀ W a c, PairRow W a (M ++ [fullP]) → Calls Try.prog 8 #[.slice a (M.length + 1) c] W (BestOut (M ++ [fullP]) W)) := Lib.hid fun W a c h => by
    have := best_any a c (M ++ [fullP]) W h hinF (by rw [List.length_append]; simp; omega)
    rwa [List.length_append] at this
  have CW : Hid (∀ W, PairRow W xa L → Calls Try.prog 11 #[.int .i64 f, .slice xa L.length c] W (WithOut L f W)) := Lib.hid fun W h => without_any xa c L f W hfi h hin (by omega)
  have CWM : Hid (∀ W a c, PairRow W a M → Calls Try.prog 11 #[.int .i64 f, .slice a M.length c] W (WithOut M f W)) := Lib.hid fun W a c h => without_any a c M f W hfi h hinM (by omega)
  have CG : Hid (∀ W, PairRow W xa L → Calls Try.prog 15 #[.slice xa L.length c] W (Gives (.bool (agreeB L)) W)) := Lib.hid fun W h => agree_any xa c L W h (by omega)
  have CGM : Hid (∀ W a c, PairRow W a M → Calls Try.prog 15 #[.slice a M.length c] W (Gives (.bool (agreeB L)) W)) := Lib.hid fun W a c h => by
    have := agree_any a c M W h (by omega)
    rwa [agree_same hperm hin] at this
  have q1 : ¬ (100 : Int) < (L.length : Int) := by omega
  have q2 : ¬ (T : Int) < 0 := by omega
  have q3 : ¬ (L.length : Int) < (T : Int) := by omega
  generalize agreeB L = ag at *
  obtain ⟨A, hA⟩ : ∃ A, L.take T = A := ⟨_, rfl⟩
  obtain ⟨B, hB⟩ : ∃ B, L.drop T = B := ⟨_, rfl⟩
  have HA := Lib.hid hA
  rw [hA] at hs1 hll hb3 hb4 HCAT
  rw [hB] at hs2 hll hb1 hb2 hb3 hb4 HCAT HXB
  clear hx hxb hxan hxbn hin hL hT hfi hperm hinM hinF hml hll hM hA hB
  go_enter Try.func6, Try.ntmps6
  go_wp2_with fail
  refine (alive_any _).mono ?_
  rintro _ w1 ⟨rfl, b1⟩
  have B1 := Lib.hid b1
  have R1 := Lib.hid (HX.out.below b1)
  have Q1 := Lib.hid (HXB.out.below b1)
  clear b1
  go_upto_region 5 with fail
  have B2 : Hid (Below w.heap.size w w1.drew) := Lib.hid B1.out.drew
  have R2 : Hid (PairRow w1.drew xa L) := Lib.hid R1.out
  have Q2 : Hid (PairRow w1.drew xb B) := Lib.hid Q1.out
  refine wp_region_held_drew (S := fun w' => True) (by kernel_rfl) trivial (fun hHeld => ?_)
  clear B1 R1 Q1
  generalize w1.drew = v2 at *
  refine wpAnyH_take (i := 1) (oi := ({ dst := some 34, op := Op.move (Operand.tmp 0), type := 22, pos := "law.go:112", after := #[], guard := none } : Oper)) (v := ?_) rfl (by kernel_rfl) (by kernel_rfl) (by kernel_rfl) (fun _ _ _ h => h) (Or.inl ⟨by rfl, ?_⟩) hHeld ?_
  rotate_left
  · ((intro w hSw; (try dsimp only at hSw); go_simp); (try with_reducible rfl))
  (try simp only [Act.put, List.setIfInBounds_toArray, List.set_cons_zero, List.set_cons_succ])
  refine wpAnyH_take (i := 2) (oi := ({ dst := some 35, op := Op.move (Operand.tmp 1), type := 3, pos := "law.go:112", after := #[], guard := none } : Oper)) (v := ?_) rfl (by kernel_rfl) (by kernel_rfl) (by kernel_rfl) (fun _ _ _ h => h) (Or.inl ⟨by rfl, ?_⟩) hHeld ?_
  rotate_left
  · ((intro w hSw; (try dsimp only at hSw); go_simp); (try with_reducible rfl))
  (try simp only [Act.put, List.setIfInBounds_toArray, List.set_cons_zero, List.set_cons_succ])
  refine wpAnyH_take (i := 3) (oi := ({ dst := some 36, op := Op.slice 22 (Operand.tmp 34) (some (Operand.tmp 35)) none none, type := 22, pos := "law.go:112", after := #[{ on := 1, ground := Ground.data }, { on := 2, ground := Ground.data }], guard := none } : Oper)) (v := ?_) rfl (by kernel_rfl) (by kernel_rfl) (by kernel_rfl) (fun _ _ _ h => h) (Or.inl ⟨by rfl, ?_⟩) hHeld ?_
  rotate_left
  · ((intro w hSw; (try dsimp only at hSw); go_simp); (try with_reducible rfl))
  (try simp only [Act.put, List.setIfInBounds_toArray, List.set_cons_zero, List.set_cons_succ])
  refine wpAnyH_take (i := 5) (oi := ({ dst := some 38, op := Op.move (Operand.tmp 0), type := 22, pos := "law.go:112", after := #[], guard := none } : Oper)) (v := ?_) rfl (by kernel_rfl) (by kernel_rfl) (by kernel_rfl) (fun _ _ _ h => h) (Or.inl ⟨by rfl, ?_⟩) hHeld ?_
  rotate_left
  · ((intro w hSw; (try dsimp only at hSw); go_simp); (try with_reducible rfl))
  (try simp only [Act.put, List.setIfInBounds_toArray, List.set_cons_zero, List.set_cons_succ])
  refine wpAnyH_take (i := 6) (oi := ({ dst := some 39, op := Op.move (Operand.tmp 1), type := 3, pos := "law.go:112", after := #[], guard := none } : Oper)) (v := ?_) rfl (by kernel_rfl) (by kernel_rfl) (by kernel_rfl) (fun _ _ _ h => h) (Or.inl ⟨by rfl, ?_⟩) hHeld ?_
  rotate_left
  · ((intro w hSw; (try dsimp only at hSw); go_simp); (try with_reducible rfl))
  (try simp only [Act.put, List.setIfInBounds_toArray, List.set_cons_zero, List.set_cons_succ])
  refine wpAnyH_take (i := 7) (oi := ({ dst := some 40, op := Op.slice 22 (Operand.tmp 38) none (some (Operand.tmp 39)) none, type := 22, pos := "law.go:112", after := #[{ on := 5, ground := Ground.data }, { on := 6, ground := Ground.data }], guard := none } : Oper)) (v := ?_) rfl (by kernel_rfl) (by kernel_rfl) (by kernel_rfl) (fun _ _ _ h => h) (Or.inl ⟨by rfl, ?_⟩) hHeld ?_
  rotate_left
  · ((intro w hSw; (try dsimp only at hSw); go_simp); (try with_reducible rfl))
  (try simp only [Act.put, List.setIfInBounds_toArray, List.set_cons_zero, List.set_cons_succ])
  refine wpAnyH_ready (rs := [0]) (by kernel_rfl) (by simp) ?_
  refine AllReadyH.cons (o := ({ dst := some 33, op := Op.buildSlice 22 0 #[], type := 22, pos := "law.go:112", after := #[], guard := none } : Oper)) rfl (fun K hK => ?_) (AllReadyH.nil)
  go_simp
  have O3 : Hid ((v2.alloc (.cells #[] 25)).ownsRow v2.heap.size 25 2 (.slice (some ⟨v2.heap.size, 0, none⟩) 0 0) 0 []) := Lib.hid (World.ownsRow_made _ #[] 0 (Nat.le_refl _) (by unfold maxLen; omega) rfl)
  have E3 : Hid (Below v2.heap.size v2 (v2.alloc (.cells #[] 25))) := Lib.hid (one_alloc _ _)
  refine hK.out _ _ ?_ (fun hHeld => ?_)
  · trivial
  clear hK K
  (try simp only [Act.put, List.setIfInBounds_toArray, List.set_cons_zero, List.set_cons_succ])
  refine wpAnyH_ready (rs := [4]) (by kernel_rfl) (by simp) ?_
  refine AllReadyH.cons (o := ({ dst := some 37, op := Op.call { callee := Callee.builtin Builtin.append, args := #[Operand.tmp 33, Operand.tmp 36], argTypes := #[22, 22] }, type := 22, pos := "law.go:112", after := #[{ on := 0, ground := Ground.data }, { on := 3, ground := Ground.data }], guard := none } : Oper)) rfl (fun K hK => ?_) (AllReadyH.nil)
  rw [if_pos (by rfl)]
  refine wp_appendPairs _ _ 22 rfl v2 25 i0 (.agg #[.int .i64 0, .int .i64 0]) 16 Try.underlying22 hi hz0 hz1 hz2 rfl _ _ _ rfl O3.out xb (c - T) B rfl HXBN.out (Q2.out.below E3.out) hb1 hb2 E3.out ?_
  intro v4 w4 o4 b4
  have O4 := Lib.hid o4
  have E4 := Lib.hid b4
  clear o4 b4 O3 E3
  refine hK.out _ _ ?_ (fun hHeld => ?_)
  · trivial
  clear hK K
  (try simp only [Act.put, List.setIfInBounds_toArray, List.set_cons_zero, List.set_cons_succ])
  refine wpAnyH_ready (rs := [8]) (by kernel_rfl) (by simp) ?_
  refine AllReadyH.cons (o := ({ dst := some 41, op := Op.call { callee := Callee.builtin Builtin.append, args := #[Operand.tmp 37, Operand.tmp 40], argTypes := #[22, 22] }, type := 22, pos := "law.go:112", after := #[{ on := 4, ground := Ground.data }, { on := 7, ground := Ground.data }, { on := 4, ground := Ground.chain }], guard := none } : Oper)) rfl (fun K hK => ?_) (AllReadyH.nil)
  rw [if_pos (by rfl)]
  refine wp_appendPairs _ _ 22 rfl v2 25 i0 (.agg #[.int .i64 0, .int .i64 0]) 16 Try.underlying22 hi hz0 hz1 hz2 rfl _ _ _ rfl O4.out xa c A rfl HXAN.out (HA.out ▸ (R2.out.below E4.out).take T) hb3 hb4 E4.out ?_
  intro v5 w5 o5 b5
  have O5 := Lib.hid o5
  have E5 := Lib.hid b5
  clear o5 b5 O4 E4
  refine hK.out _ _ ?_ (fun hHeld => ?_)
  · trivial
  clear hK K
  (try simp only [Act.put, List.setIfInBounds_toArray, List.set_cons_zero, List.set_cons_succ])
  refine wpAnyH_take (i := 9) (oi := ({ dst := some 7, op := Op.assign (Operand.tmp 41), type := 22, pos := "law.go:112", after := #[{ on := 8, ground := Ground.data }, { on := 8, ground := Ground.chain }, { on := 0, ground := Ground.phase }, { on := 1, ground := Ground.phase }, { on := 2, ground := Ground.phase }, { on := 3, ground := Ground.phase }, { on := 4, ground := Ground.phase }, { on := 5, ground := Ground.phase }, { on := 6, ground := Ground.phase }, { on := 7, ground := Ground.phase }, { on := 8, ground := Ground.phase }], guard := none } : Oper)) (v := ?_) rfl (by kernel_rfl) (by kernel_rfl) (by kernel_rfl) (fun _ _ _ h => h) (Or.inl ⟨by rfl, ?_⟩) hHeld ?_
  rotate_left
  · ((intro w hSw; (try dsimp only at hSw); go_simp); (try with_reducible rfl))
  (try simp only [Act.put, List.setIfInBounds_toArray, List.set_cons_zero, List.set_cons_succ])
  refine wpAnyH_done (by kernel_rfl) ?_ _
  clear hHeld hs1 hs2 hb1 hb2 hb3 hb4 Q2
  have o6 := O5.out
  simp only [List.nil_append, List.append_assoc] at o6
  rw [HCAT.out.1, HCAT.out.2] at o6
  obtain ⟨a, cap, rfl, -, -, -, -, -⟩ := PairRow.own o6
  have S6 : Hid (TS w w5 xa L v2.heap.size (.slice a M.length cap) M) := Lib.hid ⟨Lib.hid (R2.out.below E5.out), Lib.hid o6, Lib.hid (B2.out.trans (E5.out.mono B2.out.size)), B2.out.size, E5.out.size⟩
  clear O5 E5 R2 B2 HCAT HA o6 HX HXB HXAN HXBN
  generalize v2.heap.size = B0 at *
  generalize hvo : Value.slice a M.length cap = vo at S6
  have CBM' : Hid (∀ W, PairRow W a M → Calls Try.prog 8 #[vo] W (BestOut M W)) := Lib.hid fun W h => by rw [← hvo]; exact CBM.out W a cap h
  have CWM' : Hid (∀ W, PairRow W a M → Calls Try.prog 11 #[.int .i64 f, vo] W (WithOut M f W)) := Lib.hid fun W h => by rw [← hvo]; exact CWM.out W a cap h
  have CGM' : Hid (∀ W, PairRow W a M → Calls Try.prog 15 #[vo] W (Gives (.bool ag) W)) := Lib.hid fun W h => by rw [← hvo]; exact CGM.out W a cap h
  have HROW : Hid (∀ W, TS w W xa L B0 vo M → PairRow W a M) := Lib.hid fun W h => by rw [← hvo] at h; exact h.row
  clear CBM CWM CGM
  clear hvo
  go_wp2_with fail
  refine (CB.out _ S6.out.1.out).mono ?_
  rintro _ w6 ⟨⟨lo, up⟩, n, rfl, HP, b6⟩
  have S7x := Lib.hid (S6.out.step b6)
  have S7 := Lib.hid (S7x.out.alloc (.cells #[.int .i64 lo, .int .i64 up] 25))
  have K7 := Lib.hid (TK.new S7x.out lo up)
  clear b6 S6 S7x CB
  dsimp only
  go_upto_region 7 with fail
  generalize w6.alloc (.cells #[.int .i64 lo, .int .i64 up] 25) = W7 at *
  generalize w6.heap.size = g7 at *
  go_wp2_with fail
  refine (CBM'.out _ (HROW.out _ S7.out)).mono ?_
  rintro _ w7 ⟨⟨lo', up'⟩, n', rfl, HQ, b7⟩
  obtain ⟨e1, e2⟩ := best_uniq (best_perm HPM.out HQ.out) HP.out
  cases e1
  have e3 := e2.symm
  clear e2
  subst e3
  have S8x := Lib.hid (S7.out.step b7)
  have S8 := Lib.hid (S8x.out.alloc (.cells #[.int .i64 lo, .int .i64 up] 25))
  have K8 := Lib.hid ((K7.out.next b7).alloc (.cells #[.int .i64 lo, .int .i64 up] 25))
  have J8 := Lib.hid (TK.new S8x.out lo up)
  clear b7 S7 S8x K7 CBM'
  dsimp only
  go_upto_region 8 with fail
  generalize w7.alloc (.cells #[.int .i64 lo, .int .i64 up] 25) = W8 at *
  generalize w7.heap.size = g8 at *
  go_wp2_with fail
  refine (CW.out _ S8.out.1.out).mono ?_
  rintro _ w8 ⟨⟨⟨x1, x2⟩, xk⟩, rfl, HW, b8⟩
  have S9x := Lib.hid (S8.out.step b8)
  have S9 := Lib.hid (S9x.out.alloc (.cells #[.int .i64 x1, .int .i64 x2] 25))
  have K9 := Lib.hid ((K8.out.next b8).alloc (.cells #[.int .i64 x1, .int .i64 x2] 25))
  have J9 := Lib.hid ((J8.out.next b8).alloc (.cells #[.int .i64 x1, .int .i64 x2] 25))
  have M9 := Lib.hid (TK.new S9x.out x1 x2)
  clear b8 S8 S9x K8 J8 CW
  dsimp only
  go_upto_region 9 with fail
  generalize w8.alloc (.cells #[.int .i64 x1, .int .i64 x2] 25) = W9 at *
  generalize w8.heap.size = g9 at *
  go_wp2_with fail
  refine (CWM'.out _ (HROW.out _ S9.out)).mono ?_
  rintro _ w9 ⟨⟨⟨y1, y2⟩, yk⟩, rfl, HV, b9⟩
  have eV := with_uniq (with_perm HPM.out HV.out) HW.out
  cases eV
  have Sax := Lib.hid (S9.out.step b9)
  have Sa := Lib.hid (Sax.out.alloc (.cells #[.int .i64 x1, .int .i64 x2] 25))
  have Ka := Lib.hid ((K9.out.next b9).alloc (.cells #[.int .i64 x1, .int .i64 x2] 25))
  have Ja := Lib.hid ((J9.out.next b9).alloc (.cells #[.int .i64 x1, .int .i64 x2] 25))
  have Ma := Lib.hid ((M9.out.next b9).alloc (.cells #[.int .i64 x1, .int .i64 x2] 25))
  have Na := Lib.hid (TK.new Sax.out x1 x2)
  clear b9 S9 Sax K9 J9 M9 CWM' HV HW
  dsimp only
  go_upto_region 10 with fail
  generalize w9.alloc (.cells #[.int .i64 x1, .int .i64 x2] 25) = Wa at *
  generalize w9.heap.size = ga at *
  have hg1 := fun W => g_neq_self lo up W
  have hg2 := fun W => g_neq_self x1 x2 W
  have hnn : (n != n) = false := by simp
  have hkk : (xk != xk) = false := by simp
  have haa : (ag != ag) = false := by simp
  obtain ⟨k1, k2, k3, k4, k5⟩ := Ka.out.1.two
  obtain ⟨j1, j2, j3, j4, j5⟩ := Ja.out.1.two
  obtain ⟨m1, m2, m3, m4, m5⟩ := Ma.out.1.two
  obtain ⟨n1, n2, n3, n4, n5⟩ := Na.out.1.two
  go_wp2_with fail
  refine (CG.out _ Sa.out.1.out).mono ?_
  rintro _ wb ⟨rfl, bb⟩
  have Sb := Lib.hid (Sa.out.step bb)
  have Kb := Lib.hid (Ka.out.next bb)
  clear bb Sa Ka k1 k2 k3 k4 k5 j1 j2 j3 j4 j5 m1 m2 m3 m4 m5 n1 n2 n3 n4 n5 Ja Ma Na CG hg1 hg2 hnn hkk
  go_wp2_with fail
  refine (CGM'.out _ (HROW.out _ Sb.out)).mono ?_
  rintro _ wc ⟨rfl, bc⟩
  have Sc := Lib.hid (Sb.out.step bc)
  have Kc := Lib.hid (Kb.out.next bc)
  clear bc Sb Kb CGM'
  go_upto_region 12 with fail
  obtain ⟨hn0, hn1⟩ := best_le HQ.out
  have hml := HML.out
  have hl1 := HLL.out
  have hz : M.length + 1 ≤ maxLen := by unfold maxLen; omega
  have hy : (M.length + 1) * 16 ≤ 140737488355328 := by omega
  have hnn1 : n ≤ 100 := by omega
  clear hn1 hml hl1 q1 q2 q3 haa
  have Sd := Lib.hid (Sc.out.alloc (.cells #[.int .i64 (-9223372036854775808), .int .i64 9223372036854775807] 25))
  have Kd := Lib.hid (Kc.out.alloc (.cells #[.int .i64 (-9223372036854775808), .int .i64 9223372036854775807] 25))
  have Qd : Hid (Kept (wc.alloc (.cells #[.int .i64 (-9223372036854775808), .int .i64 9223372036854775807] 25)) wc.heap.size #[.int .i64 (-9223372036854775808), .int .i64 9223372036854775807] 25) := Lib.hid (Kept.new rfl)
  clear Sc Kc
  go_wp2_with (at_builtin; refine wpList_appendOne rfl _ _ 22 rfl B0 25 i0 (.agg #[.int .i64 0, .int .i64 0]) 16 Try.underlying22 hi hz0 hz1 hz2 rfl vo M.length (cells2 M) rfl Sd.out.2.1.out wc.heap.size (-9223372036854775808) 9223372036854775807 25 rfl Qd.out hz hy Sd.out.2.2.2.2 ?_)
  intro v6 w6' o6 hg6
  obtain ⟨a6, cap6, rfl, -, -, -, -, p6⟩ := PairRow.own (d := M ++ [fullP]) (by rw [cells2_append]; exact o6)
  have Be := Lib.hid (Sd.out.2.2.1.out.grown hg6 Sd.out.2.2.1.out.size (fun k hk => Nat.le_trans Sd.out.2.2.2.1 (Sd.out.2.1.out.lt k hk).1))
  have Ke := Lib.hid (kept_grown Kd.out.1 hg6 Kd.out.2)
  have Pe := Lib.hid p6
  clear o6 hg6 p6 Sd Kd Qd hz hy
  go_wp2_with fail
  refine (CBF.out _ a6 cap6 Pe.out).mono ?_
  rintro _ wf ⟨⟨c1, c2⟩, m, rfl, HF, bf⟩
  have Bf := Lib.hid (Be.out.trans (bf.mono Be.out.size))
  have Bg := Lib.hid (Bf.out.alloc Bf.out.size (.cells #[.int .i64 c1, .int .i64 c2] 25))
  have Kg := Lib.hid ((Ke.out.next bf).alloc (.cells #[.int .i64 c1, .int .i64 c2] 25))
  have Qg : Hid (Kept (wf.alloc (.cells #[.int .i64 c1, .int .i64 c2] 25)) wf.heap.size #[.int .i64 c1, .int .i64 c2] 25) := Lib.hid (Kept.new rfl)
  obtain ⟨rfl, hc⟩ := best_more HINM.out HQ.out HF.out
  clear bf Be Ke Pe Bf CBF HF HQ HP HINM
  dsimp only
  go_upto_region 13 with fail
  generalize wf.alloc (.cells #[.int .i64 c1, .int .i64 c2] 25) = Wg at *
  generalize wf.heap.size = gg at *
  by_cases h0 : n = 0
  · subst h0
    go_wp2
    go_ret
    exact ⟨rfl, Bg.out⟩
  · have e := hc.resolve_left h0
    cases e
    have hge := fun W => g_eql_self lo up W
    have hd : (n == 0) = false := beq_eq_false_iff_ne.mpr h0
    obtain ⟨k1, k2, k3, k4, k5⟩ := Kg.out.two
    obtain ⟨j1, j2, j3, j4, j5⟩ := Qg.out.two
    clear hc h0
    go_wp2
    go_ret
    exact ⟨rfl, Bg.out⟩
end Go.Proofs.Ytllkdohomkofhaa
