import Derived.Test.YtflplliiamodhaaZClkG
import Derived.ArgAppend
import Derived.Deep.DeepCutAuto
/- Clock.Add: for every clock of up to eight samples. -/
namespace Go.Proofs.Ytflplliiamodhaa
open Go.RowKit
set_option linter.unusedVariables false
set_option linter.unusedSimpArgs false

def pushL (L : List Sm) (s : Sm) : List Sm := if 8 < L.length + 1 then (L ++ [s]).drop 1 else L ++ [s]
def addC (c : Ck) (s : Sm) : Int × Ck :=
  if rgtS s = true then
    if agreeB (gapsS (pushL c.L s) s.2.2.1 c.rho) = true then (0, { c with L := pushL c.L s, held := upH c, streak := upS c.streak })
    else (21, { c with held := true, streak := 0, L := if atE s s.2.2.1 c.rho = 0 then [s] else [] })
  else (10, c)
theorem addC_no {c : Ck} {s : Sm} (h : rgtS s = false) : addC c s = (10, c) := by unfold addC; rw [if_neg (by rw [h]; exact Bool.false_ne_true)]
theorem addC_yes {c : Ck} {s : Sm} (h : rgtS s = true) (h' : agreeB (gapsS (pushL c.L s) s.2.2.1 c.rho) = true) : addC c s = (0, { c with L := pushL c.L s, held := upH c, streak := upS c.streak }) := by unfold addC; rw [if_pos h, if_pos h']
theorem addC_un {c : Ck} {s : Sm} (h : rgtS s = true) (h' : agreeB (gapsS (pushL c.L s) s.2.2.1 c.rho) = false) : addC c s = (21, { c with held := true, streak := 0, L := if atE s s.2.2.1 c.rho = 0 then [s] else [] }) := by unfold addC; rw [if_pos h, if_neg (by rw [h']; exact Bool.false_ne_true)]
theorem pushL_len {L : List Sm} {s : Sm} (h : L.length ≤ 8) : 1 ≤ (pushL L s).length ∧ (pushL L s).length ≤ 8 := by
  unfold pushL
  split <;> simp <;> omega
theorem pushL_last {L : List Sm} {s : Sm} (h : L.length ≤ 8) : (pushL L s).getD ((pushL L s).length - 1) smZ = s := by
  have hl : (L ++ [s]).getLast? = some s := by simp
  have key : ∀ M : List Sm, M.getLast? = some s → M.getD (M.length - 1) smZ = s := fun M h => by
    rw [List.getLast?_eq_getElem?] at h
    rw [List.getD_eq_getElem?_getD, h]
    rfl
  unfold pushL
  split
  · refine key _ ?_
    rw [List.getLast?_drop, if_neg (by rw [List.length_append]; simp only [List.length_cons, List.length_nil]; omega)]
    exact hl
  · exact key _ hl
theorem gapS_right {s : Sm} {t r : Int} : decide ((gapS s t r).1 ≤ (gapS s t r).2) = decide (atE s t r = 0) := by
  rw [Bool.eq_iff_iff, decide_eq_true_iff, decide_eq_true_iff]
  constructor
  · exact fun h => (gapS_in h).1
  · intro h
    unfold gapS
    rw [if_pos h]
    unfold atE at h
    split at h
    · split at h
      · split at h
        · assumption
        · cases h
      · cases h
    · cases h
def AddOut (g : Nat) (v : Value) (c : Ck) (s : Sm) (w : World) (e : Ending) (w' : World) : Prop := ∃ v', e = .returned (.int .i64 (addC c s).1) ∧ CkO w' g v' (addC c s).2 ∧ KpC g v w w' ∧ Fr v v' w
/-- append by one element of a block of its own: the row's block is the old one, or a new one -/
theorem wp_appendFr {P : Program} {o : Oper} {a : Act} {w : World} {K : Act → World → Prop} {Q : Exit → Act → World → Prop} (s x : Operand) (t : TypeId)
    (ho : o.op = .call { callee := .builtin .append, args := #[s, x], argTypes := #[t, t] })
    (base : Nat) (e : TypeId) (i : TypeInfo) (z : Value) (size bytes : Nat) (ht : P.underlying t = some (.slice e)) (hi : P.info? e = some i) (hz : i.zero = some z)
    (hsize : i.size = size) (hby : i.bytes = bytes) (hzs : z.cells.size = size) (hsz : 0 < size)
    (v : Value) (n : Nat) (xs : List Value) (hs : a.eval s = v) (hown : w.ownsRow base e size v n xs)
    (gx c : Nat) (cs : Array Value) (T : TypeId) (hx : a.eval x = .slice (some ⟨gx, 0, none⟩) 1 c) (hk : Kept w gx cs T) (hl : cs.size = size) (h1 : ∀ u ∈ cs.toList, u.oneCell' = true)
    (h63 : n + 1 ≤ maxLen) (hbytes : (n + 1) * bytes ≤ 140737488355328) (hbase : base ≤ w.heap.size)
    (h : ∀ v' w', w'.ownsRow base e size v' (n + 1) (xs ++ cs.toList) → w.grownBy w' v.ownBlock → Fr v v' w → K (a.put o.dst v') w') : o.wp P a w K Q := by
  have hnews : ∀ j u, cs.toList[j]? = some u → w.cell? ((⟨gx, 0, none⟩ : Addr).add j) = some u := by
    intro j u hj
    rw [Addr.add_lit, Nat.zero_add, (hk.at_ j).1, ← hj]
    simp
  have hl' : cs.toList.length = 1 * size := by rw [Nat.one_mul]; exact hl
  obtain ⟨v', w', hr, h2, h3, _⟩ := run_append_own (P := P) w base t o.type e i z size bytes ht hi hz hsize hby hzs hsz v n xs hown ⟨gx, 0, none⟩ 1 c cs.toList hl' hnews h1 h63 hbytes hbase
  have fr : Fr v v' w := by
    rcases hown.2 with ⟨rfl, hn0⟩ | ⟨g, cap, cur, rfl, hbg, hg, hnc, hcm, hcs, htake⟩
    · obtain ⟨v2, w2, hr2, o2, _, _⟩ := run_append_own (P := P) w w.heap.size t o.type e i z size bytes ht hi hz hsize hby hzs hsz (.slice none 0 0) n xs ⟨hown.1, .inl ⟨rfl, hn0⟩⟩ ⟨gx, 0, none⟩ 1 c cs.toList hl' hnews h1 h63 hbytes (Nat.le_refl _)
      rw [hr] at hr2
      cases hr2
      exact fun k hk => .inr (o2.lt k hk).1
    · by_cases hroom : n + 1 ≤ cap
      · have hfit : n * i.size + cs.toList.length ≤ cur.size := by
          rw [hl', hsize, hcs, ← Nat.add_mul]
          exact Nat.mul_le_mul_right _ hroom
        have hr2 := run_append_room (P := P) w t o.type e i ht hi g n cap cur hg ⟨gx, 0, none⟩ 1 c cs.toList (by rw [hsize]; exact hl') hnews h1 hroom hfit
        rw [hr] at hr2
        cases hr2
        exact fun k hk => .inl hk
      · have holds : ∀ j u, xs[j]? = some u → w.cell? ((⟨g, 0, none⟩ : Addr).add j) = some u := hown.cells (g := g) rfl
        obtain ⟨v2, w2, hr2, o2, _⟩ := run_append_arg_grows (P := P) w t o.type e i z size bytes ht hi hz hsize hby hzs hsz ⟨g, 0, none⟩ n cap xs hown.1 holds ⟨gx, 0, none⟩ 1 c cs.toList hl' hnews (by omega) h63 hbytes
        rw [hr] at hr2
        cases hr2
        exact fun k hk => .inr (o2.lt k hk).1
  unfold Oper.wp execOp
  simp only [ho, resolve, invoke, builtin, Sem.run_bind, Sem.run_pure, Result.andThen_ok, List.map_toArray, List.map_cons, List.map_nil, hs, hx, hr]
  exact h v' w' h2 h3 fr
/-- behind the append, and behind the cut -/
def AdCut (g : Nat) (v : Value) (c : Ck) (L : List Sm) (a gg ss cc : Int) (w : World) (u : Value) (wx : World) : Prop :=
  ∃ p, Hid (CkO wx g p { c with L := L } ∧ KpC g v w wx ∧ Fr v p w ∧ Kept wx w.heap.size #[.int .i64 a, .int .i64 gg, .int .i64 ss, .int .i64 cc] 33 ∧ p.ownBlock ≠ some w.heap.size)
theorem four_cells {a b c d : Int} : ∀ u ∈ (#[Value.int .i64 a, Value.int .i64 b, Value.int .i64 c, Value.int .i64 d] : Array Value).toList, u.oneCell' = true := by
  intro u hu
  simp at hu
  rcases hu with rfl | rfl | rfl | rfl <;> rfl
theorem kpc_alloc {g : Nat} {v : Value} {w w' : World} (h : KpC g v w w') (o : Obj) : KpC g v w (w'.alloc o) := h.step (one_alloc w' o)
theorem kpc_drewN {g : Nat} {v : Value} {w w' : World} (h : KpC g v w w') (n : Nat) : KpC g v w (w'.drewN n) := ⟨h.os, h.tape, h.output, h.size, h.block⟩
set_option maxHeartbeats 4000000 in
set_option maxRecDepth 100000 in
theorem ckadd_any (g : Nat) (v : Value) (c : Ck) (a gg ss cc : Int) (w : World) (h : CkO w g v c) (hl : c.L.length ≤ 8) (hs : InI c.streak) : Calls Try.prog 12 #[.pointer (some ⟨g, 0, none⟩), .agg #[.int .i64 a, .int .i64 gg, .int .i64 ss, .int .i64 cc]] w (AddOut g v c (a, gg, ss, cc) w) := by
  obtain ⟨i0, hi, hz0, hz1, hz2⟩ := info_parts2 info_sm
  have CR := Lib.hid (srgt_any a gg ss cc)
  obtain ⟨W, hW⟩ : ∃ W, w.alloc (.cells #[.int .i64 a, .int .i64 gg, .int .i64 ss, .int .i64 cc] 33) = W := ⟨_, rfl⟩
  have K0 : Hid (Kept W w.heap.size #[.int .i64 a, .int .i64 gg, .int .i64 ss, .int .i64 cc] 33) := Lib.hid (by rw [← hW]; exact Kept.new rfl)
  have B0 : Hid (Below w.heap.size w W) := Lib.hid (by rw [← hW]; exact one_alloc _ _)
  have HW := Lib.hid hW
  have HGL : Hid (g < w.heap.size ∧ ∀ k, v.ownBlock = some k → k < w.heap.size) := Lib.hid h.lt
  have HO := Lib.hid h
  obtain ⟨x1, x2, x3, x4, -⟩ := K0.out.four
  have HS := Lib.hid hs
  have HLL := Lib.hid hl
  clear hW h hl hs
  cases hr : rgtS (a, gg, ss, cc)
  · have F : Hid (∀ W', Below w.heap.size w W' → AddOut g v c (a, gg, ss, cc) w (.returned (.int .i64 10)) W') := Lib.hid fun W' hb => ⟨v, by rw [addC_no hr], by rw [addC_no hr]; exact HO.out.below hb, KpC.below hb, Fr.refl _ _⟩
    rw [hr] at CR
    clear hr
    go_enter Try.func12, Try.ntmps12
    go_wp2_with fail
    rw [HW.out]
    refine (CR.out _).mono ?_
    rintro _ w1 ⟨rfl, b1⟩
    have B1 := Lib.hid (bnext B0.out B0.out.size b1)
    clear b1
    go_wp2
    go_ret
    exact F.out _ B1.out
  · have HR := Lib.hid hr
    rw [hr] at CR
    clear hr
    go_enter Try.func12, Try.ntmps12
    go_wp2_with fail
    rw [HW.out]
    refine (CR.out _).mono ?_
    rintro _ w1 ⟨rfl, b1⟩
    have B1 := Lib.hid (bnext B0.out B0.out.size b1)
    have K1 := Lib.hid (K0.out.next b1)
    have H1 := Lib.hid (HO.out.below B1.out)
    clear b1 x1 x2 x3 x4 K0 B0 HW CR
    go_upto_region 3 with fail
    go_cut [16] from 9 to 18 (fun u wx => AdCut g v c (c.L ++ [(a, gg, ss, cc)]) a gg ss cc w u wx)
    case first =>
      have hb1 : c.L.length + 1 ≤ maxLen := by have := HLL.out; unfold maxLen; omega
      have hb2 : (c.L.length + 1) * 32 ≤ 140737488355328 := by have := HLL.out; omega
      have FIN : Hid (∀ v1 W W' W2, Below w.heap.size w W → CkO W g v c → Kept W w.heap.size #[.int .i64 a, .int .i64 gg, .int .i64 ss, .int .i64 cc] 33 → Below W.heap.size W W' → W2.ownsRow 0 33 4 v1 (c.L.length + 1) (cells4 c.L ++ (#[.int .i64 a, .int .i64 gg, .int .i64 ss, .int .i64 cc] : Array Value).toList) → W'.grownBy W2 v.ownBlock → Fr v v1 W' → (Kept W2 g #[.int .i64 c.rho, v, .int .i64 c.need, .int .i64 c.streak, .bool c.held] 78 ∧ ∀ u, AdCut g v c (c.L ++ [(a, gg, ss, cc)]) a gg ss cc w u (W2.setCell ⟨g, 1, none⟩ v1))) := Lib.hid (by
        intro v1 W W' W2 hb ho hk hb' o1 hg hfr
        have k2 : Kept W2 g #[.int .i64 c.rho, v, .int .i64 c.need, .int .i64 c.streak, .bool c.held] 78 := kept_grown (ho.1.next hb') hg ho.2.2
        refine ⟨k2, fun u => ⟨v1, Lib.hid ?_⟩⟩
        have fr : Fr v v1 w := fun k hk' => by
          rcases hfr k hk' with h1 | h1
          · exact .inl h1
          · have := hb.size; have := hb'.size; exact .inr (by omega)
        have nb : v1.ownBlock ≠ some g := fun e => by
          rcases fr g e with h1 | h1
          · exact ho.2.2 h1
          · have := HGL.out.1; omega
        refine ⟨CkO.setRow k2 (n := c.L.length + 1) (by simp) (by rw [cells4_append, cells4_one]; exact o1) nb, ?_, fr, ?_, fun e => ?_⟩
        · have h2 : KpC g v w W2 := ((KpC.below hb).step hb').trans (Fr.refl _ _) (KpC.grown hg)
          exact h2.set 1 v1
        · refine (kept_grown (hk.next hb') hg fun e => ?_).far (by have := HGL.out.1; simp; omega) _
          have := HGL.out.2 _ e
          omega
        · rcases hfr _ e with h1 | h1
          · have := HGL.out.2 _ h1; omega
          · have := hk.lt; have := hb'.size; omega)
      have B1d : Hid (Below w.heap.size w w1.drew) := Lib.hid B1.out.drew
      have K1d : Hid (Kept w1.drew w.heap.size #[.int .i64 a, .int .i64 gg, .int .i64 ss, .int .i64 cc] 33) := Lib.hid K1.out
      have H1d : Hid (CkO w1.drew g v c) := Lib.hid H1.out
      obtain ⟨k1, k2, k3, k4, -⟩ := K1d.out.four
      refine wp_region_held_drew (S := fun w' => w'.cell? ⟨w.heap.size, 0, none⟩ = some (.int .i64 a) ∧ w'.cell? ⟨w.heap.size, 1, none⟩ = some (.int .i64 gg) ∧ w'.cell? ⟨w.heap.size, 2, none⟩ = some (.int .i64 ss) ∧ w'.cell? ⟨w.heap.size, 3, none⟩ = some (.int .i64 cc)) (by kernel_rfl) ⟨k1, k2, k3, k4⟩ (fun hHeld => ?_)
      clear k1 k2 k3 k4
      generalize w1.drew = v2 at *
      refine wpAnyH_take (i := 0) (oi := ({ dst := some 9, op := Op.move (Operand.tmp 0), type := 24, pos := "clock.go:84", after := #[], guard := none } : Oper)) (v := ?_) rfl (by kernel_rfl) (by kernel_rfl) (by kernel_rfl) (fun _ _ _ h => h) (Or.inl ⟨by rfl, ?_⟩) hHeld ?_
      rotate_left
      · ((intro w hSw; obtain ⟨s1, s2, s3, s4⟩ := hSw; go_simp); (try with_reducible rfl))
      (try simp only [Act.put, List.setIfInBounds_toArray, List.set_cons_zero, List.set_cons_succ])
      refine wpAnyH_take (i := 1) (oi := ({ dst := some 10, op := Op.move (Operand.tmp 0), type := 24, pos := "clock.go:84", after := #[], guard := none } : Oper)) (v := ?_) rfl (by kernel_rfl) (by kernel_rfl) (by kernel_rfl) (fun _ _ _ h => h) (Or.inl ⟨by rfl, ?_⟩) hHeld ?_
      rotate_left
      · ((intro w hSw; obtain ⟨s1, s2, s3, s4⟩ := hSw; go_simp); (try with_reducible rfl))
      (try simp only [Act.put, List.setIfInBounds_toArray, List.set_cons_zero, List.set_cons_succ])
      refine wpAnyH_take (i := 2) (oi := ({ dst := some 11, op := Op.nilCheck (Operand.tmp 10), type := 0, pos := "clock.go:84", after := #[{ on := 1, ground := Ground.data }], guard := none } : Oper)) (v := ?_) rfl (by kernel_rfl) (by kernel_rfl) (by kernel_rfl) (fun _ _ _ h => h) (Or.inl ⟨by rfl, ?_⟩) hHeld ?_
      rotate_left
      · ((intro w hSw; obtain ⟨s1, s2, s3, s4⟩ := hSw; go_simp); (try with_reducible rfl))
      (try simp only [Act.put, List.setIfInBounds_toArray, List.set_cons_zero, List.set_cons_succ])
      refine wpAnyH_take (i := 3) (oi := ({ dst := some 12, op := Op.fieldAddr 78 (Operand.tmp 11) 1, type := 0, pos := "clock.go:84", after := #[{ on := 2, ground := Ground.data }], guard := none } : Oper)) (v := ?_) rfl (by kernel_rfl) (by kernel_rfl) (by kernel_rfl) (fun _ _ _ h => h) (Or.inl ⟨by rfl, ?_⟩) hHeld ?_
      rotate_left
      · ((intro w hSw; obtain ⟨s1, s2, s3, s4⟩ := hSw; go_simp); (try with_reducible rfl))
      (try simp only [Act.put, List.setIfInBounds_toArray, List.set_cons_zero, List.set_cons_succ])
      refine wpAnyH_take (i := 5) (oi := ({ dst := some 14, op := Op.load 33 (Operand.tmp 3), type := 33, pos := "clock.go:84", after := #[], guard := none } : Oper)) (v := ?_) rfl (by kernel_rfl) (by kernel_rfl) (by kernel_rfl) (fun _ _ _ h => h) (Or.inl ⟨by rfl, ?_⟩) hHeld ?_
      rotate_left
      · ((intro w hSw; obtain ⟨s1, s2, s3, s4⟩ := hSw; go_simp); (try with_reducible rfl))
      (try simp only [Act.put, List.setIfInBounds_toArray, List.set_cons_zero, List.set_cons_succ])
      refine wpAnyH_ready (rs := [4, 6]) (by kernel_rfl) (by simp) ?_
      refine AllReadyH.cons (o := ({ dst := some 13, op := Op.load 22 (Operand.tmp 12), type := 22, pos := "clock.go:84", after := #[{ on := 3, ground := Ground.data }], guard := none } : Oper)) rfl (fun K hK => ?_) (AllReadyH.cons (o := ({ dst := some 15, op := Op.buildSlice 22 1 #[(0, Operand.tmp 14)], type := 22, pos := "clock.go:84", after := #[{ on := 5, ground := Ground.data }], guard := none } : Oper)) rfl (fun K hK => ?_) (AllReadyH.nil))
      · have q1 := H1d.out.1.five
        obtain ⟨x1, x2, -⟩ := q1
        go_simp
        clear x1 x2
        refine hK.out _ _ ?_ (fun hHeld => ?_)
        · exact ⟨K1d.out.four.1, K1d.out.four.2.1, K1d.out.four.2.2.1, K1d.out.four.2.2.2.1⟩
        clear hK K
        (try simp only [Act.put, List.setIfInBounds_toArray, List.set_cons_zero, List.set_cons_succ])
        refine wpAnyH_ready (rs := [6]) (by kernel_rfl) (by simp) ?_
        refine AllReadyH.cons (o := ({ dst := some 15, op := Op.buildSlice 22 1 #[(0, Operand.tmp 14)], type := 22, pos := "clock.go:84", after := #[{ on := 5, ground := Ground.data }], guard := none } : Oper)) rfl (fun K hK => ?_) (AllReadyH.nil)
        go_simp
        have B2 : Hid (Below v2.heap.size v2 (v2.alloc (.cells #[.int .i64 a, .int .i64 gg, .int .i64 ss, .int .i64 cc] 33))) := Lib.hid (one_alloc _ _)
        have KX : Hid (Kept (v2.alloc (.cells #[.int .i64 a, .int .i64 gg, .int .i64 ss, .int .i64 cc] 33)) v2.heap.size #[.int .i64 a, .int .i64 gg, .int .i64 ss, .int .i64 cc] 33) := Lib.hid (Kept.new rfl)
        have H2 : Hid (CkO (v2.alloc (.cells #[.int .i64 a, .int .i64 gg, .int .i64 ss, .int .i64 cc] 33)) g v c) := Lib.hid (H1d.out.below B2.out)
        have J2 : Hid (Kept (v2.alloc (.cells #[.int .i64 a, .int .i64 gg, .int .i64 ss, .int .i64 cc] 33)) w.heap.size #[.int .i64 a, .int .i64 gg, .int .i64 ss, .int .i64 cc] 33) := Lib.hid (K1d.out.next B2.out)
        refine hK.out _ _ ?_ (fun hHeld => ?_)
        · exact ⟨J2.out.four.1, J2.out.four.2.1, J2.out.four.2.2.1, J2.out.four.2.2.2.1⟩
        clear hK K
        (try simp only [Act.put, List.setIfInBounds_toArray, List.set_cons_zero, List.set_cons_succ])
        refine wpAnyH_ready (rs := [7]) (by kernel_rfl) (by simp) ?_
        refine AllReadyH.cons (o := ({ dst := some 16, op := Op.call { callee := Callee.builtin Builtin.append, args := #[Operand.tmp 13, Operand.tmp 15], argTypes := #[22, 22] }, type := 22, pos := "clock.go:84", after := #[{ on := 4, ground := Ground.data }, { on := 6, ground := Ground.data }], guard := none } : Oper)) rfl (fun K hK => ?_) (AllReadyH.nil)
        rw [if_pos (by rfl)]
        refine wp_appendFr _ _ 22 rfl 0 33 i0 (.agg #[.int .i64 0, .int .i64 0, .int .i64 0, .int .i64 0]) 4 32 Try.underlying22 hi hz0 hz1 hz2 rfl (by decide) v c.L.length (cells4 c.L) rfl H2.out.2.1 v2.heap.size 1 #[.int .i64 a, .int .i64 gg, .int .i64 ss, .int .i64 cc] 33 rfl KX.out rfl four_cells hb1 hb2 (Nat.zero_le _) ?_
        intro v1 w3 o3 g3 fr3
        obtain ⟨a9, c9, rfl, -⟩ := QuadRow.own (L := c.L ++ [(a, gg, ss, cc)]) (by rw [cells4_append, cells4_one]; exact o3)
        obtain ⟨k3', F3⟩ := FIN.out _ v2 _ w3 B1d.out H1d.out K1d.out B2.out o3 g3 fr3
        have F3 := Lib.hid F3
        have K3' := Lib.hid k3'
        have S3 : Hid (Kept w3 w.heap.size #[.int .i64 a, .int .i64 gg, .int .i64 ss, .int .i64 cc] 33) := Lib.hid (kept_grown J2.out g3 (fun e => by have := HGL.out.2 _ e; omega))
        clear o3 g3 fr3 k3' KX
        refine hK.out _ _ ?_ (fun hHeld => ?_)
        · exact ⟨S3.out.four.1, S3.out.four.2.1, S3.out.four.2.2.1, S3.out.four.2.2.2.1⟩
        clear hK K
        (try simp only [Act.put, List.setIfInBounds_toArray, List.set_cons_zero, List.set_cons_succ])
        refine wpAnyH_take (i := 8) (oi := ({ dst := some 17, op := Op.nilCheck (Operand.tmp 9), type := 0, pos := "clock.go:84", after := #[{ on := 0, ground := Ground.data }, { on := 0, ground := Ground.phase }, { on := 1, ground := Ground.phase }, { on := 2, ground := Ground.phase }, { on := 3, ground := Ground.phase }, { on := 4, ground := Ground.phase }, { on := 5, ground := Ground.phase }, { on := 6, ground := Ground.phase }, { on := 7, ground := Ground.phase }], guard := none } : Oper)) (v := ?_) rfl (by kernel_rfl) (by kernel_rfl) (by kernel_rfl) (fun _ _ _ h => h) (Or.inl ⟨by rfl, ?_⟩) hHeld ?_
        rotate_left
        · ((intro w hSw; obtain ⟨s1, s2, s3, s4⟩ := hSw; go_simp); (try with_reducible rfl))
        (try simp only [Act.put, List.setIfInBounds_toArray, List.set_cons_zero, List.set_cons_succ])
        refine wpAnyH_take (i := 9) (oi := ({ dst := some 18, op := Op.fieldAddr 78 (Operand.tmp 17) 1, type := 0, pos := "clock.go:84", after := #[{ on := 8, ground := Ground.data }, { on := 0, ground := Ground.phase }, { on := 1, ground := Ground.phase }, { on := 2, ground := Ground.phase }, { on := 3, ground := Ground.phase }, { on := 4, ground := Ground.phase }, { on := 5, ground := Ground.phase }, { on := 6, ground := Ground.phase }, { on := 7, ground := Ground.phase }], guard := none } : Oper)) (v := ?_) rfl (by kernel_rfl) (by kernel_rfl) (by kernel_rfl) (fun _ _ _ h => h) (Or.inl ⟨by rfl, ?_⟩) hHeld ?_
        rotate_left
        · ((intro w hSw; obtain ⟨s1, s2, s3, s4⟩ := hSw; go_simp); (try with_reducible rfl))
        (try simp only [Act.put, List.setIfInBounds_toArray, List.set_cons_zero, List.set_cons_succ])
        refine wpAnyH_ready (rs := [10]) (by kernel_rfl) (by simp) ?_
        refine AllReadyH.cons (o := ({ dst := none, op := Op.store 22 (Operand.tmp 18) (Operand.tmp 16), type := 0, pos := "clock.go:84", after := #[{ on := 9, ground := Ground.data }, { on := 7, ground := Ground.data }, { on := 7, ground := Ground.chain }, { on := 0, ground := Ground.phase }, { on := 1, ground := Ground.phase }, { on := 2, ground := Ground.phase }, { on := 3, ground := Ground.phase }, { on := 4, ground := Ground.phase }, { on := 5, ground := Ground.phase }, { on := 6, ground := Ground.phase }, { on := 7, ground := Ground.phase }], guard := none } : Oper)) rfl (fun K hK => ?_) (AllReadyH.nil)
        obtain ⟨x1, x2, x3, x4, x5, f1, f2, f3, f4, f5, -⟩ := K3'.out.five
        go_simp
        clear x1 x2 x3 x4 x5 f1 f2 f3 f4 f5
        refine hK.out _ _ ?_ (fun hHeld => ?_)
        · exact ⟨(S3.out.far (p := ⟨g, 1, none⟩) (by have := HGL.out.1; simp; omega) _).four.1, (S3.out.far (p := ⟨g, 1, none⟩) (by have := HGL.out.1; simp; omega) _).four.2.1, (S3.out.far (p := ⟨g, 1, none⟩) (by have := HGL.out.1; simp; omega) _).four.2.2.1, (S3.out.far (p := ⟨g, 1, none⟩) (by have := HGL.out.1; simp; omega) _).four.2.2.2.1⟩
        clear hK K
        (try simp only [Act.put, List.setIfInBounds_toArray, List.set_cons_zero, List.set_cons_succ])
        refine wpAnyH_done (by kernel_rfl) ?_ _
        clear hHeld
        go_wp2_with fail
        go_meet
        case rel => exact F3.out _
      · go_simp
        have B1 : Hid (Below v2.heap.size v2 (v2.alloc (.cells #[.int .i64 a, .int .i64 gg, .int .i64 ss, .int .i64 cc] 33))) := Lib.hid (one_alloc _ _)
        have KX : Hid (Kept (v2.alloc (.cells #[.int .i64 a, .int .i64 gg, .int .i64 ss, .int .i64 cc] 33)) v2.heap.size #[.int .i64 a, .int .i64 gg, .int .i64 ss, .int .i64 cc] 33) := Lib.hid (Kept.new rfl)
        have H1 : Hid (CkO (v2.alloc (.cells #[.int .i64 a, .int .i64 gg, .int .i64 ss, .int .i64 cc] 33)) g v c) := Lib.hid (H1d.out.below B1.out)
        have J1 : Hid (Kept (v2.alloc (.cells #[.int .i64 a, .int .i64 gg, .int .i64 ss, .int .i64 cc] 33)) w.heap.size #[.int .i64 a, .int .i64 gg, .int .i64 ss, .int .i64 cc] 33) := Lib.hid (K1d.out.next B1.out)
        refine hK.out _ _ ?_ (fun hHeld => ?_)
        · exact ⟨J1.out.four.1, J1.out.four.2.1, J1.out.four.2.2.1, J1.out.four.2.2.2.1⟩
        clear hK K
        (try simp only [Act.put, List.setIfInBounds_toArray, List.set_cons_zero, List.set_cons_succ])
        refine wpAnyH_ready (rs := [4]) (by kernel_rfl) (by simp) ?_
        refine AllReadyH.cons (o := ({ dst := some 13, op := Op.load 22 (Operand.tmp 12), type := 22, pos := "clock.go:84", after := #[{ on := 3, ground := Ground.data }], guard := none } : Oper)) rfl (fun K hK => ?_) (AllReadyH.nil)
        have q2 := H1.out.1.five
        obtain ⟨x1, x2, -⟩ := q2
        go_simp
        clear x1 x2
        refine hK.out _ _ ?_ (fun hHeld => ?_)
        · exact ⟨J1.out.four.1, J1.out.four.2.1, J1.out.four.2.2.1, J1.out.four.2.2.2.1⟩
        clear hK K
        (try simp only [Act.put, List.setIfInBounds_toArray, List.set_cons_zero, List.set_cons_succ])
        refine wpAnyH_ready (rs := [7]) (by kernel_rfl) (by simp) ?_
        refine AllReadyH.cons (o := ({ dst := some 16, op := Op.call { callee := Callee.builtin Builtin.append, args := #[Operand.tmp 13, Operand.tmp 15], argTypes := #[22, 22] }, type := 22, pos := "clock.go:84", after := #[{ on := 4, ground := Ground.data }, { on := 6, ground := Ground.data }], guard := none } : Oper)) rfl (fun K hK => ?_) (AllReadyH.nil)
        rw [if_pos (by rfl)]
        refine wp_appendFr _ _ 22 rfl 0 33 i0 (.agg #[.int .i64 0, .int .i64 0, .int .i64 0, .int .i64 0]) 4 32 Try.underlying22 hi hz0 hz1 hz2 rfl (by decide) v c.L.length (cells4 c.L) rfl H1.out.2.1 v2.heap.size 1 #[.int .i64 a, .int .i64 gg, .int .i64 ss, .int .i64 cc] 33 rfl KX.out rfl four_cells hb1 hb2 (Nat.zero_le _) ?_
        intro v1 w3 o3 g3 fr3
        obtain ⟨a9, c9, rfl, -⟩ := QuadRow.own (L := c.L ++ [(a, gg, ss, cc)]) (by rw [cells4_append, cells4_one]; exact o3)
        obtain ⟨k3', F3⟩ := FIN.out _ v2 _ w3 B1d.out H1d.out K1d.out B1.out o3 g3 fr3
        have F3 := Lib.hid F3
        have K3' := Lib.hid k3'
        have S3 : Hid (Kept w3 w.heap.size #[.int .i64 a, .int .i64 gg, .int .i64 ss, .int .i64 cc] 33) := Lib.hid (kept_grown J1.out g3 (fun e => by have := HGL.out.2 _ e; omega))
        clear o3 g3 fr3 k3' KX
        refine hK.out _ _ ?_ (fun hHeld => ?_)
        · exact ⟨S3.out.four.1, S3.out.four.2.1, S3.out.four.2.2.1, S3.out.four.2.2.2.1⟩
        clear hK K
        (try simp only [Act.put, List.setIfInBounds_toArray, List.set_cons_zero, List.set_cons_succ])
        refine wpAnyH_take (i := 8) (oi := ({ dst := some 17, op := Op.nilCheck (Operand.tmp 9), type := 0, pos := "clock.go:84", after := #[{ on := 0, ground := Ground.data }, { on := 0, ground := Ground.phase }, { on := 1, ground := Ground.phase }, { on := 2, ground := Ground.phase }, { on := 3, ground := Ground.phase }, { on := 4, ground := Ground.phase }, { on := 5, ground := Ground.phase }, { on := 6, ground := Ground.phase }, { on := 7, ground := Ground.phase }], guard := none } : Oper)) (v := ?_) rfl (by kernel_rfl) (by kernel_rfl) (by kernel_rfl) (fun _ _ _ h => h) (Or.inl ⟨by rfl, ?_⟩) hHeld ?_
        rotate_left
        · ((intro w hSw; obtain ⟨s1, s2, s3, s4⟩ := hSw; go_simp); (try with_reducible rfl))
        (try simp only [Act.put, List.setIfInBounds_toArray, List.set_cons_zero, List.set_cons_succ])
        refine wpAnyH_take (i := 9) (oi := ({ dst := some 18, op := Op.fieldAddr 78 (Operand.tmp 17) 1, type := 0, pos := "clock.go:84", after := #[{ on := 8, ground := Ground.data }, { on := 0, ground := Ground.phase }, { on := 1, ground := Ground.phase }, { on := 2, ground := Ground.phase }, { on := 3, ground := Ground.phase }, { on := 4, ground := Ground.phase }, { on := 5, ground := Ground.phase }, { on := 6, ground := Ground.phase }, { on := 7, ground := Ground.phase }], guard := none } : Oper)) (v := ?_) rfl (by kernel_rfl) (by kernel_rfl) (by kernel_rfl) (fun _ _ _ h => h) (Or.inl ⟨by rfl, ?_⟩) hHeld ?_
        rotate_left
        · ((intro w hSw; obtain ⟨s1, s2, s3, s4⟩ := hSw; go_simp); (try with_reducible rfl))
        (try simp only [Act.put, List.setIfInBounds_toArray, List.set_cons_zero, List.set_cons_succ])
        refine wpAnyH_ready (rs := [10]) (by kernel_rfl) (by simp) ?_
        refine AllReadyH.cons (o := ({ dst := none, op := Op.store 22 (Operand.tmp 18) (Operand.tmp 16), type := 0, pos := "clock.go:84", after := #[{ on := 9, ground := Ground.data }, { on := 7, ground := Ground.data }, { on := 7, ground := Ground.chain }, { on := 0, ground := Ground.phase }, { on := 1, ground := Ground.phase }, { on := 2, ground := Ground.phase }, { on := 3, ground := Ground.phase }, { on := 4, ground := Ground.phase }, { on := 5, ground := Ground.phase }, { on := 6, ground := Ground.phase }, { on := 7, ground := Ground.phase }], guard := none } : Oper)) rfl (fun K hK => ?_) (AllReadyH.nil)
        obtain ⟨x1, x2, x3, x4, x5, f1, f2, f3, f4, f5, -⟩ := K3'.out.five
        go_simp
        clear x1 x2 x3 x4 x5 f1 f2 f3 f4 f5
        refine hK.out _ _ ?_ (fun hHeld => ?_)
        · exact ⟨(S3.out.far (p := ⟨g, 1, none⟩) (by have := HGL.out.1; simp; omega) _).four.1, (S3.out.far (p := ⟨g, 1, none⟩) (by have := HGL.out.1; simp; omega) _).four.2.1, (S3.out.far (p := ⟨g, 1, none⟩) (by have := HGL.out.1; simp; omega) _).four.2.2.1, (S3.out.far (p := ⟨g, 1, none⟩) (by have := HGL.out.1; simp; omega) _).four.2.2.2.1⟩
        clear hK K
        (try simp only [Act.put, List.setIfInBounds_toArray, List.set_cons_zero, List.set_cons_succ])
        refine wpAnyH_done (by kernel_rfl) ?_ _
        clear hHeld
        go_wp2_with fail
        go_meet
        case rel => exact F3.out _
    case rest =>
      obtain ⟨p, hh⟩ := hcut
      obtain ⟨w4, hw4⟩ : ∃ x, x = wc := ⟨_, rfl⟩
      subst hw4
      by_cases h8 : c.L.length = 8
      · -- @e
        obtain ⟨s0, M0, hM0⟩ : ∃ s0 M0, c.L = s0 :: M0 := by
          cases hc : c.L with
          | nil => rw [hc] at h8; simp at h8
          | cons s0 M0 => exact ⟨s0, M0, rfl⟩
        have hM8 : (M0 ++ [(a, gg, ss, cc)]).length = 8 := by rw [hM0] at h8; simp at h8 ⊢; omega
        have hpush : pushL c.L (a, gg, ss, cc) = M0 ++ [(a, gg, ss, cc)] := by
          unfold pushL
          rw [if_pos (by omega), hM0]
          rfl
        obtain ⟨⟨hk, ho, hnb⟩, hkp, hfr, hks, hns⟩ := hh.out
        dsimp only at hk ho
        have ho' : w4.ownsRow 0 33 4 p 9 (cells4 (s0 :: (M0 ++ [(a, gg, ss, cc)]))) := by
          have e1 : (c.L ++ [(a, gg, ss, cc)]).length = 9 := by simp; omega
          rw [e1, hM0] at ho
          exact ho
        obtain ⟨b, cap, rfl⟩ : ∃ b cap, p = .slice (some ⟨b, 0, none⟩) 9 cap := by
          rcases ho'.2 with ⟨_, h0⟩ | ⟨b, cap, cur, e, _⟩
          · cases h0
          · exact ⟨b, cap, e⟩
        obtain ⟨x1, x2, x3, x4, x5, -⟩ := hk.five
        have CD := Lib.hid (del_any b cap s0 _ hM8 w4 ho')
        have PD : Hid (∀ W, w4.grownBy W (some b) → W.ownsRow 0 33 4 (.slice (some ⟨b, 0, none⟩) 8 cap) 8 (cells4 (M0 ++ [(a, gg, ss, cc)])) → Kept W g #[.int .i64 c.rho, .slice (some ⟨b, 0, none⟩) 9 cap, .int .i64 c.need, .int .i64 c.streak, .bool c.held] 78 ∧ (CkO (W.setCell ⟨g, 1, none⟩ (.slice (some ⟨b, 0, none⟩) 8 cap)) g (.slice (some ⟨b, 0, none⟩) 8 cap) { c with L := pushL c.L (a, gg, ss, cc) } ∧ KpC g v w (W.setCell ⟨g, 1, none⟩ (.slice (some ⟨b, 0, none⟩) 8 cap)) ∧ Fr v (.slice (some ⟨b, 0, none⟩) 8 cap) w ∧ Kept (W.setCell ⟨g, 1, none⟩ (.slice (some ⟨b, 0, none⟩) 8 cap)) w.heap.size #[.int .i64 a, .int .i64 gg, .int .i64 ss, .int .i64 cc] 33)) := Lib.hid (by
          intro W hg ho2
          have k2 := kept_grown hk hg (fun e => hnb e)
          have nb : (Value.slice (some ⟨b, 0, none⟩) 8 cap).ownBlock ≠ some g := hnb
          refine ⟨k2, ?_, ?_, hfr, ?_⟩
          · rw [hpush]
            exact CkO.setRow k2 hM8 ho2 nb
          · exact (hkp.trans hfr (KpC.grown (v := .slice (some ⟨b, 0, none⟩) 9 cap) hg)).set 1 _
          · refine (kept_grown hks hg fun e => ?_).far (by have := HGL.out.1; simp; omega) _
            exact hns e)
        have NB5 : Hid ((Value.slice (some ⟨b, 0, none⟩) 8 cap).ownBlock ≠ some w.heap.size) := Lib.hid hns
        clear hh ho ho' hk hnb hkp hfr hks hns hpush hM8 hM0 h8 B1 K1 H1
        go_wp2_with fail
        refine CD.out.mono ?_
        rintro _ w5 ⟨rfl, o5, g5⟩
        obtain ⟨k5, P5'⟩ := PD.out w5 g5 o5
        have P5'' := Lib.hid P5'
        obtain ⟨y1, y2, y3, y4, y5, f1, f2, f3, f4, f5, -⟩ := k5.five
        clear P5' k5 o5 g5 PD CD x1 x2 x3 x4 x5
        go_upto_region 6 with fail
        generalize hp5 : Value.slice (some ⟨b, 0, none⟩) 8 cap = p5 at *
        generalize w5.setCell ⟨g, 1, none⟩ p5 = W5 at *
        have P5 := P5''
        clear P5'' y1 y2 y3 y4 y5 f1 f2 f3 f4 f5 hp5
        obtain ⟨z1, z2, z3, z4, -⟩ := P5.out.2.2.2.four
        obtain ⟨hL1, hL8⟩ := pushL_len (s := (a, gg, ss, cc)) HLL.out
        have hlast := Lib.hid (pushL_last (s := (a, gg, ss, cc)) HLL.out)
        have RES : Hid (AddOut g v c (a, gg, ss, cc) w = AddOut g v c (a, gg, ss, cc) w ∧ (agreeB (gapsS (pushL c.L (a, gg, ss, cc)) ss c.rho) = true → addC c (a, gg, ss, cc) = (0, { c with L := pushL c.L (a, gg, ss, cc), held := upH c, streak := upS c.streak })) ∧ (agreeB (gapsS (pushL c.L (a, gg, ss, cc)) ss c.rho) = false → addC c (a, gg, ss, cc) = (21, { c with held := true, streak := 0, L := if atE (a, gg, ss, cc) ss c.rho = 0 then [(a, gg, ss, cc)] else [] }))) := Lib.hid ⟨rfl, fun h => addC_yes HR.out h, fun h => addC_un HR.out h⟩
        generalize pushL c.L (a, gg, ss, cc) = L1 at *
        have CI := Lib.hid (iv_any g p5 { c with L := L1 } ss W5 P5.out.1 (by show L1.length ≤ 1000; omega))
        (try dsimp only at CI)
        have HL8 := Lib.hid (And.intro hL1 hL8)
        clear hL1 hL8
        go_wp2_with fail
        refine CI.out.mono ?_
        rintro _ w6 ⟨a6, c6, rfl, o6, b6⟩
        (try dsimp only at o6)
        obtain ⟨a6', c6', e6, -, -, -, hn6, p6⟩ := PairRow.own o6
        cases e6
        have CG := Lib.hid (agree_any a6 c6 (gapsS L1 ss c.rho) w6 p6 (by rw [gapsS_len]; have := HL8.out; omega))
        rw [gapsS_len] at CG
        obtain ⟨ag, hag⟩ : ∃ ag, agreeB (gapsS L1 ss c.rho) = ag := ⟨_, rfl⟩
        rw [hag] at CG RES
        have P6 : Hid (CkO w6 g p5 { c with L := L1 } ∧ KpC g v w w6 ∧ Fr v p5 w ∧ Kept w6 w.heap.size #[.int .i64 a, .int .i64 gg, .int .i64 ss, .int .i64 cc] 33) := Lib.hid ⟨P5.out.1.below b6, P5.out.2.1.step b6, P5.out.2.2.1, P5.out.2.2.2.next b6⟩
        have O6 := Lib.hid o6
        have G6 := Lib.hid P5.out.1.lt
        clear o6 b6 p6 hag CI P5 z1 z2 z3 z4 hn6
        go_wp2_with fail
        refine CG.out.mono ?_
        rintro _ w7 ⟨rfl, b7⟩
        have P7 : Hid (CkO w7 g p5 { c with L := L1 } ∧ KpC g v w w7 ∧ Fr v p5 w ∧ Kept w7 w.heap.size #[.int .i64 a, .int .i64 gg, .int .i64 ss, .int .i64 cc] 33) := Lib.hid ⟨P6.out.1.below b7, P6.out.2.1.step b7, P6.out.2.2.1, P6.out.2.2.2.next b7⟩
        have O7 := Lib.hid (owns_below O6.out b7)
        clear b7 P6 O6 CG
        cases ag
        · have RE := Lib.hid (RES.out.2.2 rfl)
          clear RES
          go_wp2_with fail
          refine (disagreed_any g p5 _ w7 P7.out.1).mono ?_
          rintro _ w8 ⟨rfl, h8', k8⟩
          have P8 : Hid (CkO w8 g p5 { c with L := L1, held := true, streak := 0 } ∧ KpC g v w w8 ∧ Kept w8 w.heap.size #[.int .i64 a, .int .i64 gg, .int .i64 ss, .int .i64 cc] 33) := Lib.hid ⟨h8', P7.out.2.1.trans P7.out.2.2.1 k8, P7.out.2.2.2.kpc k8 (by have := HGL.out.1; omega) NB5.out⟩
          have nr : ∀ r, (Value.slice a6 L1.length c6).ownBlock = some r → W5.heap.size ≤ r := fun r hr => (O7.out.lt r hr).1
          have O8 : Hid (w8.ownsRow W5.heap.size 39 2 (.slice a6 L1.length c6) L1.length (cells2 (gapsS L1 ss c.rho)) ∧ (Value.slice a6 L1.length c6).ownBlock ≠ some g) := Lib.hid ⟨owns_kpc O7.out k8 (fun e => by have := nr _ e; have := G6.out.1; omega) (fun k hk e => by have := nr _ e; have := G6.out.2 _ hk; omega), fun e => by have := nr _ e; have := G6.out.1; omega⟩
          clear h8' k8 P7 O7 nr
          obtain ⟨W9, hW9⟩ : ∃ W9, w8.setCell ⟨g, 1, none⟩ (.slice none 0 0) = W9 := ⟨_, rfl⟩
          have P9 : Hid (CkO W9 g (.slice none 0 0) { c with L := [], held := true, streak := 0 } ∧ KpC g v w W9 ∧ Kept W9 w.heap.size #[.int .i64 a, .int .i64 gg, .int .i64 ss, .int .i64 cc] 33) := Lib.hid (by
            rw [← hW9]
            exact ⟨CkO.setRow (c := { c with held := true, streak := 0 }) P8.out.1.1 (L := []) rfl (World.ownsRow_nil _ _ _ _) (by simp [Value.ownBlock]), P8.out.2.1.set 1 _, P8.out.2.2.far (by have := HGL.out.1; simp; omega) _⟩)
          have O9 : Hid (W9.ownsRow W5.heap.size 39 2 (.slice a6 L1.length c6) L1.length (cells2 (gapsS L1 ss c.rho))) := Lib.hid (by rw [← hW9]; exact owns_set O8.out.1 O8.out.2)
          have HW9 := Lib.hid hW9
          obtain ⟨x1, x2, x3, x4, x5, f1, f2, f3, f4, f5, -⟩ := P8.out.1.1.five
          clear hW9 O8
          go_upto_region 12 with fail
          rw [HW9.out]
          obtain ⟨a6', c6', e6, -, -, -, -, r9⟩ := PairRow.own O9.out
          cases e6
          obtain ⟨m, hm⟩ : ∃ m, L1.length = m + 1 := ⟨L1.length - 1, by have := HL8.out.1; omega⟩
          obtain ⟨b9, off9, rfl, q1, q2⟩ := r9 m (by rw [gapsS_len]; omega)
          have hgd : (gapsS L1 ss c.rho).getD m (0, 0) = gapS (a, gg, ss, cc) ss c.rho := by
            have h1 := hlast.out
            rw [hm] at h1
            rw [show m + 1 - 1 = m by omega] at h1
            unfold gapsS
            rw [List.getD_eq_getElem?_getD, List.getElem?_map]
            rw [List.getD_eq_getElem?_getD, List.getElem?_eq_getElem (by omega)] at h1
            rw [List.getElem?_eq_getElem (by omega)]
            simp only [Option.getD_some, Option.map_some] at h1 ⊢
            rw [h1]
          rw [hgd] at q1 q2
          have hrt := gapS_right (s := (a, gg, ss, cc)) (t := ss) (r := c.rho)
          generalize gapS (a, gg, ss, cc) ss c.rho = gz at *
          obtain ⟨lo, hi'⟩ := gz
          dsimp only at q1 q2 hrt
          have CW := Lib.hid (right_any lo hi' W9)
          rw [hrt] at CW
          have hm8 : m ≤ 7 := by have := HL8.out.2; omega
          have wm : wrap64 (((m + 1 : Nat) : Int) - 1) = (m : Int) := by rw [IntWalk.wrap64_in _ (by omega)]; omega
          have hi0 : (0 : Int) ≤ (m : Int) := by omega
          have hi1 : (m : Int) < ((m + 1 : Nat) : Int) := by omega
          rw [hm]
          obtain ⟨N, hN⟩ : ∃ N : Nat, m + 1 = N := ⟨_, rfl⟩
          obtain ⟨NI, hNI⟩ : ∃ NI : Int, (N : Int) = NI := ⟨_, rfl⟩
          rw [hN] at wm hi1
          rw [hNI] at wm hi1
          rw [hN]
          clear hgd hrt r9 hm hm8 x1 x2 x3 x4 x5 f1 f2 f3 f4 f5 hN
          by_cases h0 : atE (a, gg, ss, cc) ss c.rho = 0
          · rw [decide_eq_true h0] at CW
            rw [if_pos h0] at RE
            clear h0
            go_wp2_with fail
            refine CW.out.mono ?_
            rintro _ w10 ⟨rfl, b10⟩
            have P10 : Hid (CkO w10 g (.slice none 0 0) { c with L := [], held := true, streak := 0 } ∧ KpC g v w w10 ∧ Kept w10 w.heap.size #[.int .i64 a, .int .i64 gg, .int .i64 ss, .int .i64 cc] 33) := Lib.hid ⟨P9.out.1.below b10, P9.out.2.1.step b10, P9.out.2.2.next b10⟩
            obtain ⟨z1, z2, z3, z4, -⟩ := P10.out.2.2.four
            obtain ⟨WB, hWB⟩ : ∃ WB, w10.alloc (.cells #[.int .i64 a, .int .i64 gg, .int .i64 ss, .int .i64 cc] 33) = WB := ⟨_, rfl⟩
            have KB : CkO WB g (.slice none 0 0) { c with L := [], held := true, streak := 0 } := by rw [← hWB]; exact P10.out.1.below (one_alloc _ _)
            have OB : WB.ownsRow 0 33 4 (.slice (some ⟨w10.heap.size, 0, none⟩) 1 1) 1 (cells4 [(a, gg, ss, cc)]) := by
              rw [← hWB, cells4_one]
              exact World.ownsRow_lit w10 #[.int .i64 a, .int .i64 gg, .int .i64 ss, .int .i64 cc] 1 (Nat.zero_le _) (by unfold maxLen; omega) rfl
            have FF : Hid (AddOut g v c (a, gg, ss, cc) w (.returned (.int .i64 21)) (WB.setCell ⟨g, 1, none⟩ (.slice (some ⟨w10.heap.size, 0, none⟩) 1 1))) := Lib.hid ⟨_, by rw [RE.out], by
              rw [RE.out]
              exact CkO.setRow (c := { c with held := true, streak := 0 }) KB.1 (L := [(a, gg, ss, cc)]) rfl OB (fun e => by
                have h1 : w10.heap.size = g := by simpa [Value.ownBlock] using e
                have h2 := P10.out.1.1.lt
                omega), (by rw [← hWB]; exact (kpc_alloc P10.out.2.1 _).set 1 _), fun k hk => .inr (by
                have h1 : w10.heap.size = k := by simpa [Value.ownBlock] using hk
                have h2 := P10.out.2.1.size
                omega)⟩
            have HWB := Lib.hid hWB
            obtain ⟨y1, y2, y3, y4, y5, f1, f2, f3, f4, f5, -⟩ := KB.1.five
            clear hWB KB OB b10 P9 P10 RE
            go_wp2_with (rw [HWB.out])
            go_ret
            exact FF.out
          · rw [decide_eq_false h0] at CW
            rw [if_neg h0] at RE
            clear h0
            go_wp2_with fail
            refine CW.out.mono ?_
            rintro _ w10 ⟨rfl, b10⟩
            have FF : Hid (AddOut g v c (a, gg, ss, cc) w (.returned (.int .i64 21)) w10) := Lib.hid ⟨.slice none 0 0, by rw [RE.out], by rw [RE.out]; exact P9.out.1.below b10, P9.out.2.1.step b10, fun k hk => by simp [Value.ownBlock] at hk⟩
            clear b10 P9 RE
            go_wp2
            go_ret
            exact FF.out
        · have RE := Lib.hid (RES.out.2.1 rfl)
          clear RES
          go_wp2_with fail
          refine (agreed_any g p5 _ w7 P7.out.1 HS.out).mono ?_
          rintro _ w8 ⟨rfl, h8', k8⟩
          have FF : Hid (AddOut g v c (a, gg, ss, cc) w (.returned (.int .i64 0)) w8) := Lib.hid ⟨p5, by rw [RE.out], by rw [RE.out]; exact h8', P7.out.2.1.trans P7.out.2.2.1 k8, P7.out.2.2.1⟩
          clear h8' k8 RE P7 O7
          go_wp2
          go_ret
          exact FF.out
      · have hn : (c.L ++ [(a, gg, ss, cc)]).length ≤ 8 := by have := HLL.out; simp; omega
        have hpush : pushL c.L (a, gg, ss, cc) = c.L ++ [(a, gg, ss, cc)] := by
          unfold pushL
          rw [if_neg (by simp at hn; omega)]
        have P5 : Hid (CkO w4 g p { c with L := pushL c.L (a, gg, ss, cc) } ∧ KpC g v w w4 ∧ Fr v p w ∧ Kept w4 w.heap.size #[.int .i64 a, .int .i64 gg, .int .i64 ss, .int .i64 cc] 33) := Lib.hid (by rw [hpush]; exact ⟨hh.out.1, hh.out.2.1, hh.out.2.2.1, hh.out.2.2.2.1⟩)
        have NB5 : Hid (p.ownBlock ≠ some w.heap.size) := Lib.hid hh.out.2.2.2.2
        obtain ⟨a1, n1, c1, rfl, hn1⟩ : ∃ a1 n1 c1, p = .slice a1 n1 c1 ∧ n1 ≤ 8 := by
          obtain ⟨a1, c1, e, -⟩ := QuadRow.own hh.out.1.2.1
          exact ⟨a1, _, c1, e, hn⟩
        obtain ⟨x1, x2, x3, x4, x5, -⟩ := P5.out.1.1.five
        have hni : ¬ (8 : Int) < (n1 : Int) := by omega
        clear hh hpush hn hn1 h8 B1 K1 H1
        go_upto_region 6 with fail
        generalize hp5 : Value.slice a1 n1 c1 = p5 at *
        obtain ⟨W5, hW5⟩ : ∃ x, x = w4 := ⟨_, rfl⟩
        subst hW5
        clear x1 x2 x3 x4 x5 hni hp5
        obtain ⟨z1, z2, z3, z4, -⟩ := P5.out.2.2.2.four
        obtain ⟨hL1, hL8⟩ := pushL_len (s := (a, gg, ss, cc)) HLL.out
        have hlast := Lib.hid (pushL_last (s := (a, gg, ss, cc)) HLL.out)
        have RES : Hid (AddOut g v c (a, gg, ss, cc) w = AddOut g v c (a, gg, ss, cc) w ∧ (agreeB (gapsS (pushL c.L (a, gg, ss, cc)) ss c.rho) = true → addC c (a, gg, ss, cc) = (0, { c with L := pushL c.L (a, gg, ss, cc), held := upH c, streak := upS c.streak })) ∧ (agreeB (gapsS (pushL c.L (a, gg, ss, cc)) ss c.rho) = false → addC c (a, gg, ss, cc) = (21, { c with held := true, streak := 0, L := if atE (a, gg, ss, cc) ss c.rho = 0 then [(a, gg, ss, cc)] else [] }))) := Lib.hid ⟨rfl, fun h => addC_yes HR.out h, fun h => addC_un HR.out h⟩
        generalize pushL c.L (a, gg, ss, cc) = L1 at *
        have CI := Lib.hid (iv_any g p5 { c with L := L1 } ss W5 P5.out.1 (by show L1.length ≤ 1000; omega))
        (try dsimp only at CI)
        have HL8 := Lib.hid (And.intro hL1 hL8)
        clear hL1 hL8
        go_wp2_with fail
        refine CI.out.mono ?_
        rintro _ w6 ⟨a6, c6, rfl, o6, b6⟩
        (try dsimp only at o6)
        obtain ⟨a6', c6', e6, -, -, -, hn6, p6⟩ := PairRow.own o6
        cases e6
        have CG := Lib.hid (agree_any a6 c6 (gapsS L1 ss c.rho) w6 p6 (by rw [gapsS_len]; have := HL8.out; omega))
        rw [gapsS_len] at CG
        obtain ⟨ag, hag⟩ : ∃ ag, agreeB (gapsS L1 ss c.rho) = ag := ⟨_, rfl⟩
        rw [hag] at CG RES
        have P6 : Hid (CkO w6 g p5 { c with L := L1 } ∧ KpC g v w w6 ∧ Fr v p5 w ∧ Kept w6 w.heap.size #[.int .i64 a, .int .i64 gg, .int .i64 ss, .int .i64 cc] 33) := Lib.hid ⟨P5.out.1.below b6, P5.out.2.1.step b6, P5.out.2.2.1, P5.out.2.2.2.next b6⟩
        have O6 := Lib.hid o6
        have G6 := Lib.hid P5.out.1.lt
        clear o6 b6 p6 hag CI P5 z1 z2 z3 z4 hn6
        go_wp2_with fail
        refine CG.out.mono ?_
        rintro _ w7 ⟨rfl, b7⟩
        have P7 : Hid (CkO w7 g p5 { c with L := L1 } ∧ KpC g v w w7 ∧ Fr v p5 w ∧ Kept w7 w.heap.size #[.int .i64 a, .int .i64 gg, .int .i64 ss, .int .i64 cc] 33) := Lib.hid ⟨P6.out.1.below b7, P6.out.2.1.step b7, P6.out.2.2.1, P6.out.2.2.2.next b7⟩
        have O7 := Lib.hid (owns_below O6.out b7)
        clear b7 P6 O6 CG
        cases ag
        · have RE := Lib.hid (RES.out.2.2 rfl)
          clear RES
          go_wp2_with fail
          refine (disagreed_any g p5 _ w7 P7.out.1).mono ?_
          rintro _ w8 ⟨rfl, h8', k8⟩
          have P8 : Hid (CkO w8 g p5 { c with L := L1, held := true, streak := 0 } ∧ KpC g v w w8 ∧ Kept w8 w.heap.size #[.int .i64 a, .int .i64 gg, .int .i64 ss, .int .i64 cc] 33) := Lib.hid ⟨h8', P7.out.2.1.trans P7.out.2.2.1 k8, P7.out.2.2.2.kpc k8 (by have := HGL.out.1; omega) NB5.out⟩
          have nr : ∀ r, (Value.slice a6 L1.length c6).ownBlock = some r → W5.heap.size ≤ r := fun r hr => (O7.out.lt r hr).1
          have O8 : Hid (w8.ownsRow W5.heap.size 39 2 (.slice a6 L1.length c6) L1.length (cells2 (gapsS L1 ss c.rho)) ∧ (Value.slice a6 L1.length c6).ownBlock ≠ some g) := Lib.hid ⟨owns_kpc O7.out k8 (fun e => by have := nr _ e; have := G6.out.1; omega) (fun k hk e => by have := nr _ e; have := G6.out.2 _ hk; omega), fun e => by have := nr _ e; have := G6.out.1; omega⟩
          clear h8' k8 P7 O7 nr
          obtain ⟨W9, hW9⟩ : ∃ W9, w8.setCell ⟨g, 1, none⟩ (.slice none 0 0) = W9 := ⟨_, rfl⟩
          have P9 : Hid (CkO W9 g (.slice none 0 0) { c with L := [], held := true, streak := 0 } ∧ KpC g v w W9 ∧ Kept W9 w.heap.size #[.int .i64 a, .int .i64 gg, .int .i64 ss, .int .i64 cc] 33) := Lib.hid (by
            rw [← hW9]
            exact ⟨CkO.setRow (c := { c with held := true, streak := 0 }) P8.out.1.1 (L := []) rfl (World.ownsRow_nil _ _ _ _) (by simp [Value.ownBlock]), P8.out.2.1.set 1 _, P8.out.2.2.far (by have := HGL.out.1; simp; omega) _⟩)
          have O9 : Hid (W9.ownsRow W5.heap.size 39 2 (.slice a6 L1.length c6) L1.length (cells2 (gapsS L1 ss c.rho))) := Lib.hid (by rw [← hW9]; exact owns_set O8.out.1 O8.out.2)
          have HW9 := Lib.hid hW9
          obtain ⟨x1, x2, x3, x4, x5, f1, f2, f3, f4, f5, -⟩ := P8.out.1.1.five
          clear hW9 O8
          go_upto_region 12 with fail
          rw [HW9.out]
          obtain ⟨a6', c6', e6, -, -, -, -, r9⟩ := PairRow.own O9.out
          cases e6
          obtain ⟨m, hm⟩ : ∃ m, L1.length = m + 1 := ⟨L1.length - 1, by have := HL8.out.1; omega⟩
          obtain ⟨b9, off9, rfl, q1, q2⟩ := r9 m (by rw [gapsS_len]; omega)
          have hgd : (gapsS L1 ss c.rho).getD m (0, 0) = gapS (a, gg, ss, cc) ss c.rho := by
            have h1 := hlast.out
            rw [hm] at h1
            rw [show m + 1 - 1 = m by omega] at h1
            unfold gapsS
            rw [List.getD_eq_getElem?_getD, List.getElem?_map]
            rw [List.getD_eq_getElem?_getD, List.getElem?_eq_getElem (by omega)] at h1
            rw [List.getElem?_eq_getElem (by omega)]
            simp only [Option.getD_some, Option.map_some] at h1 ⊢
            rw [h1]
          rw [hgd] at q1 q2
          have hrt := gapS_right (s := (a, gg, ss, cc)) (t := ss) (r := c.rho)
          generalize gapS (a, gg, ss, cc) ss c.rho = gz at *
          obtain ⟨lo, hi'⟩ := gz
          dsimp only at q1 q2 hrt
          have CW := Lib.hid (right_any lo hi' W9)
          rw [hrt] at CW
          have hm8 : m ≤ 7 := by have := HL8.out.2; omega
          have wm : wrap64 (((m + 1 : Nat) : Int) - 1) = (m : Int) := by rw [IntWalk.wrap64_in _ (by omega)]; omega
          have hi0 : (0 : Int) ≤ (m : Int) := by omega
          have hi1 : (m : Int) < ((m + 1 : Nat) : Int) := by omega
          rw [hm]
          obtain ⟨N, hN⟩ : ∃ N : Nat, m + 1 = N := ⟨_, rfl⟩
          obtain ⟨NI, hNI⟩ : ∃ NI : Int, (N : Int) = NI := ⟨_, rfl⟩
          rw [hN] at wm hi1
          rw [hNI] at wm hi1
          rw [hN]
          clear hgd hrt r9 hm hm8 x1 x2 x3 x4 x5 f1 f2 f3 f4 f5 hN
          by_cases h0 : atE (a, gg, ss, cc) ss c.rho = 0
          · rw [decide_eq_true h0] at CW
            rw [if_pos h0] at RE
            clear h0
            go_wp2_with fail
            refine CW.out.mono ?_
            rintro _ w10 ⟨rfl, b10⟩
            have P10 : Hid (CkO w10 g (.slice none 0 0) { c with L := [], held := true, streak := 0 } ∧ KpC g v w w10 ∧ Kept w10 w.heap.size #[.int .i64 a, .int .i64 gg, .int .i64 ss, .int .i64 cc] 33) := Lib.hid ⟨P9.out.1.below b10, P9.out.2.1.step b10, P9.out.2.2.next b10⟩
            obtain ⟨z1, z2, z3, z4, -⟩ := P10.out.2.2.four
            obtain ⟨WB, hWB⟩ : ∃ WB, w10.alloc (.cells #[.int .i64 a, .int .i64 gg, .int .i64 ss, .int .i64 cc] 33) = WB := ⟨_, rfl⟩
            have KB : CkO WB g (.slice none 0 0) { c with L := [], held := true, streak := 0 } := by rw [← hWB]; exact P10.out.1.below (one_alloc _ _)
            have OB : WB.ownsRow 0 33 4 (.slice (some ⟨w10.heap.size, 0, none⟩) 1 1) 1 (cells4 [(a, gg, ss, cc)]) := by
              rw [← hWB, cells4_one]
              exact World.ownsRow_lit w10 #[.int .i64 a, .int .i64 gg, .int .i64 ss, .int .i64 cc] 1 (Nat.zero_le _) (by unfold maxLen; omega) rfl
            have FF : Hid (AddOut g v c (a, gg, ss, cc) w (.returned (.int .i64 21)) (WB.setCell ⟨g, 1, none⟩ (.slice (some ⟨w10.heap.size, 0, none⟩) 1 1))) := Lib.hid ⟨_, by rw [RE.out], by
              rw [RE.out]
              exact CkO.setRow (c := { c with held := true, streak := 0 }) KB.1 (L := [(a, gg, ss, cc)]) rfl OB (fun e => by
                have h1 : w10.heap.size = g := by simpa [Value.ownBlock] using e
                have h2 := P10.out.1.1.lt
                omega), (by rw [← hWB]; exact (kpc_alloc P10.out.2.1 _).set 1 _), fun k hk => .inr (by
                have h1 : w10.heap.size = k := by simpa [Value.ownBlock] using hk
                have h2 := P10.out.2.1.size
                omega)⟩
            have HWB := Lib.hid hWB
            obtain ⟨y1, y2, y3, y4, y5, f1, f2, f3, f4, f5, -⟩ := KB.1.five
            clear hWB KB OB b10 P9 P10 RE
            go_wp2_with (rw [HWB.out])
            go_ret
            exact FF.out
          · rw [decide_eq_false h0] at CW
            rw [if_neg h0] at RE
            clear h0
            go_wp2_with fail
            refine CW.out.mono ?_
            rintro _ w10 ⟨rfl, b10⟩
            have FF : Hid (AddOut g v c (a, gg, ss, cc) w (.returned (.int .i64 21)) w10) := Lib.hid ⟨.slice none 0 0, by rw [RE.out], by rw [RE.out]; exact P9.out.1.below b10, P9.out.2.1.step b10, fun k hk => by simp [Value.ownBlock] at hk⟩
            clear b10 P9 RE
            go_wp2
            go_ret
            exact FF.out
        · have RE := Lib.hid (RES.out.2.1 rfl)
          clear RES
          go_wp2_with fail
          refine (agreed_any g p5 _ w7 P7.out.1 HS.out).mono ?_
          rintro _ w8 ⟨rfl, h8', k8⟩
          have FF : Hid (AddOut g v c (a, gg, ss, cc) w (.returned (.int .i64 0)) w8) := Lib.hid ⟨p5, by rw [RE.out], by rw [RE.out]; exact h8', P7.out.2.1.trans P7.out.2.2.1 k8, P7.out.2.2.1⟩
          clear h8' k8 RE P7 O7
          go_wp2
          go_ret
          exact FF.out
end Go.Proofs.Ytflplliiamodhaa
