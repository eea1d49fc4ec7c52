import Derived.Test.YtflplliiamodhaaZClkF
/- slices.Delete of a row of nine samples' first one. -/
namespace Go.Proofs.Ytflplliiamodhaa
open Go.RowKit
set_option linter.unusedVariables false
set_option linter.unusedSimpArgs false

theorem slice_hd (a : Option Addr) (n c cut : Nat) (hc : cut ≤ c) (W : World) : (Instr.slice 22 (.slice a n c) none (some (.int .i64 (cut : Int))) none).run Try.prog W = .ok (.slice a cut c) W := by
  have h1 : (0 : Int) ≤ (cut : Int) := by omega
  have h2 : (cut : Int) ≤ (c : Int) := by omega
  simp [go_sem, h1, h2, sliced, Try.sizeOf33]
theorem slice_tl (a : Option Addr) (n c cut : Nat) (hc : cut ≤ n) (W : World) : (Instr.slice 22 (.slice a n c) (some (.int .i64 (cut : Int))) none none).run Try.prog W = .ok (.slice (if c = cut then a else a.map (·.add (cut * 4))) (n - cut) (c - cut)) W := by
  have h1 : (0 : Int) ≤ (cut : Int) := by omega
  have h2 : (cut : Int) ≤ (n : Int) := by omega
  simp [go_sem, h1, h2, sliced, Try.sizeOf33]
theorem slice_md (a : Option Addr) (n c lo hi : Nat) (h : lo ≤ hi) (hc : hi ≤ c) (W : World) : (Instr.slice 22 (.slice a n c) (some (.int .i64 (lo : Int))) (some (.int .i64 (hi : Int))) none).run Try.prog W = .ok (.slice (if c = lo then a else a.map (·.add (lo * 4))) (hi - lo) (c - lo)) W := by
  have h1 : (0 : Int) ≤ (lo : Int) := by omega
  have h2 : (lo : Int) ≤ (hi : Int) := by omega
  have h3 : (hi : Int) ≤ (c : Int) := by omega
  simp [go_sem, h1, h2, h3, sliced, Try.sizeOf33]
theorem slice_3 (b n c : Nat) (hn : 1 ≤ n) (hc : n ≤ c) (W : World) : (Instr.slice 22 (.slice (some ⟨b, 0, none⟩) n c) (some (.int .i64 0)) (some (.int .i64 1)) (some (.int .i64 (n : Int)))).run Try.prog W = .ok (.slice (some ⟨b, 0, none⟩) 1 n) W := by
  have h2 : (1 : Int) ≤ (n : Int) := by omega
  have h3 : (n : Int) ≤ (c : Int) := by omega
  simp [go_sem, h2, h3, sliced, Try.sizeOf33, Addr.add]
def zero4 : List Value := [.int .i64 0, .int .i64 0, .int .i64 0, .int .i64 0]
theorem clear_one (w : World) (ty : TypeId) (b o c : Nat) (hc : ∀ j, j < 4 → (w.cell? ⟨b, o + j, none⟩).isSome = true) (hf : ∀ j, j < 4 → w.frozen? ⟨b, o + j, none⟩ = false) :
    (Builtin.clear_ #[22] ty #[.slice (some ⟨b, o, none⟩) 1 c]).run Try.prog w = .ok (.tuple #[]) (w.setCells b o zero4) := by
  have hst := run_storeCells_cells (P := Try.prog) b o zero4 0 w (by simpa [zero4] using hc) (by simpa [zero4] using hf) (by intro v hv; simp [zero4] at hv; subst hv; rfl)
  simp only [Nat.add_zero] at hst
  have hzc : (Builtin.zeroCells (Value.agg #[.int .i64 0, .int .i64 0, .int .i64 0, .int .i64 0]).cells 1).toList = zero4 := by
    first
      | rfl
      | (simp [Builtin.zeroCells, zero4, Value.cells, List.range_succ])
      | (apply List.ext_getElem? ; intro j; match j with | 0 => simp [Builtin.zeroCells, zero4, Value.cells] | 1 => simp [Builtin.zeroCells, zero4, Value.cells] | 2 => simp [Builtin.zeroCells, zero4, Value.cells] | 3 => simp [Builtin.zeroCells, zero4, Value.cells] | j + 4 => simp [Builtin.zeroCells, zero4, Value.cells])
  simp [Builtin.clear_, run_underlying Try.underlying22, Try.zeroValue33, hzc, hst]
theorem owns_spare {w : World} {base e size g n cap j : Nat} {u : Value} {xs : List Value} (h : w.ownsRow base e size (.slice (some ⟨g, 0, none⟩) n cap) n xs) (hj : n * size ≤ j) : (w.setCell ⟨g, j, none⟩ u).ownsRow base e size (.slice (some ⟨g, 0, none⟩) n cap) n xs ∧ w.grownBy (w.setCell ⟨g, j, none⟩ u) (some g) := by
  have h1 := h.stored j u
  rw [List.set_eq_of_length_le (by rw [h.1]; exact hj)] at h1
  exact h1
theorem grown_step {w w' w'' : World} {row : Option Nat} (h : w.grownBy w' row) (h' : w'.grownBy w'' row) : w.grownBy w'' row :=
  ⟨h'.os.trans h.os, h'.tape.trans h.tape, h'.output.trans h.output, Nat.le_trans h.size h'.size, fun k hk hr => (h'.block k (Nat.lt_of_lt_of_le hk h.size) hr).trans (h.block k hk hr)⟩
def DelOut (b cap : Nat) (M : List Sm) (w : World) (e : Ending) (w' : World) : Prop := e = .returned (.slice (some ⟨b, 0, none⟩) 8 cap) ∧ w'.ownsRow 0 33 4 (.slice (some ⟨b, 0, none⟩) 8 cap) 8 (cells4 M) ∧ w.grownBy w' (some b)
theorem wp_appendRoom {P : Program} {o : Oper} {a : Act} {w : World} {K : Act → World → Prop} {Q : Exit → Act → World → Prop} (s x : Operand) (t : TypeId)
    (ho : o.op = .call { callee := .builtin .append, args := #[s, x], argTypes := #[t, t] })
    (e : TypeId) (i : TypeInfo) (ht : P.underlying t = some (.slice e)) (hi : P.info? e = some i)
    (g sLen sCap : Nat) (cur : Array Value) (hg : w.heap[g]? = some (.cells cur e (0, 0))) (hs : a.eval s = .slice (some ⟨g, 0, none⟩) sLen sCap)
    (ad : Addr) (m c : Nat) (news : List Value) (hx : a.eval x = .slice (some ad) m c) (hl : news.length = m * i.size) (hnews : ∀ j u, news[j]? = some u → w.cell? (ad.add j) = some u) (h1 : ∀ u ∈ news, u.oneCell' = true)
    (hroom : sLen + m ≤ sCap) (hfit : sLen * i.size + news.length ≤ cur.size)
    (h : K (a.put o.dst (.slice (some ⟨g, 0, none⟩) (sLen + m) sCap)) (w.setRow g (cur.toList.take (sLen * i.size) ++ news ++ cur.toList.drop (sLen * i.size + news.length)).toArray)) : o.wp P a w K Q := by
  have hr := run_append_room (P := P) w t o.type e i ht hi g sLen sCap cur hg ad m c news hl hnews h1 hroom hfit
  unfold Oper.wp execOp
  simp only [ho, resolve, invoke, builtin, Sem.run_bind, Sem.run_pure, Result.andThen_ok, List.map_toArray, List.map_cons, List.map_nil, hs, hx, hr]
  exact h
set_option maxHeartbeats 2000000 in
set_option maxRecDepth 100000 in
theorem del_any (b cap : Nat) (s : Sm) (M : List Sm) (hM : M.length = 8) (w : World) (h : w.ownsRow 0 33 4 (.slice (some ⟨b, 0, none⟩) 9 cap) 9 (cells4 (s :: M))) :
    Calls Try.prog 36 #[.slice (some ⟨b, 0, none⟩) 9 cap, .int .i64 0, .int .i64 1] w (DelOut b cap M w) := by
  obtain ⟨i0, hi, hz0, hz1, hz2⟩ := info_parts2 info_sm
  obtain ⟨hl, h2⟩ := h
  rcases h2 with ⟨h2, _⟩ | ⟨g, cap', cur, h2, -, hg, hnc, hcm, hcs, htake⟩
  · cases h2
  cases h2
  have hc9 : 9 ≤ cap := hnc
  have s3 : ∀ W, (Instr.slice 22 (.slice (some ⟨b, 0, none⟩) 9 cap) (some (.int .i64 0)) (some (.int .i64 1)) (some (.int .i64 9))).run Try.prog W = .ok (.slice (some ⟨b, 0, none⟩) 1 9) W := fun W => slice_3 b 9 cap (by decide) hc9 W
  have s1 : ∀ W, (Instr.slice 22 (.slice (some ⟨b, 0, none⟩) 9 cap) none (some (.int .i64 0)) none).run Try.prog W = .ok (.slice (some ⟨b, 0, none⟩) 0 cap) W := fun W => slice_hd (some ⟨b, 0, none⟩) 9 cap 0 (by omega) W
  have s2 : ∀ W, (Instr.slice 22 (.slice (some ⟨b, 0, none⟩) 9 cap) (some (.int .i64 1)) none none).run Try.prog W = .ok (.slice (some ⟨b, 4, none⟩) 8 (cap - 1)) W := fun W => by
    have := slice_tl (some ⟨b, 0, none⟩) 9 cap 1 (by decide) W
    rw [if_neg (by omega)] at this
    exact this
  have s4 : ∀ W, (Instr.slice 22 (.slice (some ⟨b, 0, none⟩) 8 cap) (some (.int .i64 8)) (some (.int .i64 9)) none).run Try.prog W = .ok (.slice (some ⟨b, 32, none⟩) 1 (cap - 8)) W := fun W => by
    have := slice_md (some ⟨b, 0, none⟩) 8 cap 8 9 (by decide) (by omega) W
    rw [if_neg (by omega)] at this
    exact this
  have hcur : ∀ j, j < 36 → cur[j]? = (cells4 (s :: M))[j]? := fun j hj => by
    rw [← htake, List.getElem?_take, if_pos (by omega), Array.getElem?_toList]
  have hdr : (cells4 (s :: M)).drop 4 = cells4 M := by
    have : cells4 (s :: M) = smC s ++ cells4 M := by simp [cells4]
    rw [this]
    exact List.drop_left (l₁ := smC s)
  have hnews : ∀ j u, (cells4 M)[j]? = some u → w.drew.cell? ((⟨b, 4, none⟩ : Addr).add j) = some u := fun j u hj => by
    have hjl : j < 32 := by
      have := (List.getElem?_eq_some_iff.1 hj).1
      rw [cells4_len, hM] at this
      omega
    rw [Addr.add_lit]
    have : w.drew.cell? ⟨b, 4 + j, none⟩ = cur[4 + j]? := by
      show w.cell? ⟨b, 4 + j, none⟩ = _
      simp [World.cell?, hg]
    rw [this, hcur _ (by omega), ← hj, ← hdr, List.getElem?_drop]
  have hcs' : 36 ≤ cur.size := by rw [hcs]; omega
  obtain ⟨V, hV⟩ : ∃ V, w.drew.setRow b (cur.toList.take (0 * i0.size) ++ cells4 M ++ cur.toList.drop (0 * i0.size + (cells4 M).length)).toArray = V := ⟨_, rfl⟩
  have hlen : (cells4 M).length = 32 := by rw [cells4_len, hM]
  have hVb : V.heap[b]? = some (.cells (cells4 M ++ cur.toList.drop 32).toArray 33 (0, 0)) := by
    rw [← hV, setRow_heap w.drew b cur _ 33 _ hg, hlen]
    simp
  have OV : V.ownsRow 0 33 4 (.slice (some ⟨b, 0, none⟩) 8 cap) 8 (cells4 M) := by
    refine ⟨by rw [hlen], .inr ⟨b, cap, _, rfl, Nat.zero_le _, hVb, by omega, hcm, ?_, ?_⟩⟩
    · simp [hlen, hcs]; omega
    · simp only [List.toList_toArray]
      rw [show 8 * 4 = (cells4 M).length from hlen.symm]
      exact List.take_left
  have GV : w.grownBy V (some b) := by
    rw [← hV]
    exact ⟨rfl, rfl, rfl, by simp, fun k _ hk => setRow_other w.drew b k _ (fun e => hk (by rw [e]))⟩
  have hcl := clear_one V 0 b 32 (cap - 8) (fun j hj => by
    have : V.cell? ⟨b, 32 + j, none⟩ = (cells4 M ++ cur.toList.drop 32).toArray[32 + j]? := by simp [World.cell?, hVb]
    rw [this, List.getElem?_toArray, List.getElem?_append_right (by omega), hlen, List.getElem?_drop, Array.getElem?_toList, show 32 + (32 + j - 32) = 32 + j by omega, Array.getElem?_eq_getElem (by omega)]
    rfl) (fun j hj => OV.frozenAt _)
  have FIN : Hid (DelOut b cap M w (.returned (.slice (some ⟨b, 0, none⟩) 8 cap)) (V.setCells b 32 zero4)) := Lib.hid (by
    obtain ⟨o1, g1⟩ := owns_spare (j := 32) (u := .int .i64 0) OV (by decide)
    obtain ⟨o2, g2⟩ := owns_spare (j := 33) (u := .int .i64 0) o1 (by decide)
    obtain ⟨o3, g3⟩ := owns_spare (j := 34) (u := .int .i64 0) o2 (by decide)
    obtain ⟨o4, g4⟩ := owns_spare (j := 35) (u := .int .i64 0) o3 (by decide)
    exact ⟨rfl, o4, grown_step GV (grown_step g1 (grown_step g2 (grown_step g3 g4)))⟩)
  have HV := Lib.hid hV
  have HG : Hid (w.drew.heap[b]? = some (.cells cur 33 (0, 0))) := Lib.hid hg
  have HN := Lib.hid hnews
  have HF : Hid ((cells4 M).length = 8 * i0.size ∧ 0 * i0.size + (cells4 M).length ≤ cur.size) := Lib.hid (by rw [hz1, hlen]; exact ⟨rfl, by omega⟩)
  have HO : Hid (∀ u ∈ cells4 M, u.oneCell' = true) := Lib.hid fun u hu => cells4_one_cell hu
  have hroom : 0 + 8 ≤ cap := by omega
  clear hl hg hnc hcm hcs htake hcur hdr hnews hcs' hV hlen hVb OV GV hM
  go_enter Try.func36, Try.ntmps36
  go_upto_region 5 with fail
  refine wp_region_held_drew (S := fun w' => True) (by kernel_rfl) trivial (fun hHeld => ?_)
  refine wpAnyH_take (i := 0) (oi := ({ dst := some 20, op := Op.move (Operand.tmp 0), type := 22, pos := "slices.go:232", after := #[], guard := none } : Oper)) (v := ?_) rfl (by kernel_rfl) (by kernel_rfl) (by kernel_rfl) (fun _ _ _ h => h) (Or.inl ⟨by rfl, ?_⟩) hHeld ?_
  rotate_left
  · ((intro w hSw; (try dsimp only at hSw); go_simp); (try with_reducible rfl))
  (try simp only [Act.put, List.setIfInBounds_toArray, List.set_cons_zero, List.set_cons_succ])
  refine wpAnyH_take (i := 1) (oi := ({ dst := some 21, op := Op.move (Operand.tmp 1), type := 3, pos := "slices.go:232", after := #[], guard := none } : Oper)) (v := ?_) rfl (by kernel_rfl) (by kernel_rfl) (by kernel_rfl) (fun _ _ _ h => h) (Or.inl ⟨by rfl, ?_⟩) hHeld ?_
  rotate_left
  · ((intro w hSw; (try dsimp only at hSw); go_simp); (try with_reducible rfl))
  (try simp only [Act.put, List.setIfInBounds_toArray, List.set_cons_zero, List.set_cons_succ])
  refine wpAnyH_take (i := 2) (oi := ({ dst := some 22, op := Op.slice 22 (Operand.tmp 20) none (some (Operand.tmp 21)) none, type := 22, pos := "slices.go:232", after := #[{ on := 0, ground := Ground.data }, { on := 1, ground := Ground.data }], guard := none } : Oper)) (v := ?_) rfl (by kernel_rfl) (by kernel_rfl) (by kernel_rfl) (fun _ _ _ h => h) (Or.inl ⟨by rfl, ?_⟩) hHeld ?_
  rotate_left
  · ((intro w hSw; (try dsimp only at hSw); go_simp); (try with_reducible rfl))
  (try simp only [Act.put, List.setIfInBounds_toArray, List.set_cons_zero, List.set_cons_succ])
  refine wpAnyH_take (i := 3) (oi := ({ dst := some 23, op := Op.move (Operand.tmp 0), type := 22, pos := "slices.go:232", after := #[], guard := none } : Oper)) (v := ?_) rfl (by kernel_rfl) (by kernel_rfl) (by kernel_rfl) (fun _ _ _ h => h) (Or.inl ⟨by rfl, ?_⟩) hHeld ?_
  rotate_left
  · ((intro w hSw; (try dsimp only at hSw); go_simp); (try with_reducible rfl))
  (try simp only [Act.put, List.setIfInBounds_toArray, List.set_cons_zero, List.set_cons_succ])
  refine wpAnyH_take (i := 4) (oi := ({ dst := some 24, op := Op.move (Operand.tmp 2), type := 3, pos := "slices.go:232", after := #[], guard := none } : Oper)) (v := ?_) rfl (by kernel_rfl) (by kernel_rfl) (by kernel_rfl) (fun _ _ _ h => h) (Or.inl ⟨by rfl, ?_⟩) hHeld ?_
  rotate_left
  · ((intro w hSw; (try dsimp only at hSw); go_simp); (try with_reducible rfl))
  (try simp only [Act.put, List.setIfInBounds_toArray, List.set_cons_zero, List.set_cons_succ])
  refine wpAnyH_take (i := 5) (oi := ({ dst := some 25, op := Op.slice 22 (Operand.tmp 23) (some (Operand.tmp 24)) none none, type := 22, pos := "slices.go:232", after := #[{ on := 3, ground := Ground.data }, { on := 4, ground := Ground.data }], guard := none } : Oper)) (v := ?_) rfl (by kernel_rfl) (by kernel_rfl) (by kernel_rfl) (fun _ _ _ h => h) (Or.inl ⟨by rfl, ?_⟩) hHeld ?_
  rotate_left
  · ((intro w hSw; (try dsimp only at hSw); go_simp); (try with_reducible rfl))
  (try simp only [Act.put, List.setIfInBounds_toArray, List.set_cons_zero, List.set_cons_succ])
  refine wpAnyH_ready (rs := [6]) (by kernel_rfl) (by simp) ?_
  refine AllReadyH.cons (o := ({ dst := some 26, op := Op.call { callee := Callee.builtin Builtin.append, args := #[Operand.tmp 22, Operand.tmp 25], argTypes := #[22, 22] }, type := 22, pos := "slices.go:232", after := #[{ on := 2, ground := Ground.data }, { on := 5, ground := Ground.data }], guard := none } : Oper)) rfl (fun K hK => ?_) (AllReadyH.nil)
  rw [if_pos (by rfl)]
  refine wp_appendRoom _ _ 22 rfl 33 i0 Try.underlying22 hi b 0 cap cur HG.out rfl ⟨b, 4, none⟩ 8 (cap - 1) (cells4 M) rfl HF.out.1 HN.out HO.out hroom HF.out.2 ?_
  rw [HV.out]
  refine hK.out _ _ ?_ (fun hHeld => ?_)
  · trivial
  clear hK K
  (try simp only [Act.put, List.setIfInBounds_toArray, List.set_cons_zero, List.set_cons_succ])
  refine wpAnyH_take (i := 7) (oi := ({ dst := some 0, op := Op.assign (Operand.tmp 26), type := 22, pos := "slices.go:232", after := #[{ on := 6, ground := Ground.data }, { on := 6, ground := Ground.chain }, { on := 0, ground := Ground.phase }, { on := 1, ground := Ground.phase }, { on := 2, ground := Ground.phase }, { on := 3, ground := Ground.phase }, { on := 4, ground := Ground.phase }, { on := 5, ground := Ground.phase }, { on := 6, ground := Ground.phase }], guard := none } : Oper)) (v := ?_) rfl (by kernel_rfl) (by kernel_rfl) (by kernel_rfl) (fun _ _ _ h => h) (Or.inl ⟨by rfl, ?_⟩) hHeld ?_
  rotate_left
  · ((intro w hSw; (try dsimp only at hSw); go_simp); (try with_reducible rfl))
  (try simp only [Act.put, List.setIfInBounds_toArray, List.set_cons_zero, List.set_cons_succ])
  refine wpAnyH_done (by kernel_rfl) ?_ _
  clear hHeld
  go_wp2
  go_ret
  exact FIN.out
end Go.Proofs.Ytflplliiamodhaa
