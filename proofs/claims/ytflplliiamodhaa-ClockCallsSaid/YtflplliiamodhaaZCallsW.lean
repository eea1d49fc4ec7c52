import Derived.Test.YtflplliiamodhaaZRfF
/- ClockCalls, walked. Of gen_calls.py. -/
namespace Go.Proofs.Ytflplliiamodhaa
open Go.RowKit
set_option linter.unusedVariables false
set_option linter.unusedSimpArgs false

theorem calls_out (r tr t : Int) (x : Option Addr) (n xc : Nat) (w : World) (h : (60 : Int) < (n : Int)) :
    Calls Try.prog 3 #[.int .i64 r, .int .i64 tr, .slice x n xc, .int .i64 t] w fun e w' => e = .returned (.bool true) ∧ Below w.heap.size w w' := by
  go_enter Try.func3, Try.ntmps3
  go_wp2_with fail
  refine (alive_any _).mono ?_
  rintro _ w1 ⟨rfl, b1⟩
  have B1 := Lib.hid b1
  clear b1
  go_wp2
  go_ret
  exact ⟨rfl, B1.out⟩
theorem calls_no (r tr t : Int) (x : Option Addr) (n xc : Nat) (w : World) (h : ¬ (60 : Int) < (n : Int)) (hn : ¬ newOk r tr) :
    Calls Try.prog 3 #[.int .i64 r, .int .i64 tr, .slice x n xc, .int .i64 t] w fun e w' => e = .returned (.bool true) ∧ Below w.heap.size w w' := by
  have CN := Lib.hid fun W => cknew_no r tr W hn
  have RN := Lib.hid fun W => rknew_no r tr W hn
  clear hn
  go_enter Try.func3, Try.ntmps3
  go_wp2_with fail
  refine (alive_any _).mono ?_
  rintro _ w1 ⟨rfl, b1⟩
  have B1 := Lib.hid b1
  clear b1
  go_wp2_with fail
  refine (CN.out _).mono ?_
  rintro _ w2 ⟨rfl, b2⟩
  have B2 := Lib.hid (B1.out.trans (b2.mono B1.out.size))
  clear b2
  go_wp2_with fail
  refine (RN.out _).mono ?_
  rintro _ w3 ⟨rfl, b3⟩
  have B3 := Lib.hid (B2.out.trans (b3.mono B2.out.size))
  clear b3
  go_wp2
  go_ret
  exact ⟨by rfl, B3.out⟩
theorem RkO.kpc {W W' : World} {g g' cap : Nat} {v : Value} {a : Option Addr} {c : Ck} (h : RkO W g' a cap c) (hk : KpC g v W W') (hA : Ap W g v g') (ha : ∀ b o, a = some ⟨b, o, none⟩ → c.L.length ≠ 0 → Ap W g v b) : RkO W' g' a cap c := by
  refine ⟨h.1.kpc hk hA.1 hA.2.1, fun j hj => ?_, h.2.2⟩
  obtain ⟨b, off, e, h1, h2, h3, h4⟩ := h.2.1 j hj
  have hb := ha b off e (by omega)
  have key : ∀ {o : Nat} {u : Value}, W.cell? ⟨b, o, none⟩ = some u → W'.cell? ⟨b, o, none⟩ = some u := fun {o u} hc => by
    rw [World.cell?_of_block (hk.block b hb.2.2 hb.1 hb.2.1)]
    exact hc
  exact ⟨b, off, e, key h1, key h2, key h3, key h4⟩
/-- both clocks in one world, apart -/
def Two (w W : World) (g g' : Nat) (v : Value) (a : Option Addr) (cap : Nat) (c : Ck) : Prop :=
  CkO W g v c ∧ RkO W g' a cap c ∧ Ap W g v g' ∧ (∀ b o, a = some ⟨b, o, none⟩ → c.L.length ≠ 0 → Ap W g v b) ∧ (∀ b o, a = some ⟨b, o, none⟩ → b ≠ g') ∧ Below w.heap.size w W ∧ (∀ k, v.ownBlock = some k → w.heap.size ≤ k)
theorem Two.next {w W W' : World} {g g' cap : Nat} {v : Value} {a : Option Addr} {c : Ck} (h : Two w W g g' v a cap c) (b : Below W.heap.size W W') : Two w W' g g' v a cap c :=
  ⟨h.1.below b, h.2.1.below b, h.2.2.1.below b.size, fun b' o e h0 => (h.2.2.2.1 b' o e h0).below b.size, h.2.2.2.2.1, h.2.2.2.2.2.1.trans (b.mono h.2.2.2.2.2.1.size), h.2.2.2.2.2.2⟩
theorem Two.drew {w W : World} {g g' cap : Nat} {v : Value} {a : Option Addr} {c : Ck} (h : Two w W g g' v a cap c) : Two w W.drew g g' v a cap c :=
  ⟨h.1, h.2.1, h.2.2.1, h.2.2.2.1, h.2.2.2.2.1, h.2.2.2.2.2.1.drew, h.2.2.2.2.2.2⟩
/-- the program's clock took one sample more -/
def Half (w W : World) (g g' : Nat) (v : Value) (a : Option Addr) (cap : Nat) (c c' : Ck) : Prop :=
  CkO W g v c' ∧ RkO W g' a cap c ∧ Ap W g v g' ∧ (∀ b o, a = some ⟨b, o, none⟩ → c.L.length ≠ 0 → Ap W g v b) ∧ (∀ b o, a = some ⟨b, o, none⟩ → b ≠ g') ∧ Below w.heap.size w W ∧ (∀ k, v.ownBlock = some k → w.heap.size ≤ k)
theorem Half.next {w W W' : World} {g g' cap : Nat} {v : Value} {a : Option Addr} {c c' : Ck} (h : Half w W g g' v a cap c c') (b : Below W.heap.size W W') : Half w W' g g' v a cap c c' :=
  ⟨h.1.below b, h.2.1.below b, h.2.2.1.below b.size, fun b' o e h0 => (h.2.2.2.1 b' o e h0).below b.size, h.2.2.2.2.1, h.2.2.2.2.2.1.trans (b.mono h.2.2.2.2.2.1.size), h.2.2.2.2.2.2⟩
theorem Two.half {w W W' : World} {g g' cap : Nat} {v v' : Value} {a : Option Addr} {c c' : Ck} (hg : w.heap.size ≤ g) (h : Two w W g g' v a cap c) (h1 : CkO W' g v' c') (hk : KpC g v W W') (hf : Fr v v' W) : Half w W' g g' v' a cap c c' :=
  ⟨h1, h.2.1.kpc hk h.2.2.1 h.2.2.2.1, h.2.2.1.add hk hf, fun b o e h0 => (h.2.2.2.1 b o e h0).add hk hf, h.2.2.2.2.1, h.2.2.2.2.2.1.trans (hk.out h.2.2.2.2.2.1.size hg h.2.2.2.2.2.2), fun k hk' => by
    rcases hf k hk' with h2 | h2
    · exact h.2.2.2.2.2.2 k h2
    · have := h.2.2.2.2.2.1.size; omega⟩
theorem Half.two {w W W' : World} {g g' cap cap' : Nat} {v : Value} {a a' : Option Addr} {c : Ck} {s : Sm} (hg' : w.heap.size ≤ g') (h : Half w W g g' v a cap c (addC c s).2) (h1 : RkO W' g' a' cap' (addC c s).2) (hk : KpC g' noV W W') (hf : FrA s a a' W) (hne : ∀ b o, a' = some ⟨b, o, none⟩ → b ≠ g') : Two w W' g g' v a' cap' (addC c s).2 := by
  have hAp := h.2.2.1
  refine ⟨h.1.kpc hk (fun e => hAp.1 e.symm) (noV_own g) hAp.2.1 (fun k e => absurd e (noV_own k)), h1, hAp.below hk.size, fun b o e h0 => ?_, hne, h.2.2.2.2.2.1.trans (hk.out h.2.2.2.2.2.1.size hg' (fun k e => absurd e (noV_own k))), h.2.2.2.2.2.2⟩
  rcases hf with ⟨hr, rfl⟩ | hf
  · rw [addC_no hr] at h0
    exact (h.2.2.2.1 b o e h0).below hk.size
  · have hb := hf b o e
    obtain ⟨b', o', e', hc, -⟩ := h1.2.1 0 (by omega)
    have hbb : b' = b := by rw [e] at e'; cases e'; rfl
    subst hbb
    have hlt : b' < W'.heap.size := World.block_lt_of_cell? _ _ hc
    have hL := h.1.lt
    exact ⟨fun e2 => by have := hL.1; omega, fun e2 => by have := hL.2 _ e2; omega, hlt⟩
def CcRel (r t : Int) (g g' : Nat) (n : Nat) (w : World) (i : Value) (wr : World) : Prop :=
  ∃ (k : Nat) (v : Value) (a : Option Addr) (cap : Nat) (c : Ck), k ≤ n ∧ i = .int .i64 k ∧ Hid (Two w wr g g' v a cap c) ∧ Hid (CkOk r t k c)
theorem ckP_mid (c : Ck) (t : Int) : ckP c t = midI (ckG c t).1 (ckG c t).2 ∧ InI (ckG c t).1 ∧ InI (ckG c t).2 := by
  by_cases h : ckE c t = 0
  · have hi := ck_in h
    exact ⟨if_pos h, by unfold InI; omega, by unfold InI; omega⟩
  · have e1 : ckG c t = (0, 0) := if_neg h
    rw [e1]
    have e2 : ckP c t = 0 := if_neg h
    rw [e2]
    refine ⟨by decide, by unfold InI; decide, by unfold InI; decide⟩
set_option maxHeartbeats 8000000 in
set_option maxRecDepth 100000 in
theorem calls_any (r tr t : Int) (x : Option Addr) (xc : Nat) (A : List Sm) (w : World) (hx : QuadRow w x A) (hl : A.length ≤ 60) (hn : newOk r tr) :
    Calls Try.prog 3 #[.int .i64 r, .int .i64 tr, .slice x A.length xc, .int .i64 t] w fun e w' => e = .returned (.bool true) ∧ Below w.heap.size w w' := by
  have CN := Lib.hid fun W => cknew_any r tr W hn
  have RN := Lib.hid fun W => rknew_any r tr W hn
  have HX := Lib.hid hx
  have HL := Lib.hid hl
  have h60 : ¬ (60 : Int) < (A.length : Int) := by omega
  clear hx hl hn
  go_enter Try.func3, Try.ntmps3
  go_wp2_with fail
  refine (alive_any _).mono ?_
  rintro _ w1 ⟨rfl, b1⟩
  have B1 := Lib.hid b1
  clear b1
  go_wp2_with fail
  refine (CN.out _).mono ?_
  rintro _ w2 ⟨g, rfl, hg, hC, b2⟩
  have HC := Lib.hid hC
  have GB : Hid (w.heap.size ≤ g) := Lib.hid (Nat.le_trans B1.out.size hg)
  have B2 := Lib.hid (B1.out.trans (b2.mono B1.out.size))
  clear hg hC b2 B1 CN
  go_wp2_with fail
  refine (RN.out _).mono ?_
  rintro _ w3 ⟨g', rfl, hg', hR, b3⟩
  have GB' : Hid (w.heap.size ≤ g') := Lib.hid (Nat.le_trans B2.out.size hg')
  have START : Hid (CcRel r tr g g' A.length w (.int .i64 0) w3) := Lib.hid ⟨0, .slice none 0 0, none, 0, ⟨r, tr, 0, false, []⟩, Nat.zero_le _, rfl, Lib.hid ⟨HC.out.below b3, hR, ⟨by have := HC.out.lt.1; omega, (fun e => nomatch e), hR.1.lt⟩, (fun b o e => nomatch e), (fun b o e => nomatch e), B2.out.trans (b3.mono B2.out.size), (fun k hk => nomatch hk)⟩, Lib.hid ⟨rfl, rfl, by simp, Int.le_refl _, Int.le_refl _, fun s hs => by simp at hs⟩⟩
  clear hg' hR b3 B2 RN HC
  go_wp2
  go_loopw [13] (fun i wr => CcRel r tr g g' A.length w i wr) (fun i _ => A.length - (intOf i).toNat)
  case atStart => exact START.out
  case round =>
    obtain ⟨k, v, a, cap, c, hk, rfl, TT, LL⟩ := hrel
    clear START
    obtain ⟨v0, hv0⟩ : ∃ x, x = wr := ⟨_, rfl⟩
    subst hv0
    by_cases hlt : k < A.length
    · have HLT := Lib.hid hlt
      obtain ⟨b, off, rfl, q1, q2, q3, q4⟩ := HX.out k hlt
      have hkk : (k : Int) < (A.length : Int) := by omega
      have hk0 : (0 : Int) ≤ (k : Int) := by omega
      have e2 : wrap64 ((k : Int) + 1) = (k : Int) + 1 := IntWalk.wrap64_in _ (by have := HL.out; omega)
      obtain ⟨⟨sa, sg, ss, sc⟩, hs⟩ : ∃ s, A.getD k smZ = s := ⟨_, rfl⟩
      rw [hs] at q1 q2 q3 q4
      dsimp only at q1 q2 q3 q4
      have hok := LL.out
      have HC8 : Hid (c.L.length ≤ 8 ∧ 0 ≤ c.streak ∧ c.streak ≤ 1000) := Lib.hid ⟨hok.2.2.1, hok.2.2.2.1, by have h5 := hok.2.2.2.2.1; have := HL.out; omega⟩
      have NOK := Lib.hid (hok.add (by have := HL.out; omega) (sa, sg, ss, sc))
      have CADD : Hid (∀ W, CkO W g v c → Calls Try.prog 12 #[.pointer (some ⟨g, 0, none⟩), .agg #[.int .i64 sa, .int .i64 sg, .int .i64 ss, .int .i64 sc]] W (AddOut g v c (sa, sg, ss, sc) W)) := Lib.hid fun W h => ckadd_any g v c sa sg ss sc W h HC8.out.1 (by unfold InI; have := HC8.out; omega)
      have RADD : Hid (∀ W, RkO W g' a cap c → (∀ b o, a = some ⟨b, o, none⟩ → b ≠ g') → Calls Try.prog 13 #[.pointer (some ⟨g', 0, none⟩), .agg #[.int .i64 sa, .int .i64 sg, .int .i64 ss, .int .i64 sc]] W (RkAddOut g' a c (sa, sg, ss, sc) W)) := Lib.hid fun W h h2 => rkadd_any g' a cap c sa sg ss sc W h HC8.out.1 HC8.out.2 h2
      have CO := Lib.hid (fun W => lawof_any sa sg ss sc W)
      unfold AddOut at CADD
      unfold RkAddOut at RADD
      have HTW : Hid (∀ W a' cap' v', Half w W g g' v' a cap c (addC c (sa, sg, ss, sc)).2 → ∀ W', RkO W' g' a' cap' (addC c (sa, sg, ss, sc)).2 → KpC g' noV W W' → FrA (sa, sg, ss, sc) a a' W → (∀ b o, a' = some ⟨b, o, none⟩ → b ≠ g') → Two w W' g g' v' a' cap' (addC c (sa, sg, ss, sc)).2) := Lib.hid fun W a' cap' v' h W' h1 h2 h3 h4 => Half.two GB'.out h h1 h2 h3 h4
      generalize addC c (sa, sg, ss, sc) = ac at *
      obtain ⟨ae, c'⟩ := ac
      dsimp only at CADD RADD NOK HTW
      have hnn : (ae != ae) = false := by simp
      have CL8 : Hid (c'.L.length ≤ 8) := Lib.hid NOK.out.2.2.1
      have CAG : Hid (∀ W v' a' cap', CkO W g v' c' → RkO W g' a' cap' c' → Calls Try.prog 15 #[.pointer (some ⟨g, 0, none⟩), .pointer (some ⟨g', 0, none⟩)] W (Gives (.bool true) W)) := Lib.hid fun W v' a' cap' h1 h2 => agree2_any g g' v' a' cap' c' W h1 h2 CL8.out
      have KW : Hid (∀ W, Below w.heap.size w W → W.cell? ⟨b, off + k * 4, none⟩ = some (.int .i64 sa) ∧ W.cell? ⟨b, off + k * 4 + 1, none⟩ = some (.int .i64 sg) ∧ W.cell? ⟨b, off + k * 4 + 2, none⟩ = some (.int .i64 ss) ∧ W.cell? ⟨b, off + k * 4 + 3, none⟩ = some (.int .i64 sc)) := Lib.hid fun W hb => ⟨keep1 hb q1, keep1 hb q2, keep1 hb q3, keep1 hb q4⟩
      have hTT := TT.out
      have Tz : Hid (Two w v0.drew g g' v a cap c) := Lib.hid hTT.drew
      clear hlt hk hs hok hTT q1 q2 q3 q4
      go_upto_region 14 with fail
      refine wp_region_held_drew (S := fun W => W.cell? ⟨b, off + k * 4, none⟩ = some (.int .i64 sa) ∧ W.cell? ⟨b, off + k * 4 + 1, none⟩ = some (.int .i64 sg) ∧ W.cell? ⟨b, off + k * 4 + 2, none⟩ = some (.int .i64 ss) ∧ W.cell? ⟨b, off + k * 4 + 3, none⟩ = some (.int .i64 sc)) (by kernel_rfl) (KW.out _ Tz.out.2.2.2.2.2.1) (fun hHeld => ?_)
      generalize v0.drew = v2 at *
      refine wpAnyH_take (i := 0) (oi := ({ dst := some 59, op := Op.move (Operand.tmp 9), type := 24, pos := "law.go:93", after := #[], guard := none } : Oper)) (v := ?_) rfl (by kernel_rfl) (by kernel_rfl) (by kernel_rfl) (fun _ _ _ h => h) (Or.inl ⟨by rfl, ?_⟩) hHeld ?_
      rotate_left
      · ((intro w hSw; obtain ⟨s1, s2, s3, s4⟩ := hSw; go_simp); (try with_reducible rfl))
      (try simp only [Act.put, List.setIfInBounds_toArray, List.set_cons_zero, List.set_cons_succ])
      refine wpAnyH_take (i := 1) (oi := ({ dst := some 60, op := Op.move (Operand.tmp 2), type := 22, pos := "law.go:93", after := #[], guard := none } : Oper)) (v := ?_) rfl (by kernel_rfl) (by kernel_rfl) (by kernel_rfl) (fun _ _ _ h => h) (Or.inl ⟨by rfl, ?_⟩) hHeld ?_
      rotate_left
      · ((intro w hSw; obtain ⟨s1, s2, s3, s4⟩ := hSw; go_simp); (try with_reducible rfl))
      (try simp only [Act.put, List.setIfInBounds_toArray, List.set_cons_zero, List.set_cons_succ])
      refine wpAnyH_take (i := 2) (oi := ({ dst := some 61, op := Op.move (Operand.tmp 13), type := 3, pos := "law.go:93", after := #[], guard := none } : Oper)) (v := ?_) rfl (by kernel_rfl) (by kernel_rfl) (by kernel_rfl) (fun _ _ _ h => h) (Or.inl ⟨by rfl, ?_⟩) hHeld ?_
      rotate_left
      · ((intro w hSw; obtain ⟨s1, s2, s3, s4⟩ := hSw; go_simp); (try with_reducible rfl))
      (try simp only [Act.put, List.setIfInBounds_toArray, List.set_cons_zero, List.set_cons_succ])
      refine wpAnyH_take (i := 3) (oi := ({ dst := some 62, op := Op.indexAddr 22 (Operand.tmp 60) (Operand.tmp 61), type := 0, pos := "law.go:93", after := #[{ on := 1, ground := Ground.data }, { on := 2, ground := Ground.data }], guard := none } : Oper)) (v := ?_) rfl (by kernel_rfl) (by kernel_rfl) (by kernel_rfl) (fun _ _ _ h => h) (Or.inl ⟨by rfl, ?_⟩) hHeld ?_
      rotate_left
      · ((intro w hSw; obtain ⟨s1, s2, s3, s4⟩ := hSw; go_simp); (try with_reducible rfl))
      (try simp only [Act.put, List.setIfInBounds_toArray, List.set_cons_zero, List.set_cons_succ])
      refine wpAnyH_take (i := 4) (oi := ({ dst := some 63, op := Op.load 33 (Operand.tmp 62), type := 33, pos := "law.go:93", after := #[{ on := 3, ground := Ground.data }], guard := none } : Oper)) (v := ?_) rfl (by kernel_rfl) (by kernel_rfl) (by kernel_rfl) (fun _ _ _ h => h) (Or.inl ⟨by rfl, ?_⟩) hHeld ?_
      rotate_left
      · ((intro w hSw; obtain ⟨s1, s2, s3, s4⟩ := hSw; go_simp); (try with_reducible rfl))
      (try simp only [Act.put, List.setIfInBounds_toArray, List.set_cons_zero, List.set_cons_succ])
      refine wpAnyH_take (i := 6) (oi := ({ dst := some 65, op := Op.move (Operand.tmp 11), type := 28, pos := "law.go:93", after := #[], guard := none } : Oper)) (v := ?_) rfl (by kernel_rfl) (by kernel_rfl) (by kernel_rfl) (fun _ _ _ h => h) (Or.inl ⟨by rfl, ?_⟩) hHeld ?_
      rotate_left
      · ((intro w hSw; obtain ⟨s1, s2, s3, s4⟩ := hSw; go_simp); (try with_reducible rfl))
      (try simp only [Act.put, List.setIfInBounds_toArray, List.set_cons_zero, List.set_cons_succ])
      refine wpAnyH_take (i := 7) (oi := ({ dst := some 66, op := Op.move (Operand.tmp 2), type := 22, pos := "law.go:93", after := #[], guard := none } : Oper)) (v := ?_) rfl (by kernel_rfl) (by kernel_rfl) (by kernel_rfl) (fun _ _ _ h => h) (Or.inl ⟨by rfl, ?_⟩) hHeld ?_
      rotate_left
      · ((intro w hSw; obtain ⟨s1, s2, s3, s4⟩ := hSw; go_simp); (try with_reducible rfl))
      (try simp only [Act.put, List.setIfInBounds_toArray, List.set_cons_zero, List.set_cons_succ])
      refine wpAnyH_take (i := 8) (oi := ({ dst := some 67, op := Op.move (Operand.tmp 13), type := 3, pos := "law.go:93", after := #[], guard := none } : Oper)) (v := ?_) rfl (by kernel_rfl) (by kernel_rfl) (by kernel_rfl) (fun _ _ _ h => h) (Or.inl ⟨by rfl, ?_⟩) hHeld ?_
      rotate_left
      · ((intro w hSw; obtain ⟨s1, s2, s3, s4⟩ := hSw; go_simp); (try with_reducible rfl))
      (try simp only [Act.put, List.setIfInBounds_toArray, List.set_cons_zero, List.set_cons_succ])
      refine wpAnyH_take (i := 9) (oi := ({ dst := some 68, op := Op.indexAddr 22 (Operand.tmp 66) (Operand.tmp 67), type := 0, pos := "law.go:93", after := #[{ on := 7, ground := Ground.data }, { on := 8, ground := Ground.data }], guard := none } : Oper)) (v := ?_) rfl (by kernel_rfl) (by kernel_rfl) (by kernel_rfl) (fun _ _ _ h => h) (Or.inl ⟨by rfl, ?_⟩) hHeld ?_
      rotate_left
      · ((intro w hSw; obtain ⟨s1, s2, s3, s4⟩ := hSw; go_simp); (try with_reducible rfl))
      (try simp only [Act.put, List.setIfInBounds_toArray, List.set_cons_zero, List.set_cons_succ])
      refine wpAnyH_take (i := 10) (oi := ({ dst := some 69, op := Op.load 33 (Operand.tmp 68), type := 33, pos := "law.go:93", after := #[{ on := 9, ground := Ground.data }], guard := none } : Oper)) (v := ?_) rfl (by kernel_rfl) (by kernel_rfl) (by kernel_rfl) (fun _ _ _ h => h) (Or.inl ⟨by rfl, ?_⟩) hHeld ?_
      rotate_left
      · ((intro w hSw; obtain ⟨s1, s2, s3, s4⟩ := hSw; go_simp); (try with_reducible rfl))
      (try simp only [Act.put, List.setIfInBounds_toArray, List.set_cons_zero, List.set_cons_succ])
      refine wpAnyH_ready (rs := [5]) (by kernel_rfl) (by simp) ?_
      refine AllReadyH.cons (o := ({ dst := some 64, op := Op.call { callee := Callee.value (Operand.func 12), args := #[Operand.tmp 59, Operand.tmp 63], argTypes := #[24, 33] }, type := 25, pos := "law.go:93", after := #[{ on := 0, ground := Ground.data }, { on := 4, ground := Ground.data }], guard := none } : Oper)) rfl (fun K hK => ?_) (AllReadyH.nil)
      go_simp
      have q1 : CkO _ g v c := Tz.out.1
      (with_reducible refine (CADD.out _ q1).mono ?_)
      rintro _ u1 ⟨v1, rfl, h1, k1, f1⟩
      have T1 : Hid (Half w u1 g g' v1 a cap c c') := Lib.hid (Tz.out.half GB.out h1 k1 f1)
      clear h1 k1 f1 q1 Tz
      refine hK.out _ _ ?_ (fun hHeld => ?_)
      · exact KW.out _ T1.out.2.2.2.2.2.1
      clear hK K
      (try simp only [Act.put, List.setIfInBounds_toArray, List.set_cons_zero, List.set_cons_succ])
      refine wpAnyH_ready (rs := [11]) (by kernel_rfl) (by simp) ?_
      refine AllReadyH.cons (o := ({ dst := some 70, op := Op.call { callee := Callee.value (Operand.func 14), args := #[Operand.tmp 69], argTypes := #[33] }, type := 35, pos := "law.go:93", after := #[{ on := 10, ground := Ground.data }, { on := 5, ground := Ground.chain }], guard := none } : Oper)) rfl (fun K hK => ?_) (AllReadyH.nil)
      go_simp
      (with_reducible refine (CO.out _).mono ?_)
      rintro _ u2 ⟨rfl, b2⟩
      have T2 := Lib.hid (T1.out.next b2)
      clear b2 T1
      refine hK.out _ _ ?_ (fun hHeld => ?_)
      · exact KW.out _ T2.out.2.2.2.2.2.1
      clear hK K
      (try simp only [Act.put, List.setIfInBounds_toArray, List.set_cons_zero, List.set_cons_succ])
      refine wpAnyH_ready (rs := [12]) (by kernel_rfl) (by simp) ?_
      refine AllReadyH.cons (o := ({ dst := some 71, op := Op.call { callee := Callee.value (Operand.func 13), args := #[Operand.tmp 65, Operand.tmp 70], argTypes := #[28, 35] }, type := 25, pos := "law.go:93", after := #[{ on := 6, ground := Ground.data }, { on := 11, ground := Ground.data }, { on := 11, ground := Ground.chain }], guard := none } : Oper)) rfl (fun K hK => ?_) (AllReadyH.nil)
      go_simp
      have q1 : RkO _ g' a cap c := T2.out.2.1
      have q2 := T2.out.2.2.2.2.1
      (with_reducible refine (RADD.out _ q1 q2).mono ?_)
      rintro _ u3 ⟨a3, cap3, rfl, h3, k3, f3, n3⟩
      have T3 : Hid (Two w u3 g g' v1 a3 cap3 c') := Lib.hid (HTW.out _ _ _ _ T2.out _ h3 k3 f3 n3)
      clear h3 k3 f3 n3 q1 q2 T2
      refine hK.out _ _ ?_ (fun hHeld => ?_)
      · exact KW.out _ T3.out.2.2.2.2.2.1
      clear hK K
      (try simp only [Act.put, List.setIfInBounds_toArray, List.set_cons_zero, List.set_cons_succ])
      refine wpAnyH_take (i := 13) (oi := ({ dst := some 72, op := Op.binOp BinOp.neq 25 (Operand.tmp 64) (Operand.tmp 71) 25, type := 4, pos := "law.go:93", after := #[{ on := 5, ground := Ground.data }, { on := 12, ground := Ground.data }], guard := none } : Oper)) (v := ?_) rfl (by kernel_rfl) (by kernel_rfl) (by kernel_rfl) (fun _ _ _ h => h) (Or.inl ⟨by rfl, ?_⟩) hHeld ?_
      rotate_left
      · ((intro w hSw; obtain ⟨s1, s2, s3, s4⟩ := hSw; go_simp); (try with_reducible rfl))
      (try simp only [Act.put, List.setIfInBounds_toArray, List.set_cons_zero, List.set_cons_succ])
      refine wpAnyH_take (i := 14) (oi := ({ dst := some 73, op := Op.move (Operand.tmp 72), type := 4, pos := "law.go:93", after := #[{ on := 13, ground := Ground.data }, { on := 12, ground := Ground.chain }], guard := none } : Oper)) (v := ?_) rfl (by kernel_rfl) (by kernel_rfl) (by kernel_rfl) (fun _ _ _ h => h) (Or.inl ⟨by rfl, ?_⟩) hHeld ?_
      rotate_left
      · ((intro w hSw; obtain ⟨s1, s2, s3, s4⟩ := hSw; go_simp); (try with_reducible rfl))
      (try simp only [Act.put, List.setIfInBounds_toArray, List.set_cons_zero, List.set_cons_succ])
      refine wpAnyH_take (i := 15) (oi := ({ dst := some 74, op := Op.move (Operand.tmp 9), type := 24, pos := "law.go:93", after := #[{ on := 14, ground := Ground.guard }], guard := some (14, false) } : Oper)) (v := ?_) rfl (by kernel_rfl) (by kernel_rfl) (by kernel_rfl) (fun _ _ _ h => h) (Or.inl ⟨by rfl, ?_⟩) hHeld ?_
      rotate_left
      · ((intro w hSw; obtain ⟨s1, s2, s3, s4⟩ := hSw; go_simp); (try with_reducible rfl))
      (try simp only [Act.put, List.setIfInBounds_toArray, List.set_cons_zero, List.set_cons_succ])
      refine wpAnyH_take (i := 16) (oi := ({ dst := some 75, op := Op.move (Operand.tmp 11), type := 28, pos := "law.go:93", after := #[{ on := 14, ground := Ground.guard }], guard := some (14, false) } : Oper)) (v := ?_) rfl (by kernel_rfl) (by kernel_rfl) (by kernel_rfl) (fun _ _ _ h => h) (Or.inl ⟨by rfl, ?_⟩) hHeld ?_
      rotate_left
      · ((intro w hSw; obtain ⟨s1, s2, s3, s4⟩ := hSw; go_simp); (try with_reducible rfl))
      (try simp only [Act.put, List.setIfInBounds_toArray, List.set_cons_zero, List.set_cons_succ])
      refine wpAnyH_ready (rs := [17]) (by kernel_rfl) (by simp) ?_
      refine AllReadyH.cons (o := ({ dst := some 76, op := Op.call { callee := Callee.value (Operand.func 15), args := #[Operand.tmp 74, Operand.tmp 75], argTypes := #[24, 28] }, type := 4, pos := "law.go:93", after := #[{ on := 15, ground := Ground.data }, { on := 16, ground := Ground.data }, { on := 14, ground := Ground.chain }, { on := 14, ground := Ground.guard }], guard := some (14, false) } : Oper)) rfl (fun K hK => ?_) (AllReadyH.nil)
      go_simp
      have q1 : CkO _ g v1 c' := T3.out.1
      have q2 : RkO _ g' a3 cap3 c' := T3.out.2.1
      (with_reducible refine (CAG.out _ _ _ _ q1 q2).mono ?_)
      rintro _ u4 ⟨rfl, b4⟩
      have T4 := Lib.hid (T3.out.next b4)
      clear b4 q1 q2 T3
      refine hK.out _ _ ?_ (fun hHeld => ?_)
      · exact KW.out _ T4.out.2.2.2.2.2.1
      clear hK K
      (try simp only [Act.put, List.setIfInBounds_toArray, List.set_cons_zero, List.set_cons_succ])
      refine wpAnyH_take (i := 18) (oi := ({ dst := some 77, op := Op.unOp UnOp.not 4 (Operand.tmp 76), type := 4, pos := "law.go:93", after := #[{ on := 17, ground := Ground.data }, { on := 14, ground := Ground.guard }], guard := some (14, false) } : Oper)) (v := ?_) rfl (by kernel_rfl) (by kernel_rfl) (by kernel_rfl) (fun _ _ _ h => h) (Or.inl ⟨by rfl, ?_⟩) hHeld ?_
      rotate_left
      · ((intro w hSw; obtain ⟨s1, s2, s3, s4⟩ := hSw; go_simp); (try with_reducible rfl))
      (try simp only [Act.put, List.setIfInBounds_toArray, List.set_cons_zero, List.set_cons_succ])
      refine wpAnyH_take (i := 19) (oi := ({ dst := some 78, op := Op.pick (Operand.tmp 73) (Operand.const (Value.bool true)) (Operand.tmp 77), type := 4, pos := "law.go:93", after := #[{ on := 14, ground := Ground.data }, { on := 18, ground := Ground.data }], guard := none } : Oper)) (v := ?_) rfl (by kernel_rfl) (by kernel_rfl) (by kernel_rfl) (fun _ _ _ h => h) (Or.inl ⟨by rfl, ?_⟩) hHeld ?_
      rotate_left
      · ((intro w hSw; obtain ⟨s1, s2, s3, s4⟩ := hSw; go_simp); (try with_reducible rfl))
      (try simp only [Act.put, List.setIfInBounds_toArray, List.set_cons_zero, List.set_cons_succ])
      refine wpAnyH_done (by kernel_rfl) ?_ _
      clear hHeld CADD RADD CO HTW CAG KW TT
      obtain ⟨W9, hW9⟩ : ∃ x, x = u4 := ⟨_, rfl⟩
      subst hW9
      have CA0 : Hid (Calls Try.prog 16 #[.pointer (some ⟨g, 0, none⟩), .int .i64 t] W9 (CkAtOut c' t W9)) := Lib.hid (ckat_any g _ c' t W9 T4.out.1 (by have := CL8.out; omega))
      unfold CkAtOut at CA0
      have RA : Hid (∀ W, RkO W g' a3 cap3 c' → Calls Try.prog 17 #[.pointer (some ⟨g', 0, none⟩), .int .i64 t] W (CkAtOut c' t W)) := Lib.hid fun W h => rkat_any g' a3 cap3 c' t W h (by have := CL8.out; omega)
      unfold CkAtOut at RA
      have PA : Hid (∀ W, CkO W g v1 c' → Calls Try.prog 18 #[.pointer (some ⟨g, 0, none⟩), .int .i64 t] W (Gives (.tuple #[.int .i64 (ckP c' t), .int .i64 (ckE c' t)]) W)) := Lib.hid fun W h => ckpoint_any g v1 c' t W h (by have := CL8.out; omega)
      have HM := Lib.hid (ckP_mid c' t)
      have MID := Lib.hid (fun W => rmid_any (ckG c' t).1 (ckG c' t).2 W HM.out.2.1 HM.out.2.2)
      rw [← HM.out.1] at MID
      clear HM
      obtain ⟨⟨lo, up⟩, hG⟩ : ∃ z, ckG c' t = z := ⟨_, rfl⟩
      obtain ⟨f0, hf0⟩ : ∃ f, ckE c' t = f := ⟨_, rfl⟩
      obtain ⟨p0, hp0⟩ : ∃ p, ckP c' t = p := ⟨_, rfl⟩
      rw [hG, hf0] at CA0 RA
      rw [hf0, hp0] at PA
      rw [hG, hp0] at MID
      dsimp only at CA0 RA MID
      have hff : (f0 != f0) = false := by simp
      have hpp : (p0 != p0) = false := by simp
      clear hG hf0 hp0 hnn
      go_wp2_with fail
      refine CA0.out.mono ?_
      rintro _ wa ⟨rfl, ba⟩
      have bb := ba.trans ((one_alloc wa (.cells #[.int .i64 lo, .int .i64 up] 39)).mono ba.size)
      have K14 : Hid (Kept (wa.alloc (.cells #[.int .i64 lo, .int .i64 up] 39)) wa.heap.size #[.int .i64 lo, .int .i64 up] 39) := Lib.hid (Kept.new rfl)
      have T5 := Lib.hid (T4.out.next bb)
      clear ba bb CA0 T4
      go_upto_region 17 with fail
      generalize wa.alloc (.cells #[.int .i64 lo, .int .i64 up] 39) = Wa at *
      generalize wa.heap.size = k14 at *
      go_wp2_with fail
      refine (RA.out _ T5.out.2.1).mono ?_
      rintro _ wb ⟨rfl, bb'⟩
      have bb := bb'.trans ((one_alloc wb (.cells #[.int .i64 lo, .int .i64 up] 42)).mono bb'.size)
      have K16 : Hid (Kept (wb.alloc (.cells #[.int .i64 lo, .int .i64 up] 42)) wb.heap.size #[.int .i64 lo, .int .i64 up] 42) := Lib.hid (Kept.new rfl)
      have K14' := Lib.hid (K14.out.next bb)
      have T6 := Lib.hid (T5.out.next bb)
      clear bb bb' RA T5 K14
      go_upto_region 18 with fail
      generalize wb.alloc (.cells #[.int .i64 lo, .int .i64 up] 42) = Wb at *
      generalize wb.heap.size = k16 at *
      go_wp2_with fail
      refine (PA.out _ T6.out.1).mono ?_
      rintro _ wc ⟨rfl, bc⟩
      have T7 := Lib.hid (T6.out.next bc)
      have K14c := Lib.hid (K14'.out.next bc)
      have K16c := Lib.hid (K16.out.next bc)
      clear bc T6 K14' K16 PA
      obtain ⟨y1, y2, -⟩ := K14c.out.two
      obtain ⟨z1, z2, -⟩ := K16c.out.two
      go_wp2_with fail
      refine (same_any lo up f0 _).mono ?_
      rintro _ wd ⟨rfl, bd⟩
      have T8 := Lib.hid (T7.out.next bd)
      have K16d := Lib.hid (K16c.out.next bd)
      clear bd T7 K16c K14c y1 y2 z1 z2
      obtain ⟨z1, z2, -⟩ := K16d.out.two
      go_wp2_with fail
      refine (MID.out _).mono ?_
      rintro _ we ⟨rfl, be⟩
      have FF : Hid (CcRel r tr g g' A.length w (.int .i64 ((k : Int) + 1)) we) := Lib.hid ⟨k + 1, v1, a3, cap3, c', HLT.out, rfl, Lib.hid (T8.out.next be), Lib.hid NOK.out⟩
      clear be T8 K16d z1 z2 MID
      go_wp2
      go_roundw
      case rel => (try rw [e2]); exact FF.out
      case measure => have := HLT.out; (try rw [e2]); simp [intOf]; omega
    · have e : k = A.length := by omega
      have BE : Hid (Below w.heap.size w v0) := Lib.hid TT.out.2.2.2.2.2.1
      clear TT hlt hk
      subst e
      go_wp2
      go_ret
      exact ⟨rfl, BE.out⟩
end Go.Proofs.Ytflplliiamodhaa
