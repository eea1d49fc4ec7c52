/- sweep.swept, the iterator's contract. -/
import Derived.RangeFuncBox
import Derived.RangeFuncNested
import Derived.RangeFuncBound
import Derived.RangeFuncCalls
import Derived.RangeFuncLeaves
import Derived.Shelf.Abstract
import Derived.Shelf.RegionOpen
import Derived.WalkKit
import Derived.OwnWalkIn
import Derived.TacticsInMore
import Derived.LoopNIn
import Derived.LoopIn
import Derived.Test.YtllkdohomkofhaaSwE
namespace Go.Proofs.Ytllkdohomkofhaa
open Go.RowKit Go.Shelf
set_option linter.unusedVariables false
attribute [local go_sem] Oper.semAt_some

theorem grown_below {W W' : World} (h : Below W.heap.size W W') (row : Option Nat) : W.grownBy W' row := ⟨h.os, h.tape, h.output, h.size, fun i hi _ => h.block i hi⟩
/-- cells from the block B on stay as they are -/
def HiK (B : Nat) (W W' : World) : Prop := W.heap.size ≤ W'.heap.size ∧ ∀ k cs t fr, B ≤ k → W.heap[k]? = some (.cells cs t fr) → W'.heap[k]? = some (.cells cs t fr)
theorem HiK.refl (B : Nat) (W : World) : HiK B W W := ⟨Nat.le_refl _, fun _ _ _ _ _ h => h⟩
theorem HiK.trans {B : Nat} {W1 W2 W3 : World} (h : HiK B W1 W2) (k : HiK B W2 W3) : HiK B W1 W3 := ⟨Nat.le_trans h.1 k.1, fun i cs t fr hB hi => k.2 i cs t fr hB (h.2 i cs t fr hB hi)⟩
theorem HiK.below {B : Nat} {W W' : World} (h : Below W.heap.size W W') : HiK B W W' := ⟨h.size, fun k cs t fr _ hk => (h.block k (Array.getElem?_eq_some_iff.1 hk).1).trans hk⟩
theorem HiK.setCell {B : Nat} {W W' : World} (h : HiK B W W') {p : Addr} (hp : p.block < B) (u : Value) : HiK B W (W'.setCell p u) :=
  ⟨by have := h.1; simpa [World.setCell] using this, fun k cs t fr hB hk => (Below.heap_setCell W' p u k (by omega)).trans (h.2 k cs t fr hB hk)⟩
theorem hiK_putObj {B : Nat} {W : World} {l : Nat} {o : Obj} (o' : Obj) (hl : W.heap[l]? = some o) (hc : o.isCells = false) : HiK B W (W.putObj l o') :=
  ⟨by simp, fun k cs t fr _ hk => (World.putObj_heap_other (fun e => by subst e; rw [hl] at hk; cases hk; cases hc)).trans hk⟩
theorem HiK.kept {B : Nat} {W W' : World} (h : HiK B W W') {g : Nat} {cs : Array Value} {t : TypeId} (hk : Kept W g cs t) (hB : B ≤ g) : Kept W' g cs t := h.2 g cs t (0, 0) hB hk
theorem HiK.cell {B : Nat} {W W' : World} (h : HiK B W W') {p : Addr} {v : Value} (hB : B ≤ p.block) (hc : W.cell? p = some v) : W'.cell? p = some v := by
  obtain ⟨blk, off, sp⟩ := p
  have hsp : sp = none := World.cell?_spot hc
  subst hsp
  unfold World.cell? at *
  dsimp only at *
  cases e : W.heap[blk]? with
  | none => rw [e] at hc; cases hc
  | some o =>
    cases o with
    | cells cs t fr =>
      rw [h.2 blk cs t fr hB e]
      rw [e] at hc
      exact hc
    | _ => rw [e] at hc; exact absurd hc (by simp)
theorem EvRow.hik {B : Nat} {W W' : World} {a : Option Addr} {s : List Ev} (h : EvRow W a s) (hk : HiK B W W') (ha : ∀ ad, a = some ad → B ≤ ad.block) : EvRow W' a s := fun j hj => by
  obtain ⟨b, off, rfl, h1, h2⟩ := h j hj
  have := ha _ rfl
  exact ⟨b, off, rfl, hk.cell (p := ⟨b, _, none⟩) this h1, hk.cell (p := ⟨b, _, none⟩) this h2⟩
def evV (x : Ev × Int) : Array Value := #[.agg #[.int .i64 x.1.1, .bool x.1.2], .int .i64 x.2]
set_option maxHeartbeats 400000 in
theorem swept_any (x : Option Addr) (n c : Nat) (w : World) : Calls Try.prog 22 #[.slice x n c] w fun e w' => e = .returned (.func (.func 28) #[] #[.pointer (some ⟨w.heap.size, 0, none⟩)]) ∧ w' = w.alloc (.cells #[.slice x n c] 22) := by
  have hm := hmf
  go_enter Try.func22, Try.ntmps22
  go_wp2
  go_ret
  exact ⟨rfl, rfl⟩
def ItRel (L : List (Int × Int)) (s : List Ev) (a : Option Addr) (J : List (Ev × Int) → World → Prop) (o i : Value) (wr : World) : Prop :=
  ∃ k : Nat, k ≤ s.length ∧ i = .int .i64 k ∧ o = .int .i64 ((opens s k : Int) - (shuts s k : Int)) ∧ Hid (J (seqE s k) wr) ∧ Hid (EvRow wr a s)
theorem cnt_le (s : List Ev) (k : Nat) : opens s k ≤ k ∧ shuts s k ≤ k := by
  have h1 : opens s k ≤ (s.take k).length := List.countP_le_length
  have h2 : shuts s k ≤ (s.take k).length := List.countP_le_length
  rw [List.length_take] at h1 h2
  omega
theorem seqE_len (s : List Ev) (k : Nat) : (seqE s k).length = k := by simp [seqE]
set_option maxRecDepth 100000 in
set_option maxHeartbeats 2000000 in
theorem swept1_in (n : Nat) (hn : 1 ≤ n) (l Bs B : Nat) (x : Option Addr) (c : Nat) (L : List (Int × Int)) (hL : L.length ≤ 100000000) (J Jx : List (Ev × Int) → World → Prop)
    (W : World) (hB : B ≤ W.heap.size) (hJ : AbidesFrom W.heap.size J) (hJx : AbidesFrom W.heap.size Jx)
    (hY : ∀ pre e W1, J pre W1 → pre.length < 2 * L.length → YieldAt Fence.wide (n - 1) Try.prog l (evV e) W1 fun r W' =>
      (r = .returned (.bool true) ∧ J (pre ++ [e]) W' ∧ HiK B W1 W') ∨ (r = .returned (.bool false) ∧ Jx (pre ++ [e]) W'))
    (hBs : Kept W Bs #[.slice x L.length c] 22) (hx : PairRow W x L) (h0 : J [] W) :
    CallsIn Fence.wide n Try.prog 28 #[.func (.yield l) #[] #[], .pointer (some ⟨Bs, 0, none⟩)] W fun e W' => (∃ v, e = .returned v) ∧
      ((∃ ys, (∃ s, s.Perm (endsL L) ∧ sortE s ∧ ys = seqE s s.length) ∧ J ys W') ∨ (∃ pre, True ∧ Jx pre W')) := by
  obtain ⟨p1, p2, -⟩ := hBs.one
  have CE := Lib.hid (ends_any x c L W hx hL)
  have HJ := Lib.hid hJ
  have HY := Lib.hid hY
  have H0 := Lib.hid h0
  have HB := Lib.hid hB
  clear hBs hx hJ hJx hY h0
  refine callsIn_of_wp Try.func28 rfl trivial ?_ rfl
  simp only [Try.ntmps28, List.size_toArray, List.length_cons, List.length_nil, Nat.reduceAdd, Nat.reduceSub, Array.replicate_succ, Array.replicate_zero, List.push_toArray, List.append_toArray, List.nil_append, List.cons_append]
  gi_wp2_with (refine ⟨trivial, ?_⟩; gi_at_call 29; refine (callsIn_wide.2 CE.out).mono ?_; rintro _ w2 ⟨a, cap, s, rfl, hp, hs, hr, hb, ha⟩)
  have ST : Hid (ItRel L s a J (.int .i64 0) (.int .i64 0) w2) := Lib.hid ⟨0, Nat.zero_le _, rfl, rfl, Lib.hid (HJ.out _ W w2 none H0.out (grown_below hb none) (fun r e => by cases e)), Lib.hid hr⟩
  have HA : Hid (∀ ad, a = some ad → B ≤ ad.block) := Lib.hid fun ad e => Nat.le_trans HB.out (ha ad e)
  have HB2 : Hid (B ≤ w2.heap.size) := Lib.hid (Nat.le_trans HB.out hb.size)
  have HS : Hid (∃ s', s'.Perm (endsL L) ∧ sortE s' ∧ seqE s s.length = seqE s' s'.length) := Lib.hid ⟨s, hp, hs, rfl⟩
  have HN : Hid (s.length ≤ 2 * L.length) := Lib.hid (by rw [hp.length_eq]; exact endsL_len L)
  have HLL := Lib.hid hL
  clear hp hs hr hb ha H0 p1 p2 CE hL
  gi_loopw [3, 9] (fun o i wr => ItRel L s a J o i wr ∧ B ≤ wr.heap.size) (fun _ i _ => s.length - (intOf i).toNat)
  case atStart => exact ⟨ST.out, HB2.out⟩
  case round =>
    obtain ⟨⟨k, hk, rfl, rfl, HJK, HR⟩, hBw⟩ := hrel
    clear ST
    by_cases hlt : k < s.length
    · have HLT := Lib.hid hlt
      have HBW := Lib.hid hBw
      obtain ⟨b, off, rfl, c1, c2⟩ := HR.out k hlt
      obtain ⟨⟨v, bb⟩, hvb⟩ : ∃ e, s.getD k (0, false) = e := ⟨_, rfl⟩
      have hlt2 : k < 2 * L.length := Nat.lt_of_lt_of_le hlt HN.out
      have hos := opens_succ s k hlt
      have hss := shuts_succ s k hlt
      have hcn := cnt_le s k
      have hcb : opens s k ≤ 200000000 ∧ shuts s k ≤ 200000000 := by have := HN.out; have := HLL.out; omega
      have hsq := seqE_succ s k
      have hln := HN.out
      have hll := HLL.out
      unfold openI at hsq
      rw [hvb] at c1 c2 hos hss hsq
      dsimp only at c1 c2 hos hss
      have hkk : (k : Int) < (s.length : Int) := by omega
      have e3 : wrap64 ((k : Int) + 1) = (k : Int) + 1 := IntWalk.wrap64_in _ (by omega)
      have KB : Hid (Kept (wr.alloc (.cells #[.int .i64 v, .bool bb] 53)) wr.heap.size #[.int .i64 v, .bool bb] 53) := Lib.hid (Kept.new rfl)
      have J1 := Lib.hid (HJ.out _ wr (wr.alloc (.cells #[.int .i64 v, .bool bb] 53)) none HJK.out (grown_below (one_alloc _ _) none) (fun r e => by cases e))
      have R1 := Lib.hid (HR.out.below (one_alloc wr (.cells #[.int .i64 v, .bool bb] 53)))
      have GO : Hid (∀ o W', o = ((opens s (k + 1) : Int) - (shuts s (k + 1) : Int)) → J (seqE s (k + 1)) W' → HiK B (wr.alloc (.cells #[.int .i64 v, .bool bb] 53)) W' → ItRel L s (some ⟨b, off, none⟩) J (.int .i64 o) (.int .i64 ((k : Int) + 1)) W' ∧ B ≤ W'.heap.size) := Lib.hid fun o W' ho h1 h2 => ⟨⟨k + 1, hlt, rfl, by rw [ho], Lib.hid h1, Lib.hid (R1.out.hik h2 HA.out)⟩, by have := h2.1; simp at this; omega⟩
      obtain ⟨fn, tmps, assign, body, hy, hR⟩ := HY.out (seqE s k) ((v, bb), (opens s (k + 1) : Int) - (shuts s k : Int)) _ J1.out (by rw [seqE_len]; exact hlt2)
      rw [← hsq] at hR
      clear hsq hvb hlt hk hln hBw hlt2
      generalize hO : opens s k = O at *
      generalize hT : shuts s k = T at *
      cases bb
      · simp only [Bool.false_eq_true, if_false] at hos hss
        have e4 : wrap64 ((O : Int) - (T : Int) + 1) = (O : Int) - (T : Int) + 1 := IntWalk.wrap64_in _ (by omega)
        have e5 : ((opens s (k + 1) : Int) - (T : Int)) = (O : Int) - (T : Int) + 1 := by omega
        rw [e5] at hy
        unfold evV at hy
        dsimp only at hy
        have e6 : (O : Int) - (T : Int) + 1 = (opens s (k + 1) : Int) - (shuts s (k + 1) : Int) := by omega
        have G := Lib.hid (fun W' => GO.out _ W' e6)
        obtain ⟨y1, y2, y3, y4, y5⟩ := KB.out.two
        clear hos hss hcn hcb hll GO e5 e6 hO hT
        gi_wp2
        refine hR.mono ?_
        rintro r W3 (⟨rfl, hJ3, hk3⟩ | ⟨rfl, hJx3⟩)
        · have GG := Lib.hid (G.out W3 hJ3 hk3)
          obtain ⟨z1, z2, z3, z4, z5⟩ := (hk3.kept KB.out HBW.out).two
          clear hJ3 hk3 G y1 y2 y3 y4 y5
          gi_wp2
          go_roundw
          case rel => (try rw [e4]); (try rw [e3]); exact GG.out
          case measure => have := HLT.out; (try rw [e3]); simp [intOf]; omega
        · gi_wp2
          refine bodyPost_ret (results_none rfl _ _ _) rfl ?_
          exact ⟨⟨_, rfl⟩, .inr ⟨_, trivial, hJx3⟩⟩
      · simp only [if_true, Nat.add_zero] at hos hss
        have e5 : ((opens s (k + 1) : Int) - (T : Int)) = (O : Int) - (T : Int) := by omega
        have e7 : wrap64 ((O : Int) - (T : Int) - 1) = (O : Int) - (T : Int) - 1 := IntWalk.wrap64_in _ (by omega)
        rw [e5] at hy
        unfold evV at hy
        dsimp only at hy
        have e6 : (O : Int) - (T : Int) - 1 = (opens s (k + 1) : Int) - (shuts s (k + 1) : Int) := by omega
        have G := Lib.hid (fun W' => GO.out _ W' e6)
        obtain ⟨y1, y2, y3, y4, y5⟩ := KB.out.two
        clear hos hss hcn hcb hll GO e5 e6 hO hT
        gi_wp2
        refine hR.mono ?_
        rintro r W3 (⟨rfl, hJ3, hk3⟩ | ⟨rfl, hJx3⟩)
        · have GG := Lib.hid (G.out W3 hJ3 hk3)
          obtain ⟨z1, z2, z3, z4, z5⟩ := (hk3.kept KB.out HBW.out).two
          clear hJ3 hk3 G y1 y2 y3 y4 y5
          gi_wp2
          go_roundw
          case rel => (try rw [e7]); (try rw [e3]); exact GG.out
          case measure => have := HLT.out; (try rw [e3]); simp [intOf]; omega
        · gi_wp2
          refine bodyPost_ret (results_none rfl _ _ _) rfl ?_
          exact ⟨⟨_, rfl⟩, .inr ⟨_, trivial, hJx3⟩⟩
    · obtain rfl : k = s.length := by omega
      gi_wp2
      go_end0
      exact ⟨⟨_, rfl⟩, .inl ⟨_, HS.out, HJK.out⟩⟩
end Go.Proofs.Ytllkdohomkofhaa
