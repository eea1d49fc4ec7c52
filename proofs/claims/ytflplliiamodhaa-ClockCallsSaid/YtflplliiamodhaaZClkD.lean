import Derived.Test.YtflplliiamodhaaZClkC
import Derived.Test.YtflplliiamodhaaZSort
import Derived.Deep.QuietTactic
import Derived.BigQuiet
import Derived.StillTailTactics
import Derived.Deep.RegionHeld3
import Derived.Lib.SliceRun
/- A clock's small methods: for every clock. -/
namespace Go.Proofs.Ytflplliiamodhaa
open Go.RowKit
set_option linter.unusedVariables false
set_option linter.unusedSimpArgs false

theorem owns_set {w : World} {base e size n g i : Nat} {v u : Value} {xs : List Value} (h : w.ownsRow base e size v n xs) (hg : v.ownBlock ≠ some g) : (w.setCell ⟨g, i, none⟩ u).ownsRow base e size v n xs := by
  obtain ⟨a1, a2⟩ := h
  refine ⟨a1, ?_⟩
  rcases a2 with a2 | ⟨b, cap, cur, rfl, e2, e3, e4⟩
  · exact .inl a2
  · exact .inr ⟨b, cap, cur, rfl, e2, (Below.heap_setCell w ⟨g, i, none⟩ u b (fun e => hg (by subst e; rfl))).trans e3, e4⟩
theorem CkO.setStreak {w : World} {g : Nat} {v : Value} {c : Ck} (h : CkO w g v c) (k : Int) : CkO (w.setCell ⟨g, 3, none⟩ (.int .i64 k)) g v { c with streak := k } :=
  ⟨h.1.set 3 _, owns_set h.2.1 h.2.2, h.2.2⟩
theorem CkO.setHeld {w : World} {g : Nat} {v : Value} {c : Ck} (h : CkO w g v c) (k : Bool) : CkO (w.setCell ⟨g, 4, none⟩ (.bool k)) g v { c with held := k } :=
  ⟨h.1.set 4 _, owns_set h.2.1 h.2.2, h.2.2⟩
theorem CkO.setRow {w : World} {g : Nat} {v v' : Value} {c : Ck} (h : Kept w g #[.int .i64 c.rho, v, .int .i64 c.need, .int .i64 c.streak, .bool c.held] 78) {L : List Sm} {n : Nat} (hn : L.length = n) (h1 : w.ownsRow 0 33 4 v' n (cells4 L)) (h2 : v'.ownBlock ≠ some g) : CkO (w.setCell ⟨g, 1, none⟩ v') g v' { c with L := L } := by
  subst hn
  exact ⟨h.set 1 _, owns_set h1 h2, h2⟩
def SCloneOut (L : List Sm) (w : World) (e : Ending) (w' : World) : Prop := ∃ a cap, e = .returned (.slice a L.length cap) ∧ w'.ownsRow w.heap.size 33 4 (.slice a L.length cap) L.length (cells4 L) ∧ Below w.heap.size w w'
theorem sclone_any (x : Option Addr) (xc : Nat) (L : List Sm) (w : World) (hx : QuadRow w x L) (hn : x = none → L = []) (hl : L.length ≤ 4000000) :
    Calls Try.prog 59 #[.slice x L.length xc] w (SCloneOut L w) := by
  cases x with
  | none =>
    obtain rfl := hn rfl
    have h := AnyE.slices_Clone_nil Try.cloneSm 0 xc w
    change Calls Try.prog 59 _ _ _ at h
    refine h.mono fun e w' ⟨he, hw⟩ => ?_
    subst hw
    exact ⟨none, 0, he, World.ownsRow_nil _ _ _ _, Below.refl _ _⟩
  | some a =>
    obtain ⟨i0, hi, hz0, hz1, hz2⟩ := info_parts2 info_sm
    have q : ∀ W, (binOp .eql 22 (.slice (some a) L.length xc) (.slice none 0 0)).run Try.prog W = .ok (.bool false) W := fun W => Lib.run_eql_slice_nil W _ _ (some a) L.length xc 0 0 Try.underlying22
    have hc1 : 0 + L.length ≤ maxLen := by unfold maxLen; omega
    have hc2 : (0 + L.length) * 32 ≤ 140737488355328 := by omega
    have G1 : Hid ((w.alloc (Obj.cells #[] 33)).ownsRow w.heap.size 33 4 (.slice (some ⟨w.heap.size, 0, none⟩) 0 0) 0 []) := Lib.hid (World.ownsRow_made _ #[] 0 (Nat.le_refl _) (by unfold maxLen; omega) rfl)
    have A1 : Hid (Below w.heap.size w (w.alloc (Obj.cells #[] 33))) := Lib.hid ((Below.refl _ _).alloc (Nat.le_refl _) _)
    have R1 : Hid (∀ j u, (cells4 L)[j]? = some u → (w.alloc (Obj.cells #[] 33)).cell? (a.add j) = some u) := Lib.hid (by
      intro j u hj
      have hjl : j < L.length * 4 := by
        have := (List.getElem?_eq_some_iff.1 hj).1
        rwa [cells4_len] at this
      obtain ⟨i, k, hk, rfl⟩ : ∃ i k, k < 4 ∧ j = i * 4 + k := ⟨j / 4, j % 4, by omega, by omega⟩
      have hi : i < L.length := by omega
      rw [cells4_at L i hi k hk] at hj
      obtain ⟨b, off, e1, c1, c2, c3, c4⟩ := (hx.below A1.out) i hi
      cases e1
      rw [Addr.add_lit, ← hj, ← Nat.add_assoc]
      match k, hk with
      | 0, _ => exact c1
      | 1, _ => exact c2
      | 2, _ => exact c3
      | 3, _ => exact c4)
    clear hx hl
    go_enter Try.func59, Try.ntmps59
    go_wp2_with (at_builtin; refine wpList_append_own _ rfl _ _ 22 rfl w.heap.size 33 i0 (.agg #[.int .i64 0, .int .i64 0, .int .i64 0, .int .i64 0]) 4 32 Try.underlying22 hi hz0 hz1 hz2 rfl (by decide) _ _ _ rfl G1.out a L.length xc (cells4 L) rfl (cells4_len L) R1.out (fun u hu => cells4_one_cell hu) hc1 hc2 A1.out.size ?_)
    intro v2 w2 o2 g2 _
    have o3 : w2.ownsRow w.heap.size 33 4 v2 L.length (cells4 L) := by simpa using o2
    obtain ⟨a2, c2, rfl, -, -, -, -, -⟩ := QuadRow.own (L := L) o3
    have O := Lib.hid o3
    have B := Lib.hid (A1.out.grown g2 A1.out.size (fun k hk => (G1.out.lt k hk).1))
    clear o2 o3 g2 q
    go_wp2
    go_ret
    exact ⟨a2, c2, rfl, O.out, B.out⟩
theorem held_any (g : Nat) (v : Value) (c : Ck) (w : World) (h : CkO w g v c) : Calls Try.prog 24 #[.pointer (some ⟨g, 0, none⟩)] w (Gives (.bool c.held) w) := by
  obtain ⟨x1, x2, x3, x4, x5, -⟩ := h.1.five
  clear h
  go_enter Try.func24, Try.ntmps24
  go_wp2
  go_ret
  exact gives_bool rfl (Below.refl _ _)
theorem streak_any (g : Nat) (v : Value) (c : Ck) (w : World) (h : CkO w g v c) : Calls Try.prog 25 #[.pointer (some ⟨g, 0, none⟩)] w (Gives (.int .i64 c.streak) w) := by
  obtain ⟨x1, x2, x3, x4, x5, -⟩ := h.1.five
  clear h
  go_enter Try.func25, Try.ntmps25
  go_wp2
  go_ret
  exact gives_int rfl (Below.refl _ _)
theorem samples_any (g : Nat) (v : Value) (c : Ck) (w : World) (h : CkO w g v c) (hl : c.L.length ≤ 4000000) : Calls Try.prog 27 #[.pointer (some ⟨g, 0, none⟩)] w (SCloneOut c.L w) := by
  obtain ⟨a, cap, rfl, -, -, -, hn, hq⟩ := QuadRow.own h.2.1
  obtain ⟨x1, x2, x3, x4, x5, -⟩ := h.1.five
  have C := Lib.hid (sclone_any a cap c.L w hq (fun e => by
    have h1 := h.2.1.2
    rcases h1 with ⟨_, h1⟩ | ⟨b, cap', cur, h1, _⟩
    · exact List.eq_nil_of_length_eq_zero h1
    · subst e; cases h1) hl)
  clear h hq hn hl
  go_enter Try.func27, Try.ntmps27
  go_wp2_with fail
  refine C.out.mono ?_
  rintro _ w1 ⟨a1, c1, rfl, o1, b1⟩
  have O1 := Lib.hid o1
  have B1 := Lib.hid b1
  clear o1 b1
  go_wp2
  go_ret
  exact ⟨a1, c1, rfl, O1.out, B1.out⟩
def NewOut (rho need : Int) (w : World) (e : Ending) (w' : World) : Prop := ∃ g, e = .returned (.tuple #[.pointer (some ⟨g, 0, none⟩), .int .i64 0]) ∧ w.heap.size ≤ g ∧ CkO w' g (.slice none 0 0) ⟨rho, need, 0, false, []⟩ ∧ Below w.heap.size w w'
def newOk (rho need : Int) : Prop := 0 ≤ rho ∧ rho ≤ 100000 ∧ 0 ≤ need ∧ need ≤ 100
theorem cknew_any (rho need : Int) (w : World) (h : newOk rho need) : Calls Try.prog 10 #[.int .i64 rho, .int .i64 need] w (NewOut rho need w) := by
  unfold newOk at h
  have q1 : ¬ rho < 0 := by omega
  have q2 : ¬ 100000 < rho := by omega
  have q3 : ¬ need < 0 := by omega
  have q4 : ¬ 100 < need := by omega
  have F : Hid (NewOut rho need w (.returned (.tuple #[.pointer (some ⟨w.heap.size, 0, none⟩), .int .i64 0])) (w.alloc (.cells #[.int .i64 rho, .slice none 0 0, .int .i64 need, .int .i64 0, .bool false] 78))) := Lib.hid ⟨_, rfl, Nat.le_refl _, ⟨Kept.new rfl, World.ownsRow_nil _ _ _ _, by simp [Value.ownBlock]⟩, one_alloc _ _⟩
  clear h
  go_enter Try.func10, Try.ntmps10
  go_wp2
  go_ret2
  exact F.out
theorem cknew_no (rho need : Int) (w : World) (h : ¬ newOk rho need) : Calls Try.prog 10 #[.int .i64 rho, .int .i64 need] w (Gives (.tuple #[.pointer none, .int .i64 11]) w) := by
  have H := Lib.hid h
  clear h
  go_enter Try.func10, Try.ntmps10
  go_wp2
  all_goals first
    | (go_ret2; exact ⟨rfl, Below.refl _ _⟩)
    | (exact absurd (by unfold newOk; omega) H.out)
theorem disagreed_any (g : Nat) (v : Value) (c : Ck) (w : World) (h : CkO w g v c) : Calls Try.prog 40 #[.pointer (some ⟨g, 2, none⟩)] w fun e w' => e = .returned (.tuple #[]) ∧ CkO w' g v { c with held := true, streak := 0 } ∧ KpC g v w w' := by
  obtain ⟨x1, x2, x3, x4, x5, y1, y2, y3, y4, y5, -⟩ := h.1.five
  have F : Hid (CkO ((w.setCell ⟨g, 4, none⟩ (.bool true)).setCell ⟨g, 3, none⟩ (.int .i64 0)) g v { c with held := true, streak := 0 } ∧ KpC g v w ((w.setCell ⟨g, 4, none⟩ (.bool true)).setCell ⟨g, 3, none⟩ (.int .i64 0))) := Lib.hid ⟨(h.setHeld true).setStreak 0, ((KpC.refl g v w).set 4 _).set 3 _⟩
  obtain ⟨-, -, -, z4, -, -, -, -, u4, -⟩ := (h.setHeld true).1.five
  clear h
  go_enter Try.func40, Try.ntmps40
  go_wp2
  go_end0
  exact ⟨rfl, F.out⟩
def upS (k : Int) : Int := if k < 9223372036854775807 then k + 1 else k
def upH (c : Ck) : Bool := if c.need ≤ upS c.streak then false else c.held
set_option maxHeartbeats 1000000 in
theorem agreed_any (g : Nat) (v : Value) (c : Ck) (w : World) (h : CkO w g v c) (hi : InI c.streak) : Calls Try.prog 39 #[.pointer (some ⟨g, 2, none⟩)] w fun e w' => e = .returned (.tuple #[]) ∧ CkO w' g v { c with held := upH c, streak := upS c.streak } ∧ KpC g v w w' := by
  unfold InI at hi
  obtain ⟨W, hW⟩ : ∃ W, (if c.streak < 9223372036854775807 then w.setCell ⟨g, 3, none⟩ (.int .i64 (c.streak + 1)) else w) = W := ⟨_, rfl⟩
  have G : CkO W g v { c with streak := upS c.streak } ∧ KpC g v w W := by
    rw [← hW]
    unfold upS
    split
    · exact ⟨h.setStreak _, (KpC.refl g v w).set 3 _⟩
    · exact ⟨h, KpC.refl g v w⟩
  obtain ⟨k, hk⟩ : ∃ k, upS c.streak = k := ⟨_, rfl⟩
  rw [hk] at G
  have F : Hid (∀ n, if c.need ≤ k then CkO ((W.drewN n).setCell ⟨g, 4, none⟩ (.bool false)) g v { c with held := upH c, streak := upS c.streak } ∧ KpC g v w ((W.drewN n).setCell ⟨g, 4, none⟩ (.bool false)) else CkO (W.drewN n) g v { c with held := upH c, streak := upS c.streak } ∧ KpC g v w (W.drewN n)) := Lib.hid fun n => by
    have g1 : CkO (W.drewN n) g v { c with streak := k } := G.1
    have g2 : KpC g v w (W.drewN n) := ⟨G.2.os, G.2.tape, G.2.output, G.2.size, G.2.block⟩
    split
    · have e : upH c = false := by unfold upH; rw [hk, if_pos (by assumption)]
      rw [e, hk]
      exact ⟨g1.setHeld false, g2.set 4 _⟩
    · have e : upH c = c.held := by unfold upH; rw [hk, if_neg (by assumption)]
      rw [e, hk]
      exact ⟨g1, g2⟩
  obtain ⟨x1, x2, x3, x4, x5, y1, y2, y3, y4, y5, -⟩ := h.1.five
  obtain ⟨z1, z2, z3, z4, z5, u1, u2, u3, u4, u5, -⟩ := G.1.1.five
  have hw : c.streak < 9223372036854775807 → wrap64 (c.streak + 1) = c.streak + 1 := fun h => IntWalk.wrap64_in _ (by omega)
  have hk2 : ¬ c.streak < 9223372036854775807 → k = c.streak := fun h => by rw [← hk]; unfold upS; rw [if_neg h]
  clear h G hk hi
  by_cases h1 : c.streak < 9223372036854775807
  · rw [if_pos h1] at hW
    have hw' := hw h1
    have HW := Lib.hid hW
    clear hW hw hk2
    go_enter Try.func39, Try.ntmps39
    go_upto_region 2 with fail
    rw [HW.out]
    by_cases h2 : c.need ≤ k
    · have F' := Lib.hid (fun n => by have := F.out n; rw [if_pos h2] at this; exact this)
      have d2 : decide (c.need ≤ k) = true := decide_eq_true h2
      clear F h2 h1 HW
      go_quiet (fail)
      go_wp2
      go_end0
      exact ⟨rfl, F'.out _⟩
    · have F' := Lib.hid (fun n => by have := F.out n; rw [if_neg h2] at this; exact this)
      have d2 : decide (c.need ≤ k) = false := decide_eq_false h2
      clear F h2 h1 HW
      go_quiet (fail)
      go_wp2
      go_end0
      exact ⟨rfl, F'.out _⟩
  · rw [if_neg h1] at hW
    subst hW
    obtain rfl := hk2 h1
    clear hw hk2 z1 z2 z3 z4 z5 u1 u2 u3 u4 u5
    go_enter Try.func39, Try.ntmps39
    go_upto_region 2 with fail
    by_cases h2 : c.need ≤ c.streak
    · have F' := Lib.hid (fun n => by have := F.out n; rw [if_pos h2] at this; exact this)
      have d2 : decide (c.need ≤ c.streak) = true := decide_eq_true h2
      clear F h2 h1
      go_quiet (fail)
      go_wp2
      go_end0
      exact ⟨rfl, F'.out _⟩
    · have F' := Lib.hid (fun n => by have := F.out n; rw [if_neg h2] at this; exact this)
      have d2 : decide (c.need ≤ c.streak) = false := decide_eq_false h2
      clear F h2 h1
      go_quiet (fail)
      go_wp2
      go_end0
      exact ⟨rfl, F'.out _⟩
end Go.Proofs.Ytflplliiamodhaa
