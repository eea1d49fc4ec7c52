/- noonmarkref00: CopyLongs, SameLongs: for every list. -/
import Derived.Test.YtjglpgicboocmaaNumF
import Derived.Laws.AppendOwnNone
namespace Go.Proofs.Ytjglpgicboocmaa
open Go.RowKit
set_option linter.unusedVariables false

section
variable {P : Program}
/-- a list of integers that lies in memory is appended to a slice that the call itself made -/
theorem wp_appendInts {o : Oper} {a : Act} {w : World} {K : Act → World → Prop} {Q : Exit → Act → World → Prop} (s x : Operand) (t : TypeId)
    (ho : o.op = .call { callee := .builtin .append, args := #[s, x], argTypes := #[t, t] })
    (w0 : World) (e : TypeId) (i : TypeInfo) (z : Value) (bytes : Nat) (ht : P.underlying t = some (.slice e)) (hi : P.info? e = some i) (hz : i.zero = some z)
    (hsize : i.size = 1) (hby : i.bytes = bytes) (hzs : z.cells.size = 1)
    (v : Value) (n : Nat) (xs : List Value) (hs : a.eval s = v) (hown : w.ownsRow w0.heap.size e 1 v n xs)
    (k : IntKind) (A : Option Addr) (c : Nat) (l : List Int) (hx : a.eval x = .slice A l.length c) (hA : A = none → c = 0) (hr : IntRow w A k l)
    (h63 : n + l.length ≤ maxLen) (hbytes : (n + l.length) * bytes ≤ 140737488355328) (hb : Below w0.heap.size w0 w)
    (h : ∀ v' w', w'.ownsRow w0.heap.size e 1 v' (n + l.length) (xs ++ l.map (Value.int k)) → Below w0.heap.size w0 w' → K (a.put o.dst v') w') : o.wp P a w K Q := by
  rcases A with _ | ad
  · have hl : l = [] := by
      cases l with
      | nil => rfl
      | cons y ys => obtain ⟨_, _, e1, _⟩ := hr 0 (by simp); cases e1
    subst hl
    have hrun := run_append_owned_none (P := P) (w := w) w0.heap.size t o.type e i 1 ht hi v n xs hown
    have hx' : a.eval x = .slice none 0 0 := by rw [hx, hA rfl]; rfl
    have h1 := h v w (by simpa using hown) hb
    unfold Oper.wp
    simp [execOp, ho, resolve, invoke, builtin, hs, hx', hrun, Result.andThen]
    exact h1
  · refine wp_append_own w s x t ho w0.heap.size e i z 1 bytes ht hi hz hsize hby hzs (by decide) v n xs hs hown ad l.length c (l.map (Value.int k)) hx (by simp) ?_ ?_ h63 hbytes hb.size ?_
    · intro j u hj
      rw [List.getElem?_map] at hj
      obtain ⟨y, hy, rfl⟩ := Option.map_eq_some_iff.1 hj
      obtain ⟨hjl, _⟩ := List.getElem?_eq_some_iff.1 hy
      obtain ⟨b, off, e1, hc⟩ := hr j hjl
      obtain rfl := Option.some.inj e1
      rw [List.getD_eq_getElem?_getD, hy] at hc
      have e2 : (⟨b, off, none⟩ : Addr).add j = ⟨b, off + j, none⟩ := by
        unfold Addr.add
        split
        · subst_vars; rfl
        · rfl
      rw [e2]
      exact hc
    · intro u hu
      obtain ⟨y, _, rfl⟩ := List.mem_map.1 hu
      rfl
    · intro v' w' hown' hgrow _
      exact h v' w' hown' (hb.grown hgrow hb.size (fun j hj => (hown.lt j hj).1))
theorem wpList_appendInts {ops : Array Oper} {rest : List Oper} {o : Oper} {a : Act} {w : World} {Q : Exit → Act → World → Prop} (hgd : o.guard = none) (s x : Operand) (t : TypeId)
    (ho : o.op = .call { callee := .builtin .append, args := #[s, x], argTypes := #[t, t] })
    (w0 : World) (e : TypeId) (i : TypeInfo) (z : Value) (bytes : Nat) (ht : P.underlying t = some (.slice e)) (hi : P.info? e = some i) (hz : i.zero = some z)
    (hsize : i.size = 1) (hby : i.bytes = bytes) (hzs : z.cells.size = 1)
    (v : Value) (n : Nat) (xs : List Value) (hs : a.eval s = v) (hown : w.ownsRow w0.heap.size e 1 v n xs)
    (k : IntKind) (A : Option Addr) (c : Nat) (l : List Int) (hx : a.eval x = .slice A l.length c) (hA : A = none → c = 0) (hr : IntRow w A k l)
    (h63 : n + l.length ≤ maxLen) (hbytes : (n + l.length) * bytes ≤ 140737488355328) (hb : Below w0.heap.size w0 w)
    (h : ∀ v' w', w'.ownsRow w0.heap.size e 1 v' (n + l.length) (xs ++ l.map (Value.int k)) → Below w0.heap.size w0 w' → wpList P ops Q rest (a.put o.dst v') w') : wpList P ops Q (o :: rest) a w :=
  wpList_plain hgd fun _ hK => wp_appendInts s x t ho w0 e i z bytes ht hi hz hsize hby hzs v n xs hs hown k A c l hx hA hr h63 hbytes hb fun v' w' h2 h3 => hK _ _ (h v' w' h2 h3)
theorem step_appendInts {ops : Array Oper} {o : Oper} {a : Act} {w : World} {K : Act → World → Prop} {Q : Exit → Act → World → Prop} {E : Prop} (hgd : o.guard = none) (s x : Operand) (t : TypeId)
    (ho : o.op = .call { callee := .builtin .append, args := #[s, x], argTypes := #[t, t] })
    (w0 : World) (e : TypeId) (i : TypeInfo) (z : Value) (bytes : Nat) (ht : P.underlying t = some (.slice e)) (hi : P.info? e = some i) (hz : i.zero = some z)
    (hsize : i.size = 1) (hby : i.bytes = bytes) (hzs : z.cells.size = 1)
    (v : Value) (n : Nat) (xs : List Value) (hs : a.eval s = v) (hown : w.ownsRow w0.heap.size e 1 v n xs)
    (k : IntKind) (A : Option Addr) (m c : Nat) (l : List Int) (hm : l.length = m) (hx : a.eval x = .slice A m c) (hA : A = none → c = 0) (hr : IntRow w A k l)
    (h63 : n + m ≤ maxLen) (hbytes : (n + m) * bytes ≤ 140737488355328) (hb : Below w0.heap.size w0 w)
    (h : ∀ v' w', w'.ownsRow w0.heap.size e 1 v' (n + m) (xs ++ l.map (Value.int k)) → Below w0.heap.size w0 w' → K (a.put o.dst v') w') :
    if Region.wanted o (yielded ops a.tmps) = true then Oper.wp P o a w K Q else E := by
  subst hm
  have hw : Region.wanted o (yielded ops a.tmps) = true := by simp [Region.wanted, hgd]
  rw [if_pos hw]
  exact wp_appendInts s x t ho w0 e i z bytes ht hi hz hsize hby hzs v n xs hs hown k A c l hx hA hr h63 hbytes hb h
end

/-- what a call leaves that answers a new list of integers -/
def IntsOut (k : IntKind) (l : List Int) (w : World) (e : Ending) (w' : World) : Prop := ∃ v, e = .returned v ∧ w'.ownsRow w.heap.size 2 1 v l.length (l.map (Value.int k)) ∧ Below w.heap.size w w'
theorem info_int64 : (Try.prog.info? 2).map (fun i => (i.zero, i.size, i.bytes)) = some (some (.int .i64 0), 1, 8) := by kernel_rfl
set_option maxHeartbeats 400000 in
theorem copyLongs_any (a : Option Addr) (c : Nat) (l : List Int) (w : World) (hr : IntRow w a .i64 l) (ha : a = none → c = 0) (hl : l.length ≤ 1000000) :
    Calls Try.prog 7 #[.slice a l.length c] w fun e w' => IntsOut .i64 l w e w' := by
  obtain ⟨i0, hi, hz0, hz1, hz2⟩ := info_parts info_int64
  have HR := Lib.hid (hr.alloc (Obj.cells #[] 2))
  have HA := Lib.hid ha
  have hc1 : 0 + l.length ≤ maxLen := by unfold maxLen; omega
  have hc2 : (0 + l.length) * 8 ≤ 140737488355328 := by omega
  have hown : Hid ((w.alloc (Obj.cells #[] 2)).ownsRow w.heap.size 2 1 (.slice (some ⟨w.heap.size, 0, none⟩) 0 0) 0 []) := Lib.hid (World.ownsRow_made _ #[] 0 (Nat.le_refl _) (by unfold maxLen; omega) rfl)
  have hbel : Hid (Below w.heap.size w (w.alloc (Obj.cells #[] 2))) := Lib.hid ((Below.refl _ _).alloc (Nat.le_refl _) _)
  clear hr ha
  go_enter Try.func7, Try.ntmps7
  go_wp2_with (at_builtin; refine wpList_appendInts rfl _ _ 22 rfl w 2 i0 (.int .i64 0) 8 Try.underlying22 hi hz0 hz1 hz2 rfl _ 0 [] rfl hown.out .i64 a c l rfl HA.out HR.out hc1 hc2 hbel.out ?_)
  intro v' w1 hown' hbel'
  have Hown' := Lib.hid hown'
  have Hbel' := Lib.hid hbel'
  clear hown' hbel'
  go_wp2
  go_ret
  exact ⟨_, rfl, by simpa using Hown'.out, Hbel'.out⟩
def SameRel (l m : List Int) (w : World) (i : Value) (wr : World) : Prop := ∃ k n : Nat, k ≤ l.length ∧ i = .int .i64 k ∧ Hid (∀ j, j < k → l.getD j 0 = m.getD j 0) ∧ wr = w.drewN n
theorem eq_of_getD {l m : List Int} (hl : l.length = m.length) (h : ∀ j, j < l.length → l.getD j 0 = m.getD j 0) : l = m := by
  refine List.ext_getElem hl fun j h1 h2 => ?_
  have := h j h1
  simpa [List.getD_eq_getElem?_getD, List.getElem?_eq_getElem h1, List.getElem?_eq_getElem h2] using this
def SamePost (l m : List Int) (w : World) (e : Ending) (w' : World) : Prop := e = .returned (.bool (decide (l = m))) ∧ ∃ n, w' = w.drewN n
set_option maxHeartbeats 1000000 in
theorem sameLongs_any (a b : Option Addr) (c d : Nat) (l m : List Int) (w : World) (ha : IntRow w a .i64 l) (hb : IntRow w b .i64 m) (hl : l.length ≤ 1000000) (hm : m.length ≤ 9223372036854775807) :
    Calls Try.prog 10 #[.slice a l.length c, .slice b m.length d] w fun e w' => SamePost l m w e w' := by
  by_cases hlen : l.length = m.length
  · have HA := Lib.hid ha
    have HB := Lib.hid hb
    have HE := Lib.hid hlen
    have hne : ((l.length : Int) != (m.length : Int)) = false := by rw [hlen]; simp
    clear ha hb hlen
    go_enter Try.func10, Try.ntmps10
    go_wp2
    go_loopw [5] (fun i wr => SameRel l m w i wr) (fun i _ => l.length - (intOf i).toNat)
    case atStart => exact ⟨0, 0, Nat.zero_le _, rfl, Lib.hid (fun j hj => by omega), rfl⟩
    case round =>
      obtain ⟨k, nd, hk, rfl, HK, rfl⟩ := hrel
      by_cases hlt : k < l.length
      · obtain ⟨b1, o1, rfl, hc1⟩ := HA.out k hlt
        obtain ⟨b2, o2, rfl, hc2⟩ := HB.out k (by have := HE.out; omega)
        obtain ⟨u, hu⟩ : ∃ u, l.getD k 0 = u := ⟨_, rfl⟩
        obtain ⟨v, hv⟩ : ∃ u, m.getD k 0 = u := ⟨_, rfl⟩
        rw [hu] at hc1
        rw [hv] at hc2
        have hi0 : (0 : Int) ≤ (k : Int) := by omega
        have hi1 : (k : Int) < (l.length : Int) := by omega
        have hi2 : (k : Int) < (m.length : Int) := by have := HE.out; omega
        have fin1 : ∀ n, (u != v) = false → SameRel l m w (.int .i64 ((k : Int) + 1)) (w.drewN n) := fun n h =>
          ⟨k + 1, n, hlt, rfl, Lib.hid (fun j hj => by
            by_cases e : j = k
            · rw [e, hu, hv]; exact WalkArith.int_eq' h
            · exact HK.out j (by omega)), rfl⟩
        have fin2 : ∀ n, (u != v) = true → SamePost l m w (.returned (.bool false)) (w.drewN n) := fun n h =>
          ⟨by rw [decide_eq_false]; intro e; rw [e] at hu; exact WalkArith.int_ne' h (by rw [← hu, ← hv]), n, rfl⟩
        have F1 := Lib.hid fin1
        have F2 := Lib.hid fin2
        clear fin1 fin2 hu hv
        go_wp2
        go_quiet (fail)
        go_wp2
        · have h : (u != v) = true := by assumption
          go_ret
          first | exact F2.out _ h | (rw [World.drewN_drewN]; exact F2.out _ h)
        · have h : (u != v) = false := by assumption
          go_roundw
          case rel => first | exact F1.out _ h | (rw [World.drewN_drewN]; exact F1.out _ h)
          case measure => simp [intOf]; omega
      · have fin : SamePost l m w (.returned (.bool true)) (w.drewN nd) := ⟨by rw [decide_eq_true]; exact eq_of_getD HE.out (fun j hj => HK.out j (by omega)), nd, rfl⟩
        have Fin := Lib.hid fin
        clear fin
        go_wp2
        go_ret
        exact Fin.out
  · have hne : ((l.length : Int) != (m.length : Int)) = true := by rw [bne_iff_ne]; omega
    have hlm : l ≠ m := fun e => hlen (by rw [e])
    have fin : SamePost l m w (.returned (.bool false)) w := ⟨by rw [decide_eq_false hlm], 0, rfl⟩
    have Fin := Lib.hid fin
    clear fin hlen hlm ha hb
    go_enter Try.func10, Try.ntmps10
    go_wp2
    go_ret
    exact Fin.out
end Go.Proofs.Ytjglpgicboocmaa
