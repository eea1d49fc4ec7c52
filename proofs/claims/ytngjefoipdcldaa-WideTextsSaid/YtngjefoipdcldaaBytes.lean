/- noonmarkref00: CopyBytes, SameBytes: for every list; lists of bytes in memory. -/
import Derived.Test.YtngjefoipdcldaaKeep
namespace Go.Proofs.Ytngjefoipdcldaa
open Go.RowKit
set_option linter.unusedVariables false

theorem IntRow.ownK {w : World} {base e n : Nat} {v : Value} {k : IntKind} {d : List Int} (h : w.ownsRow base e 1 v n (d.map (Value.int k))) : ∃ a cap, v = .slice a n cap ∧ d.length = n ∧ n ≤ cap ∧ cap ≤ 9223372036854775807 ∧ (a = none → cap = 0) ∧ IntRow w a k d := by
  have hl : d.length = n := by have := h.1; simpa using this
  rcases h.2 with ⟨rfl, h0⟩ | ⟨g, cap, cur, rfl, hb, hh, h1, h2, h3, h4⟩
  · exact ⟨none, 0, by rw [h0], hl, by omega, by omega, fun _ => rfl, fun j hj => by omega⟩
  · refine ⟨_, cap, rfl, hl, h1, h2, fun e => by simp at e, fun j hj => ⟨g, 0, rfl, ?_⟩⟩
    rw [Nat.zero_add, h.cellAt j (by omega)]
    simp [List.getD_eq_getElem?_getD, List.getElem?_eq_getElem hj]
/-- a slice whose elements are these bytes -/
def BytesAt (w : World) (v : Value) (l : List Int) : Prop := ∃ a c, v = .slice a l.length c ∧ (a = none → c = 0) ∧ l.length ≤ c ∧ c ≤ 9223372036854775807 ∧ IntRow w a .u8 l
theorem BytesAt.below {w w' : World} {v : Value} {l : List Int} (h : BytesAt w v l) (hb : Below w.heap.size w w') : BytesAt w' v l := by
  obtain ⟨a, c, h1, h2, h3, h4, h5⟩ := h
  exact ⟨a, c, h1, h2, h3, h4, h5.below hb⟩
theorem BytesAt.drewN {w : World} {v : Value} {l : List Int} (h : BytesAt w v l) (n : Nat) : BytesAt (w.drewN n) v l := by
  obtain ⟨a, c, h1, h2, h3, h4, h5⟩ := h
  exact ⟨a, c, h1, h2, h3, h4, h5⟩
theorem BytesAt.own {w : World} {base e n : Nat} {v : Value} {d : List Int} (h : w.ownsRow base e 1 v n (d.map (Value.int .u8))) : BytesAt w v d := by
  obtain ⟨a, cap, e1, e2, e3, e4, e5, e6⟩ := IntRow.ownK h
  subst e2
  exact ⟨a, cap, e1, e5, e3, e4, e6⟩
theorem BytesAt.nil (w : World) : BytesAt w (.slice none 0 0) [] := ⟨none, 0, rfl, fun _ => rfl, Nat.le_refl _, by omega, fun j hj => by simp at hj⟩
/-- what a call leaves that answers a new list of integers -/
def IntsOut (k : IntKind) (l : List Int) (w : World) (e : Ending) (w' : World) : Prop := ∃ v, e = .returned v ∧ w'.ownsRow w.heap.size 5 1 v l.length (l.map (Value.int k)) ∧ Below w.heap.size w w'
theorem info_uint8 : (Try.prog.info? 5).map (fun i => (i.zero, i.size, i.bytes)) = some (some (.int .u8 0), 1, 1) := by kernel_rfl
set_option maxHeartbeats 400000 in
theorem copyBytes_any (a : Option Addr) (c : Nat) (l : List Int) (w : World) (hr : IntRow w a .u8 l) (ha : a = none → c = 0) (hl : l.length ≤ 1000000) :
    Calls Try.prog 33 #[.slice a l.length c] w fun e w' => IntsOut .u8 l w e w' := by
  obtain ⟨i0, hi, hz0, hz1, hz2⟩ := info_parts info_uint8
  have HR := Lib.hid (hr.alloc (Obj.cells #[] 5))
  have HA := Lib.hid ha
  have hc1 : 0 + l.length ≤ maxLen := by unfold maxLen; omega
  have hc2 : (0 + l.length) * 1 ≤ 140737488355328 := by omega
  have hown : Hid ((w.alloc (Obj.cells #[] 5)).ownsRow w.heap.size 5 1 (.slice (some ⟨w.heap.size, 0, none⟩) 0 0) 0 []) := Lib.hid (World.ownsRow_made _ #[] 0 (Nat.le_refl _) (by unfold maxLen; omega) rfl)
  have hbel : Hid (Below w.heap.size w (w.alloc (Obj.cells #[] 5))) := Lib.hid ((Below.refl _ _).alloc (Nat.le_refl _) _)
  clear hr ha
  go_enter Try.func33, Try.ntmps33
  go_wp2_with (at_builtin; refine wpList_appendInts rfl _ _ 59 rfl w 5 i0 (.int .u8 0) 1 Try.underlying59 hi hz0 hz1 hz2 rfl _ 0 [] rfl hown.out .u8 a c l rfl HA.out HR.out hc1 hc2 hbel.out ?_)
  intro v' w1 hown' hbel'
  have Hown' := Lib.hid hown'
  have Hbel' := Lib.hid hbel'
  clear hown' hbel'
  go_wp2
  go_ret
  exact ⟨_, rfl, by simpa using Hown'.out, Hbel'.out⟩
def SameRel (l m : List Int) (w : World) (i : Value) (wr : World) : Prop := ∃ k n : Nat, k ≤ l.length ∧ i = .int .i64 k ∧ Hid (∀ j, j < k → l.getD j 0 = m.getD j 0) ∧ wr = w.drewN n
def SamePost (l m : List Int) (w : World) (e : Ending) (w' : World) : Prop := e = .returned (.bool (decide (l = m))) ∧ ∃ n, w' = w.drewN n
set_option maxHeartbeats 1000000 in
theorem sameBytes_any (a b : Option Addr) (c d : Nat) (l m : List Int) (w : World) (ha : IntRow w a .u8 l) (hb : IntRow w b .u8 m) (hl : l.length ≤ 1000000) (hm : m.length ≤ 9223372036854775807) :
    Calls Try.prog 34 #[.slice a l.length c, .slice b m.length d] w fun e w' => SamePost l m w e w' := by
  by_cases hlen : l.length = m.length
  · have HA := Lib.hid ha
    have HB := Lib.hid hb
    have HE := Lib.hid hlen
    have hne : ((l.length : Int) != (m.length : Int)) = false := by rw [hlen]; simp
    clear ha hb hlen
    go_enter Try.func34, Try.ntmps34
    go_wp2
    go_loopw [5] (fun i wr => SameRel l m w i wr) (fun i _ => l.length - (intOf i).toNat)
    case atStart => exact ⟨0, 0, Nat.zero_le _, rfl, Lib.hid (fun j hj => by omega), rfl⟩
    case round =>
      obtain ⟨k, nd, hk, rfl, HK, rfl⟩ := hrel
      by_cases hlt : k < l.length
      · obtain ⟨b1, o1, rfl, hc1⟩ := HA.out k hlt
        obtain ⟨b2, o2, rfl, hc2⟩ := HB.out k (by have := HE.out; omega)
        obtain ⟨u, hu⟩ : ∃ u, l.getD k 0 = u := ⟨_, rfl⟩
        obtain ⟨v, hv⟩ : ∃ u, m.getD k 0 = u := ⟨_, rfl⟩
        rw [hu] at hc1
        rw [hv] at hc2
        have hi0 : (0 : Int) ≤ (k : Int) := by omega
        have hi1 : (k : Int) < (l.length : Int) := by omega
        have hi2 : (k : Int) < (m.length : Int) := by have := HE.out; omega
        have fin1 : ∀ n, (u != v) = false → SameRel l m w (.int .i64 ((k : Int) + 1)) (w.drewN n) := fun n h =>
          ⟨k + 1, n, hlt, rfl, Lib.hid (fun j hj => by
            by_cases e : j = k
            · rw [e, hu, hv]; exact WalkArith.int_eq' h
            · exact HK.out j (by omega)), rfl⟩
        have fin2 : ∀ n, (u != v) = true → SamePost l m w (.returned (.bool false)) (w.drewN n) := fun n h =>
          ⟨by rw [decide_eq_false]; intro e; rw [e] at hu; exact WalkArith.int_ne' h (by rw [← hu, ← hv]), n, rfl⟩
        have F1 := Lib.hid fin1
        have F2 := Lib.hid fin2
        clear fin1 fin2 hu hv
        go_wp2
        go_quiet (fail)
        go_wp2
        · have h : (u != v) = true := by assumption
          go_ret
          first | exact F2.out _ h | (rw [World.drewN_drewN]; exact F2.out _ h)
        · have h : (u != v) = false := by assumption
          go_roundw
          case rel => first | exact F1.out _ h | (rw [World.drewN_drewN]; exact F1.out _ h)
          case measure => simp [intOf]; omega
      · have fin : SamePost l m w (.returned (.bool true)) (w.drewN nd) := ⟨by rw [decide_eq_true]; exact eq_of_getD HE.out (fun j hj => HK.out j (by omega)), nd, rfl⟩
        have Fin := Lib.hid fin
        clear fin
        go_wp2
        go_ret
        exact Fin.out
  · have hne : ((l.length : Int) != (m.length : Int)) = true := by rw [bne_iff_ne]; omega
    have hlm : l ≠ m := fun e => hlen (by rw [e])
    have fin : SamePost l m w (.returned (.bool false)) w := ⟨by rw [decide_eq_false hlm], 0, rfl⟩
    have Fin := Lib.hid fin
    clear fin hlen hlm ha hb
    go_enter Try.func34, Try.ntmps34
    go_wp2
    go_ret
    exact Fin.out
end Go.Proofs.Ytngjefoipdcldaa
