/- noonmarklaw03.all: for every list of intervals. -/
import Derived.Test.YtahenediimoboaaListD
namespace Go.Proofs.Ytahenediimoboaa
open Go.RowKit
set_option linter.unusedVariables false

theorem PairRow.own {w : World} {base e n : Nat} {v : Value} {d : List (Int × Int)} (h : w.ownsRow base e 2 v n (cells2 d)) : ∃ a cap, v = .slice a n cap ∧ d.length = n ∧ n ≤ cap ∧ cap ≤ 9223372036854775807 ∧ (a = none → cap = 0) ∧ PairRow w a d := by
  have hl : d.length = n := by have := h.1; rw [cells2_len] at this; omega
  rcases h.2 with ⟨rfl, h0⟩ | ⟨g, cap, cur, rfl, hb, hh, h1, h2, h3, h4⟩
  · exact ⟨none, 0, by rw [h0], hl, by omega, by omega, fun _ => rfl, fun j hj => by omega⟩
  · refine ⟨_, cap, rfl, hl, h1, h2, fun e => by simp at e, fun j hj => ⟨g, 0, rfl, ?_, ?_⟩⟩
    · rw [Nat.zero_add, h.cellAt (j * 2) (by omega)]; exact (cells2_at d j hj).1
    · rw [Nat.zero_add, h.cellAt (j * 2 + 1) (by omega)]; exact (cells2_at d j hj).2
theorem owns_below {w w' : World} {base e size n : Nat} {v : Value} {xs : List Value} (h : w.ownsRow base e size v n xs) (hb : Below w.heap.size w w') : w'.ownsRow base e size v n xs := by
  obtain ⟨h1, h2⟩ := h
  refine ⟨h1, ?_⟩
  rcases h2 with h2 | ⟨g, cap, cur, e1, e2, e3, e4⟩
  · exact .inl h2
  · exact .inr ⟨g, cap, cur, e1, e2, (hb.block g (Array.getElem?_eq_some_iff.1 e3).1).trans e3, e4⟩
theorem info_ref : (Try.prog.info? 31).map (fun i => (i.zero, i.size, i.bytes)) = some (some (.agg #[.int .i64 0, .int .i64 0]), 2, 16) := by kernel_rfl
theorem info_gap : (Try.prog.info? 23).map (fun i => (i.zero, i.size, i.bytes)) = some (some (.agg #[.int .i64 0, .int .i64 0]), 2, 16) := by kernel_rfl
theorem info_parts2 {P : Program} {t : TypeId} {z : Value} {s b : Nat} (h : (P.info? t).map (fun i => (i.zero, i.size, i.bytes)) = some (some z, s, b)) : ∃ i, P.info? t = some i ∧ i.zero = some z ∧ i.size = s ∧ i.bytes = b := by
  obtain ⟨i, h1, h2⟩ := Option.map_eq_some_iff.1 h
  simp only [Prod.mk.injEq] at h2
  exact ⟨i, h1, h2.1, h2.2.1, h2.2.2⟩
def PairsOut (T : TypeId) (l : List (Int × Int)) (w : World) (e : Ending) (w' : World) : Prop := ∃ v, e = .returned v ∧ w'.ownsRow w.heap.size T 2 v l.length (cells2 l) ∧ Below w.heap.size w w'
def AlRel (l : List (Int × Int)) (w : World) (v i : Value) (wr : World) : Prop := ∃ k : Nat, k ≤ l.length ∧ i = .int .i64 k ∧ Hid (wr.ownsRow w.heap.size 31 2 v k (cells2 (l.take k))) ∧ Hid (Below w.heap.size w wr)
theorem take_pair (l : List (Int × Int)) (k : Nat) (hk : k < l.length) : l.take (k + 1) = l.take k ++ [l.getD k (0, 0)] := by
  rw [List.take_add_one]
  simp [List.getD, List.getElem?_eq_getElem hk]
theorem pair_one {w : World} {g : Nat} {p q : Int} {T : TypeId} (h : Kept w g #[.int .i64 p, .int .i64 q] T) : PairRow w (some ⟨g, 0, none⟩) [(p, q)] := fun j hj => by
  simp only [List.length_cons, List.length_nil] at hj
  obtain rfl : j = 0 := by omega
  exact ⟨g, 0, rfl, (h.at_ 0).1, (h.at_ 1).1⟩
set_option maxHeartbeats 1000000 in
theorem all_any (x : Option Addr) (xc : Nat) (l : List (Int × Int)) (w : World) (hx : PairRow w x l) (hl : l.length ≤ 100000) :
    Calls Try.prog 23 #[.slice x l.length xc] w (PairsOut 31 l w) := by
  obtain ⟨i0, hi, hz0, hz1, hz2⟩ := info_parts2 info_ref
  have HX := Lib.hid hx
  have H0 : Hid ((w.alloc (Obj.cells #[] 31)).ownsRow w.heap.size 31 2 (.slice (some ⟨w.heap.size, 0, none⟩) 0 0) 0 []) := Lib.hid (World.ownsRow_made _ #[] 0 (Nat.le_refl _) (by unfold maxLen; omega) rfl)
  have B0 : Hid (Below w.heap.size w (w.alloc (Obj.cells #[] 31))) := Lib.hid ((Below.refl _ _).alloc (Nat.le_refl _) _)
  clear hx
  go_enter Try.func23, Try.ntmps23
  go_wp2
  go_loopw [3, 4] (fun v i wr => AlRel l w v i wr) (fun _ i _ => l.length - (intOf i).toNat)
  case atStart => exact ⟨0, Nat.zero_le _, rfl, H0, B0⟩
  case round =>
    obtain ⟨k, hk, rfl, H, B⟩ := hrel
    by_cases hlt : k < l.length
    · obtain ⟨b, off, rfl, h1, h2⟩ := (HX.out.below B.out) k hlt
      have htk := take_pair l k hlt
      generalize l.getD k (0, 0) = z at h1 h2 htk
      obtain ⟨p, q⟩ := z
      have HT := Lib.hid htk
      have hc1 : k + [(p, q)].length ≤ maxLen := by unfold maxLen; simp; omega
      have hc2 : (k + [(p, q)].length) * 16 ≤ 140737488355328 := by simp; omega
      clear htk
      go_wp2_with fail
      refine (of_any p q _).mono ?_
      rintro _ w2 ⟨rfl, b2⟩
      have H2 := Lib.hid ((owns_below H.out b2).alloc (.cells #[.int .i64 p, .int .i64 q] 31))
      have B2 : Hid (Below w.heap.size w w2) := Lib.hid (bnext B.out B.out.size b2)
      have B3 := Lib.hid (B2.out.alloc B2.out.size (.cells #[.int .i64 p, .int .i64 q] 31))
      have R2 := Lib.hid (pair_one (Kept.new (w := w2) (cs := #[.int .i64 p, .int .i64 q]) (t := 31) rfl))
      clear b2 h1 h2
      go_wp2_with (at_builtin; refine wpList_appendPairs rfl _ _ 46 rfl w 31 i0 (.agg #[.int .i64 0, .int .i64 0]) 16 Try.underlying46 hi hz0 hz1 hz2 rfl _ _ _ rfl H2.out _ 1 [(p, q)] rfl (fun e => by simp at e) R2.out hc1 hc2 B3.out ?_)
      intro v' w3 o3 b3
      have H3 : Hid (w3.ownsRow w.heap.size 31 2 v' (k + 1) (cells2 (l.take (k + 1)))) := Lib.hid (by rw [HT.out, cells2_append]; exact o3)
      have B4 := Lib.hid b3
      clear o3 b3
      go_wp2
      go_roundw
      case rel => exact ⟨k + 1, hlt, by go_num, H3, B4⟩
      case measure => simp [intOf]; omega
    · obtain rfl : k = l.length := by omega
      have H2 := H.out
      rw [List.take_length] at H2
      have H3 := Lib.hid H2
      clear H2
      go_wp2
      go_ret
      exact ⟨_, rfl, H3.out, B.out⟩
end Go.Proofs.Ytahenediimoboaa
