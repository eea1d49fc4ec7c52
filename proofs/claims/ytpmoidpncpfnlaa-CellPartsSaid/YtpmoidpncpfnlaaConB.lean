/- slices.Grow of nil, Concat over bytes: for every input. -/
import Derived.Test.YtpmoidpncpfnlaaCodeD
import Derived.Deep.LoopGhost
import Derived.Outline
import Derived.Lib.AppendZeros
namespace Go.Proofs.Ytpmoidpncpfnlaa
open Go.RowKit
set_option linter.unusedVariables false

/-- the parts' headers lie one beside another behind an address; each part's bytes lie behind its own -/
def PartsRow (w : World) (a : Option Addr) (l : List (List Int)) : Prop := ∀ j, j < l.length → ∃ b off, a = some ⟨b, off, none⟩ ∧ ∃ x c, w.cell? ⟨b, off + j, none⟩ = some (.slice x (l.getD j []).length c) ∧ (x = none → c = 0) ∧ IntRow w x .u8 (l.getD j [])
theorem getD_memL {l : List (List Int)} {j : Nat} (h : j < l.length) : l.getD j [] ∈ l := by
  rw [List.getD_eq_getElem?_getD, List.getElem?_eq_getElem h]
  exact List.getElem_mem h

theorem kind_int : (Try.prog.underlying 3) = some (.int .i64) := by kernel_rfl
/-- a new slice of none, with room -/
def Room (w : World) (e : Ending) (w' : World) : Prop := ∃ v, e = .returned v ∧ w'.ownsRow w.heap.size 5 1 v 0 [] ∧ Below w.heap.size w w'
theorem zeroCells_size (z : Array Value) (n : Nat) : (Builtin.zeroCells z n).size = n * z.size := by
  unfold Builtin.zeroCells
  simp
set_option maxHeartbeats 400000 in
set_option maxRecDepth 1000000 in
theorem grow_nil (n : Nat) (w : World) (hn : n ≤ 1000000000) : Calls Try.prog 82 #[.slice none 0 0, .int .i64 n] w (Room w) := by
  obtain ⟨i0, hi, hz0, hz1, hz2⟩ := info_parts info_uint8
  by_cases h0 : n = 0
  · subst h0
    go_enter Try.func82, Try.ntmps82
    go_wp2
    go_ret
    exact ⟨_, rfl, World.ownsRow_nil _ _ _ _, Below.refl _ _⟩
  · have hpos : (0 : Int) < (n : Int) := by omega
    have hrun := Lib.hid (fun (w : World) (ty : TypeId) => Lib.run_append_nil_zeros (P := Try.prog) w 53 3 ty 5 i0 (.int .u8 0) .i64 .i64 Try.underlying53 kind_int hi hz0 n (by omega) (by rw [hz1]; omega) (by omega) (by rw [hz2]; omega))
    go_enter Try.func82, Try.ntmps82
    go_wp2_with (at_builtin; refine Lib.wpList_append_run _ rfl _ _ _ _ rfl _ _ rfl rfl _ _ (hrun.out _ _) ?_)
    go_ret
    exact ⟨_, rfl, World.ownsRow_made _ _ _ (Nat.le_refl _) (grownCap_le_maxLen _ _ _ _ (by unfold maxLen; omega)) (by have := grownCap_ge w n 0 5; simp [zeroCells_size]; omega), Below.alloc (show Below w.heap.size w w.drew from ⟨rfl, rfl, rfl, Nat.le_refl _, fun _ _ => rfl⟩) (Nat.le_refl _) _⟩
/-- how many bytes lists have together -/
def lenP (l : List (List Int)) : Nat := (l.map List.length).sum
theorem lenP_snoc (l : List (List Int)) (k : Nat) (hk : k < l.length) : lenP (l.take (k + 1)) = lenP (l.take k) + (l.getD k []).length := by
  unfold lenP
  rw [List.take_add_one, List.map_append, List.sum_append]
  simp [List.getD, List.getElem?_eq_getElem hk]
theorem flat_snoc (l : List (List Int)) (k : Nat) (hk : k < l.length) : (l.take (k + 1)).flatten = (l.take k).flatten ++ l.getD k [] := by
  rw [List.take_add_one, List.flatten_append]
  simp [List.getD, List.getElem?_eq_getElem hk]
theorem lenP_flat (l : List (List Int)) : l.flatten.length = lenP l := by unfold lenP; rw [List.length_flatten]
theorem lenP_le (l : List (List Int)) (k : Nat) : lenP (l.take k) ≤ lenP l := by
  rw [← lenP_flat, ← lenP_flat]
  have : l.flatten = (l.take k).flatten ++ (l.drop k).flatten := by rw [← List.flatten_append, List.take_append_drop]
  rw [this, List.length_append]
  omega
theorem PartsRow.below {w w' : World} {a : Option Addr} {l : List (List Int)} (h : PartsRow w a l) (hb : Below w.heap.size w w') : PartsRow w' a l := fun j hj => by
  obtain ⟨b, off, e, x, c, h1, hn, h2⟩ := h j hj
  exact ⟨b, off, e, x, c, (hb.cell (World.block_lt_of_cell? w _ h1)).trans h1, hn, h2.below hb⟩
def Con1 (l : List (List Int)) (s i : Value) : Prop := ∃ k : Nat, k ≤ l.length ∧ i = .int .i64 k ∧ ∃ n : Nat, n ≤ 1000000000 ∧ Hid (lenP (l.take k) = n) ∧ s = .int .i64 n
def Con2 (l : List (List Int)) (w : World) (v i : Value) (wr : World) : Prop := ∃ k : Nat, k ≤ l.length ∧ i = .int .i64 k ∧ ∃ n : Nat, n ≤ 1000000000 ∧ Hid (lenP (l.take k) = n) ∧ Hid (wr.ownsRow w.heap.size 5 1 v n ((l.take k).flatten.map (Value.int .u8))) ∧ Hid (Below w.heap.size w wr)
set_option maxHeartbeats 1000000 in
set_option maxRecDepth 1000000 in
theorem concat_any (a : Option Addr) (cap : Nat) (l : List (List Int)) (w : World) (hr : PartsRow w a l) (hl : l.length ≤ 1000000) (hp : lenP l ≤ 1000000000) :
    Calls Try.prog 54 #[.slice a l.length cap] w (NewBytes l.flatten w) := by
  obtain ⟨i0, hi, hz0, hz1, hz2⟩ := info_parts info_uint8
  have HR := Lib.hid hr
  have HP := Lib.hid hp
  clear hr hp
  go_enter Try.func54, Try.ntmps54
  go_wp2
  go_loop [3, 5, 11] (fun s _ i => Con1 l s i) (fun _ _ i => l.length - (intOf i).toNat)
  case atStart => exact ⟨0, Nat.zero_le _, rfl, 0, by omega, Lib.hid rfl, rfl⟩
  case round =>
    obtain ⟨k, hk, rfl, n, hn, HN, rfl⟩ := hrel
    by_cases hlt : k < l.length
    · obtain ⟨b, off, rfl, y, c, h1, hy, h2⟩ := HR.out k hlt
      have h5 := lenP_snoc l k hlt
      have h6 := lenP_le l (k + 1)
      have h7 := HP.out
      rw [HN.out] at h5
      generalize (l.getD k []).length = m at h1 h5
      have h8 : n + m ≤ 1000000000 := by omega
      have H5 := Lib.hid h5
      clear h5 h6 h7 h2
      go_wp2
      go_round
      case rel => exact ⟨k + 1, hlt, by go_num, n + m, h8, H5, by go_num⟩
      case measure => simp [intOf]; omega
    · obtain rfl : k = l.length := by omega
      go_wp2_with fail
      refine (grow_nil n w hn).mono ?_
      rintro e w1 ⟨v, rfl, hown, hbel⟩
      have Hown := Lib.hid hown
      have Hbel := Lib.hid hbel
      clear hown hbel HN
      go_wp2
      go_loopw [6, 8, 27] (fun v _ i wr => Con2 l w v i wr) (fun _ _ i _ => l.length - (intOf i).toNat)
      case atStart => exact ⟨0, Nat.zero_le _, rfl, 0, by omega, Lib.hid rfl, Hown, Hbel⟩
      case round =>
        obtain ⟨k, hk, rfl, n, hn, HN, Hown, Hbel⟩ := hrel
        by_cases hlt : k < l.length
        · obtain ⟨b, off, rfl, y, c, h1, hy, h2⟩ := (HR.out.below Hbel.out) k hlt
          have h5 := lenP_snoc l k hlt
          have h6 := lenP_le l (k + 1)
          have h7 := HP.out
          have h9 := flat_snoc l k hlt
          rw [HN.out] at h5
          generalize l.getD k [] = p at h1 h2 h5 h9
          have h8 : n + p.length ≤ 1000000000 := by omega
          have H5 := Lib.hid h5
          have H9 := Lib.hid h9
          have H2 := Lib.hid h2
          have HY := Lib.hid hy
          have hc1 : n + p.length ≤ maxLen := by unfold maxLen; omega
          have hc2 : (n + p.length) * 1 ≤ 140737488355328 := by omega
          clear h5 h6 h7 h2 h9 hy
          go_wp2_with (at_builtin; refine wpList_appendInts rfl _ _ 53 rfl w 5 i0 (.int .u8 0) 1 Try.underlying53 hi hz0 hz1 hz2 rfl _ n _ rfl Hown.out .u8 y c p rfl HY.out H2.out hc1 hc2 Hbel.out ?_)
          intro v' w2 hown' hbel'
          have Hown' : Hid (w2.ownsRow w.heap.size 5 1 v' (n + p.length) ((l.take (k + 1)).flatten.map (Value.int .u8))) := Lib.hid (by rw [H9.out, List.map_append]; simpa using hown')
          have Hbel' := Lib.hid hbel'
          clear hown' hbel'
          go_wp2
          go_roundw
          case rel => exact ⟨k + 1, hlt, by go_num, n + p.length, h8, H5, Hown', Hbel'⟩
          case measure => simp [intOf]; omega
        · obtain rfl : k = l.length := by omega
          have fin : ∀ v, Value.slice none 0 0 = v → True := fun _ _ => trivial
          go_wp2
          go_ret
          refine ⟨_, rfl, ?_, Hbel.out⟩
          have h := Hown.out
          rw [List.take_length] at h
          have hN := HN.out
          rw [List.take_length, ← lenP_flat] at hN
          rw [hN]
          exact h
end Go.Proofs.Ytpmoidpncpfnlaa
