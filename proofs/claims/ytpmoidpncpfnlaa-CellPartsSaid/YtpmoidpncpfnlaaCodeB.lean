/- code.Texts, first: for every input. -/
import Derived.Test.YtpmoidpncpfnlaaCodeA
import Derived.Lib.AppendStr
import Derived.Lib.EndianBits
namespace Go.Proofs.Ytpmoidpncpfnlaa
open Go.RowKit
set_option linter.unusedVariables false

def StrRow (w : World) (a : Option Addr) (l : List ByteArray) : Prop := ∀ j, j < l.length → ∃ b off, a = some ⟨b, off, none⟩ ∧ w.cell? ⟨b, off + j, none⟩ = some (.string (l.getD j ByteArray.empty))
theorem StrRow.below {w w' : World} {a : Option Addr} {l : List ByteArray} (h : StrRow w a l) (hb : Below w.heap.size w w') : StrRow w' a l := fun j hj => by
  obtain ⟨b, off, e, hc⟩ := h j hj
  exact ⟨b, off, e, (hb.cell (World.block_lt_of_cell? w _ hc)).trans hc⟩
def strB (s : ByteArray) : List Int := s.data.toList.map fun b => (b.toNat : Int)
theorem strB_len (s : ByteArray) : (strB s).length = s.size := by simp [strB]
theorem strB_cells (s : ByteArray) : Lib.strCells s = (strB s).map (Value.int .u8) := by simp [Lib.strCells, strB]
theorem strB_bytes (s : ByteArray) : ByteL (strB s) := fun x hx => by
  obtain ⟨b, _, rfl⟩ := List.mem_map.1 hx
  have := b.toNat_lt
  omega
def txt (s : ByteArray) : List Int := enc s.size ++ strB s
def txts (l : List ByteArray) : List Int := (l.map txt).flatten
theorem txts_snoc (l : List ByteArray) (k : Nat) (hk : k < l.length) : txts (l.take (k + 1)) = txts (l.take k) ++ (enc (l.getD k ByteArray.empty).size ++ strB (l.getD k ByteArray.empty)) := by
  unfold txts
  rw [List.take_add_one, List.map_append, List.flatten_append]
  simp [List.getD, List.getElem?_eq_getElem hk, txt]
theorem txts_le (l : List ByteArray) (k : Nat) : (txts (l.take k)).length ≤ (txts l).length := by
  have : txts l = txts (l.take k) ++ txts (l.drop k) := by unfold txts; rw [← List.flatten_append, ← List.map_append, List.take_append_drop]
  rw [this, List.length_append]; omega
def TxRel (l : List ByteArray) (w : World) (v i : Value) (wr : World) : Prop := ∃ k : Nat, k ≤ l.length ∧ i = .int .i64 k ∧ Hid (wr.ownsRow w.heap.size 5 1 v (txts (l.take k)).length ((txts (l.take k)).map (Value.int .u8))) ∧ Hid (Below w.heap.size w wr)
set_option maxHeartbeats 1000000 in
theorem texts_any (a : Option Addr) (cap : Nat) (l : List ByteArray) (w : World) (hr : StrRow w a l) (hl : l.length ≤ 10000000) (ht : (txts l).length ≤ 900000000) :
    Calls Try.prog 56 #[.slice a l.length cap] w (NewBytes (txts l) w) := by
  obtain ⟨i0, hi, hz0, hz1, hz2⟩ := info_parts info_uint8
  have HR := Lib.hid hr
  have HT := Lib.hid ht
  clear hr ht
  go_enter Try.func56, Try.ntmps56
  go_wp2
  go_loopw [3, 5, 8] (fun v _ i wr => TxRel l w v i wr) (fun _ _ i _ => l.length - (intOf i).toNat)
  case atStart => exact ⟨0, Nat.zero_le _, rfl, Lib.hid (World.ownsRow_nil _ _ _ _), Lib.hid (Below.refl _ _)⟩
  case round =>
    obtain ⟨k, hk, rfl, H, B⟩ := hrel
    by_cases hlt : k < l.length
    · obtain ⟨b, off, rfl, c1⟩ := HR.out.below B.out k hlt
      have hs := txts_snoc l k hlt
      have h1 := txts_le l k
      have h2 := txts_le l (k + 1)
      have h3 := HT.out
      generalize l.getD k ByteArray.empty = s at c1 hs
      have h4 : (txts (l.take k)).length + ((enc s.size).length + s.size) ≤ 900000000 := by rw [hs, List.length_append, List.length_append, strB_len] at h2; omega
      have CP := Lib.hid (fun v (h : wr.ownsRow w.heap.size 5 1 v (txts (l.take k)).length ((txts (l.take k)).map (Value.int .u8))) => put_any w wr v _ s.size h B.out (by omega) (by omega))
      have hsz : s.size ≤ 900000000 := by omega
      have hc1 : (txts (l.take k) ++ enc s.size).length + s.size ≤ maxLen := by rw [List.length_append]; unfold maxLen; omega
      have hc2 : (txts (l.take k) ++ enc s.size).length + s.size ≤ 140737488355328 := by rw [List.length_append]; omega
      have HS := Lib.hid hs
      clear hs h1 h2 h3 h4
      go_wp2_with fail
      refine (CP.out _ H.out).mono ?_
      rintro e w1 ⟨v', rfl, h1, h2⟩
      have H2 := Lib.hid h1
      have B2 := Lib.hid h2
      clear h1 h2 CP
      go_wp2_with (at_builtin; refine Lib.wpList_append_own_string _ rfl _ _ 53 9 rfl w.heap.size 5 i0 Try.underlying53 Try.underlying9 hi hz0 hz1 hz2 _ _ _ rfl H2.out s rfl hc1 hc2 B2.out.size ?_)
      intro v2 w2 hown2 hgrow2 _
      have H3 : Hid (w2.ownsRow w.heap.size 5 1 v2 (txts (l.take (k + 1))).length ((txts (l.take (k + 1))).map (Value.int .u8))) := Lib.hid (by
        rw [HS.out, List.length_append, List.length_append, strB_len, List.map_append, List.map_append, ← strB_cells, ← Nat.add_assoc]
        exact hown2)
      have B3 : Hid (Below w.heap.size w w2) := Lib.hid (B2.out.grown hgrow2 B2.out.size (fun j hj => (World.ownsRow.lt H2.out j hj).1))
      clear hown2 hgrow2
      go_wp2
      go_roundw
      case rel => exact ⟨k + 1, hlt, by go_num, H3, B3⟩
      case measure => simp [intOf]; omega
    · obtain rfl : k = l.length := by omega
      have H2 := H.out
      rw [List.take_length] at H2
      have H3 := Lib.hid H2
      clear H2
      go_wp2
      go_ret
      exact ⟨_, rfl, H3.out, B.out⟩
def fstF : Nat → Nat → List Int → Int × Int × Int
  | i, u, [] => (0, 0, 15)
  | i, u, c :: l => if (c = 0 ∧ 0 < i) ∨ (i = 9 ∧ 1 < c) then (0, 0, 10) else if c < 128 then ((u : Int) + c * 128 ^ i, (i : Int) + 1, 0) else fstF (i + 1) (u + (c.toNat - 128) * 128 ^ i) l
def FsRel (l : List Int) (u i : Value) : Prop := ∃ k n : Nat, k ≤ l.length ∧ k ≤ 9 ∧ i = .int .i64 k ∧ u = .int .u64 n ∧ n < 128 ^ k ∧ n < 18446744073709551616 ∧ Hid (fstF 0 0 l = fstF k n (l.drop k))
def FsOut (l : List Int) (w : World) (e : Ending) (w' : World) : Prop := e = .returned (.tuple #[.int .u64 (fstF 0 0 l).1, .int .i64 (fstF 0 0 l).2.1, .int .i64 (fstF 0 0 l).2.2]) ∧ w = w'
set_option maxHeartbeats 2000000 in
set_option maxRecDepth 100000 in
theorem first_any (a : Option Addr) (cap : Nat) (l : List Int) (w : World) (hr : IntRow w a .u8 l) (hb : ByteL l) (hl : l.length ≤ 9223372036854775807) :
    Calls Try.prog 90 #[.slice a l.length cap] w (FsOut l w) := by
  have HR := Lib.hid hr
  have HB := Lib.hid hb
  clear hr hb
  go_enter Try.func90, Try.ntmps90
  go_wp2
  go_loop [5, 6, 7, 10] (fun u _ _ i => FsRel l u i) (fun _ _ _ i => l.length - (intOf i).toNat)
  case atStart => exact ⟨0, 0, by omega, by omega, rfl, rfl, by omega, by omega, Lib.hid rfl⟩
  case round =>
    obtain ⟨k, n, hk, hk10, rfl, rfl, hn, hn64, HF⟩ := hrel
    by_cases hlt : k < l.length
    · obtain ⟨b, off, rfl, c1⟩ := HR.out k hlt
      have hx := getD_of_all l HB.out k hlt
      have hd : l.drop k = l.getD k 0 :: l.drop (k + 1) := by
        rw [List.drop_eq_getElem_cons hlt, List.getD_eq_getElem?_getD, List.getElem?_eq_getElem hlt]; rfl
      rw [hd] at HF
      clear hd
      generalize l.getD k 0 = ci at c1 hx HF
      obtain ⟨c, rfl⟩ := Int.eq_ofNat_of_zero_le hx.1
      have hc : c < 256 := by omega
      have fin : ∀ u i e, fstF 0 0 l = (u, i, e) → FsOut l w (.returned (.tuple #[.int .u64 u, .int .i64 i, .int .i64 e])) w := fun u i e h => ⟨by rw [h], rfl⟩
      have Fin := Lib.hid fin
      clear fin
      by_cases hA : c = 0 ∧ 0 < k
      · obtain ⟨rfl, hk0⟩ := hA
        have G := Lib.hid (Fin.out 0 0 10 (by rw [HF.out]; unfold fstF; rw [if_pos (.inl ⟨rfl, hk0⟩)]))
        have hk0' : (0 : Int) < (k : Int) := by omega
        clear hn hk0
        go_wp2
        go_ret3
        exact G.out
      by_cases hB : k = 9 ∧ 1 < c
      · obtain ⟨hk9, hc1⟩ := hB
        have G := Lib.hid (Fin.out 0 0 10 (by rw [HF.out]; unfold fstF; rw [if_pos (.inr ⟨hk9, by omega⟩)]))
        have t1 : ((c : Int) == 0) = false := by rw [beq_eq_false_iff_ne]; omega
        have t2 : ((k : Int) == 9) = true := by rw [beq_iff_eq]; omega
        have t3 : (1 : Int) < (c : Int) := by omega
        clear hn hk9 hA
        go_wp2
        go_ret3
        exact G.out
      obtain ⟨o1, o2⟩ := orW n c k hn hc hk10 (fun h => by omega)
      have O := Lib.hid o1
      by_cases h128 : c < 128
      · have G : Hid (FsOut l w (.returned (.tuple #[.int .u64 ((n + c % 128 * 128 ^ k : Nat) : Int), .int .i64 ((k : Int) + 1), .int .i64 0])) w) := Lib.hid (Fin.out _ _ _ (by
          rw [HF.out]; unfold fstF
          rw [if_neg (by omega), if_pos (by omega), Nat.mod_eq_of_lt h128, Int.natCast_add, Int.natCast_mul, Int.natCast_pow]
          rfl))
        have t4 : (c : Int) < 128 := by omega
        have hcase : (((c : Int) == 0) = true ∧ (k : Int) ≤ 0 ∧ ((k : Int) == 9) = false) ∨ (((c : Int) == 0) = false ∧ ((k : Int) == 9) = true ∧ (c : Int) ≤ 1) ∨ (((c : Int) == 0) = false ∧ ((k : Int) == 9) = false) := by
          simp only [beq_eq_false_iff_ne, beq_iff_eq]; omega
        clear hn hA hB o1 o2 h128
        rcases hcase with ⟨t0, t1, t2⟩ | ⟨t1, t2, t3⟩ | ⟨t1, t2⟩
        · have O1 : Hid (bits .or .u64 (n : Int) (IntKind.u64.wrap (IntKind.u64.wrap (bits .and .u8 (c : Int) 127))) = ((n + c % 128 * 128 ^ k : Nat) : Int)) := Lib.hid (by
            have h := O.out
            rw [show 7 * k = 0 by omega, Int.pow_zero, Int.mul_one] at h
            exact h)
          have G1 : Hid (FsOut l w (.returned (.tuple #[.int .u64 ((n + c % 128 * 128 ^ k : Nat) : Int), .int .i64 1, .int .i64 0])) w) := Lib.hid (by
            have h := G.out
            rw [show (k : Int) + 1 = 1 by omega] at h
            exact h)
          generalize n + c % 128 * 128 ^ k = z at *
          go_wp2
          go_ret3
          rw [O1.out]
          exact G1.out
        · go_wp2
          go_ret3
          rw [O.out]
          exact G.out
        · go_wp2
          go_ret3
          rw [O.out]
          exact G.out
      · have t1 : ((c : Int) == 0) = false := by rw [beq_eq_false_iff_ne]; omega
        have t2 : ((k : Int) == 9) = false := by rw [beq_eq_false_iff_ne]; omega
        have t3 : ¬ (c : Int) < 128 := by omega
        have hk8 : k + 1 ≤ 9 := by omega
        have hn2 : n + c % 128 * 128 ^ k < 128 ^ (k + 1) := by
          rw [Nat.pow_succ]
          have : c % 128 * 128 ^ k ≤ 127 * 128 ^ k := Nat.mul_le_mul_right _ (by omega)
          omega
        have HF2 : Hid (fstF 0 0 l = fstF (k + 1) (n + c % 128 * 128 ^ k) (l.drop (k + 1))) := Lib.hid (by
          rw [HF.out]
          conv => lhs; unfold fstF
          rw [if_neg (by omega), if_neg (by omega), Int.toNat_natCast, show c - 128 = c % 128 by omega])
        clear hn hA hB o1
        go_wp2
        rw [O.out]
        go_round
        case rel => exact ⟨k + 1, _, hlt, hk8, by go_num, rfl, hn2, o2, HF2⟩
        case measure => simp [intOf]; omega
    · obtain rfl : k = l.length := by omega
      have G : Hid (FsOut l w (.returned (.tuple #[.int .u64 0, .int .i64 0, .int .i64 15])) w) := Lib.hid ⟨by rw [HF.out, List.drop_length]; rfl, rfl⟩
      clear hn
      go_wp2
      go_ret3
      exact G.out
end Go.Proofs.Ytpmoidpncpfnlaa
