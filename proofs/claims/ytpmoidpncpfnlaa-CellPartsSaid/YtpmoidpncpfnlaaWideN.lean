/- wide.Back: for every list of bytes. -/
import Derived.Test.YtpmoidpncpfnlaaWideL
namespace Go.Proofs.Ytpmoidpncpfnlaa
open Go.RowKit
set_option linter.unusedVariables false

theorem bv_words (L : List Int) (h : L.length = 16) : bv L 16 = bv L 8 * 18446744073709551616 + bv (L.drop 8) 8 := by
  have e : p8 8 = 18446744073709551616 := by decide +kernel
  have h2 := bv_add (L.take 8) (L.drop 8) (by rw [List.length_take]; omega) 8
  rw [List.take_append_drop, e] at h2
  show bv L (8 + 8) = _
  rw [h2, bv_eq (L.take 8) L 8 (fun i hi => by rw [getD_take, if_pos hi])]
def BackRel (L : List Int) (hi lo i : Value) : Prop := ∃ k : Nat, k ≤ 8 ∧ i = .int .i64 k ∧ hi = .int .u64 (bv L k) ∧ lo = .int .u64 (bv (L.drop 8) k)
def BackOut (L : List Int) (w : World) (e : Ending) (w' : World) : Prop := e = .returned (.tuple #[wI (if L.length = 16 then bv L 16 else 0), .bool (decide (L.length = 16))]) ∧ Below w.heap.size w w'
theorem getD_drop (L : List Int) (n j : Nat) : (L.drop n).getD j 0 = L.getD (n + j) 0 := by simp [List.getD_eq_getElem?_getD, List.getElem?_drop]
theorem bytel_drop (L : List Int) (n : Nat) (h : WByteL L) : WByteL (L.drop n) := fun j => by rw [getD_drop]; exact h _
theorem zero_wordsN : hiW 0 = 0 ∧ loW 0 = 0 := by constructor <;> simp [hiW, loW, wrap64]
set_option maxHeartbeats 4000000 in
theorem wback_any (a : Option Addr) (c : Nat) (L : List Int) (w : World) (hr : IntRow w a .u8 L) (hb : WByteL L) (hl : L.length ≤ 9223372036854775807) :
    Calls Try.prog 49 #[.slice a L.length c] w (BackOut L w) := by
  obtain ⟨W, hW⟩ : ∃ W, w.alloc (.cells #[.int .i64 0, .int .u64 0] 25) = W := ⟨_, rfl⟩
  have R0 : Hid (Kept W w.heap.size #[.int .i64 0, .int .u64 0] 25) := Lib.hid (by rw [← hW]; exact Kept.new (by simp))
  have B0 : Hid (Below w.heap.size w W) := Lib.hid (by rw [← hW]; exact one_alloc _ _)
  have HW := Lib.hid hW
  by_cases h16 : L.length = 16
  · have HR : Hid (IntRow W a .u8 L) := Lib.hid (by rw [← hW]; exact hr.alloc _)
    have HB := Lib.hid hb
    have HD := Lib.hid (bytel_drop L 8 hb)
    have H16 := Lib.hid h16
    have fin : ∀ w', Below w.heap.size w w' → BackOut L w (.returned (.tuple #[.agg #[.int .i64 (wrap64 (bv L 8)), .int .u64 (bv (L.drop 8) 8)], .bool true])) w' := fun w' h => by
      refine ⟨?_, h⟩
      have h1 := bv_bd L hb 8
      have h2 := bv_bd (L.drop 8) (bytel_drop L 8 hb) 8
      have e : p8 8 = 18446744073709551616 := by decide +kernel
      rw [if_pos h16, decide_eq_true h16, bv_words L h16]
      rw [wI_eq (z := bv L 8 * 18446744073709551616 + bv (L.drop 8) 8) (by unfold hiW wrap64; omega) (by unfold loW; omega)]
    have Fin := Lib.hid fin
    rw [h16]
    clear fin hr hb hl h16 hW
    go_enter Try.func49, Try.ntmps49
    go_wp2
    rw [HW.out]
    go_loop [4, 5, 11] (fun hi lo i => BackRel L hi lo i) (fun _ _ i => 8 - (intOf i).toNat)
    case atStart => exact ⟨0, by omega, rfl, rfl, rfl⟩
    case round =>
      obtain ⟨k, hk, rfl, rfl, rfl⟩ := hrel
      have b1 := bv_bd L HB.out k
      have b2 := bv_bd (L.drop 8) HD.out k
      by_cases hlt : k < 8
      · obtain ⟨b, off, rfl, hc⟩ := HR.out k (by have := H16.out; omega)
        obtain ⟨b', off', e', hc2⟩ := HR.out (8 + k) (by have := H16.out; omega)
        injection e' with e'; injection e' with e1 e2; subst e1 e2
        have v1 := HB.out k
        have v2 := HB.out (8 + k)
        have fin : BackRel L (.int .u64 (bv L k * 256 + L.getD k 0)) (.int .u64 (bv (L.drop 8) k * 256 + L.getD (8 + k) 0)) (.int .i64 ((k : Int) + 1)) := ⟨k + 1, hlt, rfl, rfl, by rw [← getD_drop]; rfl⟩
        have Fin := Lib.hid fin
        have e7 := p8_mono k 7 (by omega)
        have e77 : p8 7 = 72057594037927936 := by decide +kernel
        generalize L.getD k 0 = x at *
        generalize L.getD (8 + k) 0 = y at *
        generalize bv L k = X at *
        generalize bv (L.drop 8) k = Y at *
        have w1 : IntKind.u64.wrap (X * 256) = X * 256 := by rw [IntKind.wrap_u64]; omega
        have w2 : IntKind.u64.wrap (Y * 256) = Y * 256 := by rw [IntKind.wrap_u64]; omega
        have w3 : IntKind.u64.wrap x = x := by rw [IntKind.wrap_u64]; omega
        have w4 : IntKind.u64.wrap y = y := by rw [IntKind.wrap_u64]; omega
        have o1 := or_byte X x (by omega) v1
        have o2 := or_byte Y y (by omega) v2
        obtain ⟨K, hK⟩ : ∃ K : Int, (k : Int) = K := ⟨_, rfl⟩
        have hK0 : 0 ≤ K := by omega
        have hK8 : K < 8 := by omega
        have hKn : K.toNat = k := by omega
        have hKm : (8 + K).toNat = 8 + k := by omega
        have HK := Lib.hid hK
        rw [hK]
        rw [hK] at Fin
        clear fin e7 e77 b1 b2 v1 v2 hlt hk hK
        go_wp2
        go_round
        case rel => exact Fin.out
        case measure => have := HK.out; simp only [intOf]; omega
      · obtain rfl : k = 8 := by omega
        generalize bv L 8 = X at *
        generalize bv (L.drop 8) 8 = Y at *
        obtain ⟨c1, c2, c3, c4, c5⟩ := R0.out.two
        clear b1 b2 hlt hk
        go_wp2
        obtain ⟨s1, s2⟩ := R0.out.read2 (.int .i64 (wrap64 X)) (.int .u64 Y)
        refine bodyPost_ret (v := .tuple #[.agg #[.int .i64 (wrap64 X), .int .u64 Y], .bool true]) (by simp [results, Try.results49, go_sem, s1, s2]) rfl ?_
        exact Fin.out _ (bset2 B0.out (Nat.le_refl _) _ _)
  · have hd : ((L.length : Int) != 16) = true := by simp; omega
    have fin : ∀ w', Below w.heap.size w w' → BackOut L w (.returned (.tuple #[.agg #[.int .i64 0, .int .u64 0], .bool false])) w' := fun w' h => by
      refine ⟨?_, h⟩
      rw [if_neg h16, decide_eq_false h16, wI_eq (z := 0) zero_wordsN.1.symm zero_wordsN.2.symm]
    have Fin := Lib.hid fin
    obtain ⟨n, hn⟩ : ∃ n : Int, (L.length : Int) = n := ⟨_, rfl⟩
    rw [hn] at hd
    clear fin hr hb hl h16 hW
    go_enter Try.func49, Try.ntmps49
    go_wp2
    refine bodyPost_ret (v := .tuple #[.agg #[.int .i64 0, .int .u64 0], .bool false]) (by simp [results, Try.results49, go_sem]) rfl ?_
    exact Fin.out _ (one_alloc _ _)
end Go.Proofs.Ytpmoidpncpfnlaa
