/- noonmarkref07: Sum, Seal; the statements' own join, great: for every input. -/
import Derived.Test.YtgkgcbhlodohdaaBackW
namespace Go.Proofs.Ytgkgcbhlodohdaa
open Go.RowKit
set_option linter.unusedVariables false

def RSum1 (l : List Int) (r i : Value) : Prop := ∃ k : Nat, k ≤ l.length ∧ i = .int .i64 k ∧ ∃ x : Nat, x < 4294967296 ∧ Hid (foldN 4294967295 (l.take k) = x) ∧ r = .int .u32 (x : Int)
theorem step_one {q : Nat} (h : q % 2 = 1) : stepN q = q / 2 ^^^ 3988292384 := by unfold stepN; rw [if_pos h]
theorem step_nil {q : Nat} (h : ¬ q % 2 = 1) : stepN q = q / 2 := by unfold stepN; rw [if_neg h, Nat.xor_zero]
set_option maxHeartbeats 1000000 in
theorem rsum_any (a : Option Addr) (cap : Nat) (l : List Int) (w : World) (hr : IntRow w a .u8 l) (hb : ByteL l) (hl : l.length ≤ 1000000000) :
    Calls Try.prog 13 #[.slice a l.length cap] w (SumRes (crcN l) w) := by
  have HR := Lib.hid hr
  have HB := Lib.hid hb
  have fin : ∀ (k : Nat) (x : Nat) (v : Int) w', k = l.length → foldN 4294967295 (l.take k) = x → v = 4294967295 - (x : Int) → w = w' → SumRes (crcN l) w (.returned (.int .u32 v)) w' := fun k x v w' h1 h2 h3 h4 => by
    rw [h1, List.take_length] at h2
    have hlt := foldN_lt l 4294967295 hb (by omega)
    refine ⟨ret_int ?_, h4⟩
    rw [h3, ← h2]
    unfold crcN
    omega
  have Fin := Lib.hid fin
  clear hr hb fin
  go_enter Try.func13, Try.ntmps13
  go_wp2
  go_loop [3, 4, 5, 6] (fun r i _ _ => RSum1 l r i) (fun _ i _ _ => l.length - (intOf i).toNat)
  case atStart => exact ⟨0, Nat.zero_le _, rfl, 4294967295, by omega, Lib.hid rfl, rfl⟩
  case round =>
    obtain ⟨k, hk, rfl, x, hx, HX, rfl⟩ := hrel
    by_cases hlt : k < l.length
    · obtain ⟨b2, off2, rfl, h3⟩ := HR.out k hlt
      have hv := getD_of_all l HB.out k hlt
      have h6 := foldN_snoc 4294967295 l k hlt
      rw [HX.out] at h6
      generalize l.getD k 0 = v at h3 hv h6
      obtain ⟨u, rfl⟩ := Int.eq_ofNat_of_zero_le hv.1
      have hu : u < 256 := by omega
      have H6 : Hid (foldN 4294967295 (l.take (k + 1)) = byteN x u) := Lib.hid h6
      have hx2 := xor32 hx (show u < 4294967296 by omega)
      have H7 : Hid (bits .xor .u32 (x : Int) (u : Int) = ((x ^^^ u : Nat) : Int)) := Lib.hid (u32_xor_nat x u hx (by omega))
      clear h6 hv
      go_wp2
      rw [H7.out]
      go_loop [3, 5, 6] (fun r i _ => Sum3 (x ^^^ u) r i) (fun _ i _ => 8 - (intOf i).toNat)
      case atStart => exact ⟨0, Nat.zero_le _, rfl, _, hx2, Lib.hid rfl, rfl⟩
      case round =>
        obtain ⟨n, hn, rfl, q, hq, HQ, rfl⟩ := hrel
        by_cases hlt3 : n < 8
        · have S2 := stepN_lt hq
          have S3 : Hid (itN (x ^^^ u) (n + 1) = stepN q) := Lib.hid (by show stepN (itN (x ^^^ u) n) = _; rw [HQ.out])
          by_cases hodd : q % 2 = 1
          · have ho : ((q : Int) % 2 == 1) = true := by rw [beq_iff_eq]; omega
            have SO : Hid (bits .xor .u32 ((q : Int) / 2) 3988292384 = ((stepN q : Nat) : Int)) := Lib.hid (by
              rw [step_one hodd, show ((q : Int) / 2) = ((q / 2 : Nat) : Int) by omega]
              exact u32_xor_nat (q / 2) 3988292384 (by omega) (by omega))
            clear hodd
            go_wp2
            rw [SO.out]
            go_round
            case rel => exact ⟨n + 1, hlt3, by go_num, stepN q, S2, S3, rfl⟩
            case measure => simp [intOf]; omega
          · have ho : ((q : Int) % 2 == 1) = false := by rw [beq_eq_false_iff_ne]; omega
            have SO : Hid ((q : Int) / 2 = ((stepN q : Nat) : Int)) := Lib.hid (by rw [step_nil hodd]; omega)
            clear hodd
            go_wp2
            rw [SO.out]
            go_round
            case rel => exact ⟨n + 1, hlt3, by go_num, stepN q, S2, S3, rfl⟩
            case measure => simp [intOf]; omega
        · obtain rfl : n = 8 := by omega
          have S3 : Hid (foldN 4294967295 (l.take (k + 1)) = q) := Lib.hid (by rw [H6.out]; exact HQ.out)
          go_wp2
          go_round
          case rel => exact ⟨k + 1, hlt, by go_num, q, hq, S3, rfl⟩
          case measure => simp [intOf]; omega
    · obtain rfl : k = l.length := by omega
      go_wp2
      go_ret
      exact Fin.out _ _ _ _ rfl HX.out (not_walk x hx) rfl
set_option maxHeartbeats 1000000 in
theorem rseal_any (a : Option Addr) (c : Nat) (l : List Int) (w : World) (hr : IntRow w a .u8 l) (ha : a = none → c = 0) (hb : ByteL l) (hl : l.length ≤ 900000000) :
    Calls Try.prog 16 #[.slice a l.length c] w (NewBytes (sealL l) w) := by
  obtain ⟨i0, hi, hz0, hz1, hz2⟩ := info_parts info_uint8
  have Cs := Lib.hid (rsum_any a c l w hr hb (by omega))
  have HR := Lib.hid (hr.alloc (Obj.cells #[] 5))
  have HA := Lib.hid ha
  have hc1 : 0 + l.length ≤ maxLen := by unfold maxLen; omega
  have hc2 : (0 + l.length) * 1 ≤ 140737488355328 := by omega
  have hc3 : l.length + 4 ≤ maxLen := by unfold maxLen; omega
  have hc4 : (l.length + 4) * 1 ≤ 140737488355328 := by omega
  have hown : Hid ((w.alloc (Obj.cells #[] 5)).ownsRow w.heap.size 5 1 (.slice (some ⟨w.heap.size, 0, none⟩) 0 0) 0 []) := Lib.hid (World.ownsRow_made _ #[] 0 (Nat.le_refl _) (by unfold maxLen; omega) rfl)
  have hbel : Hid (Below w.heap.size w (w.alloc (Obj.cells #[] 5))) := Lib.hid ((Below.refl _ _).alloc (Nat.le_refl _) _)
  have fin : ∀ v w', w'.ownsRow w.heap.size 5 1 v (l.length + 4) ((l ++ le32 (crcN l)).map (Value.int .u8)) → Below w.heap.size w w' → NewBytes (sealL l) w (.returned v) w' := fun v w' h1 h2 => ⟨v, rfl, by rw [sealL_len]; exact h1, h2⟩
  have Fin := Lib.hid fin
  have hs := crcN_lt l
  generalize crcN l = s at *
  clear hr ha hb fin
  go_enter Try.func16, Try.ntmps16
  go_wp2_with fail
  refine Cs.out.mono ?_
  rintro e w1 ⟨rfl, rfl⟩
  go_wp2_with (at_builtin; refine wpList_appendInts rfl _ _ 23 rfl w 5 i0 (.int .u8 0) 1 Try.underlying23 hi hz0 hz1 hz2 rfl _ 0 [] rfl hown.out .u8 a c l rfl HA.out HR.out hc1 hc2 hbel.out ?_)
  intro v' w1 hown' hbel'
  have hown' : w1.ownsRow w.heap.size 5 1 v' l.length (l.map (Value.int .u8)) := by simpa using hown'
  obtain ⟨a1, c1, rfl, -, -, -, -, -⟩ := IntRow.ownK hown'
  have Hown' := Lib.hid hown'
  have Hbel' := Lib.hid hbel'
  clear hown' hbel'
  have hsome : ∀ x : Addr, (some x : Option Addr) = none → (4 : Nat) = 0 := fun x e => by cases e
  go_wp2_with (at_builtin; refine wpList_appendInts rfl _ _ 23 rfl w 5 i0 (.int .u8 0) 1 Try.underlying23 hi hz0 hz1 hz2 rfl _ l.length _ rfl (Hown'.out.alloc _) .u8 (some ⟨w1.heap.size, 0, none⟩) 4 (le32 s) rfl (hsome _) (kept_bytes (le32 s) (Cel.new rfl)) hc3 hc4 (bstep Hbel'.out (one_alloc _ _)) ?_)
  intro v2 w2 hown2 hbel2
  have Hown2 := Lib.hid hown2
  have Hbel2 := Lib.hid hbel2
  clear hown2 hbel2
  go_wp2
  go_ret
  exact Fin.out _ _ (by rw [List.map_append]; exact Hown2.out) Hbel2.out
set_option maxHeartbeats 1000000 in
theorem join_any (a : Option Addr) (cap : Nat) (l : List (List Int)) (w : World) (hr : PartsRow w a l) (hl : l.length ≤ 1000000) (hp : lenP l ≤ 900000000) :
    Calls Try.prog 8 #[.slice a l.length cap] w (NewBytes l.flatten w) := by
  obtain ⟨i0, hi, hz0, hz1, hz2⟩ := info_parts info_uint8
  have HR := Lib.hid hr
  have HP := Lib.hid hp
  have hown : Hid ((w.alloc (Obj.cells #[] 5)).ownsRow w.heap.size 5 1 (.slice (some ⟨w.heap.size, 0, none⟩) 0 0) 0 []) := Lib.hid (World.ownsRow_made _ #[] 0 (Nat.le_refl _) (by unfold maxLen; omega) rfl)
  have hbel : Hid (Below w.heap.size w (w.alloc (Obj.cells #[] 5))) := Lib.hid ((Below.refl _ _).alloc (Nat.le_refl _) _)
  clear hr hp
  go_enter Try.func8, Try.ntmps8
  go_wp2
  go_loopw [3, 4] (fun v i wr => Con2 l w v i wr) (fun _ i _ => l.length - (intOf i).toNat)
  case atStart => exact ⟨0, Nat.zero_le _, rfl, 0, by omega, Lib.hid rfl, hown, hbel⟩
  case round =>
    obtain ⟨k, hk, rfl, n, hn, HN, Hown, Hbel⟩ := hrel
    by_cases hlt : k < l.length
    · obtain ⟨b, off, rfl, y, c, h1, hy, h2⟩ := (HR.out.below Hbel.out) k hlt
      have h5 := lenP_snoc l k hlt
      have h6 := lenP_le l (k + 1)
      have h7 := HP.out
      have h9 := flat_snoc l k hlt
      rw [HN.out] at h5
      generalize l.getD k [] = p at h1 h2 h5 h9
      have h8 : n + p.length ≤ 1000000000 := by omega
      have H5 := Lib.hid h5
      have H9 := Lib.hid h9
      have H2 := Lib.hid h2
      have HY := Lib.hid hy
      have hc1 : n + p.length ≤ maxLen := by unfold maxLen; omega
      have hc2 : (n + p.length) * 1 ≤ 140737488355328 := by omega
      clear h5 h6 h7 h2 h9 hy
      go_wp2_with (at_builtin; refine wpList_appendInts rfl _ _ 23 rfl w 5 i0 (.int .u8 0) 1 Try.underlying23 hi hz0 hz1 hz2 rfl _ n _ rfl Hown.out .u8 y c p rfl HY.out H2.out hc1 hc2 Hbel.out ?_)
      intro v' w2 hown' hbel'
      have Hown' : Hid (w2.ownsRow w.heap.size 5 1 v' (n + p.length) ((l.take (k + 1)).flatten.map (Value.int .u8))) := Lib.hid (by rw [H9.out, List.map_append]; simpa using hown')
      have Hbel' := Lib.hid hbel'
      clear hown' hbel'
      go_wp2
      go_roundw
      case rel => exact ⟨k + 1, hlt, by go_num, n + p.length, h8, H5, Hown', Hbel'⟩
      case measure => simp [intOf]; omega
    · obtain rfl : k = l.length := by omega
      go_wp2
      go_ret
      refine ⟨_, rfl, ?_, Hbel.out⟩
      have h := Hown.out
      rw [List.take_length] at h
      have hN := HN.out
      rw [List.take_length, ← lenP_flat] at hN
      rw [hN]
      exact h
def greatB (l : List (List Int)) : Bool := decide (100 < l.length) || decide (3000 < lenP l)
def Gr1 (l : List (List Int)) (s i : Value) : Prop := ∃ k : Nat, k ≤ l.length ∧ i = .int .i64 k ∧ ∃ n : Nat, n ≤ 3000 ∧ Hid (lenP (l.take k) = n) ∧ s = .int .i64 n
def GrPost (b : Bool) (w : World) (e : Ending) (w' : World) : Prop := e = .returned (.bool b) ∧ w = w'
set_option maxHeartbeats 1000000 in
theorem great_any (a : Option Addr) (cap : Nat) (l : List (List Int)) (w : World) (hr : PartsRow w a l) (hl : l.length ≤ 9223372036854775807) (hp : ∀ p ∈ l, p.length ≤ 140737488351232) :
    Calls Try.prog 7 #[.slice a l.length cap] w (GrPost (greatB l) w) := by
  have HR := Lib.hid hr
  have HP := Lib.hid hp
  have f1 : ∀ k, k ≤ l.length → (3000 < lenP (l.take k) → GrPost (greatB l) w (.returned (.bool true)) w) := fun k hk h => by
    have h6 := lenP_le l k
    refine ⟨?_, rfl⟩
    unfold greatB
    rw [decide_eq_true (show 3000 < lenP l by omega), Bool.or_true]
  have F1 := Lib.hid f1
  by_cases h100 : 100 < l.length
  · have h' : (100 : Int) < (l.length : Int) := by omega
    have fin : GrPost (greatB l) w (.returned (.bool true)) w := ⟨by unfold greatB; rw [decide_eq_true h100]; rfl, rfl⟩
    have Fin := Lib.hid fin
    clear hr hp fin f1
    go_enter Try.func7, Try.ntmps7
    go_wp2
    go_ret
    exact Fin.out
  · have h' : ¬ (100 : Int) < (l.length : Int) := by omega
    have fin : lenP l ≤ 3000 → GrPost (greatB l) w (.returned (.bool false)) w := fun h => ⟨by unfold greatB; rw [decide_eq_false h100, decide_eq_false (show ¬ 3000 < lenP l by omega)]; rfl, rfl⟩
    have Fin := Lib.hid fin
    clear hr hp fin f1 h100
    go_enter Try.func7, Try.ntmps7
    go_wp2
    go_loop [3, 4] (fun s i => Gr1 l s i) (fun _ i => l.length - (intOf i).toNat)
    case atStart => exact ⟨0, Nat.zero_le _, rfl, 0, by omega, Lib.hid rfl, rfl⟩
    case round =>
      obtain ⟨k, hk, rfl, n, hn, HN, rfl⟩ := hrel
      by_cases hlt : k < l.length
      · obtain ⟨b, off, rfl, y, c, h1, -, -⟩ := HR.out k hlt
        have h5 := lenP_snoc l k hlt
        have h6 := HP.out _ (getD_memL hlt)
        rw [HN.out] at h5
        generalize (l.getD k []).length = m at h1 h5 h6
        have H5 := Lib.hid h5
        clear h5
        by_cases hbig : 3000 < n + m
        · have hb' : (3000 : Int) < (n : Int) + (m : Int) := by omega
          have G := Lib.hid (F1.out (k + 1) hlt (by rw [H5.out]; exact hbig))
          clear hbig
          go_wp2
          go_ret
          exact G.out
        · have hb' : ¬ (3000 : Int) < (n : Int) + (m : Int) := by omega
          have h8 : n + m ≤ 3000 := by omega
          clear hbig
          go_wp2
          go_round
          case rel => exact ⟨k + 1, hlt, by go_num, n + m, h8, H5, by go_num⟩
          case measure => simp [intOf]; omega
      · obtain rfl : k = l.length := by omega
        have G := Lib.hid (Fin.out (by have := HN.out; rw [List.take_length] at this; omega))
        go_wp2
        go_ret
        exact G.out
end Go.Proofs.Ytgkgcbhlodohdaa
