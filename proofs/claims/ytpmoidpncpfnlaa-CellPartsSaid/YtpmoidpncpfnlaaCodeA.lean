/- code.Turn, Unturn, put, Uints, Ints: for every input. -/
import Derived.Test.YtpmoidpncpfnlaaCodeM
namespace Go.Proofs.Ytpmoidpncpfnlaa
open Go.RowKit
set_option linter.unusedVariables false

theorem turn_any (v : Int) (w : World) (hv : InI v) : Calls Try.prog 83 #[.int .i64 v] w fun e w' => e = .returned (.int .u64 (zig v)) ∧ w = w' := by
  have hv' : -9223372036854775808 ≤ v ∧ v ≤ 9223372036854775807 := hv
  by_cases h : 0 ≤ v
  · have T := Lib.hid (turnP v h hv'.2)
    go_enter Try.func83, Try.ntmps83
    go_wp2
    go_ret
    exact ⟨ret_int T.out, rfl⟩
  · have T := Lib.hid (turnN v (by omega) hv'.1)
    go_enter Try.func83, Try.ntmps83
    go_wp2
    go_ret
    exact ⟨ret_int T.out, rfl⟩
theorem unturn_any (u : Nat) (w : World) (hv : u < 18446744073709551616) : Calls Try.prog 79 #[.int .u64 u] w fun e w' => e = .returned (.int .i64 (unzig u)) ∧ w = w' := by
  have T := Lib.hid (unturnW u hv)
  go_enter Try.func79, Try.ntmps79
  go_wp2
  go_ret
  exact ⟨ret_int T.out, rfl⟩
/-- what a call leaves that appends to a row of the base w0 -/
def PutOut (w0 : World) (l : List Int) (e : Ending) (w' : World) : Prop := ∃ v, e = .returned v ∧ w'.ownsRow w0.heap.size 5 1 v l.length (l.map (Value.int .u8)) ∧ Below w0.heap.size w0 w'
def PutRel (w0 : World) (l : List Int) (u : Nat) (v x : Value) (wr : World) : Prop := ∃ (m : List Int) (n f : Nat), x = .int .u64 n ∧ f ≤ 9 ∧ n < 128 ^ (f + 1) ∧ n < 18446744073709551616 ∧ m.length + f ≤ l.length + 9 ∧ Hid (m ++ encF f n = l ++ enc u) ∧ Hid (wr.ownsRow w0.heap.size 5 1 v m.length (m.map (Value.int .u8))) ∧ Hid (Below w0.heap.size w0 wr)
set_option maxHeartbeats 1000000 in
theorem put_any (w0 w : World) (v : Value) (l : List Int) (u : Nat) (hown : w.ownsRow w0.heap.size 5 1 v l.length (l.map (Value.int .u8))) (hb : Below w0.heap.size w0 w) (hl : l.length ≤ 1000000000) (hu : u < 18446744073709551616) :
    Calls Try.prog 81 #[v, .int .u64 u] w (PutOut w0 (l ++ enc u)) := by
  obtain ⟨i0, hi, hz0, hz1, hz2⟩ := info_parts info_uint8
  have H0 := Lib.hid hown
  have B0 := Lib.hid hb
  clear hown hb
  go_enter Try.func81, Try.ntmps81
  go_wp2
  go_loopw [0, 1] (fun v x wr => PutRel w0 l u v x wr) (fun _ x _ => (intOf x).toNat)
  case atStart => exact ⟨l, u, 9, rfl, by omega, by omega, hu, by omega, Lib.hid rfl, H0, B0⟩
  case round =>
    obtain ⟨m, n, f, rfl, hf, hn, hn64, hml, HE, H, B⟩ := hrel
    have hc1 : m.length + 1 ≤ maxLen := by unfold maxLen; omega
    have hc2 : (m.length + 1) * 1 ≤ 140737488355328 := by omega
    by_cases hbig : 128 ≤ n
    · obtain ⟨g, rfl⟩ : ∃ g, f = g + 1 := ⟨f - 1, by
        have : f ≠ 0 := fun e => by subst e; simp at hn; omega
        omega⟩
      have hb' : (128 : Int) ≤ (n : Int) := by omega
      have O := Lib.hid (or128 n)
      have hn2 : n / 128 < 128 ^ (g + 1) := Nat.div_lt_of_lt_mul (by rw [Nat.pow_succ, Nat.mul_comm] at hn; exact hn)
      have HE2 : Hid ((m ++ [((n % 128 + 128 : Nat) : Int)]) ++ encF g (n / 128) = l ++ enc u) := Lib.hid (by
        rw [← HE.out, List.append_assoc]
        show _ = m ++ (if n < 128 then [(n : Int)] else ((n % 128 + 128 : Nat) : Int) :: encF g (n / 128))
        rw [if_neg (by omega)]
        rfl)
      go_wp2_with (at_builtin; refine wpList_append1 rfl _ _ 53 rfl w0 5 i0 (.int .u8 0) 1 Try.underlying53 hi hz0 hz1 hz2 rfl _ _ _ _ rfl H.out _ rfl rfl hc1 hc2 B.out ?_)
      intro v' w2 hown' hbel'
      have H2 : Hid (w2.ownsRow w0.heap.size 5 1 v' (m ++ [((n % 128 + 128 : Nat) : Int)]).length ((m ++ [((n % 128 + 128 : Nat) : Int)]).map (Value.int .u8))) := Lib.hid (by
        rw [O.out] at hown'
        rw [List.length_append, List.map_append]
        exact hown')
      have B2 := Lib.hid hbel'
      have hl2 : (m ++ [((n % 128 + 128 : Nat) : Int)]).length + g ≤ l.length + 9 := by rw [List.length_append, List.length_singleton]; omega
      have HD : Hid (((n : Int) / 128) = ((n / 128 : Nat) : Int)) := Lib.hid (by omega)
      clear hown' hbel' hn
      go_wp2
      rw [HD.out]
      refine ⟨⟨_, n / 128, g, rfl, by omega, hn2, by omega, hl2, HE2, H2, B2⟩, by simp [intOf]; omega⟩
    · have hb' : ¬ (128 : Int) ≤ (n : Int) := by omega
      have HE2 : Hid (m ++ [(n : Int)] = l ++ enc u) := Lib.hid (by
        rw [← HE.out]
        cases f with
        | zero => rfl
        | succ g => show _ = m ++ (if n < 128 then [(n : Int)] else _); rw [if_pos (by omega)])
      go_wp2_with (at_builtin; refine wpList_append1 rfl _ _ 53 rfl w0 5 i0 (.int .u8 0) 1 Try.underlying53 hi hz0 hz1 hz2 rfl _ _ _ _ rfl H.out _ rfl rfl hc1 hc2 B.out ?_)
      intro v' w2 hown' hbel'
      have H2 : Hid (w2.ownsRow w0.heap.size 5 1 v' (l ++ enc u).length ((l ++ enc u).map (Value.int .u8))) := Lib.hid (by
        rw [← HE2.out, List.length_append, List.map_append]
        exact hown')
      have B2 := Lib.hid hbel'
      clear hown' hbel'
      go_wp2
      go_ret
      exact ⟨_, rfl, H2.out, B2.out⟩
def encs (l : List Int) : List Int := (l.map fun u => enc u.toNat).flatten
theorem encs_snoc (l : List Int) (k : Nat) (hk : k < l.length) : encs (l.take (k + 1)) = encs (l.take k) ++ enc (l.getD k 0).toNat := by
  unfold encs
  rw [List.take_add_one, List.map_append, List.flatten_append]
  simp [List.getD, List.getElem?_eq_getElem hk]
theorem encs_len : ∀ (l : List Int), (encs l).length ≤ 10 * l.length
  | [] => by simp [encs]
  | u :: l => by
    have h1 := encs_len l
    have h2 := enc_len u.toNat
    unfold encs at *
    simp only [List.map_cons, List.flatten_cons, List.length_append, List.length_cons]
    omega
/-- a new list of bytes -/
def NewBytes (l : List Int) (w : World) (e : Ending) (w' : World) : Prop := ∃ v, e = .returned v ∧ w'.ownsRow w.heap.size 5 1 v l.length (l.map (Value.int .u8)) ∧ Below w.heap.size w w'
def UiRel (l : List Int) (w : World) (v i : Value) (wr : World) : Prop := ∃ k : Nat, k ≤ l.length ∧ i = .int .i64 k ∧ Hid (wr.ownsRow w.heap.size 5 1 v (encs (l.take k)).length ((encs (l.take k)).map (Value.int .u8))) ∧ Hid (Below w.heap.size w wr)
set_option maxHeartbeats 1000000 in
theorem uints_any (a : Option Addr) (cap : Nat) (l : List Int) (w : World) (hr : IntRow w a .u64 l) (hb : ∀ x ∈ l, 0 ≤ x ∧ x ≤ 18446744073709551615) (hl : l.length ≤ 10000000) :
    Calls Try.prog 53 #[.slice a l.length cap] w (NewBytes (encs l) w) := by
  have HR := Lib.hid hr
  have HB := Lib.hid hb
  clear hr hb
  go_enter Try.func53, Try.ntmps53
  go_wp2
  go_loopw [3, 5, 8] (fun v _ i wr => UiRel l w v i wr) (fun _ _ i _ => l.length - (intOf i).toNat)
  case atStart => exact ⟨0, Nat.zero_le _, rfl, Lib.hid (World.ownsRow_nil _ _ _ _), Lib.hid (Below.refl _ _)⟩
  case round =>
    obtain ⟨k, hk, rfl, H, B⟩ := hrel
    by_cases hlt : k < l.length
    · obtain ⟨b, off, rfl, c1⟩ := HR.out.below B.out k hlt
      have hx := getD_of_all l HB.out k hlt
      have hs := encs_snoc l k hlt
      have hlen := encs_len (l.take k)
      have htk : (l.take k).length ≤ 10000000 := by rw [List.length_take]; omega
      generalize l.getD k 0 = x at c1 hx hs
      obtain ⟨u, rfl⟩ := Int.eq_ofNat_of_zero_le hx.1
      rw [Int.toNat_natCast] at hs
      have CP := Lib.hid (fun v (h : wr.ownsRow w.heap.size 5 1 v (encs (l.take k)).length ((encs (l.take k)).map (Value.int .u8))) => put_any w wr v _ u h B.out (by omega) (by omega))
      have HS := Lib.hid hs
      clear hs hlen htk
      go_wp2_with fail
      refine (CP.out _ H.out).mono ?_
      rintro e w1 ⟨v', rfl, h1, h2⟩
      have H2 : Hid (w1.ownsRow w.heap.size 5 1 v' (encs (l.take (k + 1))).length ((encs (l.take (k + 1))).map (Value.int .u8))) := Lib.hid (by rw [HS.out]; exact h1)
      have B2 := Lib.hid h2
      clear h1 h2 CP
      go_wp2
      go_roundw
      case rel => exact ⟨k + 1, hlt, by go_num, H2, B2⟩
      case measure => simp [intOf]; omega
    · obtain rfl : k = l.length := by omega
      have H2 := H.out
      rw [List.take_length] at H2
      have H3 := Lib.hid H2
      clear H2
      go_wp2
      go_ret
      exact ⟨_, rfl, H3.out, B.out⟩
set_option maxHeartbeats 1000000 in
theorem ints_any (a : Option Addr) (cap : Nat) (l : List Int) (w : World) (hr : IntRow w a .i64 l) (hb : ∀ x ∈ l, InI x) (hl : l.length ≤ 10000000) :
    Calls Try.prog 55 #[.slice a l.length cap] w (NewBytes (encs (l.map zig)) w) := by
  have HR := Lib.hid hr
  have HB := Lib.hid hb
  clear hr hb
  have hml : (l.map zig).length = l.length := by simp
  have fin : ∀ v w', w'.ownsRow w.heap.size 5 1 v (encs ((l.map zig).take l.length)).length ((encs ((l.map zig).take l.length)).map (Value.int .u8)) → Below w.heap.size w w' → NewBytes (encs (l.map zig)) w (.returned v) w' := fun v w' h1 h2 => by
    rw [← hml, List.take_length] at h1
    exact ⟨v, rfl, h1, h2⟩
  have Fin := Lib.hid fin
  have hz : ∀ k, k < l.length → (l.map zig).getD k 0 = zig (l.getD k 0) := fun k hk => by
    simp [List.getD_eq_getElem?_getD, List.getElem?_eq_getElem hk]
  have HZ := Lib.hid hz
  have HML := Lib.hid hml
  clear hml fin hz
  generalize l.map zig = z at *
  go_enter Try.func55, Try.ntmps55
  go_wp2
  go_loopw [3, 5, 8] (fun v _ i wr => UiRel z w v i wr) (fun _ _ i _ => l.length - (intOf i).toNat)
  case atStart => exact ⟨0, Nat.zero_le _, rfl, Lib.hid (World.ownsRow_nil _ _ _ _), Lib.hid (Below.refl _ _)⟩
  case round =>
    obtain ⟨k, hk, rfl, H, B⟩ := hrel
    have hk' : k ≤ l.length := by have := HML.out; omega
    by_cases hlt : k < l.length
    · obtain ⟨b, off, rfl, c1⟩ := HR.out.below B.out k hlt
      have hx := getD_of_all l HB.out k hlt
      have hs := encs_snoc z k (by have := HML.out; omega)
      rw [HZ.out k hlt] at hs
      have hlen := encs_len (z.take k)
      have htk : (z.take k).length ≤ 10000000 := by rw [List.length_take]; omega
      generalize l.getD k 0 = x at c1 hx hs
      have hzb := zig_bd hx
      have CT := Lib.hid (turn_any x wr hx)
      generalize zig x = y at hs hzb CT
      obtain ⟨u, rfl⟩ := Int.eq_ofNat_of_zero_le hzb.1
      rw [Int.toNat_natCast] at hs
      have CP := Lib.hid (fun v (h : wr.ownsRow w.heap.size 5 1 v (encs (z.take k)).length ((encs (z.take k)).map (Value.int .u8))) => put_any w wr v _ u h B.out (by omega) (by omega))
      have HS := Lib.hid hs
      have hk2 : k + 1 ≤ z.length := by have := HML.out; omega
      clear hs hlen htk
      go_wp2_with fail
      refine CT.out.mono ?_
      rintro e w1 ⟨rfl, rfl⟩
      go_wp2_with fail
      refine (CP.out _ H.out).mono ?_
      rintro e w1 ⟨v', rfl, h1, h2⟩
      have H2 : Hid (w1.ownsRow w.heap.size 5 1 v' (encs (z.take (k + 1))).length ((encs (z.take (k + 1))).map (Value.int .u8))) := Lib.hid (by rw [HS.out]; exact h1)
      have B2 := Lib.hid h2
      clear h1 h2 CP CT
      go_wp2
      go_roundw
      case rel => exact ⟨k + 1, hk2, by go_num, H2, B2⟩
      case measure => simp [intOf]; omega
    · obtain rfl : k = l.length := by omega
      go_wp2
      go_ret
      exact Fin.out _ _ H.out B.out
end Go.Proofs.Ytpmoidpncpfnlaa
