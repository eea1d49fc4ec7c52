/- noonmarkref06: Turn, Unturn, Uint, Int, Text: for every input. -/
import Derived.Test.YtojahaimelkhlaaStrs
namespace Go.Proofs.Ytojahaimelkhlaa
open Go.RowKit
set_option linter.unusedVariables false

theorem rturn_any (v : Int) (w : World) (hv : InI v) : Calls Try.prog 13 #[.int .i64 v] w fun e w' => e = .returned (.int .u64 (zig v)) ∧ w = w' := by
  have hv' : -9223372036854775808 ≤ v ∧ v ≤ 9223372036854775807 := hv
  by_cases h0 : 0 ≤ v
  · have E : Hid (zig v = 2 * v) := Lib.hid (by unfold zig; rw [if_pos h0])
    have u1 : IntKind.u64.wrap v = v := by simp only [IntKind.wrap_u64]; omega
    have u2 : IntKind.u64.wrap (2 * v) = 2 * v := by simp only [IntKind.wrap_u64]; omega
    clear hv hv'
    go_enter Try.func13, Try.ntmps13
    go_wp2
    go_ret
    exact ⟨by rw [E.out]; rfl, rfl⟩
  · obtain ⟨m, hm⟩ := Int.eq_ofNat_of_zero_le (by omega : 0 ≤ -(v + 1))
    have E : Hid (zig v = 2 * (m : Int) + 1) := Lib.hid (by unfold zig; rw [if_neg h0]; omega)
    have s1 : wrap64 (v + 1) = -(m : Int) := by unfold wrap64; omega
    have s2 : wrap64 (m : Int) = (m : Int) := by unfold wrap64; omega
    have u1 : IntKind.u64.wrap (m : Int) = (m : Int) := by simp only [IntKind.wrap_u64]; omega
    have u2 : IntKind.u64.wrap (2 * (m : Int)) = 2 * (m : Int) := by simp only [IntKind.wrap_u64]; omega
    have u3 : IntKind.u64.wrap (2 * (m : Int) + 1) = 2 * (m : Int) + 1 := by simp only [IntKind.wrap_u64]; omega
    clear hv hv' hm
    go_enter Try.func13, Try.ntmps13
    go_wp2
    go_ret
    exact ⟨by rw [E.out]; rfl, rfl⟩
theorem runturn_any (u : Nat) (w : World) (hu : u < 18446744073709551616) : Calls Try.prog 10 #[.int .u64 u] w fun e w' => e = .returned (.int .i64 (unzig u)) ∧ w = w' := by
  obtain ⟨U, hU⟩ : ∃ U : Int, (u : Int) = U := ⟨_, rfl⟩
  have hU2 : 0 ≤ U ∧ U < 18446744073709551616 := by omega
  rw [hU]
  clear hU hu
  have t1 : Int.tmod U 2 = U % 2 := Int.tmod_eq_emod_of_nonneg hU2.1
  have t2 : Int.tdiv U 2 = U / 2 := Int.tdiv_eq_ediv_of_nonneg hU2.1
  obtain ⟨q, hq⟩ : ∃ q, U / 2 = q := ⟨_, rfl⟩
  have k1 : IntKind.u64.wrap (U % 2) = U % 2 := by simp only [IntKind.wrap_u64]; omega
  have k2 : IntKind.u64.wrap (U / 2) = U / 2 := by simp only [IntKind.wrap_u64]; omega
  have k3 : wrap64 (U / 2) = U / 2 := by unfold wrap64; omega
  have k4 : wrap64 (-(U / 2)) = -(U / 2) := by unfold wrap64; omega
  have k5 : wrap64 (-(U / 2) - 1) = -(U / 2) - 1 := by unfold wrap64; omega
  have K : Hid (wrap64 (U / 2) = U / 2 ∧ wrap64 (-(U / 2) - 1) = -(U / 2) - 1) := Lib.hid ⟨k3, k5⟩
  by_cases h : U % 2 = 0
  · have hb : (U % 2 == 0) = true := by simp [h]
    have E : Hid (unzig U = U / 2) := Lib.hid (by unfold unzig; rw [if_pos h])
    clear hU2 h hq
    go_enter Try.func10, Try.ntmps10
    go_wp2
    go_ret
    exact ⟨ret_int (K.out.1.trans E.out.symm), rfl⟩
  · have hb : (U % 2 == 0) = false := by simp [h]
    have E : Hid (unzig U = -(U / 2) - 1) := Lib.hid (by unfold unzig; rw [if_neg h])
    clear hU2 h hq
    go_enter Try.func10, Try.ntmps10
    go_wp2
    go_ret
    exact ⟨ret_int (K.out.2.trans E.out.symm), rfl⟩
set_option maxHeartbeats 1000000 in
theorem ruint_any (u : Nat) (w : World) (hu : u < 18446744073709551616) : Calls Try.prog 8 #[.int .u64 u] w (NewBytes (enc u) w) := by
  obtain ⟨i0, hi, hz0, hz1, hz2⟩ := info_parts info_uint8
  have H0 : Hid ((w.alloc (Obj.cells #[] 5)).ownsRow w.heap.size 5 1 (.slice (some ⟨w.heap.size, 0, none⟩) 0 0) 0 []) := Lib.hid (World.ownsRow_made _ #[] 0 (Nat.le_refl _) (by unfold maxLen; omega) rfl)
  have B0 : Hid (Below w.heap.size w (w.alloc (Obj.cells #[] 5))) := Lib.hid ((Below.refl _ _).alloc (Nat.le_refl _) _)
  go_enter Try.func8, Try.ntmps8
  go_wp2
  go_loopw [0, 3] (fun x v wr => PutRel w [] u v x wr) (fun x _ _ => (intOf x).toNat)
  case atStart => exact ⟨[], u, 9, rfl, by omega, by omega, hu, by simp, Lib.hid rfl, H0, B0⟩
  case round =>
    obtain ⟨m, n, f, rfl, hf, hn, hn64, hml, HE, H, B⟩ := hrel
    have hml' : m.length ≤ 9 := by simp at hml; omega
    have hc1 : m.length + 1 ≤ maxLen := by unfold maxLen; omega
    have hc2 : (m.length + 1) * 1 ≤ 140737488355328 := by omega
    by_cases hbig : 128 ≤ n
    · obtain ⟨g, rfl⟩ : ∃ g, f = g + 1 := ⟨f - 1, by
        have : f ≠ 0 := fun e => by subst e; simp at hn; omega
        omega⟩
      have hb' : (128 : Int) ≤ (n : Int) := by omega
      have hn2 : n / 128 < 128 ^ (g + 1) := Nat.div_lt_of_lt_mul (by rw [Nat.pow_succ, Nat.mul_comm] at hn; exact hn)
      have HE2 : Hid ((m ++ [((n % 128 + 128 : Nat) : Int)]) ++ encF g (n / 128) = [] ++ enc u) := Lib.hid (by
        rw [← HE.out, List.append_assoc]
        show _ = m ++ (if n < 128 then [(n : Int)] else ((n % 128 + 128 : Nat) : Int) :: encF g (n / 128))
        rw [if_neg (by omega)]
        rfl)
      go_wp2_with (at_builtin; refine wpList_append1 rfl _ _ 26 rfl w 5 i0 (.int .u8 0) 1 Try.underlying26 hi hz0 hz1 hz2 rfl _ _ _ _ rfl H.out _ rfl rfl hc1 hc2 B.out ?_)
      intro v' w2 hown' hbel'
      have H2 : Hid (w2.ownsRow w.heap.size 5 1 v' (m ++ [((n % 128 + 128 : Nat) : Int)]).length ((m ++ [((n % 128 + 128 : Nat) : Int)]).map (Value.int .u8))) := Lib.hid (by
        have e : 128 + (n : Int) % 128 = ((n % 128 + 128 : Nat) : Int) := by omega
        rw [e] at hown'
        rw [List.length_append, List.map_append]
        exact hown')
      have B2 := Lib.hid hbel'
      have hl2 : (m ++ [((n % 128 + 128 : Nat) : Int)]).length + g ≤ ([] : List Int).length + 9 := by rw [List.length_append, List.length_singleton]; simp at hml ⊢; omega
      have HD : Hid (((n : Int) / 128) = ((n / 128 : Nat) : Int)) := Lib.hid (by omega)
      clear hown' hbel' hn
      go_wp2
      rw [HD.out]
      refine ⟨⟨_, n / 128, g, rfl, by omega, hn2, by omega, hl2, HE2, H2, B2⟩, by simp [intOf]; omega⟩
    · have hb' : ¬ (128 : Int) ≤ (n : Int) := by omega
      have HE2 : Hid (m ++ [(n : Int)] = enc u) := Lib.hid (by
        have := HE.out
        rw [List.nil_append] at this
        rw [← this]
        cases f with
        | zero => rfl
        | succ g => show _ = m ++ (if n < 128 then [(n : Int)] else _); rw [if_pos (by omega)])
      have HW : (n : Int) % 256 = (n : Int) := by omega
      go_wp2_with (at_builtin; refine wpList_append1 rfl _ _ 26 rfl w 5 i0 (.int .u8 0) 1 Try.underlying26 hi hz0 hz1 hz2 rfl _ _ _ _ rfl H.out _ rfl rfl hc1 hc2 B.out ?_)
      intro v' w2 hown' hbel'
      have H2 : Hid (w2.ownsRow w.heap.size 5 1 v' (enc u).length ((enc u).map (Value.int .u8))) := Lib.hid (by
        rw [← HE2.out, List.length_append, List.map_append]
        exact hown')
      have B2 := Lib.hid hbel'
      clear hown' hbel'
      go_wp2
      go_ret
      exact ⟨_, rfl, H2.out, B2.out⟩
set_option maxHeartbeats 1000000 in
theorem rint_any (v : Int) (w : World) (hv : InI v) : Calls Try.prog 12 #[.int .i64 v] w (NewBytes (enc (zig v).toNat) w) := by
  have hz := zig_bd hv
  have C1 := Lib.hid (fun W => rturn_any v W hv)
  have C2 := Lib.hid (fun W => ruint_any (zig v).toNat W (by omega))
  rw [Int.toNat_of_nonneg hz.1] at C2
  generalize zig v = z at *
  generalize enc z.toNat = l at *
  clear hz hv
  go_enter Try.func12, Try.ntmps12
  go_wp2_with fail
  refine (C1.out _).mono ?_
  rintro _ _ ⟨rfl, rfl⟩
  go_wp2_with fail
  refine (C2.out _).mono ?_
  rintro _ w1 ⟨v1, rfl, o1, b1⟩
  have O1 := Lib.hid o1
  have B1 := Lib.hid b1
  clear o1 b1
  go_wp2
  go_ret
  exact ⟨_, rfl, O1.out, B1.out⟩
set_option maxHeartbeats 1000000 in
theorem rtext_any (s : ByteArray) (w : World) (hs : s.size ≤ 1000) : Calls Try.prog 14 #[.string s] w (NewBytes (txt s) w) := by
  obtain ⟨i0, hi, hz0, hz1, hz2⟩ := info_parts info_uint8
  have C2 := Lib.hid (fun W => ruint_any s.size W (by omega))
  have hl := enc_len s.size
  have hc1 : (enc s.size).length + s.size ≤ maxLen := by unfold maxLen; omega
  have hc2 : (enc s.size).length + s.size ≤ 140737488355328 := by omega
  have hw : IntKind.u64.wrap (s.size : Int) = (s.size : Int) := by simp only [IntKind.wrap_u64]; omega
  have fin : ∀ v w', w'.ownsRow w.heap.size 5 1 v ((enc s.size).length + s.size) ((enc s.size).map (Value.int .u8) ++ Lib.strCells s) → Below w.heap.size w w' → NewBytes (txt s) w (.returned v) w' := fun v w' h1 h2 => by
    refine ⟨v, rfl, ?_, h2⟩
    unfold txt
    rw [List.length_append, strB_len, List.map_append, ← strB_cells]
    exact h1
  have Fin := Lib.hid fin
  clear fin hs hl
  generalize enc s.size = l at *
  go_enter Try.func14, Try.ntmps14
  go_wp2_with fail
  refine (C2.out _).mono ?_
  rintro _ w1 ⟨v1, rfl, o1, b1⟩
  have O1 := Lib.hid o1
  have B1 := Lib.hid b1
  clear o1 b1
  go_wp2_with (at_builtin; refine Lib.wpList_append_own_string _ rfl _ _ 26 9 rfl w.heap.size 5 i0 Try.underlying26 Try.underlying9 hi hz0 hz1 hz2 _ _ _ rfl O1.out s rfl hc1 hc2 B1.out.size ?_)
  intro v2 w2 hown2 hgrow2 _
  have B2 : Hid (Below w.heap.size w w2) := Lib.hid (B1.out.grown hgrow2 B1.out.size (fun j hj => (World.ownsRow.lt O1.out j hj).1))
  have O2 := Lib.hid hown2
  clear hown2 hgrow2
  go_wp2
  go_ret
  exact Fin.out _ _ O2.out B2.out
end Go.Proofs.Ytojahaimelkhlaa
