/- wide.tenth, unsigned: for every input. -/
import Derived.Test.YtngjefoipdcldaaWideE
import Derived.Test.YtngjefoipdcldaaDiv64
import Derived.Lib.ConvBytes
namespace Go.Proofs.Ytngjefoipdcldaa
open Go.RowKit
set_option linter.unusedVariables false

theorem div64_ten (x l : Int) (w : World) (hx : 0 ≤ x ∧ x < 10) (hl : 0 ≤ l ∧ l ≤ 18446744073709551615) :
    Calls Try.prog 58 #[.int .u64 x, .int .u64 l, .int .u64 10] w fun e w' => e = .returned (.tuple #[.int .u64 ((x * 18446744073709551616 + l) / 10), .int .u64 ((x * 18446744073709551616 + l) % 10)]) ∧ ∃ n, w' = w.drewN n := by
  by_cases h0 : x = 0
  · subst h0
    have h := div64_zero l 10 w hl (by omega)
    rwa [Int.zero_mul, Int.zero_add]
  · obtain ⟨x, rfl⟩ := Int.eq_ofNat_of_zero_le hx.1
    obtain ⟨l, rfl⟩ := Int.eq_ofNat_of_zero_le hl.1
    refine (div64_any x l 10 w (by omega) (by omega) (by omega) (by omega)).mono ?_
    rintro e w' ⟨rfl, rfl⟩
    refine ⟨?_, 0, rfl⟩
    rw [Int.natCast_ediv, Int.natCast_emod]
    simp
set_option maxHeartbeats 1000000 in
theorem wtenth_any (z : Int) (w : World) (hz : 0 ≤ z ∧ z < 340282366920938463463374607431768211456) : Calls Try.prog 49 #[wI z] w (Gives (.tuple #[wI (z / 10), .int .u64 (z % 10)]) w) := by
  obtain ⟨h, l, e, hh, hl, eh, el⟩ := wI_letters z
  rw [e]
  obtain ⟨U, eU⟩ : ∃ U, IntKind.u64.wrap h = U := ⟨_, rfl⟩
  have bU : 0 ≤ U ∧ U ≤ 18446744073709551615 ∧ U = z / 18446744073709551616 := by rw [IntKind.wrap_u64] at eU; rw [eh] at eU; unfold hiW wrap64 at eU; omega
  have hlz : l = z % 18446744073709551616 := el
  obtain ⟨q, eq⟩ : ∃ q, U / 10 = q := ⟨_, rfl⟩
  obtain ⟨r, er⟩ : ∃ q, U % 10 = q := ⟨_, rfl⟩
  obtain ⟨p, ep⟩ : ∃ q, (r * 18446744073709551616 + l) / 10 = q := ⟨_, rfl⟩
  obtain ⟨d, ed⟩ : ∃ q, (r * 18446744073709551616 + l) % 10 = q := ⟨_, rfl⟩
  have C1 := fun w => div64_zero U 10 w ⟨bU.1, bU.2.1⟩ (by omega)
  have C2 := fun w => div64_ten r l w (by omega) hl
  rw [eq, er] at C1
  rw [ep, ed] at C2
  have C1 := Lib.hid C1
  have C2 := Lib.hid C2
  have fin : ∀ w', Below w.heap.size w w' → Gives (.tuple #[wI (z / 10), .int .u64 (z % 10)]) w (.returned (.tuple #[.agg #[.int .i64 (wrap64 q), .int .u64 p], .int .u64 d])) w' := fun w' hw => by
    rw [wI_eq (z := z / 10) (h := wrap64 q) (l := p) (by unfold hiW; congr 1; omega) (by unfold loW; omega), show d = z % 10 from by omega]
    exact ⟨rfl, hw⟩
  have Fin := Lib.hid fin
  obtain ⟨W, hW⟩ : ∃ W, (w.alloc (.cells #[.int .i64 h, .int .u64 l] 24)).alloc (.cells #[.int .i64 0, .int .u64 0] 24) = W := ⟨_, rfl⟩
  have K0 : Hid (Kept W w.heap.size #[.int .i64 h, .int .u64 l] 24) := Lib.hid (by rw [← hW]; exact (Kept.new (by simp)).alloc _)
  have R0 : Hid (Kept W (w.heap.size + 1) #[.int .i64 0, .int .u64 0] 24) := Lib.hid (by rw [← hW]; exact Kept.new (by simp))
  have B0 : Hid (Below w.heap.size w W) := Lib.hid (by rw [← hW]; exact ((Below.refl _ _).alloc (Nat.le_refl _) _).alloc (by simp) _)
  have HW := Lib.hid hW
  clear hW fin ep ed eq er bU hlz eh el e hh hl hz
  go_enter Try.func49, Try.ntmps49
  obtain ⟨a1, a2, -, -, a5⟩ := K0.out.two
  obtain ⟨c1, c2, c3, c4, c5⟩ := R0.out.two
  go_wp2_with fail
  rw [HW.out]
  refine (C1.out _).mono ?_
  rintro _ w1 ⟨rfl, n1, hw⟩
  cases hw
  go_wp2_with fail
  refine (C2.out _).mono ?_
  rintro _ w2 ⟨rfl, n2, hw⟩
  cases hw
  go_wp2
  all_goals
    have R2 := R0.out.drewN (n1 + n2)
    have B2 := below_drewN B0.out (n1 + n2)
    generalize W.drewN (n1 + n2) = W2 at *
    obtain ⟨s1, s2⟩ := R2.read2 (.int .i64 (wrap64 q)) (.int .u64 p)
    refine bodyPost_ret (v := .tuple #[.agg #[.int .i64 (wrap64 q), .int .u64 p], .int .u64 d]) (by simp [results, Try.results49, go_sem, s1, s2]) rfl ?_
    exact Fin.out _ (bset2 B2 (by omega) _ _)
/-- the number of decimal digits, each as it is told by its sign -/
def unsN (l : List Int) : Int := l.foldl (fun z c => z * 10 + (c - 48) % 256) 0
theorem unsN_snoc (l : List Int) (k : Nat) (hk : k < l.length) : unsN (l.take (k + 1)) = unsN (l.take k) * 10 + (l.getD k 0 - 48) % 256 := by
  unfold unsN
  rw [List.take_add_one, List.foldl_append, List.getD_eq_getElem?_getD, List.getElem?_eq_getElem hk]
  rfl
/-- the bytes of a string, as numbers -/
def bl (s : ByteArray) : List Int := s.data.toList.map fun b => (b.toNat : Int)
theorem bl_length (s : ByteArray) : (bl s).length = s.size := by unfold bl ByteArray.size; rw [List.length_map, Array.length_toList]
theorem bl_byte (s : ByteArray) (j : Nat) : 0 ≤ (bl s).getD j 0 ∧ (bl s).getD j 0 ≤ 255 := by
  unfold bl
  rw [List.getD_eq_getElem?_getD, List.getElem?_map]
  rcases h : s.data.toList[j]? with _ | b
  · simp
  · have := b.toNat_lt
    simp only [Option.map_some, Option.getD_some]
    omega
theorem bl_cell (w : World) (e : TypeId) (s : ByteArray) (j : Nat) (hj : j < s.size) : (Lib.bytesWorld w e s).cell? ⟨w.heap.size, j, none⟩ = some (.int .u8 ((bl s).getD j 0)) := by
  rw [Lib.bytesWorld_cell w e s j hj]
  unfold bl
  have : j < s.data.toList.length := by rw [Array.length_toList]; exact hj
  rw [List.getD_eq_getElem?_getD, List.getD_eq_getElem?_getD, List.getElem?_map, List.getElem?_eq_getElem this]
  rfl
theorem bl_inj {s t : ByteArray} (h : bl s = bl t) : s = t := by
  unfold bl at h
  have := List.map_inj_right (fun (a b : UInt8) (h : (a.toNat : Int) = b.toNat) => UInt8.toNat_inj.1 (Int.ofNat.inj h)) |>.1 h
  cases s; cases t; congr; exact Array.toList_inj.1 this
theorem bytesWorld_below (w : World) (e : TypeId) (s : ByteArray) : Below w.heap.size w (Lib.bytesWorld w e s) := by
  refine ⟨rfl, rfl, rfl, by rw [Lib.bytesWorld_size]; omega, fun j hj => Lib.bytesWorld_at_old w e s j hj⟩
def UnsRel (l : List Int) (hi lo i : Value) : Prop := ∃ k : Nat, k ≤ l.length ∧ i = .int .i64 k ∧ lo = .int .u64 (unsN (l.take k) % 18446744073709551616) ∧ hi = .int .u64 (unsN (l.take k) / 18446744073709551616 % 18446744073709551616)
set_option maxHeartbeats 2000000 in
theorem wunsigned_any (s : ByteArray) (w : World) (hs : s.size ≤ 100) : Calls Try.prog 51 #[.string s] w (Gives (wI (unsN (bl s))) w) := by
  obtain ⟨l, hl⟩ : ∃ l, bl s = l := ⟨_, rfl⟩
  have hlen : l.length = s.size := by rw [← hl]; exact bl_length s
  rw [hl]
  have hbyte : ∀ j, 0 ≤ l.getD j 0 ∧ l.getD j 0 ≤ 255 := fun j => by rw [← hl]; exact bl_byte s j
  obtain ⟨W, hW⟩ : ∃ W, w.alloc (.cells #[.int .i64 0, .int .u64 0] 24) = W := ⟨_, rfl⟩
  have R0 : Hid (Kept W w.heap.size #[.int .i64 0, .int .u64 0] 24) := Lib.hid (by rw [← hW]; exact Kept.new (by simp))
  have B0 : Hid (Below w.heap.size w W) := Lib.hid (by rw [← hW]; exact one_alloc _ _)
  have hcv := Lib.run_convert_string_bytes (P := Try.prog) W 9 59 5 s Try.underlying9 Try.underlying59 Try.underlying5
  obtain ⟨V, hV⟩ : ∃ V, Lib.bytesWorld W 5 s = V := ⟨_, rfl⟩
  have R1 : Hid (Kept V w.heap.size #[.int .i64 0, .int .u64 0] 24) := Lib.hid (by rw [← hV]; exact R0.out.next (bytesWorld_below _ _ _))
  have B1 : Hid (Below w.heap.size w V) := Lib.hid (by rw [← hV]; exact B0.out.trans ((bytesWorld_below _ _ _).mono B0.out.size))
  have HC : Hid (∀ j, j < l.length → V.cell? ⟨W.heap.size, j, none⟩ = some (.int .u8 (l.getD j 0))) := Lib.hid (fun j hj => by rw [← hV, ← hl]; exact bl_cell W _ s j (by omega))
  rw [hV, ← hlen] at hcv
  obtain ⟨cap, hcap⟩ : ∃ c, grownCap W l.length 0 5 = c := ⟨_, rfl⟩
  rw [hcap] at hcv
  have HBY := Lib.hid hbyte
  have HW := Lib.hid hW
  have hl100 : l.length ≤ 100 := by omega
  have fin0 : UnsRel l (.int .u64 0) (.int .u64 0) (.int .i64 0) := ⟨0, Nat.zero_le _, rfl, rfl, rfl⟩
  have F0 := Lib.hid fin0
  have hsz : W.heap.size = w.heap.size + 1 := by rw [← hW]; simp
  rw [hsz] at hcv HC
  rw [← hW] at hcv
  clear hl hlen hbyte hV hcap hW fin0 hs hsz
  go_enter Try.func51, Try.ntmps51
  go_wp2
  go_loop [3, 4, 13] (fun hi lo i => UnsRel l hi lo i) (fun _ _ i => l.length - (intOf i).toNat)
  case atStart => exact F0.out
  case round =>
    obtain ⟨k, hk, rfl, rfl, rfl⟩ := hrel
    obtain ⟨X, HX⟩ : ∃ X, unsN (l.take k) % 18446744073709551616 = X := ⟨_, rfl⟩
    obtain ⟨Y, HY⟩ : ∃ Y, unsN (l.take k) / 18446744073709551616 % 18446744073709551616 = Y := ⟨_, rfl⟩
    rw [HX, HY]
    have bX : 0 ≤ X ∧ X ≤ 18446744073709551615 := by omega
    have bY : 0 ≤ Y ∧ Y ≤ 18446744073709551615 := by omega
    by_cases hlt : k < l.length
    · have hc := HC.out k hlt
      have hv := HBY.out k
      have hs := unsN_snoc l k hlt
      generalize l.getD k 0 = c at *
      obtain ⟨d, eD⟩ : ∃ d, IntKind.u8.wrap (c - 48) = d := ⟨_, rfl⟩
      have bD : 0 ≤ d ∧ d ≤ 255 ∧ d = (c - 48) % 256 := by rw [IntKind.wrap_u8] at eD; omega
      obtain ⟨x, hx⟩ := Int.eq_ofNat_of_zero_le bX.1
      have cm := fun w => Try.bits_Mul64 x 10 (by omega) (by omega) w
      rw [← hx] at cm
      obtain ⟨M, eM⟩ : ∃ m : Int, ((x * 10 / 18446744073709551616 : Nat) : Int) = m := ⟨_, rfl⟩
      obtain ⟨L, eL⟩ : ∃ m : Int, ((x * 10 % 18446744073709551616 : Nat) : Int) = m := ⟨_, rfl⟩
      rw [eM, eL] at cm
      have bM : 0 ≤ M ∧ M ≤ 9 ∧ 0 ≤ L ∧ L ≤ 18446744073709551615 ∧ X * 10 = M * 18446744073709551616 + L := by omega
      obtain ⟨L2, eL2⟩ : ∃ m, (L + d) % 18446744073709551616 = m := ⟨_, rfl⟩
      obtain ⟨C2, eC2⟩ : ∃ m, (L + d) / 18446744073709551616 = m := ⟨_, rfl⟩
      obtain ⟨T, eT⟩ : ∃ m, IntKind.u64.wrap (Y * 10) = m := ⟨_, rfl⟩
      have bT : 0 ≤ T ∧ T ≤ 18446744073709551615 ∧ T = Y * 10 % 18446744073709551616 := by rw [IntKind.wrap_u64] at eT; omega
      obtain ⟨H2, eH2⟩ : ∃ m, (T + M + C2) % 18446744073709551616 = m := ⟨_, rfl⟩
      obtain ⟨G2, eG2⟩ : ∃ m, (T + M + C2) / 18446744073709551616 = m := ⟨_, rfl⟩
      have r1 := fun w => run_Add64 L d 0 (by omega) (by omega) (by omega) (by omega) w
      have r2 := fun w => run_Add64 T M C2 (by omega) (by omega) (by omega) (by omega) w
      simp only [Int.add_zero, eL2, eC2] at r1
      rw [eH2, eG2] at r2
      have e2 : IntKind.u64.wrap d = d := by rw [IntKind.wrap_u64]; omega
      have fin : UnsRel l (.int .u64 H2) (.int .u64 L2) (.int .i64 ((k : Int) + 1)) := by
        refine ⟨k + 1, hlt, rfl, ?_, ?_⟩
        · exact congrArg (Value.int IntKind.u64) (by omega)
        · exact congrArg (Value.int IntKind.u64) (by omega)
      have Fin := Lib.hid fin
      have Cm := Lib.hid cm
      have hi1 : (k : Int) < (l.length : Int) := by omega
      have HK := Lib.hid hlt
      clear fin cm hs HX HY bX bY bD bM bT hx eM eL eL2 eC2 eH2 eG2 hv
      go_wp2_with fail
      refine (Cm.out _).mono ?_
      rintro _ w1 ⟨rfl, hw⟩
      cases hw
      go_wp2
      go_round
      case rel => exact Fin.out
      case measure => have := HK.out; simp only [intOf]; omega
    · obtain rfl : k = l.length := by omega
      have e : l.take l.length = l := List.take_length
      rw [e] at HX HY
      have fin : ∀ w', Below w.heap.size w w' → Gives (wI (unsN l)) w (.returned (.agg #[.int .i64 (wrap64 Y), .int .u64 X])) w' := fun w' hw => gives_wI (by rw [← HY]; unfold hiW wrap64; omega) (by rw [← HX]; rfl) hw
      have Fin := Lib.hid fin
      obtain ⟨s1, s2, s3, s4, s5⟩ := R1.out.two
      clear e HX HY fin bX bY hlt
      go_wp2
      obtain ⟨r1, r2⟩ := R1.out.read2 (.int .i64 (wrap64 Y)) (.int .u64 X)
      refine bodyPost_ret (v := .agg #[.int .i64 (wrap64 Y), .int .u64 X]) (by simp [results, Try.results51, go_sem, r1, r2]) rfl ?_
      exact Fin.out _ (bset2 B1.out (Nat.le_refl _) _ _)
end Go.Proofs.Ytngjefoipdcldaa
