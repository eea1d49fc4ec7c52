/- CodeWrites, walked. -/
import Derived.Test.YtojahaimelkhlaaRefA
import Derived.Deep.QuietTactic
import Derived.BigQuiet
namespace Go.Proofs.Ytojahaimelkhlaa
open Go.RowKit
set_option linter.unusedVariables false

theorem cw_far (aa ab ac : Option Addr) (ca cb cc na nb nc : Nat) (w : World) (h : 200 < na + nb + nc) (ha : na ≤ 140737488355328) (hb : nb ≤ 140737488355328) (hc : nc ≤ 140737488355328) :
    Calls Try.prog 3 #[.slice aa na ca, .slice ab nb cb, .slice ac nc cc] w (BackPost w) := by
  have h1 : (200 : Int) < (na : Int) + (nb : Int) + (nc : Int) := by omega
  have s1 : wrap64 ((na : Int) + (nb : Int)) = (na : Int) + (nb : Int) := by unfold wrap64; omega
  have s2 : wrap64 ((na : Int) + (nb : Int) + (nc : Int)) = (na : Int) + (nb : Int) + (nc : Int) := by unfold wrap64; omega
  clear h ha hb hc
  go_enter Try.func3, Try.ntmps3
  go_wp2_with fail
  refine (alive_any _).mono ?_
  rintro _ w1 ⟨rfl, b1⟩
  have B1 := Lib.hid b1
  clear b1
  go_wp2
  go_ret
  exact ⟨rfl, B1.out⟩
theorem same_of {f : FuncId} {args : Array Value} {W : World} {v : Value} (h : Calls Try.prog f args W fun e w' => e = .returned v ∧ W = w') : Calls Try.prog f args W fun e w' => e = .returned v ∧ w' = W := h.mono fun _ _ ⟨a, b⟩ => ⟨a, b.symm⟩
theorem same_two (l : List Int) (hl : l.length ≤ 1000000) (W : World) (a b : Option Addr) (c d : Nat) (ha : IntRow W a .u8 l) (hb : IntRow W b .u8 l) :
    Calls Try.prog 15 #[.slice a l.length c, .slice b l.length d] W (Yes W) := by
  refine (sameBytes_any a b c d l l W ha hb hl (by omega)).mono ?_
  rintro e w' ⟨rfl, h⟩
  exact ⟨by simp, h⟩
def Gr (W : World) (l : List Int) (v : Value) (wr : World) : Prop := Hid (wr.ownsRow W.heap.size 5 1 v l.length (l.map (Value.int .u8))) ∧ Hid (Below W.heap.size W wr)
theorem Gr.start (W : World) : Gr W [] (.slice (some ⟨W.heap.size, 0, none⟩) 0 0) (W.alloc (Obj.cells #[] 5)) := ⟨Lib.hid (World.ownsRow_made _ #[] 0 (Nat.le_refl _) (by unfold maxLen; omega) rfl), Lib.hid ((Below.refl _ _).alloc (Nat.le_refl _) _)⟩
theorem Gr.drewN {W : World} {l : List Int} {v : Value} {wr : World} (h : Gr W l v wr) (n : Nat) : Gr W l v (wr.drewN n) := ⟨Lib.hid h.1.out, Lib.hid (below_drewN h.2.out n)⟩
def WrRel (W : World) (N : Nat) (q : Nat → List Int) (v i : Value) (wr : World) : Prop := ∃ k : Nat, k ≤ N ∧ i = .int .i64 k ∧ Hid (Gr W (q k) v wr)
def WrRel2 (W : World) (c : List ByteArray) (v i : Value) (wr : World) : Prop := ∃ k : Nat, k ≤ c.length ∧ i = .int .i64 k ∧ Hid (∀ j, j < k → (c.getD j ByteArray.empty).size ≤ 1000) ∧ Hid (Gr W (txts (c.take k)) v wr)
theorem txts_small (c : List ByteArray) : ∀ k, k ≤ c.length → (∀ j, j < k → (c.getD j ByteArray.empty).size ≤ 1000) → (txts (c.take k)).length ≤ 1010 * k
  | 0, _, _ => by simp [txts]
  | k + 1, hk, h => by
    have h1 := txts_small c k (by omega) (fun j hj => h j (by omega))
    have h2 := h k (by omega)
    have h3 := enc_len (c.getD k ByteArray.empty).size
    rw [txts_snoc2 c k (by omega), List.length_append]
    unfold txt
    rw [List.length_append, strB_len]
    omega
set_option maxHeartbeats 4000000 in
set_option maxRecDepth 10000 in
theorem cw_near (aa ab ac : Option Addr) (ca cb cc : Nat) (a b : List Int) (c : List ByteArray) (w : World)
    (ra : IntRow w aa .u64 a) (rb : IntRow w ab .i64 b) (rc : StrRow w ac c) (ba : ∀ x ∈ a, 0 ≤ x ∧ x ≤ 18446744073709551615) (bb : ∀ x ∈ b, InI x) (h : a.length + b.length + c.length ≤ 200) :
    Calls Try.prog 3 #[.slice aa a.length ca, .slice ab b.length cb, .slice ac c.length cc] w (BackPost w) := by
  obtain ⟨i0, hi, hz0, hz1, hz2⟩ := info_parts info_uint8
  have RA := Lib.hid ra
  have RB := Lib.hid rb
  have RC := Lib.hid rc
  have BA := Lib.hid ba
  have BB := Lib.hid bb
  have HL := Lib.hid h
  have h1 : ¬ (200 : Int) < (a.length : Int) + (b.length : Int) + (c.length : Int) := by omega
  have s1 : wrap64 ((a.length : Int) + (b.length : Int)) = (a.length : Int) + (b.length : Int) := by unfold wrap64; omega
  have s2 : wrap64 ((a.length : Int) + (b.length : Int) + (c.length : Int)) = (a.length : Int) + (b.length : Int) + (c.length : Int) := by unfold wrap64; omega
  clear ra rb rc ba bb h
  go_enter Try.func3, Try.ntmps3
  go_wp2_with fail
  refine (alive_any _).mono ?_
  rintro _ w1 ⟨rfl, b1⟩
  have B1 := Lib.hid b1
  have S1 := Lib.hid (Gr.start w1)
  clear b1
  go_wp2
  clear h1 s1 s2
  go_loopw [7, 8] (fun v i wr => WrRel w1 a.length (fun k => encs (a.take k)) v i wr) (fun _ i _ => a.length - (intOf i).toNat)
  case atStart => exact ⟨0, Nat.zero_le _, rfl, Lib.hid (by simpa [encs] using S1.out)⟩
  case round =>
    obtain ⟨k, hk, rfl, G⟩ := hrel
    by_cases hlt : k < a.length
    · obtain ⟨bl, off, rfl, c1⟩ := (RA.out.below (bnext B1.out B1.out.size G.out.2.out)) k hlt
      have hx := getD_of_all a BA.out k hlt
      have hsn := encs_snoc a k hlt
      have hle := encs_len (a.take k)
      rw [List.length_take] at hle
      have RA3 := Lib.hid (fun wr (h : Below w1.heap.size w1 wr) => (RA.out.below (bnext B1.out B1.out.size h)) k hlt)
      generalize hgx : a.getD k 0 = x at c1 hx hsn
      obtain ⟨u, rfl⟩ := Int.eq_ofNat_of_zero_le hx.1
      rw [Int.toNat_natCast] at hsn
      have hln := enc_len u
      have hc1 : (encs (a.take k)).length + (enc u).length ≤ maxLen := by have := HL.out; unfold maxLen; omega
      have hc2 : ((encs (a.take k)).length + (enc u).length) * 1 ≤ 140737488355328 := by have := HL.out; omega
      have CU := Lib.hid (fun W => ruint_any u W (by omega))
      have C9 := Lib.hid (fun W => same_of (unturn_any u W (by omega)))
      have C10 := Lib.hid (fun W => same_of (runturn_any u W (by omega)))
      have C11 : Hid (∀ W, Calls Try.prog 11 #[.int .i64 (unzig u)] W fun e w' => e = .returned (.int .u64 u) ∧ w' = W) := Lib.hid (fun W => by
        have h := same_of (turn_any (unzig u) W (unzig_bd (by omega)))
        rw [zig_unzig _ (by omega)] at h
        exact h)
      have SN := Lib.hid hsn
      generalize unzig (u : Int) = X at *
      clear hx hsn hle hln
      go_wp2_with fail
      refine (CU.out _).mono ?_
      rintro _ w2 ⟨v2, rfl, o2, b2⟩
      have O2 := Lib.hid (owns_below G.out.1.out b2)
      have Q2 := Lib.hid (bstep G.out.2.out b2)
      obtain ⟨a2, c2, rfl, -, -, -, h2, r2⟩ := IntRow.ownK o2
      have R2 := Lib.hid r2
      have H2 := Lib.hid h2
      clear o2 b2 r2 h2 c1
      go_wp2_with (at_builtin; refine wpList_appendInts rfl _ _ 26 rfl w1 5 i0 (.int .u8 0) 1 Try.underlying26 hi hz0 hz1 hz2 rfl _ _ _ rfl O2.out .u8 a2 c2 (enc u) rfl H2.out R2.out hc1 hc2 Q2.out ?_)
      intro v3 w3 o3 b3
      have G3 : Hid (Gr w1 (encs (a.take (k + 1))) v3 w3) := Lib.hid ⟨Lib.hid (by rw [SN.out, List.length_append, List.map_append]; exact o3), Lib.hid b3⟩
      clear o3 b3 O2 Q2 R2 H2
      obtain ⟨b', off', e', c3⟩ := RA3.out w3 G3.out.2.out
      injection e' with e'; injection e' with e1 e2; subst e1 e2
      rw [hgx] at c3
      have hk0 : (0 : Int) ≤ (k : Int) := by omega
      have hk1 : (k : Int) < (a.length : Int) := by omega
      go_wp2
      go_quiet ((first | (exact Calls.quiet_of_same (C9.out _)) | (exact Calls.quiet_of_same (C10.out _)) | (exact Calls.quiet_of_same (C11.out _))))
      go_wp2
      go_roundw
      case rel => exact ⟨k + 1, hlt, by go_num, Lib.hid (G3.out.drewN _)⟩
      case measure => simp [intOf]; omega
    · obtain rfl : k = a.length := by omega
      obtain ⟨wx, hwx⟩ : ∃ x, x = wr := ⟨_, rfl⟩
      obtain ⟨v, hv⟩ : ∃ x, x = u7 := ⟨_, rfl⟩
      subst hwx hv
      have GX : Hid (BytesAt wx v (encs a)) := Lib.hid (by have h1 := G.out.1.out; simp only [List.take_length] at h1; exact BytesAt.own h1)
      have BX : Hid (Below w.heap.size w wx) := Lib.hid (bnext B1.out B1.out.size G.out.2.out)
      have S2 := Lib.hid (Gr.start wx)
      clear G S1 B1
      go_wp2
      go_loopw [9, 10] (fun vy i wy => WrRel wx b.length (fun k => encs ((b.map zig).take k)) vy i wy) (fun _ i _ => b.length - (intOf i).toNat)
      case atStart => exact ⟨0, Nat.zero_le _, rfl, Lib.hid (by simpa [encs] using S2.out)⟩
      case round =>
        clear S2
        obtain ⟨k, hk, rfl, G⟩ := hrel
        by_cases hlt : k < b.length
        · obtain ⟨bl, off, rfl, c1⟩ := (RB.out.below (bnext BX.out BX.out.size G.out.2.out)) k hlt
          have hx := getD_of_all b BB.out k hlt
          have hsn := encs_snoc (b.map zig) k (by simpa using hlt)
          rw [mapz b k hlt] at hsn
          have hle := encs_len ((b.map zig).take k)
          rw [List.length_take, List.length_map] at hle
          have RB3 := Lib.hid (fun ws (h : Below wx.heap.size wx ws) => (RB.out.below (bnext BX.out BX.out.size h)) k hlt)
          generalize hgx : b.getD k 0 = x at c1 hx hsn
          have hln := enc_len (zig x).toNat
          have hc1 : (encs ((b.map zig).take k)).length + (enc (zig x).toNat).length ≤ maxLen := by have := HL.out; unfold maxLen; omega
          have hc2 : ((encs ((b.map zig).take k)).length + (enc (zig x).toNat).length) * 1 ≤ 140737488355328 := by have := HL.out; omega
          have CU := Lib.hid (fun W => rint_any x W hx)
          have C9 := Lib.hid (fun W => same_of (turn_any x W hx))
          have C10 := Lib.hid (fun W => same_of (rturn_any x W hx))
          have SN := Lib.hid hsn
          generalize enc (zig x).toNat = el at *
          generalize zig x = X at *
          clear hx hsn hle hln
          go_wp2_with fail
          refine (CU.out _).mono ?_
          rintro _ w2 ⟨v2, rfl, o2, b2⟩
          have O2 := Lib.hid (owns_below G.out.1.out b2)
          have Q2 := Lib.hid (bstep G.out.2.out b2)
          obtain ⟨a2, c2, rfl, -, -, -, h2, r2⟩ := IntRow.ownK o2
          have R2 := Lib.hid r2
          have H2 := Lib.hid h2
          clear o2 b2 r2 h2 c1
          go_wp2_with (at_builtin; refine wpList_appendInts rfl _ _ 26 rfl wx 5 i0 (.int .u8 0) 1 Try.underlying26 hi hz0 hz1 hz2 rfl _ _ _ rfl O2.out .u8 a2 c2 el rfl H2.out R2.out hc1 hc2 Q2.out ?_)
          intro v3 w3 o3 b3
          have G3 : Hid (Gr wx (encs ((b.map zig).take (k + 1))) v3 w3) := Lib.hid ⟨Lib.hid (by rw [SN.out, List.length_append, List.map_append]; exact o3), Lib.hid b3⟩
          clear o3 b3 O2 Q2 R2 H2
          obtain ⟨b', off', e', c3⟩ := RB3.out w3 G3.out.2.out
          injection e' with e'; injection e' with e1 e2; subst e1 e2
          rw [hgx] at c3
          have hk0 : (0 : Int) ≤ (k : Int) := by omega
          have hk1 : (k : Int) < (b.length : Int) := by omega
          go_wp2
          go_quiet ((first | (exact Calls.quiet_of_same (C9.out _)) | (exact Calls.quiet_of_same (C10.out _))))
          go_wp2
          go_roundw
          case rel => exact ⟨k + 1, hlt, by go_num, Lib.hid (G3.out.drewN _)⟩
          case measure => simp [intOf]; omega
        · obtain rfl : k = b.length := by omega
          obtain ⟨wy, hwy⟩ : ∃ x, x = wr := ⟨_, rfl⟩
          obtain ⟨vy, hvy⟩ : ∃ x, x = u9 := ⟨_, rfl⟩
          subst hwy hvy
          have GY : Hid (BytesAt wy vy (encs (b.map zig))) := Lib.hid (by
            have h1 := G.out.1.out
            have e : (b.map zig).take b.length = b.map zig := List.take_of_length_le (by simp)
            simp only [e] at h1
            exact BytesAt.own h1)
          have GX2 : Hid (BytesAt wy v (encs a)) := Lib.hid (GX.out.below G.out.2.out)
          have BY : Hid (Below w.heap.size w wy) := Lib.hid (bnext BX.out BX.out.size G.out.2.out)
          have S3 := Lib.hid (Gr.start wy)
          clear G GX BX
          go_wp2
          go_loopw [11, 12] (fun vz i wz => WrRel2 wy c vz i wz) (fun _ i _ => c.length - (intOf i).toNat)
          case atStart => exact ⟨0, Nat.zero_le _, rfl, Lib.hid (fun j hj => by omega), Lib.hid (by simpa [txts] using S3.out)⟩
          case round =>
            clear S3
            obtain ⟨k, hk, rfl, HS, G⟩ := hrel
            by_cases hlt : k < c.length
            · obtain ⟨bl, off, rfl, c1⟩ := (RC.out.below (bnext BY.out BY.out.size G.out.2.out)) k hlt
              by_cases hs : (c.getD k ByteArray.empty).size ≤ 1000
              · have HS2 : Hid (∀ j, j < k + 1 → (c.getD j ByteArray.empty).size ≤ 1000) := Lib.hid (fun j hj => by
                  by_cases e : j = k
                  · rw [e]; exact hs
                  · exact HS.out j (by omega))
                have hsn := txts_snoc2 c k hlt
                have hle := txts_small c k hk HS.out
                generalize c.getD k ByteArray.empty = s at c1 hs hsn
                have hs' : ¬ (1000 : Int) < (s.size : Int) := by omega
                have hln : (txt s).length ≤ 1010 := by unfold txt; rw [List.length_append, strB_len]; have := enc_len s.size; omega
                have hc1 : (txts (c.take k)).length + (txt s).length ≤ maxLen := by have := HL.out; unfold maxLen; omega
                have hc2 : ((txts (c.take k)).length + (txt s).length) * 1 ≤ 140737488355328 := by have := HL.out; omega
                have CU := Lib.hid (fun W => rtext_any s W hs)
                have SN := Lib.hid hsn
                generalize txt s = el at *
                clear hsn hle hln hs
                go_wp2_with fail
                refine (CU.out _).mono ?_
                rintro _ w2 ⟨v2, rfl, o2, b2⟩
                have O2 := Lib.hid (owns_below G.out.1.out b2)
                have Q2 := Lib.hid (bstep G.out.2.out b2)
                obtain ⟨a2, c2, rfl, -, -, -, h2, r2⟩ := IntRow.ownK o2
                have R2 := Lib.hid r2
                have H2 := Lib.hid h2
                clear o2 b2 r2 h2 c1
                go_wp2_with (at_builtin; refine wpList_appendInts rfl _ _ 26 rfl wy 5 i0 (.int .u8 0) 1 Try.underlying26 hi hz0 hz1 hz2 rfl _ _ _ rfl O2.out .u8 a2 c2 el rfl H2.out R2.out hc1 hc2 Q2.out ?_)
                intro v3 w3 o3 b3
                have G3 : Hid (Gr wy (txts (c.take (k + 1))) v3 w3) := Lib.hid ⟨Lib.hid (by rw [SN.out, List.length_append, List.map_append]; exact o3), Lib.hid b3⟩
                clear o3 b3 O2 Q2 R2 H2
                go_wp2
                go_roundw
                case rel => exact ⟨k + 1, hlt, by go_num, HS2, G3⟩
                case measure => simp [intOf]; omega
              · generalize c.getD k ByteArray.empty = s at c1 hs
                have hs' : (1000 : Int) < (s.size : Int) := by omega
                have BZ : Hid (Below w.heap.size w wr) := Lib.hid (bnext BY.out BY.out.size G.out.2.out)
                clear hs
                go_wp2
                go_ret
                exact ⟨rfl, BZ.out⟩
            · obtain rfl : k = c.length := by omega
              obtain ⟨wz, hwz⟩ : ∃ x, x = wr := ⟨_, rfl⟩
              obtain ⟨vz, hvz⟩ : ∃ x, x = u11 := ⟨_, rfl⟩
              subst hwz hvz
              have GZ : Hid (BytesAt wz vz (txts c)) := Lib.hid (by have h1 := G.out.1.out; simp only [List.take_length] at h1; exact BytesAt.own h1)
              have GX3 : Hid (BytesAt wz v (encs a)) := Lib.hid (GX2.out.below G.out.2.out)
              have GY2 : Hid (BytesAt wz vy (encs (b.map zig))) := Lib.hid (GY.out.below G.out.2.out)
              have BZ : Hid (Below w.heap.size w wz) := Lib.hid (bnext BY.out BY.out.size G.out.2.out)
              have tz := txts_small c c.length (Nat.le_refl _) HS.out
              rw [List.take_length] at tz
              clear G GX2 GY BY HS
              have n4 := HL.out
              have la := encs_len a
              have lb := encs_len (b.map zig)
              rw [List.length_map] at lb
              obtain ⟨ax, cx, rfl, -, -, -, rx⟩ := GX3.out
              obtain ⟨ay, cy, rfl, -, -, -, ry⟩ := GY2.out
              obtain ⟨az, cz, rfl, -, -, -, rz⟩ := GZ.out
              have RX := Lib.hid rx
              have RY := Lib.hid ry
              have RZ := Lib.hid rz
              have CU := Lib.hid (fun W h => uints_any aa ca a W h BA.out (by omega))
              have CI := Lib.hid (fun W h => ints_any ab cb b W h BB.out (by omega))
              have CT := Lib.hid (fun W h => texts_any ac cc c W h (by omega) (by omega))
              have E1 := Lib.hid (fun W a' c' h1 h2 => same_two (encs a) (by omega) W a' ax c' cx h1 h2)
              have E2 := Lib.hid (fun W a' c' h1 h2 => same_two (encs (b.map zig)) (by omega) W a' ay c' cy h1 h2)
              have E3 := Lib.hid (fun W a' c' h1 h2 => same_two (txts c) (by omega) W a' az c' cz h1 h2)
              clear rx ry rz GX3 GY2 GZ n4 la lb tz
              go_wp2_with fail
              refine (CU.out _ (RA.out.below BZ.out)).mono ?_
              rintro _ w2 ⟨v2, rfl, o2, b2⟩
              obtain ⟨a2, c2, rfl, -, -, -, -, r2⟩ := IntRow.ownK o2
              have R2 := Lib.hid r2
              have B2 : Hid (Below w.heap.size w w2) := Lib.hid (bnext BZ.out BZ.out.size b2)
              have Q2 : Hid (Below wz.heap.size wz w2) := Lib.hid b2
              clear o2 b2 r2
              go_wp2_with fail
              refine (E1.out _ _ _ R2.out (RX.out.below Q2.out)).mono ?_
              rintro _ _ ⟨rfl, n2, rfl⟩
              have B3 : Hid (Below w.heap.size w _) := Lib.hid (below_drewN B2.out n2)
              have Q3 : Hid (Below wz.heap.size wz _) := Lib.hid (below_drewN Q2.out n2)
              clear R2 B2 Q2
              go_wp2_with fail
              refine (CI.out _ (RB.out.below B3.out)).mono ?_
              rintro _ w4 ⟨v4, rfl, o4, b4⟩
              obtain ⟨a4, c4, rfl, -, -, -, -, r4⟩ := IntRow.ownK o4
              have R4 := Lib.hid r4
              have B4 : Hid (Below w.heap.size w w4) := Lib.hid (bnext B3.out B3.out.size b4)
              have Q4 : Hid (Below wz.heap.size wz w4) := Lib.hid (bstep Q3.out b4)
              clear o4 b4 r4
              go_wp2_with fail
              refine (E2.out _ _ _ R4.out (RY.out.below Q4.out)).mono ?_
              rintro _ _ ⟨rfl, n4, rfl⟩
              have B5 : Hid (Below w.heap.size w _) := Lib.hid (below_drewN B4.out n4)
              have Q5 : Hid (Below wz.heap.size wz _) := Lib.hid (below_drewN Q4.out n4)
              clear R4 B4 Q4
              go_wp2_with fail
              refine (CT.out _ (RC.out.below B5.out)).mono ?_
              rintro _ w6 ⟨v6, rfl, o6, b6⟩
              obtain ⟨a6, c6, rfl, -, -, -, -, r6⟩ := IntRow.ownK o6
              have R6 := Lib.hid r6
              have B6 : Hid (Below w.heap.size w w6) := Lib.hid (bnext B5.out B5.out.size b6)
              have Q6 : Hid (Below wz.heap.size wz w6) := Lib.hid (bstep Q5.out b6)
              clear o6 b6 r6
              go_wp2_with fail
              refine (E3.out _ _ _ R6.out (RZ.out.below Q6.out)).mono ?_
              rintro _ _ ⟨rfl, n6, rfl⟩
              have B7 : Hid (Below w.heap.size w _) := Lib.hid (below_drewN B6.out n6)
              go_wp2
              go_ret
              exact ⟨rfl, B7.out⟩
theorem cw_any (aa ab ac : Option Addr) (ca cb cc : Nat) (a b : List Int) (c : List ByteArray) (w : World)
    (ra : IntRow w aa .u64 a) (rb : IntRow w ab .i64 b) (rc : StrRow w ac c) (ba : ∀ x ∈ a, (Lit.int .u64 x).wf = true) (bb : ∀ x ∈ b, (Lit.int .i64 x).wf = true) (ha : a.length ≤ 140737488351232) (hb : b.length ≤ 140737488351232) (hc : c.length ≤ 140737488351232) :
    Calls Try.prog 3 #[.slice aa a.length ca, .slice ab b.length cb, .slice ac c.length cc] w (BackPost w) := by
  by_cases h : 200 < a.length + b.length + c.length
  · exact cw_far aa ab ac ca cb cc _ _ _ w h (by omega) (by omega) (by omega)
  · exact cw_near aa ab ac ca cb cc a b c w ra rb rc (fun x hx => bd64u (ba x hx)) (fun x hx => bd (bb x hx)) (by omega)
end Go.Proofs.Ytojahaimelkhlaa
