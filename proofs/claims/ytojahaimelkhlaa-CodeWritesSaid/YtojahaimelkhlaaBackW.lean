/- CodeBack, walked. -/
import Derived.Test.YtojahaimelkhlaaToldW
namespace Go.Proofs.Ytojahaimelkhlaa
open Go.RowKit
set_option linter.unusedVariables false

theorem owns_below {w w' : World} {base e size n : Nat} {v : Value} {xs : List Value} (h : w.ownsRow base e size v n xs) (hb : Below w.heap.size w w') : w'.ownsRow base e size v n xs := by
  obtain ⟨h1, h2⟩ := h
  refine ⟨h1, ?_⟩
  rcases h2 with h2 | ⟨g, cap, cur, e1, e2, e3, e4⟩
  · exact .inl h2
  · exact .inr ⟨g, cap, cur, e1, e2, (hb.block g (Array.getElem?_eq_some_iff.1 e3).1).trans e3, e4⟩
theorem encs_bytes {l : List Int} (h : ∀ x ∈ l, 0 ≤ x ∧ x ≤ 18446744073709551615) : ByteL (encs l) := fun x hx => by
  unfold encs at hx
  obtain ⟨m, hm, hx⟩ := List.mem_flatten.1 hx
  obtain ⟨u, hu, rfl⟩ := List.mem_map.1 hm
  have := h u hu
  exact enc_bytes _ (by omega) x hx
theorem txts_bytes {l : List ByteArray} (h : ∀ s ∈ l, s.size ≤ 300) : ByteL (txts l) := fun x hx => by
  unfold txts at hx
  obtain ⟨m, hm, hx⟩ := List.mem_flatten.1 hx
  obtain ⟨s, hs, rfl⟩ := List.mem_map.1 hm
  have := h s hs
  unfold txt at hx
  rcases List.mem_append.1 hx with hx | hx
  · exact enc_bytes _ (by omega) x hx
  · exact strB_bytes s x hx
theorem txts_len : ∀ (l : List ByteArray), (∀ s ∈ l, s.size ≤ 300) → (txts l).length ≤ 310 * l.length
  | [], h => by simp [txts]
  | s :: l, h => by
    have h1 := txts_len l (fun x hx => h x (by simp [hx]))
    have h2 := h s (by simp)
    have h3 := enc_len s.size
    have e : txts (s :: l) = txt s ++ txts l := by simp [txts]
    rw [e, List.length_append]
    unfold txt
    rw [List.length_append, strB_len, List.length_cons]
    omega
def BackPost (w : World) (e : Ending) (w' : World) : Prop := e = .returned (.bool true) ∧ Below w.heap.size w w'
theorem cback_far (aa ab ac : Option Addr) (ca cb cc na nb nc : Nat) (t : Int) (w : World) (h : 100 < na + nb + nc) (ha : na ≤ 140737488355328) (hb : nb ≤ 140737488355328) (hc : nc ≤ 140737488355328) :
    Calls Try.prog 4 #[.slice aa na ca, .slice ab nb cb, .slice ac nc cc, .int .i64 t] w (BackPost w) := by
  have h1 : (100 : Int) < (na : Int) + (nb : Int) + (nc : Int) := by omega
  have s1 : wrap64 ((na : Int) + (nb : Int)) = (na : Int) + (nb : Int) := by unfold wrap64; omega
  have s2 : wrap64 ((na : Int) + (nb : Int) + (nc : Int)) = (na : Int) + (nb : Int) + (nc : Int) := by unfold wrap64; omega
  clear h ha hb hc
  go_enter Try.func4, Try.ntmps4
  go_wp2_with fail
  refine (alive_any _).mono ?_
  rintro _ w1 ⟨rfl, b1⟩
  have B1 := Lib.hid b1
  clear b1
  go_wp2
  go_ret
  exact ⟨rfl, B1.out⟩
def CbRel (c : List ByteArray) (i : Value) : Prop := ∃ k : Nat, k ≤ c.length ∧ i = .int .i64 k ∧ Hid (∀ j, j < k → (c.getD j ByteArray.empty).size ≤ 300)
set_option maxHeartbeats 4000000 in
set_option maxRecDepth 10000 in
theorem cback_near (aa ab ac : Option Addr) (ca cb cc : Nat) (a b : List Int) (c : List ByteArray) (t : Int) (w : World)
    (ra : IntRow w aa .u64 a) (rb : IntRow w ab .i64 b) (rc : StrRow w ac c) (ba : ∀ x ∈ a, 0 ≤ x ∧ x ≤ 18446744073709551615) (bb : ∀ x ∈ b, InI x) (h : a.length + b.length + c.length ≤ 100) (ht : InI t) :
    Calls Try.prog 4 #[.slice aa a.length ca, .slice ab b.length cb, .slice ac c.length cc, .int .i64 t] w (BackPost w) := by
  obtain ⟨i0, hi, hz0, hz1, hz2⟩ := info_parts info_uint8
  have RA := Lib.hid ra
  have RB := Lib.hid rb
  have RC := Lib.hid rc
  have BA := Lib.hid ba
  have BB := Lib.hid bb
  have HL := Lib.hid h
  have HT := Lib.hid ht
  have h1 : ¬ (100 : Int) < (a.length : Int) + (b.length : Int) + (c.length : Int) := by omega
  have s1 : wrap64 ((a.length : Int) + (b.length : Int)) = (a.length : Int) + (b.length : Int) := by unfold wrap64; omega
  have s2 : wrap64 ((a.length : Int) + (b.length : Int) + (c.length : Int)) = (a.length : Int) + (b.length : Int) + (c.length : Int) := by unfold wrap64; omega
  clear ra rb rc ba bb h ht
  go_enter Try.func4, Try.ntmps4
  go_wp2_with fail
  refine (alive_any _).mono ?_
  rintro _ w1 ⟨rfl, b1⟩
  have B1 := Lib.hid b1
  clear b1
  go_wp2
  clear h1 s1 s2
  go_loop [9] (fun i => CbRel c i) (fun i => c.length - (intOf i).toNat)
  case atStart => exact ⟨0, Nat.zero_le _, rfl, Lib.hid (fun j hj => by omega)⟩
  case round =>
    obtain ⟨k, hk, rfl, HC⟩ := hrel
    by_cases hlt : k < c.length
    · obtain ⟨bl, off, rfl, c1⟩ := (RC.out.below B1.out) k hlt
      by_cases hs : (c.getD k ByteArray.empty).size ≤ 300
      · have HC2 : Hid (∀ j, j < k + 1 → (c.getD j ByteArray.empty).size ≤ 300) := Lib.hid (fun j hj => by
          by_cases e : j = k
          · rw [e]; exact hs
          · exact HC.out j (by omega))
        generalize c.getD k ByteArray.empty = s at c1 hs
        have hs' : ¬ (300 : Int) < (s.size : Int) := by omega
        clear hs
        go_wp2
        go_round
        case rel => exact ⟨k + 1, hlt, by go_num, HC2⟩
        case measure => simp [intOf]; omega
      · generalize c.getD k ByteArray.empty = s at c1 hs
        have hs' : (300 : Int) < (s.size : Int) := by omega
        clear hs
        go_wp2
        go_ret
        exact ⟨rfl, B1.out⟩
    · obtain rfl : k = c.length := by omega
      have BC : Hid (∀ s ∈ c, s.size ≤ 300) := Lib.hid (fun s hs => by
        obtain ⟨j, hj, e⟩ := List.getElem_of_mem hs
        have := HC.out j hj
        rw [List.getD_eq_getElem?_getD, List.getElem?_eq_getElem hj] at this
        rw [← e]; exact this)
      have hz : ∀ x ∈ b.map zig, 0 ≤ x ∧ x ≤ 18446744073709551615 := fun x hx => by
        obtain ⟨y, hy, rfl⟩ := List.mem_map.1 hx
        exact zig_bd (BB.out y hy)
      have n1 := encs_len a
      have n2 := encs_len (b.map zig)
      rw [List.length_map] at n2
      have n3 := txts_len c BC.out
      have n4 := HL.out
      obtain ⟨T, hT⟩ : ∃ T, T = encs a ++ (encs (b.map zig) ++ txts c) := ⟨_, rfl⟩
      have TB : Hid (ByteL T) := Lib.hid (fun x hx => by
        rw [hT] at hx
        rcases List.mem_append.1 hx with hx | hx
        · exact encs_bytes BA.out x hx
        · rcases List.mem_append.1 hx with hx | hx
          · exact encs_bytes hz x hx
          · exact txts_bytes BC.out x hx)
      have tlen : T.length = (encs a).length + (encs (b.map zig)).length + (txts c).length := by rw [hT, List.length_append, List.length_append, ← Nat.add_assoc]
      have TL : Hid (T.length ≤ 100000) := Lib.hid (by omega)
      have CU := Lib.hid (fun W h => uints_any aa ca a W h BA.out (by omega))
      have CI := Lib.hid (fun W h => ints_any ab cb b W h BB.out (by omega))
      have CT := Lib.hid (fun W h => texts_any ac cc c W h (by omega) (by omega))
      have CN := Lib.hid (fun v W (m : Nat) (h : BytesAt W v (T.take m)) => new_any v (T.take m) W h (by have := TL.out; rw [List.length_take]; omega))
      have TD := Lib.hid (fun W g n (h1 : Below w.heap.size w W) (h2 : w.heap.size ≤ g) h3 => told_any w W g n aa ab ac ca cb cc a b c T hT RA.out RB.out RC.out BA.out BB.out BC.out (by omega) (by omega) (by omega) TB.out (by have := TL.out; omega) h1 h2 h3)
      have hc1 : (encs a).length + (encs (b.map zig)).length ≤ maxLen := by unfold maxLen; omega
      have hc2 : ((encs a).length + (encs (b.map zig)).length) * 1 ≤ 140737488355328 := by omega
      have hc3 : (encs a).length + (encs (b.map zig)).length + (txts c).length ≤ maxLen := by unfold maxLen; omega
      have hc4 : ((encs a).length + (encs (b.map zig)).length + (txts c).length) * 1 ≤ 140737488355328 := by omega
      have TE := Lib.hid hT
      have TN := Lib.hid tlen
      clear hT tlen n1 n2 n3 n4 hz HC
      go_wp2_with fail
      refine (CU.out _ (RA.out.below B1.out)).mono ?_
      rintro _ w2 ⟨v2, rfl, o2, b2⟩
      have B2 : Hid (Below w.heap.size w w2) := Lib.hid (bnext B1.out B1.out.size b2)
      have O2 := Lib.hid o2
      have Q2 := Lib.hid b2
      clear o2 b2
      go_wp2_with fail
      refine (CI.out _ (RB.out.below B2.out)).mono ?_
      rintro _ w3 ⟨v3, rfl, o3, b3⟩
      have B3 : Hid (Below w.heap.size w w3) := Lib.hid (bnext B2.out B2.out.size b3)
      have O3 := Lib.hid (owns_below O2.out b3)
      have Q3 := Lib.hid (bstep Q2.out b3)
      obtain ⟨a3, c3, rfl, -, -, -, h3, r3⟩ := IntRow.ownK o3
      have R3 := Lib.hid r3
      have H3 := Lib.hid h3
      clear o3 b3 r3 h3
      go_wp2_with (at_builtin; refine wpList_appendInts rfl _ _ 26 rfl w1 5 i0 (.int .u8 0) 1 Try.underlying26 hi hz0 hz1 hz2 rfl _ _ _ rfl O3.out .u8 a3 c3 (encs (b.map zig)) rfl H3.out R3.out hc1 hc2 Q3.out ?_)
      intro v4 w4 o4 b4
      have O4 : Hid (w4.ownsRow w1.heap.size 5 1 v4 ((encs a).length + (encs (b.map zig)).length) ((encs a ++ encs (b.map zig)).map (Value.int .u8))) := Lib.hid (by rw [List.map_append]; exact o4)
      have Q4 := Lib.hid b4
      have B4 : Hid (Below w.heap.size w w4) := Lib.hid (bnext B1.out B1.out.size b4)
      clear o4 b4 O2 O3 Q2 Q3 R3 H3
      go_wp2_with fail
      refine (CT.out _ (RC.out.below B4.out)).mono ?_
      rintro _ w5 ⟨v5, rfl, o5, b5⟩
      have B5 : Hid (Below w.heap.size w w5) := Lib.hid (bnext B4.out B4.out.size b5)
      have O5 := Lib.hid (owns_below O4.out b5)
      have Q5 := Lib.hid (bstep Q4.out b5)
      obtain ⟨a5, c5, rfl, -, -, -, h5, r5⟩ := IntRow.ownK o5
      have R5 := Lib.hid r5
      have H5 := Lib.hid h5
      clear o5 b5 r5 h5
      go_wp2_with (at_builtin; refine wpList_appendInts rfl _ _ 26 rfl w1 5 i0 (.int .u8 0) 1 Try.underlying26 hi hz0 hz1 hz2 rfl _ _ _ rfl O5.out .u8 a5 c5 (txts c) rfl H5.out R5.out hc3 hc4 Q5.out ?_)
      intro v6 w6 o6 b6
      have O6 : w6.ownsRow w1.heap.size 5 1 v6 T.length (T.map (Value.int .u8)) := by
        have e : T.map (Value.int .u8) = (encs a ++ encs (b.map zig)).map (Value.int .u8) ++ (txts c).map (Value.int .u8) := by rw [TE.out, ← List.append_assoc, List.map_append]
        rw [TN.out, e]; simpa only [List.append_assoc, List.map_append] using o6
      have B6 : Hid (Below w.heap.size w w6) := Lib.hid (bnext B1.out B1.out.size b6)
      have V6 := Lib.hid (BytesAt.own O6)
      obtain ⟨a6, c6, rfl, -, l6, m6, h6, r6⟩ := IntRow.ownK O6
      have R6 := Lib.hid r6
      have H6 := Lib.hid h6
      clear o6 b6 r6 h6 O6 O4 O5 Q4 Q5 R5 H5
      go_wp2_with fail
      refine (copyBytes_any a6 c6 T _ R6.out H6.out (by have := TL.out; omega)).mono ?_
      rintro _ w7 ⟨v7, rfl, o7, b7⟩
      have B7 : Hid (Below w.heap.size w w7) := Lib.hid (bnext B6.out B6.out.size b7)
      have Q7 : Hid (Below w6.heap.size w6 w7) := Lib.hid b7
      have V7 : Hid (BytesAt w7 v7 (T.take T.length)) := Lib.hid (by rw [List.take_length]; exact BytesAt.own o7)
      clear o7 b7
      go_wp2_with fail
      refine (CN.out _ _ T.length V7.out).mono ?_
      rintro _ w8 ⟨g, rfl, hg, G8, b8⟩
      have B8 : Hid (Below w.heap.size w w8) := Lib.hid (bnext B7.out B7.out.size b8.out)
      have Q8 : Hid (Below w6.heap.size w6 w8) := Lib.hid (bstep Q7.out b8.out)
      have hgw : Hid (w.heap.size ≤ g) := Lib.hid (Nat.le_trans B7.out.size hg)
      have hg6 : Hid (w6.heap.size ≤ g) := Lib.hid (Nat.le_trans Q7.out.size hg)
      clear hg b8 Q7
      go_wp2_with fail
      refine (TD.out _ g T.length B8.out hgw.out G8.out).mono ?_
      rintro _ w9 ⟨rfl, b9, -⟩
      have B9 : Hid (Below w.heap.size w w9) := Lib.hid (B8.out.trans (b9.out.mono hgw.out))
      have Q9 : Hid (Below w6.heap.size w6 w9) := Lib.hid (Q8.out.trans (b9.out.mono hg6.out))
      have R9 := Lib.hid (R6.out.below Q9.out)
      have tt : decide (T.length ≤ T.length) = true := by simp
      rw [tt]
      clear b9 Q8 G8 B8 Q9 R6 V7 V6 tt
      by_cases h0 : t < 0
      · go_wp2
        go_ret
        exact ⟨rfl, B9.out⟩
      · obtain ⟨m, rfl⟩ := Int.eq_ofNat_of_zero_le (by omega : 0 ≤ t)
        by_cases hm : T.length ≤ m
        · have hm' : ¬ (m : Int) < (T.length : Int) := by omega
          have hm2 : (T.length : Int) ≤ (m : Int) := by omega
          clear hm
          go_wp2
          go_ret
          exact ⟨rfl, B9.out⟩
        · have hm' : ¬ (T.length : Int) ≤ (m : Int) := by omega
          obtain ⟨b10, o10, rfl, -⟩ := R9.out 0 (by omega)
          have hlen : (T.take m).length = m := by rw [List.length_take]; omega
          have CC : Hid (∀ W, IntRow W (some ⟨b10, o10, none⟩) .u8 T → Calls Try.prog 21 #[.slice (some ⟨b10, o10, none⟩) m c6] W fun e w' => IntsOut .u8 (T.take m) W e w') := Lib.hid (fun W h => by
            have := copyBytes_any (some ⟨b10, o10, none⟩) c6 (T.take m) W (h.take m) (fun e => by simp at e) (by have := TL.out; omega)
            rw [hlen] at this
            exact this)
          have hmc : (m : Int) ≤ (c6 : Int) := by omega
          have D : Hid (decide (T.length ≤ m) = false) := Lib.hid (by simp; omega)
          have HM := Lib.hid (show m < T.length by omega)
          clear hm hlen
          go_wp2_with fail
          refine (CC.out _ R9.out).mono ?_
          rintro _ w10 ⟨v10, rfl, o10', bb10⟩
          have B10 : Hid (Below w.heap.size w w10) := Lib.hid (bnext B9.out B9.out.size bb10)
          have V10 := Lib.hid (BytesAt.own o10')
          clear o10' bb10
          go_wp2_with fail
          refine (CN.out _ _ m V10.out).mono ?_
          rintro _ w11 ⟨g2, rfl, hg2, G11, b11⟩
          have B11 : Hid (Below w.heap.size w w11) := Lib.hid (bnext B10.out B10.out.size b11.out)
          have hgw2 : Hid (w.heap.size ≤ g2) := Lib.hid (Nat.le_trans B10.out.size hg2)
          clear hg2 b11
          go_wp2_with fail
          refine (TD.out _ g2 m B11.out hgw2.out G11.out).mono ?_
          rintro _ w12 ⟨rfl, b12, L12⟩
          rw [D.out]
          obtain ⟨l12, R12⟩ := L12 HM.out
          have B12 : Hid (Below w.heap.size w w12) := Lib.hid (B11.out.trans (b12.out.mono hgw2.out))
          have CE := Lib.hid (err_any g2 l12 15 w12 R12)
          clear R12 b12 L12
          go_wp2_with fail
          refine CE.out.mono ?_
          rintro _ _ ⟨rfl, rfl⟩
          go_wp2
          go_ret
          exact ⟨rfl, B12.out⟩
end Go.Proofs.Ytojahaimelkhlaa
