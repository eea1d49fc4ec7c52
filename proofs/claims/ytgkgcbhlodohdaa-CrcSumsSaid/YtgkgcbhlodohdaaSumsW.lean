/- CrcSums, walked. -/
import Derived.Test.YtgkgcbhlodohdaaParts
namespace Go.Proofs.Ytgkgcbhlodohdaa
open Go.RowKit
set_option linter.unusedVariables false

theorem same_any (v u : Value) (l m : List Int) (w : World) (hv : BytesAt w v l) (hu : BytesAt w u m) (hl : l.length ≤ 1000000) : Calls Try.prog 14 #[v, u] w fun e w' => SamePost l m w e w' := by
  obtain ⟨a, c, rfl, -, -, -, r1⟩ := hv
  obtain ⟨b, d, rfl, -, hd1, hd2, r2⟩ := hu
  exact sameBytes_any a b c d l m w r1 r2 hl (by omega)
theorem open_both (l : List Int) (hb : ByteL l) (hl : l.length ≤ 900000) : ∃ L E, L.length ≤ 900000 ∧
    (∀ W v, BytesAt W v l → Calls Try.prog 10 #[v] W (ROut L E W)) ∧ (∀ W v, BytesAt W v l → Calls Try.prog 11 #[v] W (ROut L E W)) := by
  by_cases h4 : l.length < 4
  · refine ⟨[], 15, by simp, fun W v h => ?_, fun W v h => ropen_short v l W h h4⟩
    refine (open_short v l W h h4).mono ?_
    rintro e w' ⟨v', rfl, h1, h2⟩
    exact ⟨v', rfl, BytesAt.own h1, h2⟩
  · obtain ⟨d, q, rfl, hq⟩ : ∃ d q, l = d ++ q ∧ q.length = 4 := ⟨l.take (l.length - 4), l.drop (l.length - 4), (List.take_append_drop _ _).symm, by rw [List.length_drop]; omega⟩
    rw [List.length_append, hq] at hl
    have hd : ByteL d := fun x hx => hb x (List.mem_append.2 (.inl hx))
    have hqb : ByteL q := fun x hx => hb x (List.mem_append.2 (.inr hx))
    obtain ⟨c0, c1, c2, c3, rfl⟩ : ∃ c0 c1 c2 c3, q = [c0, c1, c2, c3] := by
      match q, hq with
      | [c0, c1, c2, c3], _ => exact ⟨c0, c1, c2, c3, rfl⟩
    refine ⟨opL d [c0, c1, c2, c3], opE d [c0, c1, c2, c3], by unfold opL; split; omega; simp, fun W v h => ?_, fun W v h => ?_⟩
    · obtain ⟨a, c, rfl, -, hc1, hc2, r⟩ := h
      obtain ⟨b, off, rfl, -⟩ := r 0 (by simp)
      rw [List.length_append] at hc1 ⊢
      exact copen_any b off c d c0 c1 c2 c3 W r hc1 hc2 (by omega) hd (hqb c0 (by simp)) (hqb c1 (by simp)) (hqb c2 (by simp)) (hqb c3 (by simp))
    · obtain ⟨a, c, rfl, -, hc1, hc2, r⟩ := h
      obtain ⟨b, off, rfl, -⟩ := r 0 (by simp)
      rw [List.length_append] at hc1 ⊢
      exact ropen_any b off c d [c0, c1, c2, c3] W rfl r hc1 hc2 (by omega) hd
set_option maxHeartbeats 2000000 in
theorem sums_far (a : Option Addr) (cap : Nat) (l : List (List Int)) (x : Option Addr) (n c : Nat) (w : World) (hr : PartsRow w a l) (hl : l.length ≤ 9223372036854775807) (hp : ∀ p ∈ l, p.length ≤ 140737488351232) (hn : n ≤ 9223372036854775807) (h : greatB l = true ∨ 3000 < n) :
    Calls Try.prog 3 #[.slice a l.length cap, .slice x n c] w (BkPost w) := by
  have CG : Hid (∀ W, Below w.heap.size w W → Calls Try.prog 7 #[.slice a l.length cap] W (GrPost (greatB l) W)) := Lib.hid fun W hB => great_any a cap l W (hr.below hB) hl hp
  by_cases hg : greatB l = true
  · rw [hg] at CG
    clear hr hp h hg
    go_enter Try.func3, Try.ntmps3
    go_wp2_with fail
    refine (alive_any _).mono ?_
    rintro e w1 ⟨rfl, hb⟩
    have B1 := Lib.hid hb
    clear hb
    go_wp2_with fail
    refine (CG.out _ B1.out).mono ?_
    rintro e w2 ⟨rfl, rfl⟩
    go_wp2
    go_ret
    exact ⟨rfl, B1.out⟩
  · have hg' : greatB l = false := by simpa using hg
    rw [hg'] at CG
    have h3 : (3000 : Int) < (n : Int) := by rcases h with h | h; exact absurd h hg; omega
    clear hr hp h hg hg'
    go_enter Try.func3, Try.ntmps3
    go_wp2_with fail
    refine (alive_any _).mono ?_
    rintro e w1 ⟨rfl, hb⟩
    have B1 := Lib.hid hb
    clear hb
    go_wp2_with fail
    refine (CG.out _ B1.out).mono ?_
    rintro e w2 ⟨rfl, rfl⟩
    go_wp2
    go_ret
    exact ⟨rfl, B1.out⟩
set_option maxHeartbeats 4000000 in
theorem sums_near (a : Option Addr) (cap : Nat) (l : List (List Int)) (x : Option Addr) (c : Nat) (m : List Int) (w : World) (hr : PartsRow w a l) (hb : ∀ p ∈ l, ByteL p) (hg : greatB l = false) (hx : IntRow w x .u8 m) (hx0 : x = none → c = 0) (hmc : m.length ≤ c) (hc : c ≤ 9223372036854775807) (hm : m.length ≤ 3000) (hmb : ByteL m) :
    Calls Try.prog 3 #[.slice a l.length cap, .slice x m.length c] w (BkPost w) := by
  have hl : l.length ≤ 100 ∧ lenP l ≤ 3000 := by
    unfold greatB at hg
    simp only [Bool.or_eq_false_iff, decide_eq_false_iff_not] at hg
    omega
  have hpl : ∀ p ∈ l, p.length ≤ 3000 := fun p hp' => by
    have : p.length ≤ lenP l := by
      rw [← lenP_flat]
      obtain ⟨s, t, rfl⟩ := List.append_of_mem hp'
      simp
      omega
    omega
  have hfb : ByteL l.flatten := fun x hx => by
    obtain ⟨p, hp, hx⟩ := List.mem_flatten.1 hx
    exact hb p hp x hx
  have hfl : l.flatten.length ≤ 3000 := by rw [lenP_flat]; omega
  obtain ⟨L, E, hL, co, ro⟩ := open_both m hmb (by omega)
  have CG : Hid (∀ W, Below w.heap.size w W → Calls Try.prog 7 #[.slice a l.length cap] W (GrPost false W)) := Lib.hid fun W hB => by
    have h := great_any a cap l W (hr.below hB) (by omega) (fun p hp => by have := hpl p hp; omega)
    rwa [hg] at h
  have CJ : Hid (∀ W, Below w.heap.size w W → Calls Try.prog 8 #[.slice a l.length cap] W (NewBytes l.flatten W)) := Lib.hid fun W hB => join_any a cap l W (hr.below hB) (by omega) (by omega)
  have CC : Hid (∀ W, Below w.heap.size w W → Calls Try.prog 9 #[.slice x m.length c] W fun e w' => IntsOut .u8 m W e w') := Lib.hid fun W hB => copyBytes_any x c m W (hx.below hB) hx0 (by omega)
  have CO := Lib.hid co
  have RO := Lib.hid ro
  have CS : Hid (∀ W, Below w.heap.size w W → Calls Try.prog 12 #[.slice a l.length cap] W (SumRes (crcN l.flatten) W)) := Lib.hid fun W hB => sum_any a cap l W (hr.below hB) hb (by omega) (fun p hp => by have := hpl p hp; omega)
  have RS : Hid (∀ W v, BytesAt W v l.flatten → Calls Try.prog 13 #[v] W (SumRes (crcN l.flatten) W)) := Lib.hid fun W v h => by
    obtain ⟨a1, c1, rfl, -, -, -, r⟩ := h
    exact rsum_any a1 c1 _ W r hfb (by omega)
  have CE : Hid (∀ W, Below w.heap.size w W → Calls Try.prog 15 #[.slice a l.length cap] W (NewBytes (sealL l.flatten) W)) := Lib.hid fun W hB => seal_any a cap l W (hr.below hB) hb (by omega) (by omega)
  have RE : Hid (∀ W v, BytesAt W v l.flatten → Calls Try.prog 16 #[v] W (NewBytes (sealL l.flatten) W)) := Lib.hid fun W v h => by
    obtain ⟨a1, c1, rfl, ha1, -, -, r⟩ := h
    exact rseal_any a1 c1 _ W r ha1 hfb (by omega)
  have SE : Hid (∀ W v u, BytesAt W v (sealL l.flatten) → BytesAt W u (sealL l.flatten) → Calls Try.prog 14 #[v, u] W fun e w' => SamePost (sealL l.flatten) (sealL l.flatten) W e w') := Lib.hid fun W v u h1 h2 => same_any v u _ _ W h1 h2 (by rw [sealL_len]; omega)
  have SL : Hid (∀ W v u, BytesAt W v L → BytesAt W u L → Calls Try.prog 14 #[v, u] W fun e w' => SamePost L L W e w') := Lib.hid fun W v u h1 h2 => same_any v u _ _ W h1 h2 (by omega)
  have SM : Hid (∀ W v, BytesAt W v m → Below w.heap.size w W → Calls Try.prog 14 #[v, .slice x m.length c] W fun e w' => SamePost m m W e w') := Lib.hid fun W v h1 hB => same_any v _ _ _ W h1 ⟨x, c, rfl, hx0, hmc, hc, hx.below hB⟩ (by omega)
  have XA : Hid (∀ W, Below w.heap.size w W → BytesAt W (.slice x m.length c) m) := Lib.hid fun W hB => ⟨x, c, rfl, hx0, hmc, hc, hx.below hB⟩
  have h3 : ¬ (3000 : Int) < (m.length : Int) := by omega
  clear hr hb hg hx hx0 hmb hpl hfb hfl co ro hl
  generalize l.flatten = f at *
  go_enter Try.func3, Try.ntmps3
  go_wp2_with fail
  refine (alive_any _).mono ?_
  rintro e w1 ⟨rfl, hb⟩
  have B1 := Lib.hid hb
  clear hb
  go_wp2_with fail
  refine (CG.out _ B1.out).mono ?_
  rintro e w2 ⟨rfl, rfl⟩
  go_wp2_with fail
  refine (CJ.out _ B1.out).mono ?_
  rintro e w2 ⟨va, rfl, h1, h2⟩
  have B2 : Hid (Below w.heap.size w w2) := Lib.hid (bstep B1.out h2)
  have A2 := Lib.hid (BytesAt.own h1)
  clear h1 h2
  go_wp2_with fail
  refine (CC.out _ B2.out).mono ?_
  rintro e w3 ⟨vo, rfl, h1, h2⟩
  have B3 : Hid (Below w.heap.size w w3) := Lib.hid (bstep B2.out h2)
  have A3 := Lib.hid (A2.out.below h2)
  have O3 := Lib.hid (BytesAt.own h1)
  clear h1 h2
  go_wp2_with fail
  refine (CO.out _ _ O3.out).mono ?_
  rintro e w4 ⟨vc, rfl, h1, h2⟩
  have B4 : Hid (Below w.heap.size w w4) := Lib.hid (bstep B3.out h2)
  have A4 := Lib.hid (A3.out.below h2)
  have O4 := Lib.hid (O3.out.below h2)
  have C4 := Lib.hid h1
  clear h1 h2
  go_wp2_with fail
  refine (RO.out _ _ (XA.out _ B4.out)).mono ?_
  rintro e w5 ⟨vd, rfl, h1, h2⟩
  have B5 : Hid (Below w.heap.size w w5) := Lib.hid (bstep B4.out h2)
  have A5 := Lib.hid (A4.out.below h2)
  have O5 := Lib.hid (O4.out.below h2)
  have C5 := Lib.hid (C4.out.below h2)
  have D5 := Lib.hid h1
  clear h1 h2
  go_wp2_with fail
  refine (CS.out _ B5.out).mono ?_
  rintro e w6 ⟨rfl, rfl⟩
  go_wp2_with fail
  refine (RS.out _ _ A5.out).mono ?_
  rintro e w6 ⟨rfl, rfl⟩
  go_wp2_with fail
  refine (CE.out _ B5.out).mono ?_
  rintro e w6 ⟨vs, rfl, h1, h2⟩
  have B6 : Hid (Below w.heap.size w w6) := Lib.hid (bstep B5.out h2)
  have A6 := Lib.hid (A5.out.below h2)
  have O6 := Lib.hid (O5.out.below h2)
  have C6 := Lib.hid (C5.out.below h2)
  have D6 := Lib.hid (D5.out.below h2)
  have S6 := Lib.hid (BytesAt.own h1)
  clear h1 h2
  go_wp2_with fail
  refine (RE.out _ _ A6.out).mono ?_
  rintro e w7 ⟨vt, rfl, h1, h2⟩
  have B7 : Hid (Below w.heap.size w w7) := Lib.hid (bstep B6.out h2)
  have O7 := Lib.hid (O6.out.below h2)
  have C7 := Lib.hid (C6.out.below h2)
  have D7 := Lib.hid (D6.out.below h2)
  have S7 := Lib.hid (S6.out.below h2)
  have T7 := Lib.hid (BytesAt.own h1)
  clear h1 h2
  go_wp2_with fail
  refine (SE.out _ _ _ S7.out T7.out).mono ?_
  rintro e w8 ⟨rfl, n8, rfl⟩
  have t1 : decide (sealL f = sealL f) = true := by simp
  rw [t1]
  clear t1
  go_wp2_with fail
  refine (SL.out _ _ _ (C7.out.drewN n8) (D7.out.drewN n8)).mono ?_
  rintro e w9 ⟨rfl, n9, rfl⟩
  have t1 : decide (L = L) = true := by simp
  rw [t1]
  clear t1
  go_wp2_with fail
  refine (SM.out _ _ (O7.out.drewN (n8 + n9)) (below_drewN B7.out (n8 + n9))).mono ?_
  rintro e w10 ⟨rfl, n10, rfl⟩
  have t1 : decide (m = m) = true := by simp
  rw [t1]
  clear t1
  go_wp2
  go_ret
  exact ⟨rfl, below_drewN B7.out _⟩
theorem sums_any (a : Option Addr) (cap : Nat) (l : List (List Int)) (x : Option Addr) (n c : Nat) (m : List Int) (w : World) (hr : PartsRow w a l) (hb : ∀ p ∈ l, ByteL p) (hl : l.length ≤ 9223372036854775807) (hp : ∀ p ∈ l, p.length ≤ 140737488351232) (hn : m.length = n) (hx : IntRow w x .u8 m) (hx0 : x = none → c = 0) (hmc : n ≤ c) (hc : c ≤ 9223372036854775807) (hmb : ByteL m) :
    Calls Try.prog 3 #[.slice a l.length cap, .slice x n c] w (BkPost w) := by
  subst hn
  by_cases h : greatB l = true ∨ 3000 < m.length
  · exact sums_far a cap l x m.length c w hr hl hp (by omega) h
  · have hg : greatB l = false := by cases hg : greatB l; rfl; exact absurd (.inl hg) h
    exact sums_near a cap l x c m w hr hb hg hx hx0 hmc hc (by omega) hmb
end Go.Proofs.Ytgkgcbhlodohdaa
