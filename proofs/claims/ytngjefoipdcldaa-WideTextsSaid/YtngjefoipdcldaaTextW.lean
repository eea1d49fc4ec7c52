/- noonmarklaw02.WideTexts, walked: for every input. -/
import Derived.Test.YtngjefoipdcldaaRParD
import Derived.Test.YtngjefoipdcldaaAlive
namespace Go.Proofs.Ytngjefoipdcldaa
open Go.RowKit
set_option linter.unusedVariables false

theorem str_bl (s : ByteArray) : strOfNums (bl s) = s := bl_inj (bl_strOfNums _ (fun c hc => by
  obtain ⟨j, hj, e⟩ := List.getElem_of_mem hc
  have := bl_byte s j
  rw [List.getD_eq_getElem?_getD, List.getElem?_eq_getElem hj, Option.getD_some, e] at this
  exact this))
theorem both_parse {l : List Int} {z zn : Int} {ok has : Bool} (h : PSpec l z ok) (k : PR l zn has) :
    (has = true ∧ InW zn ∧ ok = true ∧ z = zn ∧ textL zn = l) ∨ (has = true ∧ ¬ InW zn ∧ ok = false ∧ z = 0 ∧ (-(10000000000000000000000000000000000000000) < zn ∧ zn < 10000000000000000000000000000000000000000)) ∨ (has = false ∧ zn = 0 ∧ ok = false ∧ z = 0) := by
  rcases k with ⟨rfl, hg⟩ | ⟨rfl, rfl, hno⟩
  · by_cases hi : InW zn
    · have ht := good_text hg hi
      rcases h with ⟨rfl, hz, h2⟩ | ⟨rfl, rfl, h2⟩
      · exact .inl ⟨rfl, hi, rfl, textL_inj hz hi (h2.trans ht.symm), ht⟩
      · exact absurd ht (h2 zn hi)
    · rcases h with ⟨rfl, hz, h2⟩ | ⟨rfl, rfl, h2⟩
      · exact absurd (good_unique (by rw [← h2]; exact text_good z hz) hg ▸ hz) hi
      · exact .inr (.inl ⟨rfl, hi, rfl, rfl, good_bd hg⟩)
  · rcases h with ⟨rfl, hz, h2⟩ | ⟨rfl, rfl, h2⟩
    · exact absurd (by rw [← h2]; exact text_good z hz) (hno z)
    · exact .inr (.inr ⟨rfl, rfl, rfl, rfl⟩)
theorem flag_eq {w : World} {g g2 : Bool} {la lb : Option Addr} {n m ca cb : Nat} {z : Int} (h : NumAt w (.agg #[.bool g, .slice la n ca]) z) (k : NumAt w (.agg #[.bool g2, .slice lb m cb]) z) : g = g2 := by
  have h1 := (num_len h).2.1
  have h2 := (num_len k).2.1
  rw [Bool.eq_iff_iff, h1, h2]
theorem num_field0 (x y : Value) (w : World) : (Instr.field 34 (.agg #[x, y]) 0).run Try.prog w = .ok x w := by kernel_rfl
set_option maxHeartbeats 16000000 in
theorem texts_walk (za : Int) (h l : Int) (s : ByteArray) (w : World) (ha : InW za) (ea : wI za = .agg #[.int .i64 h, .int .u64 l]) (hs : s.size ≤ 200) :
    Calls Try.prog 5 #[.agg #[.int .i64 h, .int .u64 l], .string s] w fun e w' => e = .returned (.bool true) ∧ Below w.heap.size w w' := by
  have C1 := Lib.hid (fun W => wtext_any za W ha)
  obtain ⟨tx, htx⟩ : ∃ t, strOfNums (textL za) = t := ⟨_, rfl⟩
  have hblt : bl tx = textL za := by rw [← htx]; exact bl_strOfNums _ (textL_byte za ha)
  have htl : tx.size ≤ 40 := by rw [← bl_length, hblt]; exact (textL_facts za ha).2.2
  have C2 : Hid (∀ W, Calls Try.prog 27 #[.string tx] W (Gives (.tuple #[wI za, .bool true]) W)) := Lib.hid (fun W => (wparse_any tx W (by omega)).mono fun e w' hp => par_yes za ha hblt.symm hp)
  have C3 := Lib.hid (fun W => wparse_any s W (by omega))
  have C4 := Lib.hid (fun W => rparse_any s W hs)
  have CNA := Lib.hid (fun W => lnum_any za W ha)
  have CRT := Lib.hid (fun v W hn => rtext_any v za W hn ha)
  rw [htx] at C1 CRT
  rw [ea] at C1 C2 CNA
  obtain ⟨SN, hSN⟩ : ∃ n : Int, (s.size : Int) = n := ⟨_, rfl⟩
  have hd200 : decide (200 < SN) = false := decide_eq_false (by omega)
  clear ha ea htx hblt htl hs
  go_enter Try.func5, Try.ntmps5
  have B0 : Hid (Below w.heap.size w w) := Lib.hid (Below.refl w.heap.size w)
  go_wp2_with fail
  refine (alive_any _).mono ?_
  rintro e1 w1 ⟨rfl, hb1⟩
  have Ka : Hid (Kept w1 _ #[.int .i64 h, .int .u64 l] 24) := Lib.hid ((Kept.new (w := w) (cs := #[.int .i64 h, .int .u64 l]) (t := 24) rfl).next hb1)
  have B1 : Hid (Below w.heap.size w w1) := Lib.hid (bnext (((B0.out).alloc (by have := B0.out.size; first | omega | (simp <;> omega)) _)) (by have := B0.out.size; first | omega | (simp <;> omega)) hb1)
  clear hb1
  obtain ⟨a1, a2, -, -, al⟩ := Ka.out.two
  go_wp2_with fail
  refine (C1.out _).mono ?_
  rintro e2 w2 ⟨rfl, hb2⟩
  clear a1 a2 al
  have Ka : Hid (Kept w2 _ _ _) := Lib.hid (Ka.out.next hb2)
  have B2 : Hid (Below w.heap.size w w2) := Lib.hid (bnext (B1.out) (by have := B1.out.size; first | omega | (simp <;> omega)) hb2)
  clear hb2
  go_wp2_with fail
  refine (C2.out _).mono ?_
  rintro e3 w3 ⟨rfl, hb3⟩
  have Ka : Hid (Kept w3 _ _ _) := Lib.hid (Ka.out.next hb3)
  have B3 : Hid (Below w.heap.size w w3) := Lib.hid (bnext (B2.out) (by have := B2.out.size; first | omega | (simp <;> omega)) hb3)
  clear hb3
  go_wp2_with fail
  refine (C3.out _).mono ?_
  rintro e4 w4 ⟨z, ok, rfl, hps, hb4⟩
  have Ka : Hid (Kept w4 _ _ _) := Lib.hid ((Ka.out.alloc _).next hb4)
  have Kb : Hid (Kept w4 _ #[.int .i64 h, .int .u64 l] 24) := Lib.hid ((Kept.new (w := w3) (cs := #[.int .i64 h, .int .u64 l]) (t := 24) rfl).next hb4)
  have B4 : Hid (Below w.heap.size w w4) := Lib.hid (bnext (((B3.out).alloc (by have := B3.out.size; first | omega | (simp <;> omega)) _)) (by have := B3.out.size; first | omega | (simp <;> omega)) hb4)
  clear hb4
  obtain ⟨c1, c2, ec, -, -, -, -⟩ := wI_letters z
  have HEC := Lib.hid ec
  rw [ec]
  clear ec
  go_wp2_with fail
  refine (C4.out _).mono ?_
  rintro e5 w5 ⟨vn, zn, has, rfl, hnn, hpr, hb5⟩
  have Ka : Hid (Kept w5 _ _ _) := Lib.hid ((Ka.out.alloc _).next hb5)
  have Kb : Hid (Kept w5 _ _ _) := Lib.hid ((Kb.out.alloc _).next hb5)
  have Kc : Hid (Kept w5 _ #[.int .i64 c1, .int .u64 c2] 24) := Lib.hid ((Kept.new (w := w4) (cs := #[.int .i64 c1, .int .u64 c2]) (t := 24) rfl).next hb5)
  have B5 : Hid (Below w.heap.size w w5) := Lib.hid (bnext (((B4.out).alloc (by have := B4.out.size; first | omega | (simp <;> omega)) _)) (by have := B4.out.size; first | omega | (simp <;> omega)) hb5)
  clear hb5
  have HNN := Lib.hid hnn
  obtain ⟨ng, ln, dn, rfl, ⟨an, cn, rfl, -⟩, -⟩ := hnn
  have hboth := both_parse hps hpr
  clear hps hpr
  have HNN := Lib.hid (HNN.out.below (one_alloc w5 (.cells #[.bool ng, .slice an dn.length cn] 34)))
  rcases hboth with ⟨rfl, hi, rfl, rfl, htz⟩ | ⟨rfl, hi, rfl, rfl, hbd⟩ | ⟨rfl, rfl, rfl, rfl⟩
  · have CW : Hid (∀ W v, NumAt W v z → Calls Try.prog 29 #[v] W (Gives (.tuple #[.int .i64 (z / 18446744073709551616), .int .u64 (z % 18446744073709551616), .bool true]) W)) := Lib.hid (fun W v hv => (words_any v z W hv (by unfold InW at hi; omega)).mono fun e w' ⟨h1, h2⟩ => by
      rw [if_pos ((inw_iff z).1 hi)] at h1
      exact ⟨h1, h2⟩)
    have CNC := Lib.hid (fun W => lnum_any z W hi)
    have CTX := Lib.hid (fun W => wtext_any z W hi)
    rw [htz, str_bl] at CTX
    rw [HEC.out] at CNC CTX
    have hzu : Hund z := hund_small (by unfold InW at hi; omega)
    have CCM : Hid (∀ W u v, NumAt W u z → NumAt W v z → Calls Try.prog 18 #[u, v] W (Gives (.int .i64 0) W)) := Lib.hid (fun W u v h1 h2 => by
      have h := num_cmp u v _ _ W h1 h2 hzu hzu
      rwa [show ordI z z = 0 by unfold ordI; rw [if_neg (by omega), if_neg (by omega)]] at h)
    clear htz hzu
    go_wp2_with fail
    refine (CW.out _ _ HNN.out).mono ?_
    rintro e6 w6 ⟨rfl, hb6⟩
    have Ka : Hid (Kept w6 _ _ _) := Lib.hid ((Ka.out.alloc _).next hb6)
    have Kb : Hid (Kept w6 _ _ _) := Lib.hid ((Kb.out.alloc _).next hb6)
    have Kc : Hid (Kept w6 _ _ _) := Lib.hid ((Kc.out.alloc _).next hb6)
    have Kn : Hid (Kept w6 _ #[.bool ng, .slice an dn.length cn] 34) := Lib.hid ((Kept.new (w := w5) (cs := #[.bool ng, .slice an dn.length cn]) (t := 34) rfl).next hb6)
    have B6 : Hid (Below w.heap.size w w6) := Lib.hid (bnext (((B5.out).alloc (by have := B5.out.size; first | omega | (simp <;> omega)) _)) (by have := B5.out.size; first | omega | (simp <;> omega)) hb6)
    have HNN := Lib.hid (HNN.out.below hb6)
    clear hb6
    obtain ⟨a1, a2, -, -, al⟩ := Ka.out.two
    go_wp2_with fail
    refine (CNA.out _).mono ?_
    rintro e7 w7 ⟨vr, rfl, hvr, hb7⟩
    clear a1 a2 al
    have Ka : Hid (Kept w7 _ _ _) := Lib.hid (Ka.out.next hb7)
    have Kb : Hid (Kept w7 _ _ _) := Lib.hid (Kb.out.next hb7)
    have Kc : Hid (Kept w7 _ _ _) := Lib.hid (Kc.out.next hb7)
    have Kn : Hid (Kept w7 _ _ _) := Lib.hid (Kn.out.next hb7)
    have B7 : Hid (Below w.heap.size w w7) := Lib.hid (bnext (B6.out) (by have := B6.out.size; first | omega | (simp <;> omega)) hb7)
    have HNN := Lib.hid (HNN.out.below hb7)
    have HVR := Lib.hid hvr
    clear hb7 hvr
    go_wp2_with fail
    refine (CRT.out vr _ HVR.out).mono ?_
    rintro e8 w8 ⟨rfl, hb8⟩
    have Ka : Hid (Kept w8 _ _ _) := Lib.hid (Ka.out.next hb8)
    have Kb : Hid (Kept w8 _ _ _) := Lib.hid (Kb.out.next hb8)
    have Kc : Hid (Kept w8 _ _ _) := Lib.hid (Kc.out.next hb8)
    have Kn : Hid (Kept w8 _ _ _) := Lib.hid (Kn.out.next hb8)
    have B8 : Hid (Below w.heap.size w w8) := Lib.hid (bnext (B7.out) (by have := B7.out.size; first | omega | (simp <;> omega)) hb8)
    have HNN := Lib.hid (HNN.out.below hb8)
    clear hb8
    obtain ⟨a1', a2', -, -, al'⟩ := Ka.out.two
    obtain ⟨b1', b2', -, -, bl'⟩ := Kb.out.two
    obtain ⟨c1', c2', -, -, cl'⟩ := Kc.out.two
    obtain ⟨n1', n2', -, -, nl'⟩ := Kn.out.two
    go_wp2
    cases ng
    · have SS : Hid (Below w.heap.size w w8.drew) ∧ w8.drew.cell? ⟨w4.heap.size, 0, none⟩ = some (.int .i64 c1) ∧ w8.drew.cell? ⟨w4.heap.size, 1, none⟩ = some (.int .u64 c2) ∧ w8.drew.cell? ⟨w5.heap.size, 0, none⟩ = some (.bool false) ∧ w8.drew.cell? ⟨w5.heap.size, 1, none⟩ = some (.slice an dn.length cn) := ⟨Lib.hid (below_drewN B8.out 1), c1', c2', n1', n2'⟩
      obtain ⟨q0, q1, q2, q3, q4⟩ := SS
      have SH := Lib.hid (show Hid (Below w.heap.size w w8.drew) ∧ w8.drew.cell? ⟨w4.heap.size, 0, none⟩ = some (.int .i64 c1) ∧ w8.drew.cell? ⟨w4.heap.size, 1, none⟩ = some (.int .u64 c2) ∧ w8.drew.cell? ⟨w5.heap.size, 0, none⟩ = some (.bool false) ∧ w8.drew.cell? ⟨w5.heap.size, 1, none⟩ = some (.slice an dn.length cn) from ⟨q0, q1, q2, q3, q4⟩)
      have SS := SH.out
      have HNN : Hid (NumAt w8.drew (.agg #[.bool false, .slice an dn.length cn]) z) := Lib.hid (show NumAt w8 _ _ from HNN.out)
      go_region_held3 (fun w' => Hid (Below w.heap.size w w') ∧ w'.cell? ⟨w4.heap.size, 0, none⟩ = some (.int .i64 c1) ∧ w'.cell? ⟨w4.heap.size, 1, none⟩ = some (.int .u64 c2) ∧ w'.cell? ⟨w5.heap.size, 0, none⟩ = some (.bool false) ∧ w'.cell? ⟨w5.heap.size, 1, none⟩ = some (.slice an dn.length cn))
        (first | exact SS | go_keep)
        (first | (go_at_call 13; refine (CNC.out _).mono ?_; rintro _ w31 ⟨v31, rfl, hn31, hb31⟩; have SS := keepB4 (a := w) hb31 SS; have HNN := Lib.hid (NumAt.below HNN.out hb31); have HV := Lib.hid hn31; obtain ⟨g', l', d', rfl, ⟨a', c', rfl, -⟩, -⟩ := hn31; (obtain rfl : g' = false := flag_eq HV.out HNN.out); have hfld := num_field0) | (go_at_call 18; refine (CCM.out _ _ _ HV.out HNN.out).mono ?_; rintro _ w32 ⟨rfl, hb32⟩; have SS := keepB4 (a := w) hb32 SS) | (go_at_call 26; refine (CTX.out _).mono ?_; rintro _ w33 ⟨rfl, hb33⟩; have SS := keepB4 (a := w) hb33 SS))
      all_goals
        go_wp2
        go_ret
        exact ⟨rfl, SS.1.out⟩
    · have SS : Hid (Below w.heap.size w w8.drew) ∧ w8.drew.cell? ⟨w4.heap.size, 0, none⟩ = some (.int .i64 c1) ∧ w8.drew.cell? ⟨w4.heap.size, 1, none⟩ = some (.int .u64 c2) ∧ w8.drew.cell? ⟨w5.heap.size, 0, none⟩ = some (.bool true) ∧ w8.drew.cell? ⟨w5.heap.size, 1, none⟩ = some (.slice an dn.length cn) := ⟨Lib.hid (below_drewN B8.out 1), c1', c2', n1', n2'⟩
      obtain ⟨q0, q1, q2, q3, q4⟩ := SS
      have SH := Lib.hid (show Hid (Below w.heap.size w w8.drew) ∧ w8.drew.cell? ⟨w4.heap.size, 0, none⟩ = some (.int .i64 c1) ∧ w8.drew.cell? ⟨w4.heap.size, 1, none⟩ = some (.int .u64 c2) ∧ w8.drew.cell? ⟨w5.heap.size, 0, none⟩ = some (.bool true) ∧ w8.drew.cell? ⟨w5.heap.size, 1, none⟩ = some (.slice an dn.length cn) from ⟨q0, q1, q2, q3, q4⟩)
      have SS := SH.out
      have HNN : Hid (NumAt w8.drew (.agg #[.bool true, .slice an dn.length cn]) z) := Lib.hid (show NumAt w8 _ _ from HNN.out)
      go_region_held3 (fun w' => Hid (Below w.heap.size w w') ∧ w'.cell? ⟨w4.heap.size, 0, none⟩ = some (.int .i64 c1) ∧ w'.cell? ⟨w4.heap.size, 1, none⟩ = some (.int .u64 c2) ∧ w'.cell? ⟨w5.heap.size, 0, none⟩ = some (.bool true) ∧ w'.cell? ⟨w5.heap.size, 1, none⟩ = some (.slice an dn.length cn))
        (first | exact SS | go_keep)
        (first | (go_at_call 13; refine (CNC.out _).mono ?_; rintro _ w31 ⟨v31, rfl, hn31, hb31⟩; have SS := keepB4 (a := w) hb31 SS; have HNN := Lib.hid (NumAt.below HNN.out hb31); have HV := Lib.hid hn31; obtain ⟨g', l', d', rfl, ⟨a', c', rfl, -⟩, -⟩ := hn31; (obtain rfl : g' = true := flag_eq HV.out HNN.out); have hfld := num_field0) | (go_at_call 18; refine (CCM.out _ _ _ HV.out HNN.out).mono ?_; rintro _ w32 ⟨rfl, hb32⟩; have SS := keepB4 (a := w) hb32 SS) | (go_at_call 26; refine (CTX.out _).mono ?_; rintro _ w33 ⟨rfl, hb33⟩; have SS := keepB4 (a := w) hb33 SS))
      all_goals
        go_wp2
        go_ret
        exact ⟨rfl, SS.1.out⟩
  · have CW : Hid (∀ W v, NumAt W v zn → Calls Try.prog 29 #[v] W (Gives (.tuple #[.int .i64 0, .int .u64 0, .bool false]) W)) := Lib.hid (fun W v hv => (words_any v zn W hv (by omega)).mono fun e w' ⟨h1, h2⟩ => by
      rw [if_neg (fun hh => hi ((inw_iff zn).2 hh))] at h1
      exact ⟨h1, h2⟩)
    have ez := HEC.out
    rw [wI_zero] at ez
    injection ez with ez
    have e1 : c1 = 0 := by have := congrArg (fun (x : Array Value) => x[0]!) ez; simpa using this.symm
    have e2 : c2 = 0 := by have := congrArg (fun (x : Array Value) => x[1]!) ez; simpa using this.symm
    subst e1 e2
    clear hbd ez HEC
    go_wp2_with fail
    refine (CW.out _ _ HNN.out).mono ?_
    rintro e6 w6 ⟨rfl, hb6⟩
    have Ka : Hid (Kept w6 _ _ _) := Lib.hid ((Ka.out.alloc _).next hb6)
    have Kb : Hid (Kept w6 _ _ _) := Lib.hid ((Kb.out.alloc _).next hb6)
    have Kc : Hid (Kept w6 _ _ _) := Lib.hid ((Kc.out.alloc _).next hb6)
    have Kn : Hid (Kept w6 _ #[.bool ng, .slice an dn.length cn] 34) := Lib.hid ((Kept.new (w := w5) (cs := #[.bool ng, .slice an dn.length cn]) (t := 34) rfl).next hb6)
    have B6 : Hid (Below w.heap.size w w6) := Lib.hid (bnext (((B5.out).alloc (by have := B5.out.size; first | omega | (simp <;> omega)) _)) (by have := B5.out.size; first | omega | (simp <;> omega)) hb6)
    have HNN := Lib.hid (HNN.out.below hb6)
    clear hb6
    obtain ⟨a1, a2, -, -, al⟩ := Ka.out.two
    go_wp2_with fail
    refine (CNA.out _).mono ?_
    rintro e7 w7 ⟨vr, rfl, hvr, hb7⟩
    clear a1 a2 al
    have Ka : Hid (Kept w7 _ _ _) := Lib.hid (Ka.out.next hb7)
    have Kb : Hid (Kept w7 _ _ _) := Lib.hid (Kb.out.next hb7)
    have Kc : Hid (Kept w7 _ _ _) := Lib.hid (Kc.out.next hb7)
    have Kn : Hid (Kept w7 _ _ _) := Lib.hid (Kn.out.next hb7)
    have B7 : Hid (Below w.heap.size w w7) := Lib.hid (bnext (B6.out) (by have := B6.out.size; first | omega | (simp <;> omega)) hb7)
    have HNN := Lib.hid (HNN.out.below hb7)
    have HVR := Lib.hid hvr
    clear hb7 hvr
    go_wp2_with fail
    refine (CRT.out vr _ HVR.out).mono ?_
    rintro e8 w8 ⟨rfl, hb8⟩
    have Ka : Hid (Kept w8 _ _ _) := Lib.hid (Ka.out.next hb8)
    have Kb : Hid (Kept w8 _ _ _) := Lib.hid (Kb.out.next hb8)
    have Kc : Hid (Kept w8 _ _ _) := Lib.hid (Kc.out.next hb8)
    have Kn : Hid (Kept w8 _ _ _) := Lib.hid (Kn.out.next hb8)
    have B8 : Hid (Below w.heap.size w w8) := Lib.hid (bnext (B7.out) (by have := B7.out.size; first | omega | (simp <;> omega)) hb8)
    have HNN := Lib.hid (HNN.out.below hb8)
    clear hb8
    obtain ⟨a1', a2', -, -, al'⟩ := Ka.out.two
    obtain ⟨b1', b2', -, -, bl'⟩ := Kb.out.two
    obtain ⟨c1', c2', -, -, cl'⟩ := Kc.out.two
    obtain ⟨n1', n2', -, -, nl'⟩ := Kn.out.two
    go_wp2
    go_ret
    exact ⟨rfl, B8.out⟩
  · have CW : Hid (∀ W v, NumAt W v 0 → Calls Try.prog 29 #[v] W (Gives (.tuple #[.int .i64 0, .int .u64 0, .bool true]) W)) := Lib.hid (fun W v hv => (words_any v 0 W hv (by omega)).mono fun e w' ⟨h1, h2⟩ => by
      rw [if_pos (by decide)] at h1
      exact ⟨h1, h2⟩)
    have ez := HEC.out
    rw [wI_zero] at ez
    injection ez with ez
    have e1 : c1 = 0 := by have := congrArg (fun (x : Array Value) => x[0]!) ez; simpa using this.symm
    have e2 : c2 = 0 := by have := congrArg (fun (x : Array Value) => x[1]!) ez; simpa using this.symm
    subst e1 e2
    clear ez HEC
    go_wp2_with fail
    refine (CW.out _ _ HNN.out).mono ?_
    rintro e6 w6 ⟨rfl, hb6⟩
    have Ka : Hid (Kept w6 _ _ _) := Lib.hid ((Ka.out.alloc _).next hb6)
    have Kb : Hid (Kept w6 _ _ _) := Lib.hid ((Kb.out.alloc _).next hb6)
    have Kc : Hid (Kept w6 _ _ _) := Lib.hid ((Kc.out.alloc _).next hb6)
    have Kn : Hid (Kept w6 _ #[.bool ng, .slice an dn.length cn] 34) := Lib.hid ((Kept.new (w := w5) (cs := #[.bool ng, .slice an dn.length cn]) (t := 34) rfl).next hb6)
    have B6 : Hid (Below w.heap.size w w6) := Lib.hid (bnext (((B5.out).alloc (by have := B5.out.size; first | omega | (simp <;> omega)) _)) (by have := B5.out.size; first | omega | (simp <;> omega)) hb6)
    have HNN := Lib.hid (HNN.out.below hb6)
    clear hb6
    obtain ⟨a1, a2, -, -, al⟩ := Ka.out.two
    go_wp2_with fail
    refine (CNA.out _).mono ?_
    rintro e7 w7 ⟨vr, rfl, hvr, hb7⟩
    clear a1 a2 al
    have Ka : Hid (Kept w7 _ _ _) := Lib.hid (Ka.out.next hb7)
    have Kb : Hid (Kept w7 _ _ _) := Lib.hid (Kb.out.next hb7)
    have Kc : Hid (Kept w7 _ _ _) := Lib.hid (Kc.out.next hb7)
    have Kn : Hid (Kept w7 _ _ _) := Lib.hid (Kn.out.next hb7)
    have B7 : Hid (Below w.heap.size w w7) := Lib.hid (bnext (B6.out) (by have := B6.out.size; first | omega | (simp <;> omega)) hb7)
    have HNN := Lib.hid (HNN.out.below hb7)
    have HVR := Lib.hid hvr
    clear hb7 hvr
    go_wp2_with fail
    refine (CRT.out vr _ HVR.out).mono ?_
    rintro e8 w8 ⟨rfl, hb8⟩
    have Ka : Hid (Kept w8 _ _ _) := Lib.hid (Ka.out.next hb8)
    have Kb : Hid (Kept w8 _ _ _) := Lib.hid (Kb.out.next hb8)
    have Kc : Hid (Kept w8 _ _ _) := Lib.hid (Kc.out.next hb8)
    have Kn : Hid (Kept w8 _ _ _) := Lib.hid (Kn.out.next hb8)
    have B8 : Hid (Below w.heap.size w w8) := Lib.hid (bnext (B7.out) (by have := B7.out.size; first | omega | (simp <;> omega)) hb8)
    have HNN := Lib.hid (HNN.out.below hb8)
    clear hb8
    obtain ⟨a1', a2', -, -, al'⟩ := Ka.out.two
    obtain ⟨b1', b2', -, -, bl'⟩ := Kb.out.two
    obtain ⟨c1', c2', -, -, cl'⟩ := Kc.out.two
    obtain ⟨n1', n2', -, -, nl'⟩ := Kn.out.two
    go_wp2
    go_ret
    exact ⟨rfl, B8.out⟩
end Go.Proofs.Ytngjefoipdcldaa
