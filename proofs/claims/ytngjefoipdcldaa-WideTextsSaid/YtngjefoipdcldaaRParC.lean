/- noonmarkref02: Parse, one case. -/
import Derived.Test.YtngjefoipdcldaaRPar
namespace Go.Proofs.Ytngjefoipdcldaa
open Go.RowKit
set_option linter.unusedVariables false

set_option maxHeartbeats 16000000 in
theorem rpar_tf (s d : ByteArray) (L : List Int) (SN DN b0 c0 : Int) (w : World) (hSN : (s.size : Int) = SN) (hpos : decide (0 < SN) = true) (hDN : (d.size : Int) = DN) (hix : (∀ W : World, (Instr.index 9 (.string s) (.int .i64 0)).run Try.prog W = .ok (.int .u8 b0) W)) (hneg : (b0 == 45) = true) (hsl : ∀ W : World, (Instr.slice 9 (.string s) (some (.int .i64 1)) none none).run Try.prog W = .ok (.string d) W) (hi0 : (∀ W : World, (Instr.index 9 (.string d) (.int .i64 0)).run Try.prog W = .ok (.int .u8 c0) W)) (e1 : d.toList.isEmpty = false) (e2 : decide (40 < DN) = false) (e3 : (c0 == 48) = false) (HDN : Hid ((L.length : Int) = DN)) (HIX : Hid (∀ (k : Nat) (I : Int), I = (k : Int) → k < L.length → ∀ W : World, (Instr.index 9 (.string d) (.int .i64 I)).run Try.prog W = .ok (.int .u8 (L.getD k 0)) W)) (HBY : Hid (∀ j, 0 ≤ L.getD j 0 ∧ L.getD j 0 ≤ 255)) (hp : Hid (1 ≤ L.length ∧ L.length ≤ 40)) (HNO : Hid ((∃ j, j < L.length ∧ ¬ (48 ≤ L.getD j 0 ∧ L.getD j 0 ≤ 57)) → PR (bl s) 0 false)) (HGD : Hid ((∀ j, j < L.length → 48 ≤ L.getD j 0 ∧ L.getD j 0 ≤ 57) → PR (bl s) (sg (unsN L) true) true)) (C10 : Hid (∀ W, Calls Try.prog 20 #[.int .i64 10] W fun e w' => NumOut 10 W e w')) :
    Calls Try.prog 28 #[.string s] w (RPOut s w) := by
  go_enter Try.func28, Try.ntmps28
  go_wp2
  have hstart : RParRel L w (.int .i64 0) ((w.alloc (.cells #[.bool false, .slice none 0 0] 34)).alloc (.cells #[.bool false, .slice none 0 0] 34)) := ⟨0, 0, false, none, 0, 0, rfl, rfl, Nat.zero_le _, Lib.hid (fun j hj => by omega), Lib.hid (numat_nil _), Lib.hid (Kept.new (by simp)), Lib.hid ((Kept.new rfl).alloc _), Lib.hid ((one_alloc w _).alloc (by simp) _)⟩
  have HS := Lib.hid hstart
  clear hstart
  go_loopw [6] (fun i wr => RParRel L w i wr) (fun i _ => L.length - (intOf i).toNat)
  case atStart => exact HS.out
  case round =>
    obtain ⟨k, I, ng, la, n, lc, rfl, hI, hk, HD, HN, K4, K2, Bl⟩ := hrel
    obtain ⟨p1, p2, p3, p4, p5⟩ := K4.out.two
    obtain ⟨q1, q2, q3, q4, q5⟩ := K2.out.two
    have HI := Lib.hid hI
    have hdn := HDN.out
    have hlen := hp.out
    have hIb : 0 ≤ I ∧ I ≤ 40 := by omega
    by_cases hlt : k < L.length
    · have hlt2 : decide (I < DN) = true := decide_eq_true (by omega)
      have hix2 := HIX.out k I hI hlt
      have hcb := HBY.out k
      have hsn := unsN_snoc L k hlt
      obtain ⟨c, hc⟩ : ∃ c, L.getD k 0 = c := ⟨_, rfl⟩
      rw [hc] at hix2 hcb hsn
      have hdig : (Hid (¬ (48 ≤ c ∧ c ≤ 57)) ∧ decide (c < 48) = true) ∨ (Hid (¬ (48 ≤ c ∧ c ≤ 57)) ∧ decide (c < 48) = false ∧ decide (57 < c) = true) ∨ (Hid (48 ≤ c ∧ c ≤ 57) ∧ decide (c < 48) = false ∧ decide (57 < c) = false) := by
        by_cases h1 : c < 48
        · exact .inl ⟨Lib.hid (by omega), decide_eq_true h1⟩
        · by_cases h2 : 57 < c
          · exact .inr (.inl ⟨Lib.hid (by omega), decide_eq_false h1, decide_eq_true h2⟩)
          · exact .inr (.inr ⟨Lib.hid (by omega), decide_eq_false h1, decide_eq_false h2⟩)
      have hbadj : ¬ (48 ≤ c ∧ c ≤ 57) → PR (bl s) 0 false := fun h => HNO.out ⟨k, hlt, by rw [hc]; exact h⟩
      have HBJ := Lib.hid hbadj
      have HC := Lib.hid hc
      have HLT := Lib.hid hlt
      have HSN := Lib.hid hsn
      have HLE := Lib.hid hlen
      have hul := uns_lt (L.take k) (fun x hx => by
        obtain ⟨j, hj, e⟩ := List.getElem_of_mem hx
        have h1 := HD.out j (by rw [List.length_take] at hj; omega)
        rw [List.getD_eq_getElem?_getD, List.getElem?_eq_getElem (by rw [List.length_take] at hj; omega), Option.getD_some] at h1
        rw [List.getElem_take] at e
        rw [← e]; exact h1)
      have hu40 : 0 ≤ unsN (L.take k) ∧ unsN (L.take k) < 10000000000000000000000000000000000000000 := by
        have hm := ten_mono (L.take k).length 40 (by rw [List.length_take]; omega)
        have e40 : ten 40 = 10000000000000000000000000000000000000000 := by decide +kernel
        omega
      generalize unsN (L.take k) = r at *
      clear hbadj hc hlt hsn hlen hdn hI hk hul
      rcases hdig with ⟨hg, c1⟩ | ⟨hg, c1, c2⟩ | ⟨hg, c1, c2⟩
      · go_wp2
        obtain ⟨s1, s2⟩ := K2.out.read2 (.bool false) (.slice none 0 0)
        refine bodyPost_ret (v := .tuple #[.agg #[.bool false, .slice none 0 0], .bool false]) (by simp [results, Try.results28, go_sem, s1, s2]) rfl ?_
        exact ⟨_, 0, false, rfl, numat_nil _, HBJ.out hg.out, bset2 Bl.out (Nat.le_refl _) _ _⟩
      · go_wp2
        obtain ⟨s1, s2⟩ := K2.out.read2 (.bool false) (.slice none 0 0)
        refine bodyPost_ret (v := .tuple #[.agg #[.bool false, .slice none 0 0], .bool false]) (by simp [results, Try.results28, go_sem, s1, s2]) rfl ?_
        exact ⟨_, 0, false, rfl, numat_nil _, HBJ.out hg.out, bset2 Bl.out (Nat.le_refl _) _ _⟩
      · have CMl : Hid (∀ W u v, NumAt W u r → NumAt W v 10 → Calls Try.prog 19 #[u, v] W (NumOut (r * 10) W)) := Lib.hid (fun W u v h1 h2 => num_mul u v _ _ W h1 h2 (hund_small (by omega)) (hund_small (by omega)))
        have hgo := hg.out
        obtain ⟨D, hD⟩ : ∃ D, c - 48 = D := ⟨_, rfl⟩
        have hDb : 0 ≤ D ∧ D ≤ 9 := by omega
        have COd := Lib.hid (fun W => of_any D W (by unfold InI; omega))
        have CAd : Hid (∀ W u v, NumAt W u (r * 10) → NumAt W v D → Calls Try.prog 15 #[u, v] W (NumOut (r * 10 + D) W)) := Lib.hid (fun W u v h1 h2 => num_add u v _ _ W h1 h2 (hund_small (by omega)) (hund_small (by omega)))
        have wc1 : IntKind.i64.wrap c = c := by simp only [IntKind.wrap_i64]; omega
        have wc2 : IntKind.i64.wrap D = D := by simp only [IntKind.wrap_i64]; omega
        have wc3 : IntKind.i64.wrap (c - 48) = D := by rw [hD]; exact wc2
        have hev : unsN (L.take (k + 1)) = r * 10 + D := by have := HSN.out; omega
        have HEV := Lib.hid hev
        have HN : Hid (NumAt wr.drew (.agg #[.bool ng, .slice la n lc]) r) := Lib.hid (show NumAt wr _ _ from HN.out)
        have K4 : Hid (Kept wr.drew (w.heap.size + 1) #[.bool ng, .slice la n lc] 34) := Lib.hid (show Kept wr _ _ _ from K4.out)
        have K2 : Hid (Kept wr.drew w.heap.size #[.bool false, .slice none 0 0] 34) := Lib.hid (show Kept wr _ _ _ from K2.out)
        have Bl : Hid (Below w.heap.size w wr.drew) := Lib.hid (below_drewN Bl.out 1)
        have HHD := HD
        clear hev hgo hu40 hDb
        go_wp2
        go_region_with (first | (go_at_call_of 20 (Value.int IntKind.i64 10); refine (C10.out _).mono ?_; rintro _ w21 ⟨vO, rfl, hnO, hb21⟩; have HN := Lib.hid (NumAt.below HN.out hb21); have K4 := Lib.hid (Kept.next K4.out hb21); have K2 := Lib.hid (Kept.next K2.out hb21); have Bl := Lib.hid (Below.trans Bl.out (Below.mono hb21 Bl.out.size)); (try have hnM := NumAt.below hnM hb21); (try have hnD := NumAt.below hnD hb21); obtain ⟨p1, p2, p3, p4, p5⟩ := K4.out.two) | (go_at_call_of 20 (Value.int IntKind.i64 D); refine (COd.out _).mono ?_; rintro _ w22 ⟨vD, rfl, hnD, hb22⟩; have HN := Lib.hid (NumAt.below HN.out hb22); have K4 := Lib.hid (Kept.next K4.out hb22); have K2 := Lib.hid (Kept.next K2.out hb22); have Bl := Lib.hid (Below.trans Bl.out (Below.mono hb22 Bl.out.size)); (try have hnO := NumAt.below hnO hb22); (try have hnM := NumAt.below hnM hb22); obtain ⟨p1, p2, p3, p4, p5⟩ := K4.out.two) | (go_at_call 19; refine (CMl.out _ _ vO HN.out hnO).mono ?_; rintro _ w23 ⟨vM, rfl, hnM, hb23⟩; have HN := Lib.hid (NumAt.below HN.out hb23); have K4 := Lib.hid (Kept.next K4.out hb23); have K2 := Lib.hid (Kept.next K2.out hb23); have Bl := Lib.hid (Below.trans Bl.out (Below.mono hb23 Bl.out.size)); (try have hnO := NumAt.below hnO hb23); (try have hnD := NumAt.below hnD hb23); obtain ⟨p1, p2, p3, p4, p5⟩ := K4.out.two) | (go_at_call 15; refine (CAd.out _ vM vD hnM hnD).mono ?_; rintro _ w24 ⟨vA, rfl, hnA, hb24⟩; have HN := Lib.hid (NumAt.below HN.out hb24); have K4 := Lib.hid (Kept.next K4.out hb24); have K2 := Lib.hid (Kept.next K2.out hb24); have Bl := Lib.hid (Below.trans Bl.out (Below.mono hb24 Bl.out.size)); (try have hnO := NumAt.below hnO hb24); (try have hnM := NumAt.below hnM hb24); (try have hnD := NumAt.below hnD hb24); obtain ⟨p1, p2, p3, p4, p5⟩ := K4.out.two; have HNN := Lib.hid hnA; obtain ⟨g9, l9, d9, rfl, ⟨a9, c9, rfl, -⟩, -⟩ := hnA))
        all_goals
          have HDG : ∀ j, j < k + 1 → 48 ≤ L.getD j 0 ∧ L.getD j 0 ≤ 57 := fun j hj => by
            by_cases e : j = k
            · rw [e, HC.out]; exact hg.out
            · exact HHD.out j (by omega)
          have fin : RParRel L w (.int .i64 (I + 1)) ((w24.setCell ⟨w.heap.size + 1, 0, none⟩ (.bool g9)).setCell ⟨w.heap.size + 1, 1, none⟩ (.slice a9 d9.length c9)) :=
            ⟨k + 1, I + 1, g9, a9, d9.length, c9, rfl, by have := HI.out; omega, HLT.out, Lib.hid HDG, Lib.hid (by rw [HEV.out]; exact set_num HNN.out K4.out (by simp) (by simp)), Lib.hid (K4.out.set2 _ _), Lib.hid ((K2.out.far (by simp) _).far (by simp) _), Lib.hid (bset2 Bl.out (by omega) _ _)⟩
          have Fin := Lib.hid fin
          clear fin HDG
          go_wp2
          go_roundw
          case rel => exact Fin.out
          case measure => have h1 := HI.out; have h2 := HLT.out; simp only [intOf]; omega
    · have hlt2 : decide (I < DN) = false := decide_eq_false (by omega)
      obtain rfl : k = L.length := by omega
      have hpr := HGD.out (fun j hj => HD.out j hj)
      have HPR := Lib.hid hpr
      have HN : Hid (NumAt wr (.agg #[.bool ng, .slice la n lc]) (unsN L)) := Lib.hid (by have h := HN.out; rwa [List.take_length] at h)
      clear hpr hI hdn hlen hlt hk
      go_wp2_with fail
      refine (num_neg _ _ _ HN.out).mono ?_
      rintro _ w9 ⟨v9, rfl, hn9, hb9⟩
      have HN9 := Lib.hid hn9
      obtain ⟨g9, l9, d9, rfl, ⟨a9, c9, rfl, -⟩, -⟩ := hn9
      have K4 := Lib.hid (K4.out.next hb9)
      have K2 := Lib.hid (K2.out.next hb9)
      have Bl := Lib.hid (Bl.out.trans (hb9.mono Bl.out.size))
      have HNX := Lib.hid (set_num HN9.out K4.out (p := .bool g9) (q := .slice a9 d9.length c9) (by simp) (by simp))
      have KX := Lib.hid ((K2.out.far (p := ⟨w.heap.size + 1, 0, none⟩) (by simp) (.bool g9)).far (p := ⟨w.heap.size + 1, 1, none⟩) (by simp) (.slice a9 d9.length c9))
      have BX := Lib.hid (bset2 Bl.out (g := w.heap.size + 1) (by omega) (.bool g9) (.slice a9 d9.length c9))
      obtain ⟨m1, m2, m3, m4, m5⟩ := K4.out.two
      obtain ⟨n1, n2⟩ := K4.out.read2 (.bool g9) (.slice a9 d9.length c9)
      obtain ⟨o1, o2, o3, o4, o5⟩ := KX.out.two
      have n3 := (K4.out.set2 (.bool g9) (.slice a9 d9.length c9)).two.1
      clear hb9
      go_wp2
      obtain ⟨s1, s2⟩ := KX.out.read2 (.bool g9) (.slice a9 d9.length c9)
      refine bodyPost_ret (v := .tuple #[.agg #[.bool g9, .slice a9 d9.length c9], .bool true]) (by simp [results, Try.results28, go_sem, s1, s2]) rfl ?_
      exact ⟨_, -(unsN L), true, rfl, set_num HNX.out KX.out (by simp) (by simp), by have := HPR.out; simpa [sg] using this, bset2 BX.out (Nat.le_refl _) _ _⟩
end Go.Proofs.Ytngjefoipdcldaa
