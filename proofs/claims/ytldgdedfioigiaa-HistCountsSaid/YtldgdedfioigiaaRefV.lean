/- noonmarkref02: Words: for all numbers of some limbs. -/
import Derived.Test.YtldgdedfioigiaaRefW
namespace Go.Proofs.Ytldgdedfioigiaa
open Go.RowKit
set_option linter.unusedVariables false

def WordsOut (z : Int) (w : World) (e : Ending) (w' : World) : Prop := e = .returned (if InI (z / 18446744073709551616) then .tuple #[.int .i64 (z / 18446744073709551616), .int .u64 (z % 18446744073709551616), .bool true] else .tuple #[.int .i64 0, .int .u64 0, .bool false]) ∧ Below w.heap.size w w'
theorem bset2k {B : Nat} {a w : World} {g : Nat} {cs : Array Value} {t : TypeId} (h : Below B a w) (hk : Kept w g cs t) (hg : B ≤ g) (p q : Value) : Below B a ((w.setCell ⟨g, 0, none⟩ p).setCell ⟨g, 1, none⟩ q) := bset2 h hg p q
def WLong (d : List Int) (v i : Value) : Prop := ∃ (k : Nat) (x I : Int), k ≤ d.length ∧ i = .int .i64 I ∧ I = (k : Int) - 1 ∧ v = .int .u64 x ∧ 0 ≤ x ∧ x * pw k + pv d k = nv d
set_option maxHeartbeats 16000000 in
theorem words_any (x : Value) (z : Int) (w : World) (hx : NumAt w x z) (hz : -(18446744073709551616 * 18446744073709551616 * 65536) < z ∧ z < 18446744073709551616 * 18446744073709551616 * 65536) :
    Calls Try.prog 22 #[x] w (WordsOut z w) := by
  have hx' := hx
  obtain ⟨neg, lx, dx, rfl, ⟨xa, xc, rfl, -⟩, -⟩ := hx'
  obtain ⟨H, hH⟩ : ∃ H, z / 18446744073709551616 = H := ⟨_, rfl⟩
  have hHb : -(18446744073709551616 * 65536) ≤ H ∧ H ≤ 18446744073709551616 * 65536 := by omega
  have Cdiv : Hid (∀ W u v, NumAt W u z → NumAt W v 18446744073709551616 → Calls Try.prog 38 #[u, v, .bool false] W (NumOut H W)) := Lib.hid (fun W u v h1 h2 => by
    have h := num_div u v z 18446744073709551616 false W h1 h2 (hund_small (by omega)) (hund_small (by omega)) (by omega)
    rw [show divZ z 18446744073709551616 false = H from hH] at h
    exact h)
  have Clong := Lib.hid (fun v W h => long_any v H W h)
  obtain ⟨V, hV⟩ : ∃ V, ((w.alloc (.cells #[.bool neg, .slice xa dx.length xc] 50)).alloc (.cells #[.int .i64 0, .int .i64 0, .int .i64 0, .int .i64 0, .int .i64 1] 3)).alloc (.cells #[.bool false, .slice (some ⟨w.heap.size + 1, 0, none⟩) 5 5] 50) = V := ⟨_, rfl⟩
  have K0 : Hid (Kept V w.heap.size #[.bool neg, .slice xa dx.length xc] 50) := Lib.hid (by rw [← hV]; exact ((Kept.new rfl).alloc _).alloc _)
  have KW : Hid (Kept V (w.heap.size + 2) #[.bool false, .slice (some ⟨w.heap.size + 1, 0, none⟩) 5 5] 50) := Lib.hid (by rw [← hV]; exact Kept.new (by simp))
  have HWd : Hid (NumAt V (.agg #[.bool false, .slice (some ⟨w.heap.size + 1, 0, none⟩) 5 5]) 18446744073709551616) := Lib.hid (by
    have h : Kept V (w.heap.size + 1) #[.int .i64 0, .int .i64 0, .int .i64 0, .int .i64 0, .int .i64 1] 3 := by rw [← hV]; exact (Kept.new (by simp)).alloc _
    exact word_limbs h)
  have B0 : Hid (Below w.heap.size w V) := Lib.hid (by rw [← hV]; exact ((one_alloc w _).alloc (by simp) _).alloc (by simp; omega) _)
  have HXx : Hid (NumAt V (.agg #[.bool neg, .slice xa dx.length xc]) z) := Lib.hid (hx.below B0.out)
  have HV := Lib.hid hV
  clear hV hx
  by_cases hI : InI H
  · have fin : ∀ w' l, l = z % 18446744073709551616 → Below w.heap.size w w' → WordsOut z w (.returned (.tuple #[.int .i64 H, .int .u64 l, .bool true])) w' := fun w' l hl hb => ⟨by rw [hH, if_pos hI, hl], hb⟩
    have hI' : -9223372036854775808 ≤ H ∧ H ≤ 9223372036854775807 := hI
    have Cof := Lib.hid (fun W => of_any H W hI)
    have Cmul : Hid (∀ W u v, NumAt W u H → NumAt W v 18446744073709551616 → Calls Try.prog 40 #[u, v] W (NumOut (H * 18446744073709551616) W)) := Lib.hid (fun W u v h1 h2 => num_mul u v _ _ W h1 h2 (hund_small (by omega)) (hund_small (by omega)))
    have Cneg : Hid (∀ W u, NumAt W u (H * 18446744073709551616) → Calls Try.prog 39 #[u] W (NumOut (-(H * 18446744073709551616)) W)) := Lib.hid (fun W u h => num_neg u _ W h)
    have Cadd : Hid (∀ W u v, NumAt W u z → NumAt W v (-(H * 18446744073709551616)) → Calls Try.prog 20 #[u, v] W (NumOut (z % 18446744073709551616) W)) := Lib.hid (fun W u v h1 h2 => by
      have h := num_add u v _ _ W h1 h2 (hund_small (by omega)) (hund_small (by omega))
      rw [show z + -(H * 18446744073709551616) = z % 18446744073709551616 by omega] at h
      exact h)
    have Fin := Lib.hid fin
    have HI := Lib.hid hI
    obtain ⟨R, hR⟩ : ∃ R, z % 18446744073709551616 = R := ⟨_, rfl⟩
    have hRb : 0 ≤ R ∧ R < 18446744073709551616 := by omega
    rw [hR] at Cadd Fin
    have HRB := Lib.hid hRb
    have HEQ : Hid (decide (InI H) = true) := Lib.hid (decide_eq_true hI)
    clear fin hI hI' hHb hH hz hR hRb
    go_enter Try.func22, Try.ntmps22
    go_wp2_with fail
    rw [HV.out]
    refine (Cdiv.out _ _ _ HXx.out HWd.out).mono ?_
    rintro _ wd ⟨vd, rfl, hnd, hbd⟩
    have HXx := Lib.hid (HXx.out.below hbd)
    have HWd := Lib.hid (HWd.out.below hbd)
    have K0 := Lib.hid (K0.out.next hbd)
    have KW := Lib.hid (KW.out.next hbd)
    have B0 := Lib.hid (B0.out.trans (hbd.mono B0.out.size))
    have HND := Lib.hid hnd
    clear hbd hnd
    go_wp2_with fail
    refine (Clong.out vd _ HND.out).mono ?_
    rintro _ wl ⟨⟨u, rfl, hu⟩, hbl⟩
    obtain rfl := hu HI.out
    have HXx := Lib.hid (HXx.out.below hbl)
    have HWd := Lib.hid (HWd.out.below hbl)
    have K0 := Lib.hid (K0.out.next hbl)
    have KW := Lib.hid (KW.out.next hbl)
    have B0 := Lib.hid (B0.out.trans (hbl.mono B0.out.size))
    rw [HEQ.out]
    clear hbl hu HEQ
    go_wp2
    have SS : Hid (Below w.heap.size w wl.drew) ∧ wl.drew.cell? ⟨w.heap.size, 0, none⟩ = some (.bool neg) ∧ wl.drew.cell? ⟨w.heap.size, 1, none⟩ = some (.slice xa dx.length xc) ∧ wl.drew.cell? ⟨w.heap.size + 2, 0, none⟩ = some (.bool false) ∧ wl.drew.cell? ⟨w.heap.size + 2, 1, none⟩ = some (.slice (some ⟨w.heap.size + 1, 0, none⟩) 5 5) := ⟨Lib.hid (below_drewN B0.out 1), K0.out.two.1, K0.out.two.2.1, KW.out.two.1, KW.out.two.2.1⟩
    have HWd : Hid (NumAt wl.drew (.agg #[.bool false, .slice (some ⟨w.heap.size + 1, 0, none⟩) 5 5]) 18446744073709551616) := Lib.hid HWd.out
    have HXx : Hid (NumAt wl.drew (.agg #[.bool neg, .slice xa dx.length xc]) z) := Lib.hid HXx.out
    have hwl : w.heap.size + 2 < wl.heap.size := KW.out.lt
    obtain ⟨q0, q1, q2, q3, q4⟩ := SS
    have SS : Hid (Below w.heap.size w wl.drew) ∧ wl.drew.cell? ⟨w.heap.size, 0, none⟩ = some (.bool neg) ∧ wl.drew.cell? ⟨w.heap.size, 1, none⟩ = some (.slice xa dx.length xc) ∧ wl.drew.cell? ⟨w.heap.size + 2, 0, none⟩ = some (.bool false) ∧ wl.drew.cell? ⟨w.heap.size + 2, 1, none⟩ = some (.slice (some ⟨w.heap.size + 1, 0, none⟩) 5 5) := ⟨q0, q1, q2, q3, q4⟩
    have SH := Lib.hid SS
    clear SS
    have SS := SH.out
    go_region_held3 (fun w' => Hid (Below w.heap.size w w') ∧ w'.cell? ⟨w.heap.size, 0, none⟩ = some (.bool neg) ∧ w'.cell? ⟨w.heap.size, 1, none⟩ = some (.slice xa dx.length xc) ∧ w'.cell? ⟨w.heap.size + 2, 0, none⟩ = some (.bool false) ∧ w'.cell? ⟨w.heap.size + 2, 1, none⟩ = some (.slice (some ⟨w.heap.size + 1, 0, none⟩) 5 5))
      (first | exact SS | exact keepB4 (one_alloc _ _) SS | exact ⟨Lib.hid (bset2 SS.1.out (by omega) _ _), set2_far SS.2.1 (by simp; omega), set2_far SS.2.2.1 (by simp; omega), set2_far SS.2.2.2.1 (by simp; omega), set2_far SS.2.2.2.2 (by simp; omega)⟩ | go_keep)
      (first | (go_at_call 21; refine (Cof.out _).mono ?_; rintro _ w1 ⟨v1, rfl, hn1, hb1⟩; have SS := keepB4 (a := w) hb1 (by first | exact SS | exact keepB4 (one_alloc _ _) SS); have HWd := Lib.hid (NumAt.below (by first | exact HWd.out | exact NumAt.below HWd.out (one_alloc _ _)) hb1); have HXx := Lib.hid (NumAt.below (by first | exact HXx.out | exact NumAt.below HXx.out (one_alloc _ _)) hb1); have hw1 := World.block_lt_of_cell? w1 _ SS.2.2.2.2; (first | have NB := Lib.hid (NB.out.next hb1) | have NB := Lib.hid ((Kept.new (w := wl.drew) (g := wl.heap.size) (cs := #[.bool false, .slice none 0 0]) (t := 50) rfl).next hb1) | skip)) | (go_at_call 40; refine (Cmul.out _ v1 _ (by first | exact hn1 | exact NumAt.below hn1 (one_alloc _ _)) (by first | exact HWd.out | exact NumAt.below HWd.out (one_alloc _ _))).mono ?_; rintro _ w2 ⟨v2, rfl, hn2, hb2⟩; have SS := keepB4 (a := w) hb2 (by first | exact SS | exact keepB4 (one_alloc _ _) SS); have HWd := Lib.hid (NumAt.below (by first | exact HWd.out | exact NumAt.below HWd.out (one_alloc _ _)) hb2); have HXx := Lib.hid (NumAt.below (by first | exact HXx.out | exact NumAt.below HXx.out (one_alloc _ _)) hb2); have hw2 := World.block_lt_of_cell? w2 _ SS.2.2.2.2; (first | have NB := Lib.hid (NB.out.next hb2) | have NB := Lib.hid ((Kept.new (w := w1) (g := w1.heap.size) (cs := #[.bool false, .slice none 0 0]) (t := 50) rfl).next hb2) | skip)) | (go_at_call 39; refine (Cneg.out _ v2 (by first | exact hn2 | exact NumAt.below hn2 (one_alloc _ _))).mono ?_; rintro _ w3 ⟨v3, rfl, hn3, hb3⟩; have SS := keepB4 (a := w) hb3 (by first | exact SS | exact keepB4 (one_alloc _ _) SS); have HWd := Lib.hid (NumAt.below (by first | exact HWd.out | exact NumAt.below HWd.out (one_alloc _ _)) hb3); have HXx := Lib.hid (NumAt.below (by first | exact HXx.out | exact NumAt.below HXx.out (one_alloc _ _)) hb3); have hw3 := World.block_lt_of_cell? w3 _ SS.2.2.2.2; (first | have NB := Lib.hid (NB.out.next hb3) | have NB := Lib.hid ((Kept.new (w := w2) (g := w2.heap.size) (cs := #[.bool false, .slice none 0 0]) (t := 50) rfl).next hb3) | skip)) | (go_at_call 20; refine (Cadd.out _ _ v3 (by first | exact HXx.out | exact NumAt.below HXx.out (one_alloc _ _)) (by first | exact hn3 | exact NumAt.below hn3 (one_alloc _ _))).mono ?_; rintro _ w4 ⟨v4, rfl, hn4, hb4⟩; have SS := keepB4 (a := w) hb4 (by first | exact SS | exact keepB4 (one_alloc _ _) SS); have HWd := Lib.hid (NumAt.below (by first | exact HWd.out | exact NumAt.below HWd.out (one_alloc _ _)) hb4); have HXx := Lib.hid (NumAt.below (by first | exact HXx.out | exact NumAt.below HXx.out (one_alloc _ _)) hb4); have hw4 := World.block_lt_of_cell? w4 _ SS.2.2.2.2; (first | have NB := Lib.hid (NB.out.next hb4) | have NB := Lib.hid ((Kept.new (w := w3) (g := w3.heap.size) (cs := #[.bool false, .slice none 0 0]) (t := 50) rfl).next hb4) | skip); have HN4 := Lib.hid hn4; obtain ⟨ng, l', d', rfl, ⟨la', lc', rfl, hrow4, hlc1, hlc2, hlc3, hdig4⟩, htop4, hne4, hz4⟩ := hn4; (try obtain ⟨c1, c2, c3, c4, c5⟩ := NB.out.two)))
    all_goals first
      | (have HROW := Lib.hid ((hrow4.setCell c1 (by simp) (.bool ng)).setCell ((World.cell?_setCell_other _ _ _ _ (by simp)).trans c2) (by simp) (.slice la' d'.length lc'))
         obtain ⟨s1, s2⟩ := NB.out.read2 (.bool ng) (.slice la' d'.length lc')
         have BX := Lib.hid (bset2k SS.1.out NB.out (by omega) (.bool ng) (.slice la' d'.length lc'))
         have hRb := HRB.out
         have hnn := nv_bd d' hdig4
         have hnv : nv d' = R := by
           unfold sg at hz4
           cases ng
           · simpa using hz4.symm
           · have := hne4 rfl
             have h0 := nv_zero d' hdig4 htop4
             simp at hz4
             have : nv d' ≠ 0 := fun e => this (h0.1 e)
             omega
         have hlen4 : d'.length ≤ 4 := by
           rw [← nv_len d' hdig4 htop4 4, hnv]
           have e4 : pw 4 = 18446744073709551616 := by decide
           omega
         have DG := Lib.hid hdig4
         have HNV := Lib.hid hnv
         have HLE := Lib.hid (horner_le d' hdig4)
         have L4 := Lib.hid hlen4
         obtain ⟨D, hD⟩ : ∃ D : Int, (d'.length : Int) = D := ⟨_, rfl⟩
         have hDb : 0 ≤ D ∧ D ≤ 4 := by omega
         have hst : ∀ I, D - 1 = I → WLong d' (.int .u64 0) (.int .i64 I) := fun I h => ⟨d'.length, 0, I, Nat.le_refl _, rfl, by omega, rfl, by omega, by show 0 * pw d'.length + nv d' = nv d'; omega⟩
         have HST := Lib.hid hst
         have HDD := Lib.hid hD
         obtain ⟨D1, hD1⟩ : ∃ D1, D - 1 = D1 := ⟨_, rfl⟩
         have HD1 := Lib.hid hD1
         clear hst hlen4 hnv hnn hRb hdig4 htop4 hne4 hz4 hrow4 hlc1 hlc2 hlc3 SS
         go_wp2
         clear hD hD1
         go_loop [9, 10] (fun v i => WLong d' v i) (fun _ i => (intOf i + 1).toNat)
         case atStart => exact HST.out _ HD1.out
         case round =>
           obtain ⟨k, x, I, hk, rfl, hI, rfl, hx0, hxk⟩ := hrel
           have hkle := L4.out
           have hIb : -1 ≤ I ∧ I ≤ 4 := by omega
           by_cases h0 : 0 < k
           · obtain ⟨m, rfl⟩ : ∃ m, k = m + 1 := ⟨k - 1, by omega⟩
             have hst := horner d' m x _ hxk
             obtain ⟨b, off, rfl, hcell⟩ := HROW.out m (by omega)
             have hu := DG.out m
             generalize d'.getD m 0 = y at *
             have hx2 := HLE.out m (x * 65536 + y) _ (by omega) hst
             have hRb := HRB.out
             have hNV := HNV.out
             have hIm : I.toNat = m := by omega
             have hI0 : 0 ≤ I := by omega
             have hIL : I < (d'.length : Int) := by omega
             have fin : WLong d' (.int .u64 (x * 65536 + y)) (.int .i64 (I - 1)) := ⟨m, _, I - 1, by omega, rfl, by omega, rfl, by omega, hst⟩
             have Fin2 := Lib.hid fin
             have wx1 : IntKind.u64.wrap (x * 65536) = x * 65536 := by rw [IntKind.wrap_u64]; omega
             have wx2 : IntKind.u64.wrap y = y := by rw [IntKind.wrap_u64]; omega
             have wx3 : IntKind.u64.wrap (x * 65536 + y) = x * 65536 + y := by rw [IntKind.wrap_u64]; omega
             have hge : decide (0 ≤ I) = true := decide_eq_true hI0
             have HM := Lib.hid (show (I - 1 + 1).toNat < (I + 1).toNat by omega)
             clear fin hxk hst hk hkle hRb hNV hx2 hI
             go_wp2
             go_round
             case rel => exact Fin2.out
             case measure => exact HM.out
           · obtain rfl : k = 0 := by omega
             have hge : decide (0 ≤ I) = false := decide_eq_false (by omega)
             have e : x = R := by
               have := HNV.out
               simp only [pw, pv] at hxk
               omega
             have HE := Lib.hid e
             clear hxk e hk hkle hI h0
             go_wp2
             refine bodyPost_ret (v := .tuple #[.int .i64 u, .int .u64 x, .bool true]) (by simp [results, Try.results22, go_sem]) rfl ?_
             exact Fin.out _ _ HE.out BX.out)
      | (have HROW := Lib.hid (hrow4.alloc (.cells #[.bool ng, .slice la' d'.length lc'] 50))
         have BX := Lib.hid (SS.1.out.alloc SS.1.out.size (.cells #[.bool ng, .slice la' d'.length lc'] 50))
         have hRb := HRB.out
         have hnn := nv_bd d' hdig4
         have hnv : nv d' = R := by
           unfold sg at hz4
           cases ng
           · simpa using hz4.symm
           · have := hne4 rfl
             have h0 := nv_zero d' hdig4 htop4
             simp at hz4
             have : nv d' ≠ 0 := fun e => this (h0.1 e)
             omega
         have hlen4 : d'.length ≤ 4 := by
           rw [← nv_len d' hdig4 htop4 4, hnv]
           have e4 : pw 4 = 18446744073709551616 := by decide
           omega
         have DG := Lib.hid hdig4
         have HNV := Lib.hid hnv
         have HLE := Lib.hid (horner_le d' hdig4)
         have L4 := Lib.hid hlen4
         obtain ⟨D, hD⟩ : ∃ D : Int, (d'.length : Int) = D := ⟨_, rfl⟩
         have hDb : 0 ≤ D ∧ D ≤ 4 := by omega
         have hst : ∀ I, D - 1 = I → WLong d' (.int .u64 0) (.int .i64 I) := fun I h => ⟨d'.length, 0, I, Nat.le_refl _, rfl, by omega, rfl, by omega, by show 0 * pw d'.length + nv d' = nv d'; omega⟩
         have HST := Lib.hid hst
         have HDD := Lib.hid hD
         obtain ⟨D1, hD1⟩ : ∃ D1, D - 1 = D1 := ⟨_, rfl⟩
         have HD1 := Lib.hid hD1
         clear hst hlen4 hnv hnn hRb hdig4 htop4 hne4 hz4 hrow4 hlc1 hlc2 hlc3 SS
         go_wp2
         clear hD hD1
         go_loop [9, 10] (fun v i => WLong d' v i) (fun _ i => (intOf i + 1).toNat)
         case atStart => exact HST.out _ HD1.out
         case round =>
           obtain ⟨k, x, I, hk, rfl, hI, rfl, hx0, hxk⟩ := hrel
           have hkle := L4.out
           have hIb : -1 ≤ I ∧ I ≤ 4 := by omega
           by_cases h0 : 0 < k
           · obtain ⟨m, rfl⟩ : ∃ m, k = m + 1 := ⟨k - 1, by omega⟩
             have hst := horner d' m x _ hxk
             obtain ⟨b, off, rfl, hcell⟩ := HROW.out m (by omega)
             have hu := DG.out m
             generalize d'.getD m 0 = y at *
             have hx2 := HLE.out m (x * 65536 + y) _ (by omega) hst
             have hRb := HRB.out
             have hNV := HNV.out
             have hIm : I.toNat = m := by omega
             have hI0 : 0 ≤ I := by omega
             have hIL : I < (d'.length : Int) := by omega
             have fin : WLong d' (.int .u64 (x * 65536 + y)) (.int .i64 (I - 1)) := ⟨m, _, I - 1, by omega, rfl, by omega, rfl, by omega, hst⟩
             have Fin2 := Lib.hid fin
             have wx1 : IntKind.u64.wrap (x * 65536) = x * 65536 := by rw [IntKind.wrap_u64]; omega
             have wx2 : IntKind.u64.wrap y = y := by rw [IntKind.wrap_u64]; omega
             have wx3 : IntKind.u64.wrap (x * 65536 + y) = x * 65536 + y := by rw [IntKind.wrap_u64]; omega
             have hge : decide (0 ≤ I) = true := decide_eq_true hI0
             have HM := Lib.hid (show (I - 1 + 1).toNat < (I + 1).toNat by omega)
             clear fin hxk hst hk hkle hRb hNV hx2 hI
             go_wp2
             go_round
             case rel => exact Fin2.out
             case measure => exact HM.out
           · obtain rfl : k = 0 := by omega
             have hge : decide (0 ≤ I) = false := decide_eq_false (by omega)
             have e : x = R := by
               have := HNV.out
               simp only [pw, pv] at hxk
               omega
             have HE := Lib.hid e
             clear hxk e hk hkle hI h0
             go_wp2
             refine bodyPost_ret (v := .tuple #[.int .i64 u, .int .u64 x, .bool true]) (by simp [results, Try.results22, go_sem]) rfl ?_
             exact Fin.out _ _ HE.out BX.out)
  · have hI2 := hI
    have fin : ∀ w', Below w.heap.size w w' → WordsOut z w (.returned (.tuple #[.int .i64 0, .int .u64 0, .bool false])) w' := fun w' hb => ⟨by rw [hH, if_neg hI], hb⟩
    have Fin := Lib.hid fin
    have HEQ : Hid (decide (InI H) = false) := Lib.hid (decide_eq_false hI)
    clear fin hI hI2 hHb hH hz
    go_enter Try.func22, Try.ntmps22
    go_wp2_with fail
    rw [HV.out]
    refine (Cdiv.out _ _ _ HXx.out HWd.out).mono ?_
    rintro _ wd ⟨vd, rfl, hnd, hbd⟩
    have B0 := Lib.hid (B0.out.trans (hbd.mono B0.out.size))
    have HND := Lib.hid hnd
    clear hbd hnd
    go_wp2_with fail
    refine (Clong.out vd _ HND.out).mono ?_
    rintro _ wl ⟨⟨u, rfl, -⟩, hbl⟩
    have B0 := Lib.hid (B0.out.trans (hbl.mono B0.out.size))
    rw [HEQ.out]
    clear hbl HEQ
    go_wp2
    refine bodyPost_ret (v := .tuple #[.int .i64 0, .int .u64 0, .bool false]) (by simp [results, Try.results22, go_sem]) rfl ?_
    exact Fin.out _ B0.out
end Go.Proofs.Ytldgdedfioigiaa
