/- wide.Parse: for every string. -/
import Derived.Test.YtngjefoipdcldaaWideJ
namespace Go.Proofs.Ytngjefoipdcldaa
open Go.RowKit
set_option linter.unusedVariables false

theorem ret_wI {z : Int} {w w' : World} {l : List Int} {ok : Bool} {h g : Int} (hp : PSpec l z ok) (hh : h = hiW z) (hg : g = loW z) (hb : Below w.heap.size w w') :
    (fun e w' => ∃ z ok, e = Ending.returned (.tuple #[wI z, .bool ok]) ∧ PSpec l z ok ∧ Below w.heap.size w w') (.returned (.tuple #[.agg #[.int .i64 h, .int .u64 g], .bool ok])) w' := ⟨z, ok, by rw [wI_eq hh hg], hp, hb⟩
def ParOut (s : ByteArray) (w : World) (e : Ending) (w' : World) : Prop := ∃ z ok, e = Ending.returned (.tuple #[wI z, .bool ok]) ∧ PSpec (bl s) z ok ∧ Below w.heap.size w w'
theorem parout {z : Int} {s : ByteArray} {w w' : World} {ok : Bool} {h g : Int} (hp : PSpec (bl s) z ok) (hh : h = hiW z) (hg : g = loW z) (hb : Below w.heap.size w w') :
    ParOut s w (.returned (.tuple #[.agg #[.int .i64 h, .int .u64 g], .bool ok])) w' := ⟨z, ok, by rw [wI_eq hh hg], hp, hb⟩
theorem zero_words : hiW 0 = 0 ∧ loW 0 = 0 := by constructor <;> simp [hiW, loW, wrap64]
theorem cut_facts (s : ByteArray) : ∃ (d : ByteArray) (neg : Bool), (⟨(Lib.trimPrefix s.data.toList [45]).toArray⟩ : ByteArray) = d ∧ Lib.hasPrefix s.data.toList [45] = neg ∧ (neg = true → (bl s).getD 0 0 = 45 ∧ bl d = (bl s).drop 1) ∧ (neg = false → (bl s).getD 0 0 ≠ 45 ∧ bl d = bl s) ∧ d.size ≤ s.size := by
  refine ⟨_, _, rfl, rfl, ?_, ?_, ?_⟩
  · intro h
    unfold Lib.trimPrefix
    rw [if_pos h]
    unfold Lib.hasPrefix at h
    unfold bl
    rcases hl : s.data.toList with _ | ⟨b, t⟩
    · rw [hl] at h; simp [List.isPrefixOf] at h
    · rw [hl] at h
      simp [List.isPrefixOf] at h
      subst h
      simp
  · intro h
    unfold Lib.trimPrefix
    rw [if_neg (by simp [h])]
    unfold Lib.hasPrefix at h
    unfold bl
    rcases hl : s.data.toList with _ | ⟨b, t⟩
    · simp
    · rw [hl] at h
      simp [List.isPrefixOf] at h
      refine ⟨?_, by simp⟩
      simp
      intro e
      exact h (UInt8.toNat_inj.1 (by simpa using (Int.ofNat.inj e).symm))
  · show (List.toArray _).size ≤ s.data.size
    rw [List.size_toArray, ← Array.length_toList]
    unfold Lib.trimPrefix
    split
    · rw [List.length_drop]; omega
    · exact Nat.le_refl _
set_option maxHeartbeats 4000000 in
theorem wparse_any (s : ByteArray) (w : World) (hs : s.size ≤ 9223372036854775807) : Calls Try.prog 27 #[.string s] w (ParOut s w) := by
  obtain ⟨W, hW⟩ : ∃ W, w.alloc (.cells #[.int .i64 0, .int .u64 0] 24) = W := ⟨_, rfl⟩
  have R0 : Hid (Kept W w.heap.size #[.int .i64 0, .int .u64 0] 24) := Lib.hid (by rw [← hW]; exact Kept.new (by simp))
  have B0 : Hid (Below w.heap.size w W) := Lib.hid (by rw [← hW]; exact one_alloc _ _)
  have HW := Lib.hid hW
  have Z := Lib.hid zero_words
  by_cases hlong : 40 < s.size
  · have hd : decide ((40 : Int) < (s.size : Int)) = true := decide_eq_true (by omega)
    have P := Lib.hid (pspec_long (l := bl s) (by rw [bl_length]; exact hlong))
    obtain ⟨n, hn⟩ : ∃ n : Int, (s.size : Int) = n := ⟨_, rfl⟩
    rw [hn] at hd
    clear hlong hs hW
    go_enter Try.func27, Try.ntmps27
    go_wp2
    refine bodyPost_ret (v := .tuple #[.agg #[.int .i64 0, .int .u64 0], .bool false]) (by simp [results, Try.results27, go_sem]) rfl ?_
    exact parout P.out Z.out.1.symm Z.out.2.symm (one_alloc _ _)
  · obtain ⟨d, neg, ed, en, h1, h0, hds⟩ := cut_facts s
    have Cc := fun w => Try.strings_CutPrefix s ⟨#[45]⟩ w
    rw [show (⟨#[45]⟩ : ByteArray).data.toList = [45] from rfl, ed, en] at Cc
    have C0 := Lib.hid Cc
    have Cu := Lib.hid (fun w => wunsigned_any d w (by omega))
    have hd : decide ((40 : Int) < (s.size : Int)) = false := decide_eq_false (by omega)
    have hs40 : s.size ≤ 40 := by omega
    obtain ⟨v, hv⟩ : ∃ v, sw (unsN (bl d)) = v := ⟨_, rfl⟩
    rw [← wI_sw (unsN (bl d)), hv] at Cu
    have Cm := Lib.hid (fun w => wminus_any v w)
    obtain ⟨u, hu⟩ : ∃ u, sw (-v) = u := ⟨_, rfl⟩
    rw [← wI_sw (-v), hu] at Cm
    obtain ⟨a, ha⟩ : ∃ a, parA (bl s) = a := ⟨_, rfl⟩
    have haI : InW a := by rw [← ha]; exact parA_in _
    have hva : neg = true ∧ u = a ∨ neg = false ∧ v = a := by
      rcases neg with _ | _
      · exact .inr ⟨rfl, by rw [← ha, ← hv, (h0 rfl).2]; unfold parA; rw [if_neg (h0 rfl).1]⟩
      · exact .inl ⟨rfl, by rw [← ha, ← hu, ← hv, (h1 rfl).2]; unfold parA; rw [if_pos (h1 rfl).1]⟩
    have Ct := Lib.hid (fun w => wtext_any a w haI)
    have hb : bl (strOfNums (textL a)) = textL a := bl_strOfNums _ (textL_byte a haI)
    have hyes : strOfNums (textL a) = s → PSpec (bl s) a true := fun e => by rw [← ha]; exact pspec_yes (by rw [ha, ← hb, e])
    have hno : strOfNums (textL a) ≠ s → PSpec (bl s) 0 false := fun e => pspec_no (fun h => e (bl_inj (by rw [hb, ← ha]; exact h)))
    have hcmp : (((strOfNums (textL a)).toList == s.toList) = true ∧ PSpec (bl s) a true) ∨ (((strOfNums (textL a)).toList == s.toList) = false ∧ PSpec (bl s) 0 false) := by
      by_cases e : strOfNums (textL a) = s
      · exact .inl ⟨by rw [e]; simp, hyes e⟩
      · refine .inr ⟨?_, hno e⟩
        rw [beq_eq_false_iff_ne]
        intro h
        rw [ByteArray.toList_eq, ByteArray.toList_eq] at h
        exact e (by cases s; generalize strOfNums (textL a) = t at *; cases t; congr; exact Array.toList_inj.1 h)
    have E4 : neg = true ∧ u = a ∨ neg = false ∧ v = a := hva
    have hsn : ∃ n : Int, (s.size : Int) = n := ⟨_, rfl⟩
    obtain ⟨n, hn⟩ := hsn
    rw [hn] at hd
    unfold wI at Cu Cm Ct
    have hW0 : ∀ (W : World) (x y : Value), Kept (W.alloc (.cells #[x, y] 24)) W.heap.size #[x, y] 24 := fun W x y => Kept.new rfl
    have HCmp := Lib.hid hcmp
    clear hcmp hyes hno hb haI ha hu hv hs40 hds h0 h1 en ed hlong hs Cc hW hW0 hva
    rcases E4 with ⟨rfl, rfl⟩ | ⟨rfl, rfl⟩
    · have FP : Hid (∀ (w' : World), PSpec (bl s) u true → Below w.heap.size w w' → ParOut s w (.returned (.tuple #[.agg #[.int .i64 (hiW u), .int .u64 (loW u)], .bool true])) w') := Lib.hid (fun w' h hb => parout h rfl rfl hb)
      have FN : Hid (∀ (w' : World), PSpec (bl s) 0 false → Below w.heap.size w w' → ParOut s w (.returned (.tuple #[.agg #[.int .i64 0, .int .u64 0], .bool false])) w') := Lib.hid (fun w' h hb => parout h Z.out.1.symm Z.out.2.symm hb)
      generalize hiW v = hv at *
      generalize loW v = lv at *
      generalize hiW u = hu at *
      generalize loW u = lu at *
      generalize strOfNums (textL u) = tx at *
      generalize PSpec (bl s) u true = PY at *
      generalize PSpec (bl s) 0 false = PN at *
      have HC := HCmp.out
      rcases HC with ⟨hc, hp⟩ | ⟨hc, hp⟩
      all_goals
        have HP := Lib.hid hp
        clear hp
        go_enter Try.func27, Try.ntmps27
        go_wp2_with fail
        rw [HW.out]
        refine (C0.out _).mono ?_
        rintro _ w1 ⟨rfl, hw⟩
        cases hw
        go_wp2_with fail
        refine (Cu.out _).mono ?_
        rintro _ w2 ⟨rfl, hb2⟩
        have R2 := Lib.hid ((R0.out.next hb2).alloc (.cells #[.int .i64 hv, .int .u64 lv] 24))
        have N2 := Lib.hid (Kept.new (w := w2) (cs := #[.int .i64 hv, .int .u64 lv]) (t := 24) (g := w2.heap.size) rfl)
        have B2 := Lib.hid ((B0.out.trans (hb2.mono B0.out.size)).alloc (B0.out.trans (hb2.mono B0.out.size)).size (.cells #[.int .i64 hv, .int .u64 lv] 24))
        have L2 : w.heap.size < w2.heap.size := (R0.out.next hb2).lt
        obtain ⟨n1, n2, n3, n4, n5⟩ := N2.out.two
        clear hb2
        go_wp2_with fail
        refine (Cm.out _).mono ?_
        rintro _ w3 ⟨rfl, hb3⟩
        have N3' := N2.out.next hb3
        obtain ⟨m1, m2, m3, m4, m5⟩ := N3'.two
        have N3 := Lib.hid (N3'.set2 (.int .i64 hu) (.int .u64 lu))
        have R3 := Lib.hid (((R2.out.next hb3).far (p := ⟨w2.heap.size, 0, none⟩) (by simp; omega) (.int .i64 hu)).far (p := ⟨w2.heap.size, 1, none⟩) (by simp; omega) (.int .u64 lu))
        have B3 := Lib.hid (bset2 (B2.out.trans (hb3.mono B2.out.size)) (Nat.le_of_lt L2) (.int .i64 hu) (.int .u64 lu))
        obtain ⟨q1, q2⟩ := N3'.read2 (.int .i64 hu) (.int .u64 lu)
        clear hb3 N3'
        go_wp2_with fail
        refine (Ct.out _).mono ?_
        rintro _ w4 ⟨rfl, hb4⟩
        have N4 := Lib.hid (N3.out.next hb4)
        have R4 := Lib.hid (R3.out.next hb4)
        have B4 := Lib.hid (B3.out.trans (hb4.mono B3.out.size))
        obtain ⟨k1, k2, k3, k4, k5⟩ := N4.out.two
        obtain ⟨r1, r2, r3, r4, r5⟩ := R4.out.two
        clear hb4
        go_wp2
      · obtain ⟨s1, s2⟩ := R4.out.read2 (.int .i64 hu) (.int .u64 lu)
        refine bodyPost_ret (v := .tuple #[.agg #[.int .i64 hu, .int .u64 lu], .bool true]) (by simp [results, Try.results27, go_sem, s1, s2]) rfl ?_
        exact FP.out _ HP.out (bset2 B4.out (Nat.le_refl _) _ _)
      · obtain ⟨s1, s2⟩ := R4.out.read2 (.int .i64 0) (.int .u64 0)
        refine bodyPost_ret (v := .tuple #[.agg #[.int .i64 0, .int .u64 0], .bool false]) (by simp [results, Try.results27, go_sem, s1, s2]) rfl ?_
        exact FN.out _ HP.out (bset2 B4.out (Nat.le_refl _) _ _)
    · have FP : Hid (∀ (w' : World), PSpec (bl s) v true → Below w.heap.size w w' → ParOut s w (.returned (.tuple #[.agg #[.int .i64 (hiW v), .int .u64 (loW v)], .bool true])) w') := Lib.hid (fun w' h hb => parout h rfl rfl hb)
      have FN : Hid (∀ (w' : World), PSpec (bl s) 0 false → Below w.heap.size w w' → ParOut s w (.returned (.tuple #[.agg #[.int .i64 0, .int .u64 0], .bool false])) w') := Lib.hid (fun w' h hb => parout h Z.out.1.symm Z.out.2.symm hb)
      generalize hiW v = hv at *
      generalize loW v = lv at *
      generalize strOfNums (textL v) = tx at *
      generalize PSpec (bl s) v true = PY at *
      generalize PSpec (bl s) 0 false = PN at *
      have HC := HCmp.out
      rcases HC with ⟨hc, hp⟩ | ⟨hc, hp⟩
      all_goals
        have HP := Lib.hid hp
        clear hp
        go_enter Try.func27, Try.ntmps27
        go_wp2_with fail
        rw [HW.out]
        refine (C0.out _).mono ?_
        rintro _ w1 ⟨rfl, hw⟩
        cases hw
        go_wp2_with fail
        refine (Cu.out _).mono ?_
        rintro _ w2 ⟨rfl, hb2⟩
        have R2 := Lib.hid ((R0.out.next hb2).alloc (.cells #[.int .i64 hv, .int .u64 lv] 24))
        have N2 := Lib.hid (Kept.new (w := w2) (cs := #[.int .i64 hv, .int .u64 lv]) (t := 24) (g := w2.heap.size) rfl)
        have B2 := Lib.hid ((B0.out.trans (hb2.mono B0.out.size)).alloc (B0.out.trans (hb2.mono B0.out.size)).size (.cells #[.int .i64 hv, .int .u64 lv] 24))
        have L2 : w.heap.size < w2.heap.size := (R0.out.next hb2).lt
        obtain ⟨n1, n2, n3, n4, n5⟩ := N2.out.two
        clear hb2
        go_wp2_with fail
        refine (Ct.out _).mono ?_
        rintro _ w4 ⟨rfl, hb4⟩
        have N4 := Lib.hid (N2.out.next hb4)
        have R4 := Lib.hid (R2.out.next hb4)
        have B4 := Lib.hid (B2.out.trans (hb4.mono B2.out.size))
        obtain ⟨k1, k2, k3, k4, k5⟩ := N4.out.two
        obtain ⟨r1, r2, r3, r4, r5⟩ := R4.out.two
        clear hb4
        go_wp2
      · obtain ⟨s1, s2⟩ := R4.out.read2 (.int .i64 hv) (.int .u64 lv)
        refine bodyPost_ret (v := .tuple #[.agg #[.int .i64 hv, .int .u64 lv], .bool true]) (by simp [results, Try.results27, go_sem, s1, s2]) rfl ?_
        exact FP.out _ HP.out (bset2 B4.out (Nat.le_refl _) _ _)
      · obtain ⟨s1, s2⟩ := R4.out.read2 (.int .i64 0) (.int .u64 0)
        refine bodyPost_ret (v := .tuple #[.agg #[.int .i64 0, .int .u64 0], .bool false]) (by simp [results, Try.results27, go_sem, s1, s2]) rfl ?_
        exact FN.out _ HP.out (bset2 B4.out (Nat.le_refl _) _ _)
end Go.Proofs.Ytngjefoipdcldaa
