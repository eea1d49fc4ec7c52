/- noonmarkref01: Neg, Cmp: for all numbers that lie in memory. -/
import Derived.Test.YtldgdedfioigiaaLimI
namespace Go.Proofs.Ytldgdedfioigiaa
open Go.RowKit
set_option linter.unusedVariables false

set_option maxHeartbeats 2000000 in
theorem num_neg (x : Value) (a : Int) (w : World) (hx : NumAt w x a) :
    Calls Try.prog 39 #[x] w fun e w' => NumOut (-a) w e w' := by
  obtain ⟨na, la, da, rfl, ⟨xa, xc, rfl, hrx, hx1, hx2, hx3, hdx⟩, htx, hnx, rfl⟩ := hx
  have hz : sg (nv da) (!na) = -(sg (nv da) na) := by unfold sg; cases na <;> simp
  have Cm : Hid (∀ W, Below w.heap.size w W → Calls Try.prog 32 #[.bool (!na), .slice xa da.length xc] W (NumOut (-(sg (nv da) na)) W)) := Lib.hid (fun W hW => by
    rw [← hz]
    exact made_any (!na) xa xc da W (hrx.below hW) hdx hx1 hx2 hx3)
  have K0 : Hid (Kept ((w.alloc (.cells #[.bool na, .slice xa da.length xc] 50)).alloc (.cells #[.bool false, .slice none 0 0] 50)) (w.heap.size + 1) #[.bool false, .slice none 0 0] 50) := Lib.hid (Kept.new (by simp))
  have B0 : Hid (Below w.heap.size w ((w.alloc (.cells #[.bool na, .slice xa da.length xc] 50)).alloc (.cells #[.bool false, .slice none 0 0] 50))) := Lib.hid ((one_alloc w _).alloc (by simp) _)
  clear hrx hx1 hx2 hx3 hdx htx hnx hz
  go_enter Try.func39, Try.ntmps39
  go_wp2_with fail
  refine (Cm.out _ B0.out).mono ?_
  rintro _ w2 ⟨v2, rfl, hn2, hb2⟩
  have Hn := Lib.hid hn2
  obtain ⟨ng, l', d', rfl, ⟨la', lc', rfl, -⟩, -⟩ := hn2
  have R2 := Lib.hid (K0.out.next hb2)
  have B2 := Lib.hid (B0.out.trans (hb2.mono B0.out.size))
  obtain ⟨t1, t2, t3, t4, t5⟩ := R2.out.two
  clear hb2
  go_wp2
  obtain ⟨s1, s2⟩ := R2.out.read2 (.bool ng) (.slice la' d'.length lc')
  refine bodyPost_ret (v := .agg #[.bool ng, .slice la' d'.length lc']) (by simp [results, Try.results39, go_sem, s1, s2]) rfl ?_
  exact num_stored_at B2.out Hn.out R2.out.two.1 R2.out.two.2.1 (by simp) (by simp) (by omega)
theorem hund_neg {a : Int} (h : Hund a) : Hund (-a) := by unfold Hund at *; omega
set_option maxHeartbeats 4000000 in
theorem num_cmp (x y : Value) (a b : Int) (w : World) (hx : NumAt w x a) (hy : NumAt w y b) (ha : Hund a) (hb : Hund b) :
    Calls Try.prog 45 #[x, y] w (Gives (.int .i64 (lordI a b)) w) := by
  have Cn : Hid (∀ W, Below w.heap.size w W → Calls Try.prog 39 #[y] W (NumOut (-b) W)) := Lib.hid (fun W h => num_neg y b W (hy.below h))
  have Ca : Hid (∀ W v, Below w.heap.size w W → NumAt W v (-b) → Calls Try.prog 20 #[x, v] W (NumOut (a - b) W)) := Lib.hid (fun W v h hv => by
    have := num_add x v a (-b) W (hx.below h) hv ha (hund_neg hb)
    rwa [← Int.sub_eq_add_neg] at this)
  obtain ⟨na, la, da, rfl, ⟨xa, xc, rfl, -⟩, -⟩ := hx
  obtain ⟨nb, lb, db, rfl, ⟨ya, yc, rfl, -⟩, -⟩ := hy
  obtain ⟨W, hW⟩ : ∃ W, (w.alloc (.cells #[.bool na, .slice xa da.length xc] 50)).alloc (.cells #[.bool nb, .slice ya db.length yc] 50) = W := ⟨_, rfl⟩
  have K0 : Hid (Kept W.drew w.heap.size #[.bool na, .slice xa da.length xc] 50) := Lib.hid (by
    have h : Kept W w.heap.size #[.bool na, .slice xa da.length xc] 50 := by rw [← hW]; exact (Kept.new rfl).alloc _
    exact h)
  have K1 : Hid (Kept W.drew (w.heap.size + 1) #[.bool nb, .slice ya db.length yc] 50) := Lib.hid (by
    have h : Kept W (w.heap.size + 1) #[.bool nb, .slice ya db.length yc] 50 := by rw [← hW]; exact Kept.new (by simp)
    exact h)
  have B0 : Hid (Below w.heap.size w W.drew) := Lib.hid (by
    have h : Below w.heap.size w W := by rw [← hW]; exact (one_alloc w _).alloc (by simp) _
    exact below_drewN h 1)
  have HW := Lib.hid hW
  clear hW ha hb
  go_enter Try.func45, Try.ntmps45
  go_wp2
  rw [HW.out]
  obtain ⟨k1, k2, -, -, k5⟩ := K0.out.two
  obtain ⟨m1, m2, -, -, m5⟩ := K1.out.two
  have hw1 : w.heap.size + 1 < W.heap.size := m5
  go_region_held3 (fun w' => Hid (Below w.heap.size w w') ∧ w'.cell? ⟨w.heap.size, 0, none⟩ = some (.bool na) ∧ w'.cell? ⟨w.heap.size, 1, none⟩ = some (.slice xa da.length xc) ∧ w'.cell? ⟨w.heap.size + 1, 0, none⟩ = some (.bool nb) ∧ w'.cell? ⟨w.heap.size + 1, 1, none⟩ = some (.slice ya db.length yc))
    (first | exact keepB4 (one_alloc _ _) S3 | exact S3 | exact keepB4 (one_alloc _ _) S2 | exact S2 | exact ⟨B0, k1, k2, m1, m2⟩ | exact keepB4 (one_alloc _ _) ⟨B0, k1, k2, m1, m2⟩ | exact ⟨Lib.hid (bset2 S3.1.out (by omega) _ _), set2_far S3.2.1 (by simp; omega), set2_far S3.2.2.1 (by simp; omega), set2_far S3.2.2.2.1 (by simp; omega), set2_far S3.2.2.2.2 (by simp; omega)⟩ | go_keep)
    (first | (go_at_call 39; refine (Cn.out _ (by first | exact B0.out | exact B0.out.alloc B0.out.size _)).mono ?_; rintro _ w2 ⟨v2, rfl, hn2, hb2⟩; have S2 := keepB4 (a := w) hb2 (by first | exact ⟨B0, k1, k2, m1, m2⟩ | exact keepB4 (one_alloc _ _) ⟨B0, k1, k2, m1, m2⟩); have hw2 := World.block_lt_of_cell? w2 _ S2.2.2.2.1; (try have NB := Lib.hid ((Kept.new (w := W.drew) (g := W.heap.size) (cs := #[.bool false, .slice none 0 0]) (t := 50) rfl).next hb2))) | (go_at_call 20; refine (Ca.out _ v2 (by first | exact S2.1.out | exact S2.1.out.alloc S2.1.out.size _) (by first | exact hn2 | exact hn2.below (one_alloc _ _))).mono ?_; rintro _ w3 ⟨v3, rfl, hn3, hb3⟩; have S3 := keepB4 (a := w) hb3 (by first | exact S2 | exact keepB4 (one_alloc _ _) S2); obtain ⟨ng, l', d', rfl, ⟨la', lc', rfl, hl'⟩, ht', hn', hz'⟩ := hn3; (first | have NC := Lib.hid (NB.out.next hb3) | have NC := Lib.hid ((Kept.new (w := w2) (cs := #[.bool false, .slice none 0 0]) (t := 50) rfl).next hb3) | skip); (try obtain ⟨c1, c2, c3, c4, c5⟩ := NC.out.two)))
  all_goals
    have B3 := S3.1
    have hdd := hl'.2.2.2.2
    have hzz := nv_zero d' hdd ht'
    have hbb := (nv_bd d' hdd).1
    have hcase : (d'.length = 0 ∧ Hid (lordI a b = 0)) ∨ (d'.length ≠ 0 ∧ ng = true ∧ Hid (lordI a b = -1)) ∨ (d'.length ≠ 0 ∧ ng = false ∧ Hid (lordI a b = 1)) := by
      by_cases h0 : d'.length = 0
      · refine .inl ⟨h0, Lib.hid ?_⟩
        have h1 := hzz.2 h0
        rw [h1, sg_zero] at hz'
        unfold lordI; rw [if_neg (by omega), if_neg (by omega)]
      · have h1 : nv d' ≠ 0 := fun e => h0 (hzz.1 e)
        refine .inr ?_
        cases ng
        · refine .inr ⟨h0, rfl, Lib.hid ?_⟩
          unfold sg at hz'; simp at hz'
          unfold lordI; rw [if_neg (by omega), if_pos (by omega)]
        · refine .inl ⟨h0, rfl, Lib.hid ?_⟩
          unfold sg at hz'; simp at hz'
          unfold lordI; rw [if_pos (by omega)]
    clear S2 S3 hdd hzz hbb hl' ht' hn' hz' hn2 hb2 hb3
    rcases hcase with ⟨h0, h1⟩ | ⟨h0, rfl, h1⟩ | ⟨h0, rfl, h1⟩
    · have hd : ((d'.length : Int) == 0) = true := by rw [h0]; rfl
      obtain ⟨DL, hDL⟩ : ∃ D : Int, (d'.length : Int) = D := ⟨_, rfl⟩
      rw [hDL] at hd
      clear h0
      go_wp2
      go_ret
      first | exact ⟨ret_int h1.out.symm, B3.out.alloc B3.out.size _⟩ | exact ⟨ret_int h1.out.symm, bset2 B3.out (by omega) _ _⟩
    all_goals
      have hd : ((d'.length : Int) == 0) = false := by rw [beq_eq_false_iff_ne]; omega
      obtain ⟨DL, hDL⟩ : ∃ D : Int, (d'.length : Int) = D := ⟨_, rfl⟩
      rw [hDL] at hd
      clear h0
      go_wp2
      go_ret
      first | exact ⟨ret_int h1.out.symm, B3.out.alloc B3.out.size _⟩ | exact ⟨ret_int h1.out.symm, bset2 B3.out (by omega) _ _⟩
end Go.Proofs.Ytldgdedfioigiaa
