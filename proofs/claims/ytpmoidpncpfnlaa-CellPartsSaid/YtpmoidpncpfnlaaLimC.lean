/- noonmarkref01: minus, above, Whole: for all limbs that lie in memory. -/
import Derived.Test.YtpmoidpncpfnlaaLimB
namespace Go.Proofs.Ytpmoidpncpfnlaa
open Go.RowKit
set_option linter.unusedVariables false

def MinusRel (a b : List Int) (w : World) (o c i : Value) (wr : World) : Prop := ∃ (k : Nat) (q : List Int) (s : Int), k ≤ a.length ∧ i = .int .i64 k ∧ c = .int .i64 s ∧ 0 ≤ s ∧ s ≤ 1 ∧ q.length = k ∧ Dig q ∧ pv q k + pv b k = pv a k + s * pw k ∧
  wr.ownsRow w.heap.size 3 1 o k (q.map (Value.int .i64)) ∧ Below w.heap.size w wr
set_option maxHeartbeats 1000000 in
theorem minus_any (x y : Option Addr) (cx cy : Nat) (a b : List Int) (w : World) (hx : IntRow w x .i64 a) (hy : IntRow w y .i64 b) (ha : Dig a) (hb : Dig b) (tb : Top b) (hab : nv b ≤ nv a) (la : a.length ≤ 1000000) :
    Calls Try.prog 70 #[.slice x a.length cx, .slice y b.length cy] w fun e w' => LimbsOut (nv a - nv b) w e w' := by
  have HL := Lib.hid (len_le a b ha hb tb hab)
  have HX := Lib.hid hx
  have HY := Lib.hid hy
  have HA := Lib.hid ha
  have HB := Lib.hid hb
  have HAB := Lib.hid hab
  clear hx hy ha hb tb hab
  go_enter Try.func70, Try.ntmps70
  go_wp2
  go_loopw [5, 6, 7] (fun o c i wr => MinusRel a b w o c i wr) (fun _ _ i _ => a.length - (intOf i).toNat)
  case atStart => exact ⟨0, [], 0, by omega, rfl, rfl, by omega, by omega, rfl, dig_nil, rfl, World.ownsRow_made _ _ _ (Nat.le_refl _) (by unfold maxLen; omega) rfl, (Below.refl _ _).alloc (Nat.le_refl _) _⟩
  case round =>
    obtain ⟨k, q, s, hk, rfl, rfl, hs0, hs1, hql, hqd, hqv, hown, hbel⟩ := hrel
    obtain ⟨i0, hi, hz0, hz1, hz2⟩ := info_parts info_int
    have hva := HA.out k
    have hvb := HB.out k
    have lb := HL.out
    have ca := limb_nat x cx a k wr (HX.out.below hbel) (by omega)
    have cb := limb_nat y cy b k wr (HY.out.below hbel) (by omega)
    generalize hu : a.getD k 0 = u at *
    generalize hv : b.getD k 0 = v at *
    have hc1 : k + 1 ≤ maxLen := by unfold maxLen; omega
    have hc2 : (k + 1) * 8 ≤ 140737488355328 := by omega
    by_cases hlt : k < a.length
    · have hstep := minus_step _ _ _ _ _ hqv u v (u - v - s) rfl
      have fin : ∀ d o' w' (c : Int), (u - v - s < 0 ∧ d = u - v - s + 65536 ∧ c = 1 ∨ ¬ u - v - s < 0 ∧ d = u - v - s ∧ c = 0) → w'.ownsRow w.heap.size 3 1 o' (k + 1) (q.map (Value.int .i64) ++ [.int .i64 d]) → Below w.heap.size w w' → MinusRel a b w o' (.int .i64 c) (.int .i64 ((k : Int) + 1)) w' := fun d o' w' c hd h1 h2 => by
        refine ⟨k + 1, q ++ [d], c, by omega, rfl, rfl, by omega, by omega, by simp [hql], dig_snoc q _ hqd (by omega), ?_, by rw [List.map_append]; exact h1, h2⟩
        rw [← hql, pv_snoc_top, hql, pw_succ, pv_succ, pv_succ, hu, hv]
        rcases hd with ⟨_, rfl, rfl⟩ | ⟨_, rfl, rfl⟩
        · exact hstep.2
        · exact hstep.1
      have Fin := Lib.hid fin
      have Ca := Lib.hid ca
      have Cb := Lib.hid cb
      have Hown := Lib.hid hown
      have Hbel := Lib.hid hbel
      clear fin ca cb hown hbel hqv hqd hql hstep hu hv
      have hd : (Hid (u - v - s < 0) ∧ decide (u - v - s < 0) = true) ∨ (Hid (¬ u - v - s < 0) ∧ decide (u - v - s < 0) = false) := by
        by_cases hneg : u - v - s < 0
        · exact .inl ⟨Lib.hid hneg, decide_eq_true hneg⟩
        · exact .inr ⟨Lib.hid hneg, decide_eq_false hneg⟩
      rcases hd with ⟨hneg, hd⟩ | ⟨hneg, hd⟩
      all_goals
        go_wp2_with fail
        refine Ca.out.mono ?_
        rintro e w1 ⟨rfl, rfl⟩
        go_wp2_with fail
        refine Cb.out.mono ?_
        rintro e w1 ⟨rfl, rfl⟩
      · go_wp2_with (at_builtin; refine wpList_append1 rfl _ _ 63 rfl w 3 i0 (.int .i64 0) 8 Try.underlying63 hi hz0 hz1 hz2 rfl _ _ _ _ rfl Hown.out (.int .i64 (u - v - s + 65536)) rfl rfl hc1 hc2 Hbel.out ?_)
        intro v' w1 hown' hbel'
        have Hown' := Lib.hid hown'
        have Hbel' := Lib.hid hbel'
        clear hown' hbel'
        go_wp2
        go_roundw
        case rel => exact Fin.out _ _ _ 1 (.inl ⟨hneg.out, rfl, rfl⟩) Hown'.out Hbel'.out
        case measure => simp [intOf]; omega
      · go_wp2_with (at_builtin; refine wpList_append1 rfl _ _ 63 rfl w 3 i0 (.int .i64 0) 8 Try.underlying63 hi hz0 hz1 hz2 rfl _ _ _ _ rfl Hown.out (.int .i64 (u - v - s)) rfl rfl hc1 hc2 Hbel.out ?_)
        intro v' w1 hown' hbel'
        have Hown' := Lib.hid hown'
        have Hbel' := Lib.hid hbel'
        clear hown' hbel'
        go_wp2
        go_roundw
        case rel => exact Fin.out _ _ _ 0 (.inr ⟨hneg.out, rfl, rfl⟩) Hown'.out Hbel'.out
        case measure => simp [intOf]; omega
    · obtain rfl : k = a.length := by omega
      obtain ⟨oa, ocap, rfl, hqn, h1, h2, h3, hrow⟩ := IntRow.own hown
      have hend := minus_end a b HA.out HB.out HAB.out HL.out _ _ (by have := pv_bd q hqd a.length; omega) ⟨hs0, hs1⟩ hqv
      have hnv : nv q = nv a - nv b := by rw [← hend.2, ← hql]; rfl
      have ct := trim_any oa ocap q wr hrow (by omega) h2 h3
      rw [hqn] at ct
      have fin : ∀ n w', n ≤ q.length → (∀ j, n ≤ j → q.getD j 0 = 0) → (n = 0 ∨ q.getD (n - 1) 0 ≠ 0) → wr = w' → LimbsOut (nv a - nv b) w (.returned (.slice oa n ocap)) w' := fun n w' g1 g2 g3 g4 => by
        subst g4
        have hlen : (q.take n).length = n := by rw [List.length_take]; omega
        exact ⟨_, q.take n, rfl, ⟨oa, ocap, by rw [hlen], hrow.take n, by omega, h2, h3, dig_take q n hqd⟩, top_take q n g1 g3, by rw [nv_take q n g1 g2, hnv], hbel⟩
      have Fin := Lib.hid fin
      have Ct := Lib.hid ct
      clear fin ct hend hnv hrow hown hqv hqd hql h3 hu hv ca cb
      go_wp2_with fail
      refine Ct.out.mono ?_
      rintro e w1 ⟨n, g1, rfl, g2, g3, g4⟩
      have G2 := Lib.hid g2
      have G3 := Lib.hid g3
      have G4 := Lib.hid g4
      clear g2 g3 g4
      go_wp2
      go_ret
      exact Fin.out n _ g1 G2.out G3.out G4.out
/-- which of two is the greater -/
def ordI (x y : Int) : Int := if x < y then -1 else if y < x then 1 else 0
def AboveRel (a b : List Int) (u : Value) : Prop := ∃ k : Int, -1 ≤ k ∧ u = .int .i64 k ∧ k < 2000000 ∧ (∀ j : Nat, k < j → a.getD j 0 = b.getD j 0)
set_option maxHeartbeats 1000000 in
theorem above_any (x y : Option Addr) (cx cy : Nat) (a b : List Int) (w : World) (hx : IntRow w x .i64 a) (hy : IntRow w y .i64 b) (ha : Dig a) (hb : Dig b) (la : a.length ≤ 1000000) (lb : b.length ≤ 1000000) :
    Calls Try.prog 69 #[.slice x a.length cx, .slice y b.length cy] w fun e w' => e = .returned (.int .i64 (ordI (nv a) (nv b))) ∧ w = w' := by
  have fin0 : (∀ j, a.getD j 0 = b.getD j 0) → ordI (nv a) (nv b) = 0 := fun h => by have := above_eq a b h; unfold ordI; rw [if_neg (by omega), if_neg (by omega)]
  have fin1 : ∀ k : Nat, (∀ j, k + 1 ≤ j → a.getD j 0 = b.getD j 0) → b.getD k 0 < a.getD k 0 → ordI (nv a) (nv b) = 1 := fun k h hg => by have := above_gt a b ha hb k h hg; unfold ordI; rw [if_neg (by omega), if_pos (by omega)]
  have fin2 : ∀ k : Nat, (∀ j, k + 1 ≤ j → a.getD j 0 = b.getD j 0) → a.getD k 0 < b.getD k 0 → ordI (nv a) (nv b) = -1 := fun k h hg => by have := above_gt b a hb ha k (fun j hj => (h j hj).symm) hg; unfold ordI; rw [if_pos (by omega)]
  have past : ∀ j : Nat, max a.length b.length ≤ j → a.getD j 0 = b.getD j 0 := fun j hj => by rw [getD_past a j (by omega), getD_past b j (by omega)]
  have F0 := Lib.hid fin0
  have F1 := Lib.hid fin1
  have F2 := Lib.hid fin2
  have HP := Lib.hid past
  have HX := Lib.hid hx
  have HY := Lib.hid hy
  generalize ordI (nv a) (nv b) = r at *
  clear fin0 fin1 fin2 past hx hy ha hb
  rcases Nat.lt_or_ge a.length b.length with hm | hm
  all_goals
    go_enter Try.func69, Try.ntmps69
    go_wp2
    go_loop [5] (fun u => AboveRel a b u) (fun u => (intOf u + 1).toNat)
    case atStart => exact ⟨_, by omega, rfl, by omega, fun j hj => HP.out j (by omega)⟩
    case round =>
      obtain ⟨k, hk1, rfl, hk2, hall⟩ := hrel
      have HALL := Lib.hid hall
      clear hall
      by_cases h0 : k < 0
      · have hz := F0.out (fun j => HALL.out j (by omega))
        have HZ := Lib.hid hz
        clear hz
        go_wp2
        go_ret
        exact ⟨ret_int HZ.out.symm, rfl⟩
      · obtain ⟨n, rfl⟩ := Int.eq_ofNat_of_zero_le (show 0 ≤ k by omega)
        have ca := limb_nat x cx a n w HX.out (by omega)
        have cb := limb_nat y cy b n w HY.out (by omega)
        have g1 := F1.out n (fun j hj => HALL.out j (by omega))
        have g2 := F2.out n (fun j hj => HALL.out j (by omega))
        have fin : a.getD n 0 = b.getD n 0 → AboveRel a b (.int .i64 ((n : Int) - 1)) := fun he => ⟨_, by omega, rfl, by omega, fun j hj => by
          by_cases e : j = n
          · rw [e]; exact he
          · exact HALL.out j (by omega)⟩
        generalize a.getD n 0 = u at *
        generalize b.getD n 0 = v at *
        have Fin := Lib.hid fin
        have G1 := Lib.hid g1
        have G2 := Lib.hid g2
        have Ca := Lib.hid ca
        have Cb := Lib.hid cb
        clear fin g1 g2 ca cb
        have h3 : v < u ∨ u < v ∨ u = v := by omega
        rcases h3 with h3 | h3 | rfl
        · go_wp2_with (first | (go_at_call_of 85 (Value.slice x a.length cx); refine Ca.out.mono ?_; rintro e w1 ⟨rfl, rfl⟩) | (go_at_call_of 85 (Value.slice y b.length cy); refine Cb.out.mono ?_; rintro e w1 ⟨rfl, rfl⟩))
          go_ret
          exact ⟨ret_int (G1.out h3).symm, rfl⟩
        · have h4 : decide (v < u) = false := by rw [decide_eq_false_iff_not]; omega
          have h5 : decide (u < v) = true := by rw [decide_eq_true_eq]; omega
          have h6 := G2.out h3
          have H6 := Lib.hid h6
          clear h3 h6
          go_wp2_with (first | (go_at_call_of 85 (Value.slice x a.length cx); refine Ca.out.mono ?_; rintro e w1 ⟨rfl, rfl⟩) | (go_at_call_of 85 (Value.slice y b.length cy); refine Cb.out.mono ?_; rintro e w1 ⟨rfl, rfl⟩))
          go_ret
          exact ⟨ret_int H6.out.symm, rfl⟩
        · go_wp2_with (first | (go_at_call_of 85 (Value.slice x a.length cx); refine Ca.out.mono ?_; rintro e w1 ⟨rfl, rfl⟩) | (go_at_call_of 85 (Value.slice y b.length cy); refine Cb.out.mono ?_; rintro e w1 ⟨rfl, rfl⟩))
          go_round
          case rel => exact Fin.out trivial
          case measure => simp [intOf]
theorem NumAt.setCell {w : World} {v : Value} {z : Int} (h : NumAt w v z) {p : Addr} {u : Value} (hp : w.cell? p = some u) (hu : ∀ z, u ≠ .int .i64 z) (x : Value) : NumAt (w.setCell p x) v z := by
  obtain ⟨neg, l, d, e, ⟨a, cap, e2, hr, h1⟩, h2⟩ := h
  exact ⟨neg, l, d, e, ⟨a, cap, e2, hr.setCell hp hu x, h1⟩, h2⟩
/-- a number is stored into the two cells that were laid for it -/
theorem num_stored {w w2 : World} {v : Value} {z : Int} {x y p q : Value} (hb : Below w.heap.size w w2) (hn : NumAt w2 v z) (b1 : w2.cell? ⟨w.heap.size, 0, none⟩ = some x) (b2 : w2.cell? ⟨w.heap.size, 1, none⟩ = some y) (hx : ∀ z, x ≠ .int .i64 z) (hy : ∀ z, y ≠ .int .i64 z) :
    NumOut z w (.returned v) ((w2.setCell ⟨w.heap.size, 0, none⟩ p).setCell ⟨w.heap.size, 1, none⟩ q) :=
  ⟨v, rfl, (hn.setCell b1 hx p).setCell ((World.cell?_setCell_other _ _ _ _ (by simp)).trans b2) hy q, (hb.setCell (Nat.le_refl _) _).setCell (Nat.le_refl _) _⟩
def WholeRel (v : Int) (w : World) (u o i : Value) (wr : World) : Prop := ∃ (k : Nat) (q : List Int) (r : Int), k ≤ 4 ∧ i = .int .i64 k ∧ u = .int .u64 r ∧ 0 ≤ r ∧ r < pw (4 - k) ∧ q.length = k ∧ Dig q ∧ pv q k + r * pw k = v ∧
  wr.ownsRow w.heap.size 3 1 o k (q.map (Value.int .i64)) ∧ Below w.heap.size w wr
set_option maxHeartbeats 1000000 in
theorem whole_any (v : Int) (w : World) (hv : 0 ≤ v ∧ v ≤ 18446744073709551615) :
    Calls Try.prog 65 #[.int .u64 v] w fun e w' => NumOut v w e w' := by
  go_enter Try.func65, Try.ntmps65
  go_wp2
  generalize hW : w.alloc (Obj.cells #[Value.bool false, Value.slice none 0 0] 65) = W
  have hsz : W.heap.size = w.heap.size + 1 := by rw [← hW]; simp
  rw [← hsz]
  have HW := Lib.hid hW
  have HS := Lib.hid hsz
  clear hW hsz
  go_loopw [0, 3, 4] (fun u o i wr => WholeRel v W u o i wr) (fun _ _ i _ => 4 - (intOf i).toNat)
  case atStart => exact ⟨0, [], v, by omega, rfl, rfl, hv.1, by simp only [pw]; omega, rfl, dig_nil, by simp only [pv, pw]; omega, World.ownsRow_made _ #[] 0 (Nat.le_refl _) (by unfold maxLen; omega) rfl, (Below.refl _ _).alloc (Nat.le_refl _) _⟩
  case round =>
    obtain ⟨k, q, r, hk, rfl, rfl, hr0, hr1, hql, hqd, hqv, hown, hbel⟩ := hrel
    obtain ⟨i0, hi, hz0, hz1, hz2⟩ := info_parts info_int
    have hc1 : k + 1 ≤ maxLen := by unfold maxLen; omega
    have hc2 : (k + 1) * 8 ≤ 140737488355328 := by omega
    have hrb : r ≤ 18446744073709551615 := by
      have := pw_le (4 - k) 4 (by omega)
      have e4 : pw 4 = 18446744073709551616 := by decide
      omega
    by_cases hlt : k < 4
    · have fin : ∀ o' w', w'.ownsRow W.heap.size 3 1 o' (k + 1) (q.map (Value.int .i64) ++ [.int .i64 (r % 65536)]) → Below W.heap.size W w' → WholeRel v W (.int .u64 (r / 65536)) o' (.int .i64 ((k : Int) + 1)) w' := fun o' w' h1 h2 => by
        refine ⟨k + 1, q ++ [r % 65536], _, by omega, rfl, rfl, by omega, ?_, by simp [hql], dig_snoc q _ hqd (by omega), ?_, by rw [List.map_append]; exact h1, h2⟩
        · rw [show 4 - k = (4 - (k + 1)) + 1 from by omega, pw_succ] at hr1
          omega
        · have hs := plus_step (pv q k) v 0 (pw k) r r (by omega) 0 0 (by omega)
          rw [← hql, pv_snoc_top, hql, pw_succ]
          have e3 := Int.mul_ediv_add_emod r 65536
          have e4 : r * pw k = (65536 * (r / 65536)) * pw k + r % 65536 * pw k := by rw [← Int.add_mul, e3]
          have e5 : r / 65536 * (pw k * 65536) = (65536 * (r / 65536)) * pw k := by rw [Int.mul_comm (pw k) 65536, ← Int.mul_assoc, Int.mul_comm (r / 65536) 65536]
          omega
      have Fin := Lib.hid fin
      have Hown := Lib.hid hown
      have Hbel := Lib.hid hbel
      have Hc1 := Lib.hid hc1
      have Hc2 := Lib.hid hc2
      obtain ⟨K, hK⟩ : ∃ K : Int, (k : Int) = K := ⟨_, rfl⟩
      have HK := Lib.hid hK
      have hK0 : 0 ≤ K := by omega
      have hK4 : K < 4 := by omega
      have HL := Lib.hid hlt
      rw [hK]
      rw [hK] at Fin
      clear fin hown hbel hqv hqd hql hr1 hc1 hc2 hlt hk hK
      go_wp2_with (at_builtin; refine wpList_append1 rfl _ _ 63 rfl W 3 i0 (.int .i64 0) 8 Try.underlying63 hi hz0 hz1 hz2 rfl _ _ _ _ rfl Hown.out (.int .i64 (r % 65536)) rfl rfl Hc1.out Hc2.out Hbel.out ?_)
      intro v' w1 hown' hbel'
      have Hown' := Lib.hid hown'
      have Hbel' := Lib.hid hbel'
      clear hown' hbel'
      go_wp2
      go_roundw
      case rel => exact Fin.out _ _ Hown'.out Hbel'.out
      case measure => have hk := HK.out; have hl := HL.out; simp only [intOf]; omega
    · obtain rfl : k = 4 := by omega
      have hr : r = 0 := by simp only [pw, Nat.sub_self] at hr1; omega
      obtain ⟨oa, ocap, rfl, hqn, h1, h2, h3, hrow⟩ := IntRow.own hown
      have hnv : nv q = v := by unfold nv; rw [hqn, ← hqv, hr]; omega
      have cm := made_any false oa ocap q wr hrow hqd (by omega) h2 h3
      rw [hnv, hqn] at cm
      have hsv : sg v false = v := rfl
      rw [hsv] at cm
      have Cm := Lib.hid cm
      have Hbel := Lib.hid hbel
      clear cm hnv hrow hown hqv hqd hql h3 hr hr1 hsv hbel
      go_wp2_with fail
      refine Cm.out.mono ?_
      rintro e w2 ⟨v', rfl, hnum, hbel2⟩
      have hB := Hbel.out.trans (hbel2.mono Hbel.out.size)
      have Hnum := Lib.hid hnum
      obtain ⟨neg, l, d, rfl, hlimbs, _⟩ := hnum
      obtain ⟨la, lcap, rfl, _⟩ := hlimbs
      have HB := Lib.hid hB
      rw [← HW.out] at hB
      obtain ⟨b1, b2, b3, b4, b5⟩ := box2 hB
      have HU := Lib.hid (Below.unalloc hB)
      clear hB hbel2
      obtain ⟨r1, r2⟩ := box2_stored b1 b2 (.bool neg) (.slice la d.length lcap)
      go_wp2
      refine bodyPost_ret (v := .agg #[.bool neg, .slice la d.length lcap]) (by simp [results, Try.results65, go_sem, r1, r2]) rfl ?_
      exact num_stored HU.out Hnum.out b1 b2 (by simp) (by simp)
end Go.Proofs.Ytpmoidpncpfnlaa
