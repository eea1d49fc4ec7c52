/- noonmarkref01: made, plus: for all limbs that lie in memory. -/
import Derived.Test.YtpmoidpncpfnlaaLimA
namespace Go.Proofs.Ytpmoidpncpfnlaa
open Go.RowKit
set_option linter.unusedVariables false

/-- a slice of limbs, as it lies in memory -/
def Limbs (w : World) (v : Value) (d : List Int) : Prop :=
  ∃ a cap, v = .slice a d.length cap ∧ IntRow w a .i64 d ∧ d.length ≤ cap ∧ cap ≤ 9223372036854775807 ∧ (a = none → cap = 0) ∧ Dig d
theorem Limbs.below {w w' : World} {v : Value} {d : List Int} (h : Limbs w v d) (hb : Below w.heap.size w w') : Limbs w' v d := by
  obtain ⟨a, cap, e, hr, h1, h2, h3, h4⟩ := h
  exact ⟨a, cap, e, hr.below hb, h1, h2, h3, h4⟩
/-- a number, as it lies in memory -/
def NumAt (w : World) (v : Value) (z : Int) : Prop := ∃ neg l d, v = .agg #[.bool neg, l] ∧ Limbs w l d ∧ Top d ∧ (neg = true → d.length ≠ 0) ∧ z = sg (nv d) neg
theorem NumAt.below {w w' : World} {v : Value} {z : Int} (h : NumAt w v z) (hb : Below w.heap.size w w') : NumAt w' v z := by
  obtain ⟨neg, l, d, e, hl, h1, h2, h3⟩ := h
  exact ⟨neg, l, d, e, hl.below hb, h1, h2, h3⟩
/-- what a call that answers a number leaves -/
def NumOut (z : Int) (w : World) (e : Ending) (w' : World) : Prop := ∃ v, e = .returned v ∧ NumAt w' v z ∧ Below w.heap.size w w'
/-- what a call that answers limbs leaves -/
def LimbsOut (z : Int) (w : World) (e : Ending) (w' : World) : Prop := ∃ v d, e = .returned v ∧ Limbs w' v d ∧ Top d ∧ nv d = z ∧ Below w.heap.size w w'
theorem sg_zero (neg : Bool) : sg 0 neg = 0 := by unfold sg; cases neg <;> rfl
theorem trim_made {a : Option Addr} {cap n : Nat} {d : List Int} {w : World} (hr : IntRow w a .i64 d) (hd : Dig d) (hl : d.length ≤ cap) (hc : cap ≤ 9223372036854775807) (ha : a = none → cap = 0)
    (hn : n ≤ d.length) (hz : ∀ j, n ≤ j → d.getD j 0 = 0) (ht : n = 0 ∨ d.getD (n - 1) 0 ≠ 0) (neg : Bool) : NumAt w (.agg #[.bool (neg && decide (0 < n)), .slice a n cap]) (sg (nv d) neg) := by
  have hlen : (d.take n).length = n := by rw [List.length_take]; omega
  refine ⟨_, _, d.take n, rfl, ⟨a, cap, by rw [hlen], hr.take n, by omega, hc, ha, dig_take d n hd⟩, top_take d n hn ht, ?_, ?_⟩
  · intro h
    simp at h
    omega
  · rw [nv_take d n hn hz]
    by_cases h : 0 < n
    · rw [decide_eq_true h, Bool.and_true]
    · have e0 : nv d = 0 := by rw [← nv_take d n hn hz]; unfold nv; rw [hlen, show n = 0 by omega]; rfl
      rw [e0, sg_zero, sg_zero]
set_option maxHeartbeats 400000 in
theorem made_any (neg : Bool) (a : Option Addr) (cap : Nat) (d : List Int) (w : World) (hr : IntRow w a .i64 d) (hd : Dig d) (hl : d.length ≤ cap) (hc : cap ≤ 9223372036854775807) (ha : a = none → cap = 0) :
    Calls Try.prog 66 #[.bool neg, .slice a d.length cap] w fun e w' => NumOut (sg (nv d) neg) w e w' := by
  have ct := fun w => fun hr => trim_any a cap d w hr hl hc ha
  have Ct := Lib.hid ct
  have HR := Lib.hid hr
  have fin : ∀ n w', n ≤ d.length → (∀ j, n ≤ j → d.getD j 0 = 0) → (n = 0 ∨ d.getD (n - 1) 0 ≠ 0) → Below w.heap.size w w' → NumOut (sg (nv d) neg) w (.returned (.agg #[.bool (neg && decide (0 < n)), .slice a n cap])) w' :=
    fun n w' h1 h2 h3 hb => ⟨_, rfl, (trim_made hr hd hl hc ha h1 h2 h3 neg).below hb, hb⟩
  have Fin := Lib.hid fin
  clear ct hr fin ha
  cases neg
  all_goals
    simp only [Bool.false_and, Bool.true_and] at Fin
    go_enter Try.func66, Try.ntmps66
    go_wp2_with fail
    refine (Ct.out _ (HR.out.alloc _)).mono ?_
    rintro e w1 ⟨n, hn, rfl, h1, h2, rfl⟩
    have H1 := Lib.hid h1
    have H2 := Lib.hid h2
    clear h1 h2
    go_wp2
    go_returns
    exact Fin.out _ _ hn H1.out H2.out (((Below.refl _ _).alloc (Nat.le_refl _) _))
theorem info_int : (Try.prog.info? 3).map (fun i => (i.zero, i.size, i.bytes)) = some (some (.int .i64 0), 1, 8) := by kernel_rfl
theorem limb_nat (a : Option Addr) (cap : Nat) (d : List Int) (i : Nat) (w : World) (hr : IntRow w a .i64 d) (hl : d.length ≤ 9223372036854775807) :
    Calls Try.prog 85 #[.slice a d.length cap, .int .i64 (i : Int)] w fun e w' => e = .returned (.int .i64 (d.getD i 0)) ∧ w = w' := by
  have h := limb_any a cap d i w hr (by omega) hl
  rwa [Int.toNat_natCast] at h
def PlusRel (a b : List Int) (w : World) (o c i : Value) (wr : World) : Prop := ∃ (k : Nat) (q : List Int) (s : Int), k ≤ max a.length b.length + 1 ∧ i = .int .i64 k ∧ c = .int .i64 s ∧ 0 ≤ s ∧ s ≤ 131072 ∧ q.length = k ∧ Dig q ∧ pv q k + s * pw k = pv a k + pv b k ∧
  wr.ownsRow w.heap.size 3 1 o k (q.map (Value.int .i64)) ∧ Below w.heap.size w wr
set_option maxHeartbeats 1000000 in
theorem plus_any (x y : Option Addr) (cx cy : Nat) (a b : List Int) (w : World) (hx : IntRow w x .i64 a) (hy : IntRow w y .i64 b) (ha : Dig a) (hb : Dig b) (la : a.length ≤ 1000000) (lb : b.length ≤ 1000000) :
    Calls Try.prog 68 #[.slice x a.length cx, .slice y b.length cy] w fun e w' => LimbsOut (nv a + nv b) w e w' := by
  have HX := Lib.hid hx
  have HY := Lib.hid hy
  have HA := Lib.hid ha
  have HB := Lib.hid hb
  clear hx hy ha hb
  go_enter Try.func68, Try.ntmps68
  go_wp2
  go_loopw [5, 6, 7] (fun o c i wr => PlusRel a b w o c i wr) (fun _ _ i _ => max a.length b.length + 1 - (intOf i).toNat)
  case atStart => exact ⟨0, [], 0, by omega, rfl, rfl, by omega, by omega, rfl, dig_nil, rfl, World.ownsRow_made _ _ _ (Nat.le_refl _) (by unfold maxLen; omega) rfl, (Below.refl _ _).alloc (Nat.le_refl _) _⟩
  case round =>
    obtain ⟨k, q, s, hk, rfl, rfl, hs0, hs1, hql, hqd, hqv, hown, hbel⟩ := hrel
    obtain ⟨i0, hi, hz0, hz1, hz2⟩ := info_parts info_int
    have hva := HA.out k
    have hvb := HB.out k
    have ca := fun W hW => limb_nat x cx a k W hW (by omega)
    have cb := fun W hW => limb_nat y cy b k W hW (by omega)
    have hxr := HX.out.below hbel
    have hyr := HY.out.below hbel
    have ca := ca wr hxr
    have cb := cb wr hyr
    generalize hu : a.getD k 0 = u at *
    generalize hv : b.getD k 0 = v at *
    have hc1 : k + 1 ≤ maxLen := by unfold maxLen; omega
    have hc2 : (k + 1) * 8 ≤ 140737488355328 := by omega
    by_cases hlt : k ≤ max a.length b.length
    · have hstep := plus_step _ _ _ _ _ (s + (u + v)) hqv u v rfl
      have fin : ∀ o' w', w'.ownsRow w.heap.size 3 1 o' (k + 1) (q.map (Value.int .i64) ++ [.int .i64 ((s + (u + v)) % 65536)]) → Below w.heap.size w w' → PlusRel a b w o' (.int .i64 ((s + (u + v)) / 65536)) (.int .i64 ((k : Int) + 1)) w' := fun o' w' h1 h2 => by
        refine ⟨k + 1, q ++ [(s + (u + v)) % 65536], _, by omega, rfl, rfl, by omega, by omega, by simp [hql], dig_snoc q _ hqd (by omega), ?_, by rw [List.map_append]; exact h1, h2⟩
        rw [← hql, pv_snoc_top, hql, pw_succ, pv_succ, pv_succ, hu, hv]
        exact hstep
      have Fin := Lib.hid fin
      have Ca := Lib.hid ca
      have Cb := Lib.hid cb
      have Hown := Lib.hid hown
      have Hbel := Lib.hid hbel
      have LA := Lib.hid la
      have LB := Lib.hid lb
      clear la lb fin ca cb hown hbel hqv hqd hql hstep hu hv hxr hyr
      have Hc1 := Lib.hid hc1
      have Hc2 := Lib.hid hc2
      clear hc1 hc2
      have hd : (a.length < b.length ∧ decide (k ≤ b.length) = true) ∨ (¬ a.length < b.length ∧ decide (k ≤ a.length) = true) := by
        rcases Nat.lt_or_ge a.length b.length with hm | hm
        · exact .inl ⟨hm, decide_eq_true (by omega)⟩
        · exact .inr ⟨by omega, decide_eq_true (by omega)⟩
      have hkb : k ≤ 1000000 := by have := LA.out; have := LB.out; omega
      have HLT := Lib.hid hlt
      have HK := Lib.hid hk
      clear hlt hk
      rcases hd with ⟨hm, hd⟩ | ⟨hm, hd⟩
      all_goals
        go_wp2_with fail
        refine Ca.out.mono ?_
        rintro e w1 ⟨rfl, rfl⟩
        go_wp2_with fail
        refine Cb.out.mono ?_
        rintro e w1 ⟨rfl, rfl⟩
        go_wp2_with (at_builtin; refine wpList_append1 rfl _ _ 63 rfl w 3 i0 (.int .i64 0) 8 Try.underlying63 hi hz0 hz1 hz2 rfl _ _ _ _ rfl Hown.out (.int .i64 ((s + (u + v)) % 65536)) rfl rfl Hc1.out Hc2.out Hbel.out ?_)
        intro v' w1 hown' hbel'
        have Hown' := Lib.hid hown'
        have Hbel' := Lib.hid hbel'
        clear hown' hbel'
        go_wp2
        go_roundw
        case rel => exact Fin.out _ _ Hown'.out Hbel'.out
        case measure => have hmz := HLT.out; generalize max a.length b.length = M at hmz ⊢; simp only [intOf]; omega
    · obtain rfl : k = max a.length b.length + 1 := by omega
      obtain ⟨oa, ocap, rfl, hqn, h1, h2, h3, hrow⟩ := IntRow.own hown
      have hend := plus_end a b HA.out HB.out (max a.length b.length) (by omega) _ _ (pv_bd q hqd _).1 hs0 hqv
      have hnv : nv q = nv a + nv b := by rw [← hend.2, ← hql]; rfl
      have ct := trim_any oa ocap q wr hrow (by omega) h2 h3
      rw [hqn] at ct
      have fin : ∀ n w', n ≤ q.length → (∀ j, n ≤ j → q.getD j 0 = 0) → (n = 0 ∨ q.getD (n - 1) 0 ≠ 0) → wr = w' → LimbsOut (nv a + nv b) w (.returned (.slice oa n ocap)) w' := fun n w' g1 g2 g3 g4 => by
        subst g4
        have hlen : (q.take n).length = n := by rw [List.length_take]; omega
        exact ⟨_, q.take n, rfl, ⟨oa, ocap, by rw [hlen], hrow.take n, by omega, h2, h3, dig_take q n hqd⟩, top_take q n g1 g3, by rw [nv_take q n g1 g2, hnv], hbel⟩
      have Fin := Lib.hid fin
      have Ct := Lib.hid ct
      clear la lb hlt hk hc1 hc2 fin ct hend hnv hrow hown hqv hqd hql h3 hu hv hxr hyr
      have hd : (a.length < b.length ∧ decide (max a.length b.length + 1 ≤ b.length) = false) ∨ (¬ a.length < b.length ∧ decide (max a.length b.length + 1 ≤ a.length) = false) := by
        rcases Nat.lt_or_ge a.length b.length with hm | hm
        · exact .inl ⟨hm, decide_eq_false (by omega)⟩
        · exact .inr ⟨by omega, decide_eq_false (by omega)⟩
      generalize max a.length b.length + 1 = M at *
      rcases hd with ⟨hm, hd⟩ | ⟨hm, hd⟩
      all_goals
        go_wp2_with fail
        refine Ct.out.mono ?_
        rintro e w1 ⟨n, g1, rfl, g2, g3, g4⟩
        have G2 := Lib.hid g2
        have G3 := Lib.hid g3
        have G4 := Lib.hid g4
        clear g2 g3 g4
        go_wp2
        go_ret
        exact Fin.out n _ g1 G2.out G3.out G4.out
end Go.Proofs.Ytpmoidpncpfnlaa
