/- noonmarkref01: Mul: for all numbers that lie in memory. -/
import Derived.Test.YtldgdedfioigiaaLimF
import Derived.Laws.MakeOwn
namespace Go.Proofs.Ytldgdedfioigiaa
open Go.RowKit
set_option linter.unusedVariables false

theorem pw_add (i : Nat) : ∀ j, pw (i + j) = pw i * pw j
  | 0 => by simp [pw]
  | j + 1 => by show pw (i + j) * 65536 = pw i * (pw j * 65536); rw [pw_add i j, Int.mul_assoc]
theorem lgetD_set (d : List Int) (j : Nat) (v : Int) (i : Nat) (hj : j < d.length) : (d.set j v).getD i 0 = if i = j then v else d.getD i 0 := by
  rw [List.getD_eq_getElem?_getD, List.getElem?_set]
  by_cases h : j = i
  · subst h; simp [hj]
  · rw [if_neg h, if_neg (fun e => h e.symm), List.getD_eq_getElem?_getD]
theorem dig_set (d : List Int) (j : Nat) (v : Int) (hd : Dig d) (hj : j < d.length) (hv : 0 ≤ v ∧ v ≤ 65535) : Dig (d.set j v) := fun i => by
  rw [lgetD_set d j v i hj]; split
  · exact hv
  · exact hd i
theorem pv_set (d : List Int) (j : Nat) (v : Int) (hj : j < d.length) : ∀ n, pv (d.set j v) n = pv d n + if j < n then (v - d.getD j 0) * pw j else 0
  | 0 => by simp [pv]
  | n + 1 => by
    rw [pv_succ, pv_succ, pv_set d j v hj n]
    by_cases h : j < n
    · have e1 : (d.set j v).getD n 0 = d.getD n 0 := by rw [lgetD_set d j v n hj, if_neg (by omega)]
      have e2 : j < n + 1 := by omega
      rw [if_pos h, if_pos e2, e1]; omega
    · rw [if_neg h]
      by_cases e : j = n
      · subst e
        have e1 : (d.set j v).getD j 0 = v := by rw [lgetD_set d j v j hj, if_pos rfl]
        have e2 : j < j + 1 := by omega
        rw [if_pos e2, e1, Int.sub_mul]; omega
      · have e1 : (d.set j v).getD n 0 = d.getD n 0 := by rw [lgetD_set d j v n hj, if_neg (by omega)]
        have e2 : ¬ j < n + 1 := by omega
        rw [if_neg e2, e1]; omega
theorem pv_zeros (n : Nat) : ∀ k, pv (List.replicate n 0) k = 0
  | 0 => rfl
  | k + 1 => by
    rw [pv_succ, pv_zeros n k, List.getD_eq_getElem?_getD, List.getElem?_replicate]
    split <;> simp
theorem dig_zeros (n : Nat) : Dig (List.replicate n 0) := fun j => by
  rw [List.getD_eq_getElem?_getD, List.getElem?_replicate]
  split <;> simp
/-- one limb of a product -/
theorem mul_step (P V x u B W s o I J : Int) (h : P + s * W = V + x * B * I) (hW : W = I * J) (t : Int) (ht : t = s + (o + x * u)) :
    (P + (t % 65536 - o) * W) + t / 65536 * (W * 65536) = V + x * (B + u * J) * I := by
  have e := Int.mul_ediv_add_emod t 65536
  have e1 : t / 65536 * (W * 65536) = 65536 * (t / 65536) * W := by rw [Int.mul_comm W 65536, ← Int.mul_assoc, Int.mul_comm (t / 65536) 65536]
  have e2 : (t % 65536 - o) * W + 65536 * (t / 65536) * W = (t - o) * W := by rw [← Int.add_mul]; congr 1; omega
  have e3 : (t - o) * W = s * W + x * u * W := by rw [ht, ← Int.add_mul]; congr 1; omega
  have e4 : x * (B + u * J) * I = x * B * I + x * u * W := by
    rw [hW, Int.mul_add, Int.add_mul, Int.mul_comm I J, ← Int.mul_assoc (x * u) J I, ← Int.mul_assoc x u J]
  rw [e1, e4]
  omega
/-- behind the last limb of the second number nothing is carried more than once -/
theorem mul_room (a b : List Int) (ha : Dig a) (hb : Dig b) (i j : Nat) (P s : Int) (hP : 0 ≤ P) (hs : 1 ≤ s) (hj : b.length ≤ j) (h : P + s * pw (i + j) = pv a i * nv b + a.getD i 0 * pv b j * pw i) : j = b.length := by
  rw [pv_past b j hj] at h
  have h1 := pv_bd a ha (i + 1)
  have h2 := nv_bd b hb
  have e : pv a i * nv b + a.getD i 0 * nv b * pw i = pv a (i + 1) * nv b := by
    rw [pv_succ, Int.add_mul, Int.mul_right_comm]
  rw [e] at h
  have h3 : pv a (i + 1) * nv b ≤ pw (i + 1) * pw b.length := by
    have h5 : pv a (i + 1) * nv b ≤ pv a (i + 1) * pw b.length := Int.mul_le_mul_of_nonneg_left (by omega) h1.1
    have h6 : pv a (i + 1) * pw b.length ≤ pw (i + 1) * pw b.length := Int.mul_le_mul_of_nonneg_right (by omega) (by have := pw_pos b.length; omega)
    omega
  have h4 : pv a (i + 1) * nv b < pw (i + 1) * pw b.length := by
    by_cases hz : nv b = 0
    · rw [hz, Int.mul_zero]; exact Int.mul_pos (pw_pos _) (pw_pos _)
    · have h5 : pv a (i + 1) * nv b < pw (i + 1) * nv b := Int.mul_lt_mul_of_pos_right h1.2 (by omega)
      have h6 : pw (i + 1) * nv b ≤ pw (i + 1) * pw b.length := Int.mul_le_mul_of_nonneg_left (by omega) (by have := pw_pos (i + 1); omega)
      omega
  rw [← pw_add] at h4
  refine Nat.le_antisymm (Nat.le_of_not_lt fun hc => ?_) hj
  have h5 := pw_le (i + 1 + b.length) (i + j) (by omega)
  have h6 := pw_pos (i + j)
  have h7 : 1 * pw (i + j) ≤ s * pw (i + j) := Int.mul_le_mul_of_nonneg_right hs (by omega)
  omega
theorem made_zeros (n : Nat) : madeCells (Value.int .i64 0).cells n = ((List.replicate n (0 : Int)).map (Value.int .i64)).toArray := by
  rw [List.map_replicate]
  apply Array.ext
  · simp [size_madeCells]
  · intro i h1 h2
    have : i % 1 = 0 := Nat.mod_one i
    simp [madeCells, Value.cells, this]
theorem info_intG : (Try.prog.info? 3).map (fun i => (i.zero, i.size, i.bytes)) = some (some (.int .i64 0), 1, 8) := by kernel_rfl
theorem makeN (n : Nat) (hn : n ≤ 100000) (W : World) : (Instr.makeSlice 48 (.int .i64 (n : Int)) (.int .i64 (n : Int))).run Try.prog W = .ok (.slice (some ⟨W.heap.size, 0, none⟩) n n) (W.alloc (.cells ((List.replicate n (0 : Int)).map (Value.int .i64)).toArray 3)) := by
  obtain ⟨i0, hi, hz0, hz1, hz2⟩ := info_parts info_intG
  have h := run_makeSlice (P := Try.prog) W 48 3 i0 (.int .i64 0) Try.underlying48 hi hz0 .i64 .i64 n n (by omega) (by omega) (by rw [hz1]; omega) (by rw [hz2]; omega) (by omega)
  rw [hz1, Nat.mul_one, Int.toNat_natCast, made_zeros] at h
  exact h
/-- where the outer loop of Mul stands -/
def MulO (neg neg2 : Bool) (x y : Value) (a b : List Int) (w : World) (i : Nat) (O : List Int) (wr : World) : Prop :=
  Hid (Kept wr w.heap.size #[.bool neg, x] 50) ∧ Hid (Kept wr (w.heap.size + 1) #[.bool neg2, y] 50) ∧ Hid (Kept wr (w.heap.size + 2) #[.bool false, .slice none 0 0] 50) ∧
  Hid (Kept wr (w.heap.size + 3) (O.map (Value.int .i64)).toArray 3) ∧ Hid (Below w.heap.size w wr) ∧ O.length = a.length + b.length + 1 ∧ Hid (Dig O)
def MulRel (neg neg2 : Bool) (x y : Value) (a b : List Int) (w : World) (i : Value) (wr : World) : Prop :=
  ∃ (k : Nat) (O : List Int), k ≤ a.length ∧ i = .int .i64 k ∧ MulO neg neg2 x y a b w k O wr ∧ Hid (pv O (a.length + b.length + 1) = pv a k * nv b)
def MulIn (neg neg2 : Bool) (x y : Value) (a b : List Int) (w : World) (i : Nat) (c k : Value) (wr : World) : Prop :=
  ∃ (j : Nat) (O : List Int) (s : Int), c = .int .i64 s ∧ k = .int .i64 j ∧ 0 ≤ s ∧ s ≤ 65535 ∧ j ≤ b.length + 1 ∧ (b.length < j → s = 0) ∧ MulO neg neg2 x y a b w i O wr ∧ Hid (pv O (a.length + b.length + 1) + s * pw (i + j) = pv a i * nv b + a.getD i 0 * pv b j * pw i)
theorem lim_at (ds : List Int) (b : Nat) (h : b < ds.length) : (ds.map (Value.int .i64)).toArray[b]? = some (.int .i64 (ds.getD b 0)) := by simp [h]
set_option maxHeartbeats 8000000 in
theorem mul_pieces (neg neg2 : Bool) (xa ya : Option Addr) (xc yc : Nat) (a b : List Int) (w : World) (hx : IntRow w xa .i64 a) (hy : IntRow w ya .i64 b) (da : Dig a) (db : Dig b) (la : a.length ≤ 200) (lb : b.length ≤ 200) :
    Calls Try.prog 40 #[.agg #[.bool neg, .slice xa a.length xc], .agg #[.bool neg2, .slice ya b.length yc]] w (NumOut (sg (nv a * nv b) (neg != neg2)) w) := by
  have HX := Lib.hid hx
  have HY := Lib.hid hy
  have DA := Lib.hid da
  have DB := Lib.hid db
  obtain ⟨N, hN⟩ : ∃ N : Nat, a.length + b.length + 1 = N := ⟨_, rfl⟩
  have hmk := fun W => makeN N (by omega) W
  obtain ⟨A, hA⟩ : ∃ A : Int, (a.length : Int) = A := ⟨_, rfl⟩
  obtain ⟨B, hB⟩ : ∃ A : Int, (b.length : Int) = A := ⟨_, rfl⟩
  obtain ⟨Ni, hNi⟩ : ∃ A : Int, (N : Int) = A := ⟨_, rfl⟩
  have hABN : A + B + 1 = Ni := by omega
  have hAb : 0 ≤ A ∧ A ≤ 200 := by omega
  have hBb : 0 ≤ B ∧ B ≤ 200 := by omega
  rw [hNi] at hmk
  have hstart : MulRel neg neg2 (.slice xa a.length xc) (.slice ya b.length yc) a b w (.int .i64 0) ((((w.alloc (.cells #[.bool neg, .slice xa a.length xc] 50)).alloc (.cells #[.bool neg2, .slice ya b.length yc] 50)).alloc (.cells #[.bool false, .slice none 0 0] 50)).alloc (.cells ((List.replicate N (0 : Int)).map (Value.int .i64)).toArray 3)) := by
    refine ⟨0, List.replicate N 0, Nat.zero_le _, rfl, ⟨Lib.hid ((((Kept.new rfl).alloc _).alloc _).alloc _), Lib.hid (((Kept.new (by simp)).alloc _).alloc _), Lib.hid ((Kept.new (by simp)).alloc _), Lib.hid (Kept.new (by simp)), Lib.hid ((((one_alloc w _).alloc (by simp) _).alloc (by simp; omega) _).alloc (by simp; omega) _), by simp; omega, Lib.hid (dig_zeros N)⟩, Lib.hid ?_⟩
    rw [pv_zeros]
    simp [pv]
  have HS := Lib.hid hstart
  have LA := Lib.hid la
  have LB := Lib.hid lb
  have HN := Lib.hid hN
  have HNI := Lib.hid hNi
  clear hx hy da db hstart hN la lb hNi
  go_enter Try.func40, Try.ntmps40
  go_wp2
  have e0 : ((List.replicate N (0 : Int)).map (Value.int .i64)).toArray = Array.replicate N (.int .i64 0) := by simp
  rw [e0] at HS
  clear hmk e0
  go_loopw [6] (fun i wr => MulRel neg neg2 (.slice xa a.length xc) (.slice ya b.length yc) a b w i wr) (fun i _ => a.length - (intOf i).toNat)
  case atStart => exact HS.out
  case round =>
    obtain ⟨k, O, hk, rfl, ⟨K0, K1, R, D, Bl, hOl, hDO⟩, hpv⟩ := hrel
    obtain ⟨Kc, hKc⟩ : ∃ K : Int, (k : Int) = K := ⟨_, rfl⟩
    have HKC := Lib.hid hKc
    rw [hKc]
    obtain ⟨p1, p2, -, -, p5⟩ := K0.out.two
    obtain ⟨q1, q2, -, -, q5⟩ := K1.out.two
    have hKc0 : 0 ≤ Kc ∧ Kc ≤ 200 := by omega
    by_cases hlt : k < a.length
    · have hd : decide (Kc < A) = true := decide_eq_true (by omega)
      have HLT := Lib.hid hlt
      have HOL := Lib.hid hOl
      have HK := Lib.hid hk
      obtain ⟨wx, hwx⟩ : ∃ x, x = wr := ⟨_, rfl⟩
      subst hwx
      have hin : MulIn neg neg2 (.slice xa a.length xc) (.slice ya b.length yc) a b w k (.int .i64 0) (.int .i64 0) wx := ⟨0, O, 0, rfl, rfl, by omega, by omega, by omega, fun _ => rfl, ⟨K0, K1, R, D, Bl, hOl, hDO⟩, Lib.hid (by rw [hpv.out]; simp [pv])⟩
      have HIN := Lib.hid hin
      clear hin hOl hk hlt hKc
      go_wp2
      go_loopw [7, 8] (fun c j wr => MulIn neg neg2 (.slice xa a.length xc) (.slice ya b.length yc) a b w k c j wr) (fun _ j _ => b.length + 2 - (intOf j).toNat)
      case atStart => exact HIN.out
      case round =>
        obtain ⟨j, O, s, rfl, rfl, hs0, hs1, hj, hjb, ⟨K0, K1, R, D, Bl, hOl, hDO⟩, hpv⟩ := hrel
        obtain ⟨J, hJ⟩ : ∃ K : Int, (j : Int) = K := ⟨_, rfl⟩
        have HJ := Lib.hid hJ
        rw [hJ]
        obtain ⟨m1, m2, -, -, m5⟩ := K0.out.two
        obtain ⟨n1, n2, -, -, n5⟩ := K1.out.two
        have hA' := HKC.out
        have hlt := HLT.out
        have hlb := LB.out
        have hla := LA.out
        have hNN := HN.out
        have hJ0 : 0 ≤ J ∧ J ≤ 201 := by omega
        by_cases hgo : j < b.length ∨ 1 ≤ s
        · have hjl : j ≤ b.length := by
            rcases hgo with h | h
            · omega
            · refine Nat.le_of_not_lt fun hc => ?_
              have := hjb hc
              omega
          have hkj : k + j < O.length := by omega
          have hcond : decide (J < B) = true ∨ (decide (J < B) = false ∧ decide (0 < s) = true) := by
            by_cases h : j < b.length
            · exact .inl (decide_eq_true (by omega))
            · exact .inr ⟨decide_eq_false (by omega), decide_eq_true (by omega)⟩
          obtain ⟨ab, ao, rfl, hax⟩ := (HX.out.below (hb := Bl.out)) k hlt
          have hxb := DA.out k
          have hub := DB.out j
          have hob := hDO.out (k + j)
          have CL : Hid (∀ n, Calls Try.prog 50 #[.slice ya b.length yc, .int .i64 J] (wr.drewN n) fun e w' => e = .returned (.int .i64 (b.getD j 0)) ∧ w' = wr.drewN n) := Lib.hid (fun n => by
            rw [← hJ]
            exact (limb_nat ya yc b j (wr.drewN n) (show IntRow (wr.drewN n) ya .i64 b from (show IntRow wr ya .i64 b from HY.out.below Bl.out)) (by omega)).mono (fun e w' ⟨h1, h2⟩ => ⟨h1, h2.symm⟩))
          obtain ⟨d1, d2⟩ := D.out.at_ (k + j)
          rw [lim_at O (k + j) hkj] at d1
          have hstep := mul_step _ _ (a.getD k 0) (b.getD j 0) _ _ _ (O.getD (k + j) 0) _ (pw j) hpv.out (pw_add k j) _ rfl
          have hxu : 0 ≤ a.getD k 0 * b.getD j 0 ∧ a.getD k 0 * b.getD j 0 ≤ 65535 * 65535 := ⟨Int.mul_nonneg hxb.1 hub.1, by
            have h1 : a.getD k 0 * b.getD j 0 ≤ a.getD k 0 * 65535 := Int.mul_le_mul_of_nonneg_left hub.2 hxb.1
            have h2 : a.getD k 0 * 65535 ≤ 65535 * 65535 := Int.mul_le_mul_of_nonneg_right hxb.2 (by omega)
            omega⟩
          obtain ⟨m, hm⟩ : ∃ m, a.getD k 0 * b.getD j 0 = m := ⟨_, rfl⟩
          obtain ⟨Y, hY⟩ : ∃ Y, O.getD (k + j) 0 + m = Y := ⟨_, rfl⟩
          obtain ⟨t, ht⟩ : ∃ t, s + Y = t := ⟨_, rfl⟩
          rw [hm] at hxu
          rw [hm, hY, ht] at hstep
          have fin : ∀ n, MulIn neg neg2 (.slice (some ⟨ab, ao, none⟩) a.length xc) (.slice ya b.length yc) a b w k (.int .i64 (t / 65536)) (.int .i64 (J + 1)) ((wr.drewN n).setCell ⟨w.heap.size + 3, k + j, none⟩ (.int .i64 (t % 65536))) := fun n => by
            refine ⟨j + 1, O.set (k + j) (t % 65536), t / 65536, rfl, by congr 1; omega, by omega, by omega, by omega, ?_, ⟨Lib.hid ((K0.out.drewN n).far (by simp) _), Lib.hid ((K1.out.drewN n).far (by simp) _), Lib.hid ((R.out.drewN n).far (by simp) _), Lib.hid ?_, Lib.hid ((below_drewN Bl.out n).setCell (by simp) _), by rw [List.length_set]; exact hOl, Lib.hid (dig_set O (k + j) _ hDO.out hkj (by omega))⟩, Lib.hid ?_⟩
            · intro hc
              have hjb2 : j = b.length := by omega
              refine Classical.byContradiction fun hne => ?_
              have hpos : 1 ≤ t / 65536 := by omega
              have h5 := mul_room a b DA.out DB.out k (j + 1) (pv O (a.length + b.length + 1) + (t % 65536 - O.getD (k + j) 0) * pw (k + j)) (t / 65536) (by
                have h6 := pv_set O (k + j) (t % 65536) hkj (a.length + b.length + 1)
                rw [if_pos (by omega)] at h6
                rw [← h6]
                exact (pv_bd _ (dig_set O (k + j) _ hDO.out hkj (by omega)) _).1) hpos (by omega) hstep
              omega
            · have q := (D.out.drewN n).set (k + j) (.int .i64 (t % 65536))
              rw [List.map_set]
              simpa using q
            · have h6 := pv_set O (k + j) (t % 65536) hkj (a.length + b.length + 1)
              rw [if_pos (by omega)] at h6
              rw [h6]
              exact hstep
          have Fin := Lib.hid fin
          obtain ⟨KJ, hKJ⟩ : ∃ q, Kc + J = q := ⟨_, rfl⟩
          have hKJt : KJ.toNat = k + j := by omega
          have hKJ0 : 0 ≤ KJ := by omega
          have hKJN : KJ < (N : Int) := by omega
          have hKct : Kc.toNat = k := by omega
          have hKcA : Kc < A := by omega
          have hKc00 : 0 ≤ Kc := by omega
          have ht0 : 0 ≤ t ∧ t ≤ 4294967295 := by omega
          have hmeas : b.length + 2 - (J + 1).toNat < b.length + 2 - J.toNat := by omega
          have HM := Lib.hid hmeas
          have hax2 := hax
          generalize a.getD k 0 = x at *
          generalize b.getD j 0 = u at *
          generalize O.getD (k + j) 0 = o at *
          have hY2 : 0 ≤ Y ∧ Y ≤ 4294967295 := by omega
          have wr1 : IntKind.i64.wrap KJ = KJ := by simp only [IntKind.wrap_i64]; omega
          have wr2 : IntKind.i64.wrap m = m := by simp only [IntKind.wrap_i64]; omega
          have wr3 : IntKind.i64.wrap Y = Y := by simp only [IntKind.wrap_i64]; omega
          have wr4 : IntKind.i64.wrap t = t := by simp only [IntKind.wrap_i64]; omega
          clear fin hstep hmeas hax2 hpv hjb hj hgo hjl hkj hA' hlt hlb hla hNN hJ hOl
          rcases hcond with c1 | ⟨c1, c2⟩
          all_goals
            go_wp2
            go_quiet ((exact Calls.quiet_of_same (CL.out _)))
            go_wp2
            go_roundw
            case rel => exact Fin.out _
            case measure => exact HM.out
        · have c1 : decide (J < B) = false := decide_eq_false (by omega)
          have c2 : decide (0 < s) = false := decide_eq_false (by omega)
          have hs : s = 0 := by omega
          have fin : MulRel neg neg2 (.slice xa a.length xc) (.slice ya b.length yc) a b w (.int .i64 (Kc + 1)) wr := by
            refine ⟨k + 1, O, by omega, by congr 1; omega, ⟨K0, K1, R, D, Bl, hOl, hDO⟩, Lib.hid ?_⟩
            have h1 := hpv.out
            rw [hs, Int.zero_mul, Int.add_zero, pv_past b j (by omega)] at h1
            rw [h1, pv_succ, Int.add_mul, Int.mul_right_comm]
          have Fin := Lib.hid fin
          have hmeas : a.length - (Kc + 1).toNat < a.length - Kc.toNat := by omega
          have HM := Lib.hid hmeas
          clear fin hmeas hs hgo hA' hlt hlb hla hNN hJ hj hjb hOl hpv
          go_wp2
          go_roundw
          case rel => exact Fin.out
          case measure => exact HM.out
    · have hd : decide (Kc < A) = false := decide_eq_false (by omega)
      obtain rfl : k = a.length := by omega
      have hnv : nv O = nv a * nv b := by
        have h1 := hpv.out
        rw [pv_past O _ (by omega)] at h1
        exact h1
      obtain ⟨gd, hgd⟩ : ∃ g, w.heap.size + 3 = g := ⟨_, rfl⟩
      have hrow : IntRow wr (some ⟨w.heap.size + 3, 0, none⟩) .i64 O := fun j hj => ⟨w.heap.size + 3, 0, rfl, by rw [(D.out.at_ (0 + j)).1, Nat.zero_add]; exact lim_at O j hj⟩
      have cm := made_any (neg != neg2) (some ⟨w.heap.size + 3, 0, none⟩) N O wr hrow hDO.out (by have := HN.out; omega) (by have := HN.out; have := LA.out; have := LB.out; omega) (by simp)
      rw [hnv, show O.length = N by have := HN.out; omega] at cm
      have Cm := Lib.hid cm
      obtain ⟨r1, r2, r3, r4, r5⟩ := R.out.two
      clear cm hrow hnv hpv hOl hk hlt hKc hgd
      go_wp2_with fail
      refine Cm.out.mono ?_
      rintro e w2 ⟨v, rfl, hn, hb2⟩
      have Hn := Lib.hid hn
      obtain ⟨ng, l', d', rfl, ⟨la', lc', rfl, -⟩, -⟩ := hn
      have R2 := Lib.hid (R.out.next hb2)
      have B2 := Lib.hid (Bl.out.trans (hb2.mono Bl.out.size))
      obtain ⟨t1, t2, t3, t4, t5⟩ := R2.out.two
      clear hb2
      go_wp2
      obtain ⟨s1, s2⟩ := R2.out.read2 (.bool ng) (.slice la' d'.length lc')
      refine bodyPost_ret (v := .agg #[.bool ng, .slice la' d'.length lc']) (by simp [results, Try.results40, go_sem, s1, s2]) rfl ?_
      exact num_stored_at B2.out Hn.out R2.out.two.1 R2.out.two.2.1 (by simp) (by simp) (by omega)
theorem num_mul (x y : Value) (a b : Int) (w : World) (hx : NumAt w x a) (hy : NumAt w y b) (ha : Hund a) (hb : Hund b) :
    Calls Try.prog 40 #[x, y] w fun e w' => NumOut (a * b) w e w' := by
  obtain ⟨na, la, da, rfl, ⟨xa, xc, rfl, hrx, hx1, hx2, hx3, hdx⟩, htx, hnx, rfl⟩ := hx
  obtain ⟨nb, lb, db, rfl, ⟨ya, yc, rfl, hry, hy1, hy2, hy3, hdy⟩, hty, hny, rfl⟩ := hy
  have l1 := hund_len hdx htx ha
  have l2 := hund_len hdy hty hb
  have h := mul_pieces na nb xa ya xc yc da db w hrx hry hdx hdy (by omega) (by omega)
  rw [show sg (nv da * nv db) (na != nb) = sg (nv da) na * sg (nv db) nb by unfold sg; cases na <;> cases nb <;> simp [Int.mul_neg, Int.neg_mul]] at h
  exact h
end Go.Proofs.Ytldgdedfioigiaa
