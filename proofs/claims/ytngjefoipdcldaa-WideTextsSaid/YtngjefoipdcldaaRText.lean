/- noonmarkref02: Text: for all numbers of some limbs. -/
import Derived.Test.YtngjefoipdcldaaRefU
import Derived.Test.YtngjefoipdcldaaWideJ
import Derived.Laws.Concat
namespace Go.Proofs.Ytngjefoipdcldaa
open Go.RowKit
set_option linter.unusedVariables false

theorem str_cons (c : Int) (m : List Int) : strOfNums [c] ++ strOfNums m = strOfNums (c :: m) := by
  exact Go.ByteArray.mk_append_mk _ _
def strSz : Value → Nat
  | .string b => b.size
  | _ => 0
def RTextRel (m0 : Int) (x1 x2 y1 y2 : Value) (w : World) (g3 g5 : Nat) (s : Value) (wr : World) : Prop := ∃ (k : Nat) (r : Int) (m : List Int) (ng : Bool) (la : Option Addr) (n lc : Nat), s = .string (strOfNums m) ∧ m.length = k ∧ Hid (TextSt m0 k r m) ∧ Hid (k = 0 → m = []) ∧ Hid (NumAt wr (.agg #[.bool ng, .slice la n lc]) r) ∧
  Hid (Kept wr g5 #[.bool ng, .slice la n lc] 34) ∧ Hid (Kept wr w.heap.size #[x1, x2] 34) ∧ Hid (Kept wr g3 #[y1, y2] 34) ∧ Hid (NumAt wr (.agg #[y1, y2]) 10) ∧ Hid (Below w.heap.size w wr)
theorem num_len {w : World} {ng : Bool} {la : Option Addr} {n lc : Nat} {z : Int} (h : NumAt w (.agg #[.bool ng, .slice la n lc]) z) : (n = 0 ↔ z = 0) ∧ (ng = true ↔ z < 0) ∧ ∃ d : List Int, d.length = n ∧ Dig d ∧ Top d ∧ nv d = z.natAbs := by
  obtain ⟨neg, l, d, e, ⟨a, cap, rfl, hr, h1, h2, h3, hd⟩, ht, hn, hz⟩ := h
  injection e with e
  injection e with e
  injection e with e1 e
  injection e with e2 e
  injection e1 with e1
  injection e2 with e2 e3 e4
  subst e1 e3
  have hz0 := nv_zero d hd ht
  have hb := nv_bd d hd
  refine ⟨?_, ?_, d, rfl, hd, ht, ?_⟩
  · rw [← hz0, hz]; unfold sg; cases ng <;> simp <;> omega
  · rw [hz]; unfold sg
    cases ng
    · simp; omega
    · have : nv d ≠ 0 := fun e => hn rfl (hz0.1 e)
      simp; omega
  · rw [hz]; unfold sg; cases ng <;> simp <;> omega
theorem num_abs {w : World} {ng : Bool} {l : Value} {z : Int} (h : NumAt w (.agg #[.bool ng, l]) z) : NumAt w (.agg #[.bool false, l]) (if z < 0 then -z else z) := by
  obtain ⟨neg, l', d, e, hl, ht, hn, hz⟩ := h
  injection e with e
  injection e with e
  injection e with e1 e
  injection e with e2 e
  injection e1 with e1
  subst e1 e2
  have hd : Dig d := by obtain ⟨_, _, _, _, _, _, _, h⟩ := hl; exact h
  have hb := nv_bd d hd
  refine ⟨false, l, d, rfl, hl, ht, by simp, ?_⟩
  rw [hz]
  unfold sg
  cases ng <;> simp <;> omega
theorem set_num {w : World} {v : Value} {z : Int} {g : Nat} {a b p q : Value} {t : TypeId} (h : NumAt w v z) (hk : Kept w g #[a, b] t) (ha : ∀ z, a ≠ .int .i64 z) (hb : ∀ z, b ≠ .int .i64 z) : NumAt ((w.setCell ⟨g, 0, none⟩ p).setCell ⟨g, 1, none⟩ q) v z :=
  (h.setCell hk.two.1 ha p).setCell ((World.cell?_setCell_other _ _ _ _ (by simp)).trans hk.two.2.1) hb q
theorem one_conv (c : Int) (W : World) : (convert 59 9 (.slice (some ⟨W.heap.size, 0, none⟩) 1 1)).run Try.prog (W.alloc (.cells #[.int .u8 c] 5)) = .ok (.string (strOfNums [c])) (W.alloc (.cells #[.int .u8 c] 5)) :=
  run_convert_bytes_arg (W.alloc (.cells #[.int .u8 c] 5)) 59 5 Try.underlying59 Try.underlying5 W.heap.size 0 1 1 [c] (by simp) (fun j hj => by
    have : j = 0 := by simp at hj; omega
    subst this
    rw [World.cell?_alloc_at _ _ _ _ rfl]
    rfl) 9 Try.underlying9
set_option maxHeartbeats 16000000 in
theorem rtext_any (x : Value) (z : Int) (w : World) (hx : NumAt w x z) (hz : InW z) : Calls Try.prog 30 #[x] w (Gives (.string (strOfNums (textL z))) w) := by
  have hx' := hx
  obtain ⟨ng0, lx, dx, rfl, ⟨xa, xc, rfl, -⟩, -⟩ := hx'
  have hsign := (num_len hx).2.1
  have hab := num_abs hx
  obtain ⟨m0, hm0⟩ : ∃ m, (if z < 0 then -z else z) = m := ⟨_, rfl⟩
  rw [hm0] at hab
  have hm0b : 0 ≤ m0 ∧ m0 < 340282366920938463463374607431768211456 := by unfold InW at hz; rw [← hm0]; split <;> omega
  have htx : textL z = if z < 0 then 45 :: dec m0 else dec m0 := by
    unfold textL
    by_cases h : z < 0
    · rw [if_pos h, if_pos h, ← hm0, if_pos h]
    · rw [if_neg h, if_neg h, ← hm0, if_neg h]
  have CT := Lib.hid (fun W => of_any 10 W (by decide))
  have HAB := Lib.hid hab
  have HSG := Lib.hid hsign
  have HTX := Lib.hid htx
  have HM0 := Lib.hid hm0b
  have HMZ := Lib.hid hm0
  obtain ⟨xn, hxn⟩ : ∃ n, dx.length = n := ⟨_, rfl⟩
  rw [hxn] at HAB ⊢
  have K1 := Lib.hid (Kept.new (w := w) (cs := #[.bool ng0, .slice xa xn xc]) (t := 34) rfl)
  have B1 := Lib.hid (one_alloc w (.cells #[.bool ng0, .slice xa xn xc] 34))
  clear hx hsign hab hm0 hm0b htx hz hxn
  go_enter Try.func30, Try.ntmps30
  go_wp2_with fail
  refine (CT.out _).mono ?_
  rintro _ w1 ⟨vt, rfl, hnt, hb1⟩
  have HT := Lib.hid hnt
  obtain ⟨tg, tl, td, rfl, ⟨ta, tc, rfl, -⟩, -⟩ := hnt
  obtain ⟨tn, htn⟩ : ∃ n, td.length = n := ⟨_, rfl⟩
  rw [htn] at HT ⊢
  have K1 := Lib.hid (K1.out.next hb1)
  have B1 := Lib.hid (B1.out.trans (hb1.mono B1.out.size))
  have HAB := Lib.hid ((HAB.out.below (one_alloc w _)).below hb1)
  have h1lt : w.heap.size < w1.heap.size := K1.out.lt
  obtain ⟨a1, a2, -, -, a5⟩ := K1.out.two
  clear hb1 htn
  have hstart : RTextRel m0 (.bool ng0) (.slice xa xn xc) (.bool tg) (.slice ta tn tc) w w1.heap.size (w1.heap.size + 1) (.string ⟨#[]⟩) ((w1.alloc (.cells #[.bool tg, .slice ta tn tc] 34)).alloc (.cells #[.bool false, .slice xa xn xc] 34)) :=
    ⟨0, m0, [], false, xa, xn, xc, rfl, by simp, Lib.hid (TextSt.start HM0.out.1 HM0.out.2), Lib.hid (fun _ => rfl), Lib.hid ((HAB.out.below (one_alloc _ _)).below (one_alloc _ _)), Lib.hid (Kept.new (by simp)), Lib.hid ((K1.out.alloc _).alloc _), Lib.hid ((Kept.new rfl).alloc _), Lib.hid ((HT.out.below (one_alloc _ _)).below (one_alloc _ _)), Lib.hid ((B1.out.alloc B1.out.size _).alloc (by have := B1.out.size; simp; omega) _)⟩
  have HS := Lib.hid hstart
  clear hstart
  go_wp2
  obtain ⟨g3, hg3⟩ : ∃ g, w1.heap.size = g := ⟨_, rfl⟩
  rw [hg3] at HS h1lt
  rw [hg3]
  clear a1 a2 a5
  have HG := Lib.hid hg3
  clear hg3
  go_loopw [4] (fun s wr => RTextRel m0 (.bool ng0) (.slice xa xn xc) (.bool tg) (.slice ta tn tc) w g3 (g3 + 1) s wr) (fun s _ => 41 - strSz s)
  case atStart => exact HS.out
  case round =>
    obtain ⟨k, r, m, ng, la, n, lc, rfl, hml, ST, SK, HL, K5, K1, K3, HT, Bl⟩ := hrel
    have hkk : k ≤ 39 := by rcases ST.out with h | h <;> omega
    have hr0 : 0 ≤ r := by rcases ST.out with h | h <;> omega
    have hln := (num_len HL.out).1
    obtain ⟨k1, k2, -, -, k5⟩ := K1.out.two
    obtain ⟨p1, p2, p3, p4, p5⟩ := K5.out.two
    obtain ⟨q1, q2, -, -, q5⟩ := K3.out.two
    have hg35 : w.heap.size < g3 := h1lt
    by_cases hr : r = 0
    · have hn0 : n = 0 := hln.2 hr
      have hd : decide (0 < (n : Int)) = false := decide_eq_false (by omega)
      obtain ⟨N, hN⟩ : ∃ N : Int, (n : Int) = N := ⟨_, rfl⟩
      rw [hN] at hd
      have hcase : (m = [] ∧ Hid (textL z = [48])) ∨ ((strOfNums m).toList.isEmpty = false ∧ ng0 = true ∧ Hid (textL z = 45 :: m)) ∨ ((strOfNums m).toList.isEmpty = false ∧ ng0 = false ∧ Hid (textL z = m)) := by
        by_cases hk0 : k = 0
        · refine .inl ⟨SK.out hk0, Lib.hid ?_⟩
          have h0 : m0 = 0 := by
            rcases ST.out with ⟨_, h1, _, _, h4⟩ | ⟨_, h1, _, _⟩
            · subst hk0
              rw [SK.out rfl, hr] at h4
              have h5 := dec_facts m0 HM0.out.1 HM0.out.2
              have h6 : decF 40 0 = [48] := by decide +kernel
              rw [h6] at h4
              have : unsN (dec m0) = 0 := by rw [← h4]; decide
              omega
            · omega
          have hz0 : z = 0 := by have := HMZ.out; rw [h0] at this; split at this <;> omega
          rw [hz0]; decide +kernel
        · have hm := (ST.out.done hk0 hr).2
          have h5 := dec_facts m0 HM0.out.1 HM0.out.2
          have hne : (strOfNums m).toList.isEmpty = false := by
            rw [ByteArray.toList_eq, strOfNums_data, hm]
            have h6 := h5.2.2.1
            rcases hdd : dec m0 with _ | ⟨c, t⟩
            · rw [hdd] at h6; simp at h6
            · rfl
          cases hg : ng0
          · refine .inr (.inr ⟨hne, rfl, Lib.hid ?_⟩)
            rw [HTX.out, if_neg (fun h => by have := HSG.out.2 h; rw [hg] at this; cases this), hm]
          · refine .inr (.inl ⟨hne, rfl, Lib.hid ?_⟩)
            rw [HTX.out, if_pos (HSG.out.1 hg), hm]
      have hml2 : m.length ≤ 40 := by omega
      have hadd := fun (W : World) => run_string_add_sum (P := Try.prog) W (⟨#[45]⟩ : ByteArray) (strOfNums m) (by rw [strOfNums_size]; show 1 + m.length ≤ _; omega)
      rw [show (⟨#[45]⟩ : ByteArray) = strOfNums [45] from rfl, str_cons] at hadd
      have HADD := Lib.hid hadd
      clear hln hr hr0 hkk hn0 hml2 hadd hml
      rcases hcase with ⟨rfl, ht⟩ | ⟨hne, rfl, ht⟩ | ⟨hne, rfl, ht⟩
      · have hem : (strOfNums []).toList.isEmpty = true := by rw [ByteArray.toList_eq, strOfNums_data]; rfl
        go_wp2
        go_ret
        exact ⟨by rw [ht.out]; rfl, Bl.out⟩
      · have hadd := HADD.out
        rw [show strOfNums [45] = (⟨#[45]⟩ : ByteArray) from rfl] at hadd
        go_wp2
        go_ret
        exact ⟨by rw [ht.out]; rfl, Bl.out⟩
      · go_wp2
        go_ret
        exact ⟨by rw [ht.out]; rfl, Bl.out⟩
    · obtain ⟨hk38, hrb, hst2⟩ := ST.out.step (.inr hr)
      have hn0 : n ≠ 0 := fun e => hr (hln.1 e)
      have hd : decide (0 < (n : Int)) = true := decide_eq_true (by omega)
      obtain ⟨N, hN⟩ : ∃ N : Int, (n : Int) = N := ⟨_, rfl⟩
      rw [hN] at hd
      have CDv : Hid (∀ W u v, NumAt W u r → NumAt W v 10 → Calls Try.prog 53 #[u, v, .bool false] W (NumOut (r / 10) W)) := Lib.hid (fun W u v h1 h2 => num_div u v r 10 false W h1 h2 (hund_small (by omega)) (hund_small (by omega)) (by omega))
      have CMl : Hid (∀ W u v, NumAt W u (r / 10) → NumAt W v 10 → Calls Try.prog 19 #[u, v] W (NumOut (r / 10 * 10) W)) := Lib.hid (fun W u v h1 h2 => num_mul u v _ _ W h1 h2 (hund_small (by omega)) (hund_small (by omega)))
      have CNg : Hid (∀ W u, NumAt W u (r / 10 * 10) → Calls Try.prog 16 #[u] W (NumOut (-(r / 10 * 10)) W)) := Lib.hid (fun W u h => num_neg u _ W h)
      have CAd : Hid (∀ W u v, NumAt W u r → NumAt W v (-(r / 10 * 10)) → Calls Try.prog 15 #[u, v] W (NumOut (r % 10) W)) := Lib.hid (fun W u v h1 h2 => by
        have h := num_add u v _ _ W h1 h2 (hund_small (by omega)) (hund_small (by omega))
        rw [show r + -(r / 10 * 10) = r % 10 by omega] at h
        exact h)
      obtain ⟨D, hD⟩ : ∃ D, r % 10 = D := ⟨_, rfl⟩
      have hDb : 0 ≤ D ∧ D ≤ 9 := by omega
      have hDI : InI D := by unfold InI; omega
      rw [hD] at CAd hst2
      have CLg : Hid (∀ v W, NumAt W v D → Calls Try.prog 12 #[v] W (Gives (.tuple #[.int .i64 D, .bool true]) W)) := Lib.hid (fun v W h => (long_any v D W h).mono (fun e w' ⟨⟨u, h1, h2⟩, h3⟩ => ⟨by rw [h1, h2 hDI, decide_eq_true hDI], h3⟩))
      have hcv := one_conv (48 + D)
      have hw8 : IntKind.u8.wrap (48 + D) = 48 + D := by rw [IntKind.wrap_u8]; omega
      have hadd := fun (W : World) => run_string_add_sum (P := Try.prog) W (strOfNums [48 + D]) (strOfNums m) (by rw [strOfNums_size, strOfNums_size]; simp; omega)
      rw [str_cons] at hadd
      have HST2 := Lib.hid hst2
      have HML := Lib.hid hml
      have HK38 := Lib.hid hk38
      obtain ⟨rq, hrq⟩ : ∃ q, r / 10 = q := ⟨_, rfl⟩
      rw [hrq] at CDv CMl HST2 CNg CAd
      have HRQ := Lib.hid hrq
      clear hst2 hml hk38 hn0 hln hr hr0 hkk hrb hD hDI hrq
      go_wp2_with fail
      refine (CDv.out _ _ _ HL.out HT.out).mono ?_
      rintro _ w4 ⟨vq, rfl, hnq, hb4⟩
      have HQ := Lib.hid hnq
      obtain ⟨qg, ql, qd, rfl, ⟨qa, qc, rfl, -⟩, -⟩ := hnq
      obtain ⟨qn, hqn⟩ : ∃ n, qd.length = n := ⟨_, rfl⟩
      rw [hqn] at HQ ⊢
      clear hqn k1 k2 k5 p1 p2 p3 p4 p5 q1 q2 q5
      have h4 : g3 + 1 < w4.heap.size := (K5.out.next hb4).lt
      have K1 := Lib.hid ((K1.out.next hb4).alloc (.cells #[.bool qg, .slice qa qn qc] 34))
      have K3 := Lib.hid ((K3.out.next hb4).alloc (.cells #[.bool qg, .slice qa qn qc] 34))
      have K5 := Lib.hid ((K5.out.next hb4).alloc (.cells #[.bool qg, .slice qa qn qc] 34))
      have K6 := Lib.hid (Kept.new (w := w4) (cs := #[.bool qg, .slice qa qn qc]) (t := 34) (g := w4.heap.size) rfl)
      have HL := Lib.hid ((HL.out.below hb4).below (one_alloc w4 (.cells #[.bool qg, .slice qa qn qc] 34)))
      have HT := Lib.hid ((HT.out.below hb4).below (one_alloc w4 (.cells #[.bool qg, .slice qa qn qc] 34)))
      have HQ := Lib.hid (HQ.out.below (one_alloc w4 (.cells #[.bool qg, .slice qa qn qc] 34)))
      have Bl := Lib.hid (Bl.out.trans ((hb4.trans ((one_alloc w4 (.cells #[.bool qg, .slice qa qn qc] 34)).mono hb4.size)).mono Bl.out.size))
      clear hb4
      go_wp2
      obtain ⟨V, hV⟩ : ∃ V, w4.alloc (.cells #[.bool qg, .slice qa qn qc] 34) = V := ⟨_, rfl⟩
      rw [hV] at K1 K3 K5 K6 HL HT HQ Bl ⊢
      clear hV
      have K1 : Hid (Kept V.drew w.heap.size #[.bool ng0, .slice xa xn xc] 34) := Lib.hid (show Kept V _ _ _ from K1.out)
      have K3 : Hid (Kept V.drew g3 #[.bool tg, .slice ta tn tc] 34) := Lib.hid (show Kept V _ _ _ from K3.out)
      have K5 : Hid (Kept V.drew (g3 + 1) #[.bool ng, .slice la n lc] 34) := Lib.hid (show Kept V _ _ _ from K5.out)
      have K6 : Hid (Kept V.drew w4.heap.size #[.bool qg, .slice qa qn qc] 34) := Lib.hid (show Kept V _ _ _ from K6.out)
      have HL : Hid (NumAt V.drew (.agg #[.bool ng, .slice la n lc]) r) := Lib.hid (show NumAt V _ _ from HL.out)
      have HT : Hid (NumAt V.drew (.agg #[.bool tg, .slice ta tn tc]) 10) := Lib.hid (show NumAt V _ _ from HT.out)
      have HQ : Hid (NumAt V.drew (.agg #[.bool qg, .slice qa qn qc]) rq) := Lib.hid (show NumAt V _ _ from HQ.out)
      have Bl : Hid (Below w.heap.size w V.drew) := Lib.hid (below_drewN Bl.out 1)
      have SS : Hid (Below w.heap.size w V.drew) ∧ V.drew.cell? ⟨g3, 0, none⟩ = some (.bool tg) ∧ V.drew.cell? ⟨g3, 1, none⟩ = some (.slice ta tn tc) ∧ V.drew.cell? ⟨g3 + 1, 0, none⟩ = some (.bool ng) ∧ V.drew.cell? ⟨g3 + 1, 1, none⟩ = some (.slice la n lc) ∧ V.drew.cell? ⟨w4.heap.size, 0, none⟩ = some (.bool qg) ∧ V.drew.cell? ⟨w4.heap.size, 1, none⟩ = some (.slice qa qn qc) := ⟨Bl, K3.out.two.1, K3.out.two.2.1, K5.out.two.1, K5.out.two.2.1, K6.out.two.1, K6.out.two.2.1⟩
      obtain ⟨q0, q1, q2, q3, q4, q5, q6⟩ := SS
      have SH := Lib.hid (show Hid (Below w.heap.size w V.drew) ∧ _ ∧ _ ∧ _ ∧ _ ∧ _ ∧ _ from ⟨q0, q1, q2, q3, q4, q5, q6⟩)
      have SS := SH.out
      go_region_held3 (fun w' => Hid (Below w.heap.size w w') ∧ w'.cell? ⟨g3, 0, none⟩ = some (.bool tg) ∧ w'.cell? ⟨g3, 1, none⟩ = some (.slice ta tn tc) ∧ w'.cell? ⟨g3 + 1, 0, none⟩ = some (.bool ng) ∧ w'.cell? ⟨g3 + 1, 1, none⟩ = some (.slice la n lc) ∧ w'.cell? ⟨w4.heap.size, 0, none⟩ = some (.bool qg) ∧ w'.cell? ⟨w4.heap.size, 1, none⟩ = some (.slice qa qn qc))
        (first | exact SS | go_keep)
        (first | (go_at_call 19; refine (CMl.out _ _ _ HQ.out HT.out).mono ?_; rintro _ w21 ⟨vM, rfl, hnM, hb21⟩; have SS := keepB6 (a := w) hb21 SS; have HL := Lib.hid (NumAt.below HL.out hb21); have HT := Lib.hid (NumAt.below HT.out hb21); have HQ := Lib.hid (NumAt.below HQ.out hb21); have K1 := Lib.hid (Kept.next K1.out hb21); have K3 := Lib.hid (Kept.next K3.out hb21); have K5 := Lib.hid (Kept.next K5.out hb21); have K6 := Lib.hid (Kept.next K6.out hb21); (try have hnN := NumAt.below hnN hb21); (try have hnA := NumAt.below hnA hb21)) | (go_at_call 16; refine (CNg.out _ vM hnM).mono ?_; rintro _ w22 ⟨vN, rfl, hnN, hb22⟩; have SS := keepB6 (a := w) hb22 SS; have HL := Lib.hid (NumAt.below HL.out hb22); have HT := Lib.hid (NumAt.below HT.out hb22); have HQ := Lib.hid (NumAt.below HQ.out hb22); have K1 := Lib.hid (Kept.next K1.out hb22); have K3 := Lib.hid (Kept.next K3.out hb22); have K5 := Lib.hid (Kept.next K5.out hb22); have K6 := Lib.hid (Kept.next K6.out hb22); (try have hnM := NumAt.below hnM hb22); (try have hnA := NumAt.below hnA hb22)) | (go_at_call 15; refine (CAd.out _ _ vN HL.out hnN).mono ?_; rintro _ w23 ⟨vA, rfl, hnA, hb23⟩; have SS := keepB6 (a := w) hb23 SS; have HL := Lib.hid (NumAt.below HL.out hb23); have HT := Lib.hid (NumAt.below HT.out hb23); have HQ := Lib.hid (NumAt.below HQ.out hb23); have K1 := Lib.hid (Kept.next K1.out hb23); have K3 := Lib.hid (Kept.next K3.out hb23); have K5 := Lib.hid (Kept.next K5.out hb23); have K6 := Lib.hid (Kept.next K6.out hb23); (try have hnM := NumAt.below hnM hb23); (try have hnN := NumAt.below hnN hb23)) | (go_at_call 12; refine (CLg.out vA _ hnA).mono ?_; rintro _ w24 ⟨rfl, hb24⟩; have SS := keepB6 (a := w) hb24 SS; have HL := Lib.hid (NumAt.below HL.out hb24); have HT := Lib.hid (NumAt.below HT.out hb24); have HQ := Lib.hid (NumAt.below HQ.out hb24); have K1 := Lib.hid (Kept.next K1.out hb24); have K3 := Lib.hid (Kept.next K3.out hb24); have K5 := Lib.hid (Kept.next K5.out hb24); have K6 := Lib.hid (Kept.next K6.out hb24); (try have hnM := NumAt.below hnM hb24); (try have hnN := NumAt.below hnN hb24); (try have hnA := NumAt.below hnA hb24)))
      all_goals
        have K5a := Lib.hid (K5.out.alloc (.cells #[.int .u8 (48 + D)] 5))
        have K6a := Lib.hid (K6.out.alloc (.cells #[.int .u8 (48 + D)] 5))
        have K1a := Lib.hid (K1.out.alloc (.cells #[.int .u8 (48 + D)] 5))
        have K3a := Lib.hid (K3.out.alloc (.cells #[.int .u8 (48 + D)] 5))
        have HQa := Lib.hid (HQ.out.below (one_alloc _ (.cells #[.int .u8 (48 + D)] 5)))
        have HTa := Lib.hid (HT.out.below (one_alloc _ (.cells #[.int .u8 (48 + D)] 5)))
        have Ba := Lib.hid (SS.1.out.alloc SS.1.out.size (.cells #[.int .u8 (48 + D)] 5))
        obtain ⟨p1, p2, p3, p4, p5⟩ := K5a.out.two
        obtain ⟨r1, r2, -, -, r5⟩ := K6a.out.two
        have fin := (⟨k + 1, rq, (48 + D) :: m, qg, qa, qn, qc, rfl, by have := HML.out; simp; omega, Lib.hid HST2.out, Lib.hid (fun e => by omega), Lib.hid (set_num HQa.out K5a.out (p := .bool qg) (q := .slice qa qn qc) (by simp) (by simp)), Lib.hid (K5a.out.set2 (.bool qg) (.slice qa qn qc)), Lib.hid ((K1a.out.far (p := ⟨g3 + 1, 0, none⟩) (by simp; omega) (.bool qg)).far (p := ⟨g3 + 1, 1, none⟩) (by simp; omega) (.slice qa qn qc)), Lib.hid ((K3a.out.far (p := ⟨g3 + 1, 0, none⟩) (by simp) (.bool qg)).far (p := ⟨g3 + 1, 1, none⟩) (by simp) (.slice qa qn qc)), Lib.hid (set_num HTa.out K5a.out (p := .bool qg) (q := .slice qa qn qc) (by simp) (by simp)), Lib.hid (bset2 Ba.out (g := g3 + 1) (by omega) (.bool qg) (.slice qa qn qc))⟩ : RTextRel m0 (.bool ng0) (.slice xa xn xc) (.bool tg) (.slice ta tn tc) w g3 (g3 + 1) (.string (strOfNums ((48 + D) :: m))) _)
        have Fin := Lib.hid fin
        clear fin SS
        go_wp2
        go_roundw
        case rel => exact Fin.out
        case measure => have h1 := HML.out; have h2 := HK38.out; simp only [strSz, strOfNums_size, List.length_cons]; omega
end Go.Proofs.Ytngjefoipdcldaa
