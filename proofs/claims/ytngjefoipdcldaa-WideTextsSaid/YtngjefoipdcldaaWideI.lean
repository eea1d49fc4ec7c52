/- wide.Text: for every input. -/
import Derived.Test.YtngjefoipdcldaaWideH
import Derived.Laws.BytesArg
namespace Go.Proofs.Ytngjefoipdcldaa
open Go.RowKit
set_option linter.unusedVariables false

/-- ten to the n-th -/
def ten : Nat → Int
  | 0 => 1
  | n + 1 => ten n * 10
theorem ten_pos : ∀ n, 0 < ten n
  | 0 => by decide
  | n + 1 => by have := ten_pos n; unfold ten; omega
/-- the decimal digits of a number below ten to the f-th, as bytes -/
def decF : Nat → Int → List Int
  | 0, _ => []
  | f + 1, z => if z < 10 then [48 + z] else decF f (z / 10) ++ [48 + z % 10]
def dec (z : Int) : List Int := decF 40 z
/-- a number's text, as bytes -/
def textL (z : Int) : List Int := if z < 0 then 45 :: dec (-z) else dec z
/-- where the loop of Text stands: k digits are laid, r is left -/
def TextSt (z : Int) (k : Nat) (r : Int) (m : List Int) : Prop :=
  (k ≤ 38 ∧ 0 ≤ r ∧ r < ten (39 - k) ∧ (k = 0 ∨ 1 ≤ r) ∧ decF (40 - k) r ++ m = dec z) ∨ (r = 0 ∧ 1 ≤ k ∧ k ≤ 39 ∧ m = dec z)
theorem TextSt.start {z : Int} (h0 : 0 ≤ z) (h : z < 340282366920938463463374607431768211456) : TextSt z 0 z [] := by
  have e : ten 39 = 1000000000000000000000000000000000000000 := by decide +kernel
  exact .inl ⟨by omega, h0, by show z < ten 39; omega, .inl rfl, by simp [dec]⟩
theorem TextSt.step {z : Int} {k : Nat} {r : Int} {m : List Int} (h : TextSt z k r m) (hg : k = 0 ∨ r ≠ 0) : k ≤ 38 ∧ (0 ≤ r ∧ r < 340282366920938463463374607431768211456 * 4) ∧ TextSt z (k + 1) (r / 10) ((48 + r % 10) :: m) := by
  rcases h with ⟨hk, h0, h1, h2, h3⟩ | ⟨rfl, h1, _, _⟩
  · have e : ten 39 = 1000000000000000000000000000000000000000 := by decide +kernel
    have hm : ∀ n, n ≤ 39 → ten n ≤ ten 39 := by
      intro n hn
      obtain ⟨d, hd⟩ : ∃ d, 39 = n + d := ⟨39 - n, by omega⟩
      rw [hd]
      clear hd hn
      induction d with
      | zero => exact Int.le_refl _
      | succ d ih => have := ten_pos (n + d); show ten n ≤ ten (n + d) * 10; omega
    have := hm (39 - k) (by omega)
    refine ⟨hk, by omega, ?_⟩
    obtain ⟨f, hf⟩ : ∃ f, 40 - k = f + 1 := ⟨39 - k, by omega⟩
    rw [hf] at h3
    unfold decF at h3
    by_cases hr : r < 10
    · rw [if_pos hr] at h3
      refine .inr ⟨by omega, by omega, by omega, ?_⟩
      rw [← h3, show r % 10 = r by omega]
      rfl
    · rw [if_neg hr] at h3
      obtain ⟨g, hg⟩ : ∃ g, 39 - k = g + 1 := ⟨38 - k, by
        have : 39 - k ≠ 0 := fun e0 => by rw [e0] at h1; unfold ten at h1; omega
        omega⟩
      have hg2 : g ≠ 0 := fun e0 => by rw [hg, e0] at h1; simp [ten] at h1; omega
      rw [hg] at h1
      unfold ten at h1
      refine .inl ⟨by omega, by omega, ?_, .inr (by omega), ?_⟩
      · rw [show 39 - (k + 1) = g by omega]; omega
      · rw [show 40 - (k + 1) = f by omega, ← h3]; simp
  · omega
theorem TextSt.done {z : Int} {k : Nat} {r : Int} {m : List Int} (h : TextSt z k r m) (hk : k ≠ 0) (hr : r = 0) : k ≤ 39 ∧ m = dec z := by
  rcases h with ⟨_, h0, h1, h2, h3⟩ | ⟨_, h1, h2, h3⟩
  · omega
  · exact ⟨h2, h3⟩
theorem set_drop (ds : List Int) (i : Nat) (v : Int) (h : i < ds.length) : (ds.set i v).drop i = v :: ds.drop (i + 1) := by
  rw [List.drop_eq_getElem_cons (by simpa using h)]
  simp [List.drop_set]
theorem wI_ne_zero {r : Int} (h0 : 0 ≤ r) (h : r < 340282366920938463463374607431768211456) : ((hiW r = 0 ∧ loW r = 0) ↔ r = 0) := by unfold hiW loW wrap64; omega
theorem dig_at (ds : List Int) (b : Nat) (h : b < ds.length) : ∃ y, (ds.map (Value.int .u8)).toArray[b]? = some (.int .u8 y) := ⟨ds[b], by simp [h]⟩
theorem info_dig : (Try.prog.info? 81).map (fun i => i.size) = some 40 := by kernel_rfl
theorem arr_len : Try.prog.arrayLen 81 = 40 := by kernel_rfl
theorem arr_elem : Try.prog.elem 81 = 5 := by kernel_rfl
theorem arr_under : Try.prog.underlying 81 = some (.array (Try.prog.arrayLen 81) (Try.prog.elem 81)) := by kernel_rfl
theorem slice_dig (g : Nat) (A : Int) (n m : Nat) (h0 : A = (n : Int)) (h1 : n + m = 40) (h2 : 0 < m) (w : World) :
    (Instr.sliceAt 81 (.pointer (some ⟨g, 0, none⟩)) (some (.int .i64 A)) none none).run Try.prog w = .ok (.slice (some ⟨g, n, none⟩) m m) w := by
  rw [run_sliceAt_array_l w 81 ⟨g, 0, none⟩ arr_under .i64 A (by omega) (by rw [arr_len]; omega), arr_elem, arr_len, Try.sizeOf5]
  subst h0
  have e1 : ((n : Int)).toNat = n := Int.toNat_natCast n
  have e2 : ¬ (40 : Nat) = n := by omega
  have e3 : (⟨g, 0, none⟩ : Addr).add (n * 1) = ⟨g, n, none⟩ := by rw [Nat.mul_one]; unfold Addr.add; split <;> simp
  show Result.ok (slicedAt _ _ _ _ _) w = _
  unfold slicedAt
  rw [e1, if_neg e2, e3, show 40 - n = m from by omega]
theorem dig_conv (g n m : Nat) (ds : List Int) (w : World) (hd : ds.length = 40) (hm : n + m = 40) (hk : Kept w g (ds.map (Value.int .u8)).toArray 81) :
    (convert 59 9 (.slice (some ⟨g, n, none⟩) m m)).run Try.prog w = .ok (.string (strOfNums (ds.drop n))) w :=
  run_convert_bytes_arg w 59 5 Try.underlying59 Try.underlying5 g n m m (ds.drop n) (by simp; omega) (fun j hj => by
    rw [(hk.at_ (n + j)).1]
    have : n + j < ds.length := by omega
    simp [List.getD_eq_getElem?_getD, this]) 9 Try.underlying9
def TextRel (n : Int) (h l : Int) (w : World) (g : Nat) (at' : Value) (wr : World) : Prop := ∃ (k : Nat) (r A : Int) (ds : List Int), at' = .int .i64 A ∧ A = 40 - (k : Int) ∧ TextSt n k r (ds.drop (40 - k)) ∧ ds.length = 40 ∧ 0 ≤ r ∧ r < 340282366920938463463374607431768211456 ∧
  Hid (Kept wr w.heap.size #[.int .i64 h, .int .u64 l] 24) ∧ Hid (Kept wr g #[.int .i64 (hiW r), .int .u64 (loW r)] 24) ∧ Hid (Kept wr (g + 1) (ds.map (Value.int .u8)).toArray 81) ∧ Hid (Below w.heap.size w wr)
set_option maxHeartbeats 2000000 in
theorem wtext_any (z : Int) (w : World) (hz : InW z) : Calls Try.prog 26 #[wI z] w (Gives (.string (strOfNums (textL z))) w) := by
  have Cs := Lib.hid (fun w => wsize_any z w hz)
  obtain ⟨n, hn⟩ : ∃ n, (if z < 0 then -z else z) = n := ⟨_, rfl⟩
  rw [hn] at Cs
  have bn : 0 ≤ n ∧ n < 340282366920938463463374607431768211456 := by unfold InW at hz; rw [← hn]; split <;> omega
  have st := TextSt.start bn.1 bn.2
  obtain ⟨h, l, e, hh, hl, eh, el⟩ := wI_letters z
  have hneg := hiW_neg hz
  rw [← eh] at hneg
  rw [e] at Cs ⊢
  unfold wI at Cs
  generalize hH0 : hiW n = H0 at *
  generalize hL0 : loW n = L0 at *
  have HN := Lib.hid hneg
  have HZN := Lib.hid hn
  have ST := Lib.hid st
  have BN := Lib.hid bn
  have HH := Lib.hid hH0
  have HL := Lib.hid hL0
  clear hneg hn st bn hH0 hL0 e eh el hh hl hz
  have K0 := Lib.hid (Kept.new (w := w) (cs := #[.int .i64 h, .int .u64 l]) (t := 24) rfl)
  go_enter Try.func26, Try.ntmps26
  go_wp2_with fail
  refine (Cs.out _).mono ?_
  rintro _ w1 ⟨rfl, hb1⟩
  have K1 := Lib.hid (K0.out.next hb1)
  obtain ⟨a1, a2, -, -, a5⟩ := K1.out.two
  have B1 := Lib.hid ((one_alloc w _).trans (hb1.mono (by simp)))
  clear hb1
  have hstart : TextRel n h l w w1.heap.size (.int .i64 40) ((w1.alloc (.cells #[.int .i64 H0, .int .u64 L0] 24)).alloc (.cells ((List.replicate 40 (0 : Int)).map (Value.int .u8)).toArray 81)) := by
    refine ⟨0, n, 40, List.replicate 40 0, rfl, by omega, ST.out, by simp, BN.out.1, BN.out.2, Lib.hid ((K1.out.alloc _).alloc _), Lib.hid ?_, Lib.hid (Kept.new (by simp)), Lib.hid ((B1.out.alloc B1.out.size _).alloc (by have := B1.out.size; simp; omega) _)⟩
    rw [HH.out, HL.out]
    exact (Kept.new rfl).alloc _
  have HS := Lib.hid hstart
  have hg : w.heap.size < w1.heap.size := a5
  clear hstart
  go_wp2
  obtain ⟨g, hgg⟩ : ∃ g, w1.heap.size = g := ⟨_, rfl⟩
  rw [hgg] at HS hg
  rw [hgg]
  have HG := Lib.hid hgg
  clear hgg
  go_loopw [5] (fun at' wr => TextRel n h l w g at' wr) (fun at' _ => (intOf at').toNat)
  case atStart => exact HS.out
  case round =>
    obtain ⟨k, r, A, ds, rfl, hA, hst, hds, hr0, hr1, K, R, D, B⟩ := hrel
    obtain ⟨p1, p2, p3, p4, p5⟩ := R.out.two
    have HA := Lib.hid hA
    have HST := Lib.hid hst
    have HZ := Lib.hid (wI_ne_zero hr0 hr1)
    have Ct : Hid (Calls Try.prog 49 #[.agg #[.int .i64 (hiW r), .int .u64 (loW r)]] wr (Gives (.tuple #[.agg #[.int .i64 (hiW (r / 10)), .int .u64 (loW (r / 10))], .int .u64 (r % 10)]) wr)) := Lib.hid (wtenth_any r wr ⟨hr0, hr1⟩)
    have fin : (k = 0 ∨ r ≠ 0) → ∃ b : Nat, A - 1 = (b : Int) ∧ b < 40 ∧ b = 39 - k ∧ ∀ wr', Below wr.heap.size wr wr' → TextRel n h l w g (.int .i64 (b : Int)) (((wr'.setCell ⟨g, 0, none⟩ (.int .i64 (hiW (r / 10)))).setCell ⟨g, 1, none⟩ (.int .u64 (loW (r / 10)))).setCell ⟨g + 1, b, none⟩ (.int .u8 (IntKind.u64.wrap (48 + r % 10) % 256))) := fun hg0 => by
      rw [show IntKind.u64.wrap (48 + r % 10) % 256 = 48 + r % 10 by rw [IntKind.wrap_u64]; omega]
      obtain ⟨h1, h2, h3⟩ := hst.step hg0
      refine ⟨39 - k, by omega, by omega, rfl, fun wr' hb => ⟨k + 1, r / 10, ((39 - k : Nat) : Int), ds.set (39 - k) (48 + r % 10), rfl, by omega, ?_, by simpa using hds, by omega, by omega, ?_, ?_, ?_, ?_⟩⟩
      · rw [show 40 - (k + 1) = 39 - k by omega, set_drop _ _ _ (by omega), show 39 - k + 1 = 40 - k by omega]
        exact h3
      · exact Lib.hid ((((K.out.next hb).far (by simp; omega) _).far (by simp; omega) _).far (by simp; omega) _)
      · exact Lib.hid (((R.out.next hb).set2 _ _).far (by simp) _)
      · refine Lib.hid ?_
        have q := (((D.out.next hb).far (p := ⟨g, 0, none⟩) (by simp) (.int .i64 (hiW (r / 10)))).far (p := ⟨g, 1, none⟩) (by simp) (.int .u64 (loW (r / 10)))).set (39 - k) (.int .u8 (48 + r % 10))
        rw [show (ds.set (39 - k) (48 + r % 10)).map (Value.int .u8) = (ds.map (Value.int .u8)).set (39 - k) (.int .u8 (48 + r % 10)) by rw [List.map_set]]
        simpa using q
      · exact Lib.hid ((((B.out.trans (hb.mono B.out.size)).setCell (by simp; omega) _).setCell (by simp; omega) _).setCell (by simp; omega) _)
    have Fin := Lib.hid fin
    clear fin hst
    by_cases hk : k = 0 ∨ r ≠ 0
    · obtain ⟨b, eb, hb40, hbk, fin⟩ := Fin.out hk
      have Fin2 := Lib.hid fin
      have HZ2 := Lib.hid (HZ.out)
      have hb40' : (b : Int) < 40 := by omega
      have h3 : (A = 40) ∨ ((A == 40) = false ∧ hiW r = 0 ∧ loW r ≠ 0) ∨ ((A == 40) = false ∧ hiW r ≠ 0) := by
        have := HZ.out
        have hA' := HA.out
        by_cases h1 : A = 40
        · exact .inl h1
        · have h2 : (A == 40) = false := by simpa using h1
          rcases hk with hk | hk
          · omega
          · by_cases h4 : hiW r = 0
            · exact .inr (.inl ⟨h2, h4, fun h5 => hk (this.1 ⟨h4, h5⟩)⟩)
            · exact .inr (.inr ⟨h2, h4⟩)
      have HB40 := Lib.hid hb40
      have HBK := Lib.hid hbk
      have HKK := Lib.hid hk
      generalize hiW r = H at *
      generalize loW r = L at *
      generalize hiW (r / 10) = H2 at *
      generalize loW (r / 10) = L2 at *
      generalize r % 10 = dg at *
      clear hk hA fin hr0 hr1 hbk hb40
      rcases h3 with rfl | ⟨h1, rfl, h2⟩ | ⟨h1, h2⟩
      all_goals
        go_wp2_with fail
        refine Ct.out.mono ?_
        rintro _ w2 ⟨rfl, hb2⟩
        have R2 := Lib.hid (R.out.next hb2)
        have D2 := Lib.hid (D.out.next hb2)
        have D3 := Lib.hid (((D2.out.far (p := ⟨g, 0, none⟩) (by simp) (.int .i64 H2)).far (p := ⟨g, 1, none⟩) (by simp) (.int .u64 L2)))
        obtain ⟨r1, r2, r3, r4, r5⟩ := R2.out.two
        obtain ⟨d1, d2⟩ := D3.out.at_ b
        obtain ⟨y, hy⟩ := dig_at ds b (by omega)
        rw [hy] at d1
        have HB2 := Lib.hid hb2
        clear hb2 hy
        go_wp2
        go_roundw
        case rel => exact Fin2.out _ HB2.out
        case measure => have := HA.out; have := HB40.out; have := HBK.out; simp only [intOf]; omega
    · have hk0 : k ≠ 0 := fun e => hk (.inl e)
      have hr : r = 0 := Classical.byContradiction fun e => hk (.inr e)
      obtain ⟨hk39, hm⟩ := HST.out.done hk0 hr
      have hdA : (A == 40) = false := by have := HA.out; simp; omega
      obtain ⟨z1, z2⟩ := HZ.out.2 hr
      rw [z1] at p1
      rw [z2] at p2
      obtain ⟨k1, k2, -, -, k5⟩ := K.out.two
      obtain ⟨q, hq⟩ : ∃ q : Nat, A = (q : Int) := ⟨40 - k, by have := HA.out; omega⟩
      have hqk : q = 40 - k := by have := HA.out; omega
      rw [← hqk] at hm
      have hq1 : 1 ≤ q ∧ q ≤ 39 := by have := HA.out; omega
      have hsl := slice_dig (g + 1) A q (40 - q) hq (by omega) (by omega) wr
      have hcv := dig_conv (g + 1) q (40 - q) ds wr hds (by omega) D.out
      rw [hm] at hcv
      obtain ⟨m, hm1⟩ : ∃ m, 40 - q = m := ⟨_, rfl⟩
      rw [hm1] at hsl hcv
      by_cases hneg : z < 0
      · have hd : decide (h < 0) = true := decide_eq_true (HN.out.2 hneg)
        obtain ⟨J, eB⟩ : ∃ J, A - 1 = J := ⟨_, rfl⟩
        obtain ⟨p, hp⟩ : ∃ p : Nat, J = (p : Int) := ⟨q - 1, by omega⟩
        have eT : J.toNat = p := by omega
        have hB0 : 0 ≤ J := by omega
        have hB1 : J < 40 := by omega
        have D4 : Hid (Kept (wr.setCell ⟨g + 1, p, none⟩ (.int .u8 45)) (g + 1) ((ds.set p 45).map (Value.int .u8)).toArray 81) := Lib.hid (by
          have q := D.out.set p (.int .u8 45)
          rw [List.map_set]
          simpa using q)
        have hsl2 := slice_dig (g + 1) J p (40 - p) hp (by omega) (by omega) (wr.setCell ⟨g + 1, p, none⟩ (.int .u8 45))
        have hcv2 := dig_conv (g + 1) p (40 - p) (ds.set p 45) (wr.setCell ⟨g + 1, p, none⟩ (.int .u8 45)) (by simpa using hds) (by omega) D4.out
        rw [set_drop ds p 45 (by omega), show p + 1 = q by omega, hm, show (45 : Int) :: dec n = textL z by unfold textL; rw [if_pos hneg, ← HZN.out, if_pos hneg]] at hcv2
        obtain ⟨m2, hm2⟩ : ∃ m, 40 - p = m := ⟨_, rfl⟩
        rw [hm2] at hsl2 hcv2
        obtain ⟨d1, d2⟩ := D.out.at_ p
        obtain ⟨y, hy⟩ := dig_at ds p (by omega)
        rw [hy] at d1
        have hgw : w.heap.size ≤ g + 1 := by omega
        clear hneg hds hq hq1 hm1 hqk hm hA hk hr hk0 hk39 HZ z1 z2 Fin Ct hp hm2 hy hsl hcv
        go_wp2
        go_ret
        exact ⟨rfl, B.out.setCell (by simp; omega) _⟩
      · have hd : decide (h < 0) = false := decide_eq_false (fun e => hneg (HN.out.1 e))
        have ht : dec n = textL z := by unfold textL; rw [if_neg hneg, ← HZN.out, if_neg hneg]
        rw [ht] at hcv
        clear hneg hds hq hq1 hm1 hqk ht hm hA hk hr hk0 hk39 HZ z1 z2 Fin Ct
        go_wp2
        go_ret
        exact ⟨rfl, B.out⟩
end Go.Proofs.Ytngjefoipdcldaa
