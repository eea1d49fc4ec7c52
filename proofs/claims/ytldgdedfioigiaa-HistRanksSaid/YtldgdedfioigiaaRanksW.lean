/- HistRanks, walked, for every row and number. -/
import Derived.Test.YtldgdedfioigiaaAlive
import Derived.Test.YtldgdedfioigiaaRanksM
import Derived.Test.YtldgdedfioigiaaEqA
import Derived.Deep.DeepCutAuto
namespace Go.Proofs.Ytldgdedfioigiaa
open Go.RowKit Go.Shelf
set_option linter.unusedVariables false
set_option linter.unusedSimpArgs false
attribute [local go_sem] Oper.semAt_some

theorem w_neq (a b : Int) (w : World) : (binOp .neq 47 (.agg #[.int .i64 a, .int .u64 b]) (.agg #[.int .i64 a, .int .u64 b])).run Try.prog w = .ok (.bool false) w := by
  simp [go_sem]
def cellN (wr : World) (g : Nat) : Nat := match wr.cell? ⟨g, 0, none⟩ with | some (.int _ z) => z.toNat | _ => 0
theorem cellN_kept {wr : World} {g j : Nat} {t : TypeId} (h : Kept wr g #[.int .i64 (j : Int)] t) : cellN wr g = j := by
  unfold cellN
  rw [h.one.1]
  simp
def InRel (l : List Int) (f b g B : Nat) (W wr : World) : Prop := ∃ j : Nat, f ≤ j ∧ j ≤ b ∧ Hid (Kept wr g #[.int .i64 (j : Int)] 3) ∧ Hid (∀ i, f ≤ i → i < j → l.getD i 0 = 0) ∧ Hid (KeepsFrom B W wr) ∧ Hid (Below g W wr)
def FnRel (l : List Int) (g D : Nat) (w wr : World) : Prop := ∃ j : Nat, j ≤ 65 ∧ (∀ i, j ≤ i → i < 65 → l.getD i 0 = 0) ∧ Hid (Kept wr g #[.int .i64 (j : Int)] 3) ∧ Hid (Kept wr w.heap.size (hC l) 32) ∧ Hid (Kept wr (w.heap.size + 2) #[.bool false] 4) ∧ Hid (wr.heap[D]? = some (.deferred (some []))) ∧ Hid (Below w.heap.size w wr)
def HrRel (l : List Int) (w : World) (g gh : Nat) (kh kl : Int) (i : Value) (wr : World) : Prop := ∃ (k : Nat) (neg : Bool) (a : Option Addr) (n cap : Nat), k ≤ 65 ∧ i = .int .i64 k ∧
  Hid (NumAt wr (.agg #[.bool neg, .slice a n cap]) (isum (l.take k))) ∧ Hid (Kept wr g #[.bool neg, .slice a n cap] 50) ∧ Hid (Kept wr gh (hC l) 33) ∧
  Hid (Kept wr w.heap.size (hC l) 32 ∧ Kept wr (w.heap.size + 1) #[.int .i64 kh, .int .u64 kl] 47 ∧ Kept wr (w.heap.size + 2) #[.bool false] 4) ∧ Hid (Below w.heap.size w wr)
set_option maxHeartbeats 4000000 in
set_option maxRecDepth 1000000 in
theorem ranks_any (l : List Int) (z : Int) (w : World) (h65 : l.length = 65) (hin : ∀ b, b < 65 → InI (l.getD b 0)) (hz : InW z) :
    Calls Try.prog 5 #[.agg (hC l), wI z] w fun e w' => e = .returned (.bool true) ∧ Below w.heap.size w w' := by
  have hzr := h_zero
  have zz : (hC zeros65).size = 65 := by rw [hC_size, zeros65_len]
  have ci : (Try.prog.info? 33).map (·.size) = some (hC l).size := by rw [hC_size, h65]; exact h_info
  have ca : (Try.prog.info? 32).map (·.size) = some (hC l).size := by rw [hC_size, h65]; kernel_rfl
  have hua : Try.prog.underlying 32 = some (.array 65 2) := by kernel_rfl
  have e0 : (hC zeros65).size = (hC l).size := by rw [zz, hC_size, h65]
  have o0 := hC_cells l
  generalize hC zeros65 = Z at *
  have bds := isum_in65 l h65 hin
  have hI : -(65 * 9223372036854775808) ≤ isum l ∧ isum l ≤ 65 * 9223372036854775808 := by
    have := bds 65 (Nat.le_refl _)
    rwa [List.take_of_length_le (by omega)] at this
  have CWd : Hid (∀ W x, NumAt W x (isum l) → Calls Try.prog 22 #[x] W (Gives (.tuple #[.int .i64 (hiW (isum l)), .int .u64 (loW (isum l)), .bool true]) W)) := Lib.hid fun W x hx => (words_any x _ W hx (by omega)).mono fun e w' h => by
    obtain ⟨h1, h2⟩ := h
    rw [if_pos (by unfold InI; omega)] at h1
    have e1 : isum l / 18446744073709551616 = hiW (isum l) := by unfold hiW wrap64; omega
    have e2 : isum l % 18446744073709551616 = loW (isum l) := rfl
    rw [e1, e2] at h1
    exact ⟨h1, h2⟩
  have CT := Lib.hid (fun W => total_any l W h65 hin)
  have CRk := Lib.hid (fun W => rank_any l z W h65 hin hz)
  have CRr := Lib.hid (fun W => rrank_any l z W h65 hin hz)
  have CO : Hid (∀ k, k < 65 → ∀ W, Calls Try.prog 21 #[.int .i64 (l.getD k 0)] W (NumOut (l.getD k 0) W)) := Lib.hid fun k hk W => of_any _ W (hin k hk)
  have CAd : Hid (∀ k, k < 65 → ∀ W x y, NumAt W x (isum (l.take k)) → NumAt W y (l.getD k 0) → Calls Try.prog 20 #[x, y] W (NumOut (isum (l.take (k + 1))) W)) := Lib.hid fun k hk W x y h1 h2 => by
    have b1 := bds k (by omega)
    have b2 := hin k hk
    unfold InI at b2
    have h := num_add x y _ _ W h1 h2 (hund_small (by omega)) (hund_small (by omega))
    rwa [← isum_snoc l k (by omega)] at h
  have CF := Lib.hid (fun W => full_any l h65 W)
  have FS := Lib.hid (fun (B n₀ : Nat) (W : World) (hB : B < W.heap.size) (hc : Kept W B (hC l) 33) => full_stops Fence.wide 7 trivial rfl (by decide) B n₀ l h65 (HrP l) (hrP_all l) W hB hc)
  have SAME := Lib.hid (fun (v r : Int) (ok : Bool) h h' => rank_same l h65 (k := z) (v := v) (r := r) (ok := ok) h h')
  have H65 := Lib.hid h65
  have HIN := Lib.hid hin
  have hwn := fun W => w_neq (hiW (isum l)) (loW (isum l)) W
  unfold wI at CT CRk ⊢
  generalize hiW (isum l) = TH at *
  generalize loW (isum l) = TL at *
  generalize hiW z = kh at *
  generalize loW z = kl at *
  obtain ⟨C, hC0⟩ : ∃ C, hC l = C := ⟨_, rfl⟩
  have HCL := Lib.hid hC0
  rw [hC0] at ci ca e0 o0 CT CRk CRr CF FS
  rw [hC0]
  clear hC0 bds hI hin hz h65
  refine (callsIn_wide (n := 8)).1 ?_
  refine callsIn_of_wp_marks Try.func5 rfl trivial ?_ rfl
  refine wpIn_wide.2 ?_
  simp only [Try.ntmps5, List.size_toArray, List.length_cons, List.length_nil, Nat.reduceAdd, Nat.reduceSub, Array.replicate_succ, Array.replicate_zero, List.push_toArray, List.append_toArray, List.nil_append, List.cons_append]
  have S3 : Hid ((((w.alloc (.cells C 32)).alloc (.cells #[.int .i64 kh, .int .u64 kl] 47)).alloc (.cells #[.bool false] 4)).heap.size = w.heap.size + 3) := Lib.hid (by simp)
  have K0 : Hid (Kept (((w.alloc (.cells C 32)).alloc (.cells #[.int .i64 kh, .int .u64 kl] 47)).alloc (.cells #[.bool false] 4)) w.heap.size C 32) := Lib.hid (((Kept.new rfl).alloc _).alloc _)
  have K1 : Hid (Kept (((w.alloc (.cells C 32)).alloc (.cells #[.int .i64 kh, .int .u64 kl] 47)).alloc (.cells #[.bool false] 4)) (w.heap.size + 1) #[.int .i64 kh, .int .u64 kl] 47) := Lib.hid ((Kept.new (by simp)).alloc _)
  have K2 : Hid (Kept (((w.alloc (.cells C 32)).alloc (.cells #[.int .i64 kh, .int .u64 kl] 47)).alloc (.cells #[.bool false] 4)) (w.heap.size + 2) #[.bool false] 4) := Lib.hid (Kept.new (by simp))
  have B0 : Hid (Below w.heap.size w (((w.alloc (.cells C 32)).alloc (.cells #[.int .i64 kh, .int .u64 kl] 47)).alloc (.cells #[.bool false] 4))) := Lib.hid (((one_alloc _ _).alloc (by simp) _).alloc (by simp; omega) _)
  go_wp2_with fail
  refine (alive_any _).mono ?_
  rintro _ w1 ⟨rfl, b1⟩
  have M0 := Lib.hid (K0.out.next b1)
  have M1 := Lib.hid (K1.out.next b1)
  have M2 := Lib.hid (K2.out.next b1)
  have B1 := Lib.hid (B0.out.trans (b1.mono (by have := S3.out; omega)))
  clear b1 K0 K1 K2 B0 S3
  go_upto_region 3 with fail
  have TZ : Hid (Kept (w1.alloc (.cells Z 33)) w1.heap.size Z 33) := Lib.hid (Kept.new rfl)
  have KH : Hid (Kept (w1.alloc (.cells C 33)) w1.heap.size C 33) := Lib.hid (Kept.new rfl)
  have N0 := Lib.hid (M0.out.alloc (.cells C 33))
  have N1 := Lib.hid (M1.out.alloc (.cells C 33))
  have N2 := Lib.hid (M2.out.alloc (.cells C 33))
  have B2 := Lib.hid (B1.out.alloc B1.out.size (.cells C 33))
  have L1 : Hid (w.heap.size + 2 < w1.heap.size) := Lib.hid M2.out.lt
  go_wp2_with (first
    | (refine wpList_load_row rfl 32 _ rfl w.heap.size rfl 32 C (0, 0) _ M0.out hua rfl ca ?_)
    | (refine wpList_store_row rfl 33 _ _ rfl w1.heap.size C rfl rfl 33 Z TZ.out ci e0 o0 ?_; rw [World.setRow_alloc_new]; clear TZ M0 M1 M2 B1; generalize w1.alloc (.cells C 33) = W1 at *))
  have KS : Hid (Kept (W1.alloc (.cells #[.bool false, .slice none 0 0] 50)) W1.heap.size #[.bool false, .slice none 0 0] 50) := Lib.hid (Kept.new rfl)
  have START : Hid (HrRel l w W1.heap.size w1.heap.size kh kl (.int .i64 0) (W1.alloc (.cells #[.bool false, .slice none 0 0] 50))) := Lib.hid ⟨0, false, none, 0, 0, by omega, rfl, Lib.hid (numat_nil _), KS, Lib.hid (by rw [HCL.out]; exact KH.out.alloc _), Lib.hid ⟨by rw [HCL.out]; exact N0.out.alloc _, N1.out.alloc _, N2.out.alloc _⟩, Lib.hid (B2.out.alloc B2.out.size _)⟩
  have L2 : Hid (w1.heap.size < W1.heap.size) := Lib.hid KH.out.lt
  clear KS KH N0 N1 N2 B2
  generalize W1.alloc (.cells #[.bool false, .slice none 0 0] 50) = W2 at *
  generalize W1.heap.size = gs at *
  generalize w1.heap.size = gh at *
  go_loopw [7] (fun i wr => HrRel l w gs gh kh kl i wr) (fun i _ => 65 - (intOf i).toNat)
  case atStart => exact START.out
  case round =>
    obtain ⟨k, ng, b, m, cp, hk, rfl, HN, HK, HG, HA, HB⟩ := hrel
    clear START
    by_cases hlt : k < 65
    · have HLT := Lib.hid hlt
      have COk := Lib.hid (CO.out k hlt)
      have CAk := Lib.hid (CAd.out k hlt)
      have hkk : (k : Int) < 65 := by omega
      obtain ⟨x1, x2⟩ := HA.out.1.cellK k (by rw [H65.out]; omega)
      obtain ⟨v, hv⟩ : ∃ v, l.getD k 0 = v := ⟨_, rfl⟩
      rw [hv] at COk CAk x1
      obtain ⟨wx, hwx⟩ : ∃ x, x = wr := ⟨_, rfl⟩
      subst hwx
      clear hlt hk CO CAd hv hwn hzr CT CRk CRr CF FS
      go_upto_region 8 with fail
      have A6 : Hid (NumAt wx.drew (.agg #[.bool ng, .slice b m cp]) (isum (l.take k)) ∧ Kept wx.drew gs #[.bool ng, .slice b m cp] 50 ∧ Kept wx.drew gh (hC l) 33 ∧ (Kept wx.drew w.heap.size (hC l) 32 ∧ Kept wx.drew (w.heap.size + 1) #[.int .i64 kh, .int .u64 kl] 47 ∧ Kept wx.drew (w.heap.size + 2) #[.bool false] 4) ∧ Below w.heap.size w wx.drew) := Lib.hid ⟨HN.out, HK.out, HG.out, HA.out, HB.out.drew⟩
      obtain ⟨y1, y2, y3, y4, y5⟩ := HK.out.two
      clear HN HK HG HA HB
      refine Code.wp_mono (fun e a w q => noPan_out q) ?_
      go_region_with (first
        | (go_at_call 21; refine (COk.out _).mono ?_; rintro _ w7 ⟨v7, rfl, n7, b7⟩; have A7 : Hid (NumAt w7 v7 v ∧ NumAt w7 (.agg #[.bool ng, .slice b m cp]) (isum (l.take k)) ∧ Kept w7 gs #[.bool ng, .slice b m cp] 50 ∧ Kept w7 gh (hC l) 33 ∧ (Kept w7 w.heap.size (hC l) 32 ∧ Kept w7 (w.heap.size + 1) #[.int .i64 kh, .int .u64 kl] 47 ∧ Kept w7 (w.heap.size + 2) #[.bool false] 4) ∧ Below w.heap.size w w7) := Lib.hid ⟨n7, A6.out.1.below b7, A6.out.2.1.next b7, A6.out.2.2.1.next b7, ⟨A6.out.2.2.2.1.1.next b7, A6.out.2.2.2.1.2.1.next b7, A6.out.2.2.2.1.2.2.next b7⟩, A6.out.2.2.2.2.trans (b7.mono A6.out.2.2.2.2.size)⟩; obtain ⟨y1, y2, y3, y4, y5⟩ := A7.out.2.2.1.two; clear b7 n7)
        | (go_at_call 20; refine (CAk.out _ _ _ A7.out.2.1 A7.out.1).mono ?_; rintro _ w8 ⟨v8, rfl, n8, b8⟩; have A8 : Hid (NumAt w8 v8 (isum (l.take (k + 1))) ∧ Kept w8 gs #[.bool ng, .slice b m cp] 50 ∧ Kept w8 gh (hC l) 33 ∧ (Kept w8 w.heap.size (hC l) 32 ∧ Kept w8 (w.heap.size + 1) #[.int .i64 kh, .int .u64 kl] 47 ∧ Kept w8 (w.heap.size + 2) #[.bool false] 4) ∧ Below w.heap.size w w8) := Lib.hid ⟨n8, A7.out.2.2.1.next b8, A7.out.2.2.2.1.next b8, ⟨A7.out.2.2.2.2.1.1.next b8, A7.out.2.2.2.2.1.2.1.next b8, A7.out.2.2.2.2.1.2.2.next b8⟩, A7.out.2.2.2.2.2.trans (b8.mono A7.out.2.2.2.2.2.size)⟩; obtain ⟨ng8, la8, d8, rfl, ⟨a8, cap8, rfl, -⟩, -⟩ := n8; generalize d8.length = n8 at *; obtain ⟨z1, z2, z3, z4, z5⟩ := A8.out.2.1.two; clear b8))
      all_goals
        refine noPan_normal ?_
        have l1 := L1.out
        have l2 := L2.out
        have fin : HrRel l w gs gh kh kl (.int .i64 ((k : Int) + 1)) ((w8.setCell ⟨gs, 0, none⟩ (.bool ng8)).setCell ⟨gs, 1, none⟩ (.slice a8 n8 cap8)) := by
          obtain ⟨p1, p2, p3, ⟨p4, p5, p6⟩, p7⟩ := A8.out
          exact ⟨k + 1, ng8, a8, n8, cap8, by have := HLT.out; omega, by simp, Lib.hid ((p1.setCell z1 (by simp) _).setCell ((World.cell?_setCell_other _ _ _ _ (by simp)).trans z2) (by simp) _), Lib.hid (p2.set2 _ _),
              Lib.hid ((p3.far (p := ⟨gs, 0, none⟩) (by simp; omega) _).far (p := ⟨gs, 1, none⟩) (by simp; omega) _), Lib.hid ⟨(p4.far (p := ⟨gs, 0, none⟩) (by simp; omega) _).far (p := ⟨gs, 1, none⟩) (by simp; omega) _, (p5.far (p := ⟨gs, 0, none⟩) (by simp; omega) _).far (p := ⟨gs, 1, none⟩) (by simp; omega) _, (p6.far (p := ⟨gs, 0, none⟩) (by simp; omega) _).far (p := ⟨gs, 1, none⟩) (by simp; omega) _⟩, Lib.hid ((p7.setCell (p := ⟨gs, 0, none⟩) (by simp; omega) _).setCell (p := ⟨gs, 1, none⟩) (by simp; omega) _)⟩
        have Fin := Lib.hid fin
        clear fin A8 A7 A6 l1 l2
        go_wp2
        go_roundw
        case rel => exact Fin.out
        case measure => have := HLT.out; simp [intOf]; omega
    · obtain rfl : k = 65 := by omega
      rw [List.take_of_length_le (by rw [H65.out]; omega)] at HN
      rw [HCL.out] at HG HA
      clear CO CAd hlt hk
      obtain ⟨W3, hwx⟩ : ∃ x, x = wr := ⟨_, rfl⟩
      subst hwx
      obtain ⟨y1, y2, y3, y4, y5⟩ := HK.out.two
      go_upto_region 9 with fail
      go_wp2_with fail
      refine (CWd.out _ _ HN.out).mono ?_
      rintro _ w4 ⟨rfl, b4⟩
      have A4 : Hid (Kept w4 gh C 33 ∧ Kept w4 w.heap.size C 32 ∧ Kept w4 (w.heap.size + 1) #[.int .i64 kh, .int .u64 kl] 47 ∧ Kept w4 (w.heap.size + 2) #[.bool false] 4 ∧ Below w.heap.size w w4) := Lib.hid ⟨HG.out.next b4, HA.out.1.next b4, HA.out.2.1.next b4, HA.out.2.2.next b4, HB.out.trans (b4.mono HB.out.size)⟩
      clear HN HK HG HA HB b4 y1 y2 y3 y4 y5 CWd
      go_upto_region 10 with fail
      go_upto_region 12 with (first
        | (refine wpList_load_rowG 33 _ rfl gh rfl 33 C (0, 0) _ A4.out.1 h_under rfl ci (by rfl) ?_)
        | (go_at_call 23; refine (CT.out _).mono ?_; rintro _ w5 ⟨rfl, b5⟩; have A5 : Hid (Kept w5 gh C 33 ∧ Kept w5 w.heap.size C 32 ∧ Kept w5 (w.heap.size + 1) #[.int .i64 kh, .int .u64 kl] 47 ∧ Kept w5 (w.heap.size + 2) #[.bool false] 4 ∧ Below w.heap.size w w5) := Lib.hid ⟨A4.out.1.next b5, A4.out.2.1.next b5, A4.out.2.2.1.next b5, A4.out.2.2.2.1.next b5, A4.out.2.2.2.2.trans (b5.mono A4.out.2.2.2.2.size)⟩; obtain ⟨y1, y2, y3, y4, y5⟩ := A5.out.2.2.1.two; clear b5))
      go_upto_region 13 with (first
        | (refine wpList_load_rowG 33 _ rfl gh rfl 33 C (0, 0) _ A5.out.1 h_under rfl ci (by rfl) ?_)
        | (go_at_call 24; refine (CRk.out _).mono ?_; rintro _ w6 ⟨⟨rv, rok, rfl, hrk⟩, b6⟩; have A6 : Hid (Kept w6 gh C 33 ∧ Kept w6 w.heap.size C 32 ∧ Kept w6 (w.heap.size + 1) #[.int .i64 kh, .int .u64 kl] 47 ∧ Kept w6 (w.heap.size + 2) #[.bool false] 4 ∧ Below w.heap.size w w6) := Lib.hid ⟨A5.out.1.next b6, A5.out.2.1.next b6, A5.out.2.2.1.next b6, A5.out.2.2.2.1.next b6, A5.out.2.2.2.2.trans (b6.mono A5.out.2.2.2.2.size)⟩; obtain ⟨y1, y2, y3, y4, y5⟩ := A6.out.2.2.1.two; clear b6))
      go_upto_region 14 with (first
        | (refine wpList_load_row rfl 32 _ rfl w.heap.size rfl 32 C (0, 0) _ A6.out.2.1 hua rfl ca ?_)
        | (go_at_call 25; refine (CRr.out _).mono ?_; rintro _ w7 ⟨rr, rfl, hrr, b7⟩; have A7 : Hid (Kept w7 gh C 33 ∧ Kept w7 w.heap.size C 32 ∧ Kept w7 (w.heap.size + 1) #[.int .i64 kh, .int .u64 kl] 47 ∧ Kept w7 (w.heap.size + 2) #[.bool false] 4 ∧ Below w.heap.size w w7) := Lib.hid ⟨A6.out.1.next b7, A6.out.2.1.next b7, A6.out.2.2.1.next b7, A6.out.2.2.2.1.next b7, A6.out.2.2.2.2.trans (b7.mono A6.out.2.2.2.2.size)⟩; clear b7))
      have S := Lib.hid (SAME.out rv rr rok hrk.out hrr.out)
      clear y1 y2 y3 y4 y5 A4 A5 A6 hrk hrr SAME CT CRk CRr hwn
      go_cut [78] from 59 to 78 (fun v wx => v = .bool false ∧ wx = w7)
      case first =>
        rcases S.out with ⟨rfl, rfl, h0⟩ | ⟨rfl, rfl, rfl⟩
        · have d : decide (0 ≤ rv) = true := decide_eq_true h0
          clear S h0
          go_wp2_with fail
          go_meet
          case rel => exact ⟨rfl, rfl⟩
        · clear S
          go_wp2_with fail
          go_meet
          case rel => exact ⟨rfl, rfl⟩
      case rest =>
        obtain ⟨rfl, rfl⟩ := hcut
        clear S
        obtain ⟨w7, hw7⟩ : ∃ x, x = wc := ⟨_, rfl⟩
        subst hw7
        have A8 : Hid (Kept (w7.alloc (.cells #[.int .i64 0] 3)) gh C 33 ∧ Kept (w7.alloc (.cells #[.int .i64 0] 3)) w.heap.size C 32 ∧ Kept (w7.alloc (.cells #[.int .i64 0] 3)) (w.heap.size + 2) #[.bool false] 4 ∧ Below w.heap.size w (w7.alloc (.cells #[.int .i64 0] 3)) ∧ Kept (w7.alloc (.cells #[.int .i64 0] 3)) w7.heap.size #[.int .i64 0] 3) := Lib.hid ⟨A7.out.1.alloc _, A7.out.2.1.alloc _, A7.out.2.2.2.1.alloc _, A7.out.2.2.2.2.alloc A7.out.2.2.2.2.size _, Kept.new rfl⟩
        have KN : Hid (Kept ((w7.alloc (.cells #[.int .i64 0] 3)).alloc (.cells C 33)) w7.heap.size #[.int .i64 0] 3) := Lib.hid (A8.out.2.2.2.2.alloc _)
        have KF : Hid (Kept ((w7.alloc (.cells #[.int .i64 0] 3)).alloc (.cells C 33)) (w7.heap.size + 1) C 33) := Lib.hid (Kept.new (by simp))
        have RL := Lib.hid (A8.out.2.1.alloc (.cells C 33))
        have TL' := Lib.hid (A8.out.2.2.1.alloc (.cells C 33))
        have BL := Lib.hid (A8.out.2.2.2.1.alloc A8.out.2.2.2.1.size (.cells C 33))
        have SL : Hid (((w7.alloc (.cells #[.int .i64 0] 3)).alloc (.cells C 33)).heap.size = w7.heap.size + 2) := Lib.hid (by simp)
        have HL := Lib.hid (⟨A7.out.2.1.lt, A7.out.2.2.2.1.lt, A7.out.2.2.2.2.size⟩ : w.heap.size < w7.heap.size ∧ w.heap.size + 2 < w7.heap.size ∧ w.heap.size ≤ w7.heap.size)
        have GA := Lib.hid A8.out.1
        clear A7
        go_wp2_with (first
          | (refine wpList_load_row rfl 33 _ rfl gh rfl 33 C (0, 0) _ GA.out h_under rfl ci ?_)
          | (go_at_call 26; refine (CF.out _).mono ?_; rintro _ _ ⟨rfl, rfl⟩))
        generalize (w7.alloc (.cells #[.int .i64 0] 3)).alloc (.cells C 33) = WL at *
        have LS : w7.heap.size + 1 < WL.heap.size := by have := SL.out; omega
        have LN : w7.heap.size ≤ WL.heap.size := by omega
        refine wpIn_wide.1 (wpIn_rangeFunc_ownG (F := Fence.wide) (n := 8) rfl (by decide) (gf := 46) (lb := #[.pointer (some ⟨w7.heap.size + 1, 0, none⟩)]) rfl trivial (enters_of Try.func46 (by kernel_rfl) rfl)
          (FS.out (w7.heap.size + 1) w7.heap.size WL LS KF.out) belowK_t (belowK_b LN) (Below.refl _ _) (fun _ => rfl)
          (fun pre W => HrI l w7.heap.size pre W ∧ Below w7.heap.size WL W)
          (fun c pre W => HrX l c pre)
          (OwnFrom.and (Own.from (hrI_own l _) _) (ownFrom_below LN LN))
          (fun _ _ _ _ _ hs _ _ => hs)
          ⟨KN.out, Below.refl _ _⟩ ?act ?assign ?body ?done ?stop)
        case assign =>
          intro l x W K hK
          gi_wp2
          exact hK
        case body =>
          rintro lb pre x W ⟨hI, hB⟩ hh
          clear hh
          have hxb := x.2.1
          have hxv := x.2.2
          have hle := hrI_le l pre
          have hI2 : Kept W w7.heap.size #[.int .i64 (fromP (pre.map (fun x => x.1)) : Int)] 3 := hI
          have HGO : Hid (∀ W', Kept W' w7.heap.size #[.int .i64 ((x.1.1 : Int) + 1)] 3 → HrI l w7.heap.size (pre ++ [x]) W') := Lib.hid fun W' h => by
            unfold HrI
            rw [List.map_append, List.map_singleton, fromP_snoc]
            exact h
          have HEX : Hid (¬ NextOk l (fromP (pre.map (fun x => x.1))) x.1.1 → HrX l .ret (pre ++ [x])) := Lib.hid fun h => ⟨rfl, pre, _, rfl, h⟩
          generalize x.1.1 = b at *
          generalize x.1.2 = v at *
          generalize fromP (pre.map (fun x => x.1)) = f at *
          have hl := HL.out
          have RW := RL.out.below hB (by omega)
          rw [← HCL.out] at RW
          have TW := Lib.hid (TL'.out.below hB (by omega))
          obtain ⟨c1, c2⟩ := RW.cellK b (by rw [H65.out]; exact hxb)
          rw [← hxv] at c1
          obtain ⟨p1, p2, p3⟩ := hI2.one
          obtain ⟨q1, q2, q3⟩ := TW.out.one
          have HI := Lib.hid hI2
          have HBW := Lib.hid hB
          have HRW := Lib.hid RW
          have XK : Hid (KeepsFrom WL.heap.size W (W.setCell ⟨w.heap.size + 2, 0, none⟩ (.bool false))) := Lib.hid ((KeepsOthers.setCell _ _ _).from _)
          have hb2 : (b : Int) < 65 := by omega
          have d64 : decide ((64 : Int) < (b : Int)) = false := decide_eq_false (by omega)
          have HVB := Lib.hid hxv
          have HBB := Lib.hid (⟨hxb, hle⟩ : b < 65 ∧ f ≤ 65)
          clear RW hI hI2 hB hle hl hxv hxb
          by_cases h1 : b < f
          · have F := Lib.hid (HEX.out (fun h => absurd h.1 (by omega)))
            have h1' : ¬ f ≤ b := by omega
            clear HEX HGO
            gi_wp2
            exact ⟨XK.out, F.out⟩
          · have h1' : f ≤ b := by omega
            by_cases h2 : v = 0
            · have F := Lib.hid (HEX.out (fun h => h.2.2 (by rw [← HVB.out]; exact h2)))
              subst h2
              clear HEX HGO
              gi_wp2
              exact ⟨XK.out, F.out⟩
            · have d0 : (v == 0) = false := beq_eq_false_iff_ne.mpr h2
              have HST : Hid (InRel l f b w7.heap.size WL.heap.size W W) := Lib.hid ⟨f, Nat.le_refl _, h1', HI, Lib.hid (fun i a b => by omega), Lib.hid (KeepsFrom.refl _ _), Lib.hid (Below.refl _ _)⟩
              gi_wp2
              clear p1 p2 p3 q1 q2 q3 c1 c2 d0 h2 HI XK
              gi_loopw [] (fun wr => InRel l f b w7.heap.size WL.heap.size W wr) (fun wr => 65 - cellN wr w7.heap.size)
              case atStart => exact HST.out
              case round =>
                obtain ⟨j, hj1, hj2, HJ, HZ0, HKF, HBL⟩ := hrel
                have hcn := cellN_kept HJ.out
                obtain ⟨p1, p2, p3⟩ := HJ.out.one
                have hl := HL.out
                have RW := HRW.out.below HBL.out (by omega)
                have TW2 := Lib.hid (TW.out.below HBL.out (by omega))
                obtain ⟨q1, q2, q3⟩ := TW2.out.one
                clear HST
                by_cases hjb : j < b
                · obtain ⟨c1, c2⟩ := RW.cellK j (by rw [H65.out]; omega)
                  have hj3 : (j : Int) < 65 := by omega
                  by_cases hz : l.getD j 0 = 0
                  · rw [hz] at c1
                    have FN : Hid (InRel l f b w7.heap.size WL.heap.size W (wr.setCell ⟨w7.heap.size, 0, none⟩ (.int .i64 ((j : Int) + 1)))) := Lib.hid ⟨j + 1, by omega, by omega, Lib.hid (HJ.out.set 0 _), Lib.hid (fun i a b => by
                      by_cases e : i = j
                      · rw [e]; exact hz
                      · exact HZ0.out i a (by omega)), Lib.hid (HKF.out.trans ((KeepsOthers.setCell _ _ _).from _)), Lib.hid (HBL.out.setCell (by simp) _)⟩
                    have MS : Hid (65 - cellN (wr.setCell ⟨w7.heap.size, 0, none⟩ (.int .i64 ((j : Int) + 1))) w7.heap.size < 65 - cellN wr w7.heap.size) := Lib.hid (by
                      have e := cellN_kept (j := j + 1) (t := 3) (HJ.out.set 0 (.int .i64 (((j + 1 : Nat)) : Int)))
                      rw [hcn]
                      simp only [Int.natCast_add, Int.natCast_one] at e
                      rw [e]
                      omega)
                    clear hz RW hl hcn HEX HGO
                    gi_wp2
                    go_roundw
                    case rel => exact FN.out
                    case measure => exact MS.out
                  · have F := Lib.hid (HEX.out (fun h => hz (h.2.1 j hj1 hjb)))
                    have d0 : (l.getD j 0 == 0) = false := beq_eq_false_iff_ne.mpr hz
                    have XK : Hid (KeepsFrom WL.heap.size W (wr.setCell ⟨w.heap.size + 2, 0, none⟩ (.bool false))) := Lib.hid (HKF.out.trans ((KeepsOthers.setCell _ _ _).from _))
                    generalize l.getD j 0 = lj at *
                    clear RW hl hcn HEX HGO
                    gi_wp2
                    exact ⟨XK.out, F.out⟩
                · obtain rfl : j = b := by omega
                  have XK : Hid (KeepsFrom WL.heap.size W (wr.setCell ⟨w7.heap.size, 0, none⟩ (.int .i64 ((j : Int) + 1)))) := Lib.hid (HKF.out.trans ((KeepsOthers.setCell _ _ _).from _))
                  have XB : Hid (Below w7.heap.size W (wr.setCell ⟨w7.heap.size, 0, none⟩ (.int .i64 ((j : Int) + 1)))) := Lib.hid (HBL.out.setCell (by simp) _)
                  have XL : Hid (Below w7.heap.size WL (wr.setCell ⟨w7.heap.size, 0, none⟩ (.int .i64 ((j : Int) + 1)))) := Lib.hid (HBW.out.trans XB.out)
                  have XI := Lib.hid (HGO.out _ (HJ.out.set 0 (.int .i64 ((j : Int) + 1))))
                  have hjj : ¬ (j : Int) < (j : Int) := by omega
                  clear RW hl hcn HEX HGO
                  gi_wp2
                  exact ⟨XK.out, XB.out, XI.out, XL.out⟩
        case done =>
          rintro D ys W hD hys ⟨hI, hB⟩ hK
          have hys' : ys.map (fun x => x.1) = fullF l 65 := hys
          have hI2 : Kept W w7.heap.size #[.int .i64 (fromP (ys.map (fun x => x.1)) : Int)] 3 := hI
          rw [hys'] at hI2
          have hf := fromP_full l 65
          have hl := HL.out
          have RW := RL.out.below hB (by omega)
          rw [← HCL.out] at RW
          have TW := TL'.out.below hB (by omega)
          have BW := BL.out.trans (hB.mono (by omega))
          have hDs : D ≠ w7.heap.size ∧ w.heap.size ≤ D := by omega
          have HDS := Lib.hid hDs
          have HST : Hid (FnRel l w7.heap.size D w W) := Lib.hid ⟨_, hf.1, hf.2, Lib.hid hI2, Lib.hid RW, Lib.hid TW, Lib.hid hK, Lib.hid BW⟩
          clear hys hys' hI hI2 hf hl RW TW BW hDs hK hB hD
          go_wp2
          go_loopw [] (fun wr => FnRel l w7.heap.size D w wr) (fun wr => 65 - cellN wr w7.heap.size)
          case atStart => exact HST.out
          case round =>
            obtain ⟨j, hj1, hj2, HJ, HR, HT, HD, HBL⟩ := hrel
            have hcn := cellN_kept HJ.out
            obtain ⟨p1, p2, p3⟩ := HJ.out.one
            obtain ⟨q1, q2, q3⟩ := HT.out.one
            have hl := HL.out
            clear HST
            by_cases hjb : j < 65
            · obtain ⟨c1, c2⟩ := HR.out.cellK j (by rw [H65.out]; omega)
              have hj3 : (j : Int) < 65 := by omega
              rw [hj2 j (Nat.le_refl _) hjb] at c1
              have FN : Hid (FnRel l w7.heap.size D w (wr.setCell ⟨w7.heap.size, 0, none⟩ (.int .i64 ((j : Int) + 1)))) := Lib.hid ⟨j + 1, by omega, fun i a b => hj2 i (by omega) b, Lib.hid (HJ.out.set 0 _), Lib.hid (HR.out.far (by simp; omega) _), Lib.hid (HT.out.far (by simp; omega) _), Lib.hid ((KeepsOthers.setCell _ _ _).same D _ HD.out rfl), Lib.hid (HBL.out.setCell (by simp; omega) _)⟩
              have MS : Hid (65 - cellN (wr.setCell ⟨w7.heap.size, 0, none⟩ (.int .i64 ((j : Int) + 1))) w7.heap.size < 65 - cellN wr w7.heap.size) := Lib.hid (by
                have e := cellN_kept (j := j + 1) (t := 3) (HJ.out.set 0 (.int .i64 (((j + 1 : Nat)) : Int)))
                rw [hcn]
                simp only [Int.natCast_add, Int.natCast_one] at e
                rw [e]
                omega)
              clear hj1 hj2 hl hcn hjb
              go_wp2
              go_roundw
              case rel => exact FN.out
              case measure => exact MS.out
            · obtain rfl : j = 65 := by omega
              have Z2 := Lib.hid (HT.out.set 0 (.bool true))
              have ZK : Hid ((wr.setCell ⟨w.heap.size + 2, 0, none⟩ (.bool true)).heap[D]? = some (.deferred (some []))) := Lib.hid ((KeepsOthers.setCell _ _ _).same D _ HD.out rfl)
              have ZB : Hid (Below w.heap.size w (wr.setCell ⟨w.heap.size + 2, 0, none⟩ (.bool true))) := Lib.hid (HBL.out.setCell (by simp) _)
              clear hj1 hj2 hl hcn hjb HJ HR HT HD HBL
              go_wp2
              generalize wr.setCell ⟨w.heap.size + 2, 0, none⟩ (.bool true) = W8 at *
              refine ⟨by simp, .inl ⟨_, _, rfl, run_takeDeferred ZK.out, ?_⟩⟩
              have Y2 := kept_own Z2.out (grownBy_putObj' W8 D (.deferred none)) (fun r e => by cases e; exact ⟨_, ZK.out, rfl⟩)
              have YB : Below w.heap.size w (W8.putObj D (.deferred none)) := ZB.out.trans (belowK_b (w := w) (Nat.le_refl _) W8 D _ _ HDS.out.2 ZK.out rfl rfl)
              generalize W8.putObj D (.deferred none) = W9 at *
              obtain ⟨u1, u2, u3⟩ := Kept.one (x := .bool true) Y2
              exact ⟨.bool true, by simp [results, Try.f5, go_sem, u1], rfl, YB⟩
        case stop =>
          rintro D c pre W hD ⟨kk, hkk, hpre⟩ hx hK
          obtain ⟨-, ini, last, e1, e2⟩ : HrX l c pre := by first | exact hx | exact hx.1
          rw [e1, List.map_append, List.map_singleton] at hpre
          exact absurd (next_ok l kk _ _ hpre.symm) e2
end Go.Proofs.Ytldgdedfioigiaa
