/- sweep.Agree, Without. -/
import Derived.Test.YtllkdohomkofhaaSwF
namespace Go.Proofs.Ytllkdohomkofhaa
open Go.RowKit Go.Shelf
set_option linter.unusedVariables false
attribute [local go_sem] Oper.semAt_some

def agreeB (L : List (Int × Int)) : Bool := decide (0 < L.length) && decide (combE L (L.foldl opM fullP) = 0)
set_option maxHeartbeats 1000000 in
theorem agree_any (x : Option Addr) (c : Nat) (L : List (Int × Int)) (w : World) (hx : PairRow w x L) (hL : L.length ≤ 100000) :
    Calls Try.prog 15 #[.slice x L.length c] w (Gives (.bool (agreeB L)) w) := by
  have CM := Lib.hid (meet_any x c L w hx (by omega))
  have F : Hid (agreeB L = (decide (0 < L.length) && decide (combE L (L.foldl opM fullP) = 0))) := Lib.hid rfl
  generalize combL L (L.foldl opM fullP) = lo at *
  generalize combH L (L.foldl opM fullP) = hi at *
  generalize combE L (L.foldl opM fullP) = e at *
  generalize agreeB L = r at *
  clear hx
  by_cases h0 : 0 < L.length
  · have h1 : (0 : Int) < (L.length : Int) := by omega
    by_cases he : e = 0
    · have F' : Hid (r = true) := Lib.hid (by rw [F.out, decide_eq_true h0, decide_eq_true he]; rfl)
      subst he
      clear F h0
      go_enter Try.func15, Try.ntmps15
      go_wp2_with fail
      refine CM.out.mono ?_
      rintro _ w2 ⟨rfl, b2⟩
      have BB := Lib.hid (b2.alloc b2.size (.cells #[.int .i64 lo, .int .i64 hi] 25))
      clear b2
      go_wp2
      go_ret
      exact ⟨ret_bool F'.out.symm, BB.out⟩
    · have F' : Hid (r = false) := Lib.hid (by rw [F.out, decide_eq_false he, Bool.and_false])
      have hd : (e == 0) = false := beq_eq_false_iff_ne.mpr he
      clear F h0 he
      go_enter Try.func15, Try.ntmps15
      go_wp2_with fail
      refine CM.out.mono ?_
      rintro _ w2 ⟨rfl, b2⟩
      have BB := Lib.hid (b2.alloc b2.size (.cells #[.int .i64 lo, .int .i64 hi] 25))
      clear b2
      go_wp2
      go_ret
      exact ⟨ret_bool F'.out.symm, BB.out⟩
  · have F' : Hid (r = false) := Lib.hid (by rw [F.out, decide_eq_false h0, Bool.false_and])
    have h1 : ¬ (0 : Int) < (L.length : Int) := by omega
    clear F h0
    go_enter Try.func15, Try.ntmps15
    go_wp2_with fail
    refine CM.out.mono ?_
    rintro _ w2 ⟨rfl, b2⟩
    have BB := Lib.hid (b2.alloc b2.size (.cells #[.int .i64 lo, .int .i64 hi] 25))
    clear b2
    go_wp2
    go_ret
    exact ⟨ret_bool F'.out.symm, BB.out⟩
def rights (L : List (Int × Int)) : Nat := L.countP fun p => decide (p.1 ≤ p.2)
theorem rights_snoc (L : List (Int × Int)) (k : Nat) (hk : k < L.length) : rights (L.take (k + 1)) = rights (L.take k) + (if (L.getD k (0, 0)).1 ≤ (L.getD k (0, 0)).2 then 1 else 0) := by
  unfold rights
  rw [take_pair L k hk, List.countP_append]
  simp [List.countP_cons]
theorem rights_le (L : List (Int × Int)) : rights L ≤ L.length := List.countP_le_length
def WtI (t : Int) (g : Nat) (pre : List (Ev × Int)) (W : World) : Prop := Kept W g #[.int .i64 (pre.foldl (stepW t) ((0, 0), false)).1.1, .int .i64 (pre.foldl (stepW t) ((0, 0), false)).1.2] 25 ∧ Kept W (g + 1) #[.bool (pre.foldl (stepW t) ((0, 0), false)).2] 4
theorem wtI_own (t : Int) (g : Nat) : Own (WtI t g) := fun s A B row ⟨h1, h2⟩ hg hr => ⟨kept_own h1 hg hr, kept_own h2 hg hr⟩
def WithP (L : List (Int × Int)) (f : Int) (r : (Int × Int) × Bool) : Prop := ((f < 0 ∨ (rights L : Int) ≤ f) ∧ r = ((0, 0), false)) ∨ ((0 ≤ f ∧ f < (rights L : Int)) ∧ WithX L ((rights L : Int) - f) r)
def WithOut (L : List (Int × Int)) (f : Int) (w : World) (e : Ending) (w' : World) : Prop := ∃ r, e = .returned (.tuple #[.agg #[.int .i64 (r : (Int × Int) × Bool).1.1, .int .i64 r.1.2], .bool r.2]) ∧ Hid (WithP L f r) ∧ Below w.heap.size w w'
def WtA (T : Nat → Ev × Int → Array Value) (B : Nat) (e : Ev × Int) (a' : Act) (W : World) : Prop := ∃ g, B ≤ g ∧ a' = { tmps := T g e, defers := [] } ∧ Kept W g #[.int .i64 e.1.1, .bool e.1.2] 53
def WcRel (L : List (Int × Int)) (f : Int) (w : World) (i : Value) (wr : World) : Prop := ∃ k : Nat, k ≤ L.length ∧ i = .int .i64 k ∧ Hid (Kept wr w.heap.size #[.int .i64 f] 3 ∧ Kept wr (w.heap.size + 1) #[.int .i64 0, .int .i64 0] 25 ∧ Kept wr (w.heap.size + 2) #[.int .i64 (rights (L.take k) : Int)] 3) ∧ Hid (Below w.heap.size w wr)
set_option maxHeartbeats 2000000 in
set_option maxRecDepth 100000 in
theorem without_any (x : Option Addr) (c : Nat) (L : List (Int × Int)) (f : Int) (w : World) (hf : InI f) (hx : PairRow w x L) (hin : ∀ p ∈ L, InP p) (hL : L.length ≤ 100000) :
    Calls Try.prog 11 #[.int .i64 f, .slice x L.length c] w (WithOut L f w) := by
  have HX := Lib.hid hx
  have HLL := Lib.hid hL
  have HIN := Lib.hid hin
  have HF := Lib.hid hf
  have CS := Lib.hid (fun W => swept_any x L.length c W)
  clear hx hL hin hf
  refine (callsIn_wide (n := 8)).1 ?_
  refine callsIn_of_wp_marks Try.func11 rfl trivial ?_ rfl
  refine wpIn_wide.2 ?_
  simp only [Try.ntmps11, List.size_toArray, List.length_cons, List.length_nil, Nat.reduceAdd, Nat.reduceSub, Array.replicate_succ, Array.replicate_zero, List.push_toArray, List.append_toArray, List.nil_append, List.cons_append]
  have ST : Hid (WcRel L f w (.int .i64 0) (((w.alloc (.cells #[.int .i64 f] 3)).alloc (.cells #[.int .i64 0, .int .i64 0] 25)).alloc (.cells #[.int .i64 0] 3))) := Lib.hid ⟨0, Nat.zero_le _, rfl, Lib.hid ⟨((Kept.new rfl).alloc _).alloc _, (Kept.new (by simp)).alloc _, Kept.new (by simp)⟩, Lib.hid (((one_alloc _ _).alloc (by simp) _).alloc (by simp; omega) _)⟩
  go_wp2
  go_loopw [15] (fun i wr => WcRel L f w i wr) (fun i _ => L.length - (intOf i).toNat)
  case atStart => exact ST.out
  case round =>
    obtain ⟨k, hk, rfl, HK, HB⟩ := hrel
    clear ST
    by_cases hlt : k < L.length
    · have HLT := Lib.hid hlt
      obtain ⟨b, off, rfl, g1, g2⟩ := HX.out k hlt
      have c1 := (HB.out.cell (World.block_lt_of_cell? w _ g1)).trans g1
      have c2 := (HB.out.cell (World.block_lt_of_cell? w _ g2)).trans g2
      have hsn := rights_snoc L k hlt
      have hle := rights_le (L.take k)
      rw [List.length_take] at hle
      have hkk : (k : Int) < (L.length : Int) := by omega
      have hll := HLL.out
      have e2 : wrap64 ((k : Int) + 1) = (k : Int) + 1 := IntWalk.wrap64_in _ (by omega)
      obtain ⟨⟨p, q⟩, hpq⟩ : ∃ pq, L.getD k (0, 0) = pq := ⟨_, rfl⟩
      rw [hpq] at c1 c2 hsn
      dsimp only at c1 c2 hsn
      have CR := Lib.hid (fun W => right_any p q W)
      have B1 := Lib.hid (HB.out.alloc HB.out.size (.cells #[.int .i64 p, .int .i64 q] 25))
      have F : Hid (∀ n W, n = (rights (L.take (k + 1)) : Int) → Kept W w.heap.size #[.int .i64 f] 3 → Kept W (w.heap.size + 1) #[.int .i64 0, .int .i64 0] 25 → Kept W (w.heap.size + 2) #[.int .i64 n] 3 → Below w.heap.size w W → WcRel L f w (.int .i64 ((k : Int) + 1)) W) := Lib.hid fun n W hn a b c d => ⟨k + 1, hlt, rfl, Lib.hid ⟨a, b, by rw [← hn]; exact c⟩, Lib.hid d⟩
      generalize rights (L.take k) = N at *
      have e1 : wrap64 ((N : Int) + 1) = (N : Int) + 1 := IntWalk.wrap64_in _ (by omega)
      by_cases hh : p ≤ q
      · rw [if_pos hh] at hsn
        rw [decide_eq_true hh] at CR
        have G := Lib.hid (fun W => F.out ((N : Int) + 1) W (by omega))
        clear hsn hle hll hpq hh hlt hk g1 g2 F
        go_wp2_with fail
        refine (CR.out _).mono ?_
        rintro _ w2 ⟨rfl, b2⟩
        have B2 := Lib.hid (B1.out.trans (b2.mono B1.out.size))
        have K0 := Lib.hid ((HK.out.1.alloc (.cells #[.int .i64 p, .int .i64 q] 25)).next b2)
        have K1 := Lib.hid ((HK.out.2.1.alloc (.cells #[.int .i64 p, .int .i64 q] 25)).next b2)
        have K2 := Lib.hid ((HK.out.2.2.alloc (.cells #[.int .i64 p, .int .i64 q] 25)).next b2)
        obtain ⟨y1, y2, y3⟩ := Kept.one K2.out
        have GG := Lib.hid (G.out (w2.setCell ⟨w.heap.size + 2, 0, none⟩ (.int .i64 ((N : Int) + 1))) (K0.out.far (by simp) _) (K1.out.far (by simp) _) (K2.out.set 0 _) (B2.out.setCell (by simp) _))
        clear b2 B1 HK HB G K0 K1 K2 B2
        go_wp2
        go_roundw
        case rel => (try rw [e1]); (try rw [e2]); exact GG.out
        case measure => have := HLT.out; (try rw [e2]); simp [intOf]; omega
      · rw [if_neg hh] at hsn
        rw [decide_eq_false hh] at CR
        have G := Lib.hid (fun W => F.out (N : Int) W (by omega))
        clear hsn hle hll hpq hh hlt hk g1 g2 F
        go_wp2_with fail
        refine (CR.out _).mono ?_
        rintro _ w2 ⟨rfl, b2⟩
        have B2 := Lib.hid (B1.out.trans (b2.mono B1.out.size))
        have GG := Lib.hid (G.out w2 ((HK.out.1.alloc (.cells #[.int .i64 p, .int .i64 q] 25)).next b2) ((HK.out.2.1.alloc (.cells #[.int .i64 p, .int .i64 q] 25)).next b2) ((HK.out.2.2.alloc (.cells #[.int .i64 p, .int .i64 q] 25)).next b2) B2.out)
        clear b2 B1 HK HB G B2
        go_wp2
        go_roundw
        case rel => (try rw [e2]); exact GG.out
        case measure => have := HLT.out; (try rw [e2]); simp [intOf]; omega
    · obtain rfl : k = L.length := by omega
      rw [List.take_length] at HK
      obtain ⟨W1, hW1⟩ : ∃ x, x = wr := ⟨_, rfl⟩
      subst hW1
      have hle := rights_le L
      have hll := HLL.out
      obtain ⟨N, hN⟩ : ∃ N, rights L = N := ⟨_, rfl⟩
      have HNN := Lib.hid hN
      rw [hN] at HK hle
      obtain ⟨x1, x2, x3⟩ := Kept.one HK.out.1
      obtain ⟨y1, y2, y3⟩ := Kept.one HK.out.2.2
      obtain ⟨q1, q2, q3, q4, q5⟩ := HK.out.2.1.two
      clear hlt hk hN
      by_cases hbad : f < 0 ∨ (N : Int) ≤ f
      · have FF : Hid (∀ W, Below w.heap.size w W → WithOut L f w (.returned (.tuple #[.agg #[.int .i64 0, .int .i64 0], .bool false])) W) := Lib.hid fun W hb => ⟨((0, 0), false), rfl, Lib.hid (.inl ⟨by rw [HNN.out]; exact hbad, rfl⟩), hb⟩
        have Z0 := Lib.hid (HK.out.2.1.set2 (.int .i64 0) (.int .i64 0))
        have ZB := Lib.hid (FF.out _ (((HB.out.setCell (p := ⟨w.heap.size + 1, 0, none⟩) (by simp) (.int .i64 0)).setCell (p := ⟨w.heap.size + 1, 1, none⟩) (by simp) (.int .i64 0))))
        obtain ⟨u1, u2, u3, u4, u5⟩ := Kept.two Z0.out
        clear FF Z0
        generalize hW8 : (W1.setCell ⟨w.heap.size + 1, 0, none⟩ (.int .i64 0)).setCell ⟨w.heap.size + 1, 1, none⟩ (.int .i64 0) = W8 at *
        by_cases h1 : f < 0
        · clear hbad
          go_wp2
          exact ⟨.tuple #[.agg #[.int .i64 0, .int .i64 0], .bool false], by simp [results, Try.f11, go_sem, u1, u2], ZB.out⟩
        · have h2 : (N : Int) ≤ f := by omega
          clear hbad
          go_wp2
          exact ⟨.tuple #[.agg #[.int .i64 0, .int .i64 0], .bool false], by simp [results, Try.f11, go_sem, u1, u2], ZB.out⟩
      · have h1 : ¬ f < 0 := by omega
        have h2 : ¬ (N : Int) ≤ f := by omega
        have HT : Hid (0 < (N : Int) - f ∧ wrap64 ((N : Int) - f) = (N : Int) - f) := Lib.hid (by
          have := HF.out
          unfold InI at this
          exact ⟨by omega, IntWalk.wrap64_in _ (by omega)⟩)
        have HFN : Hid (0 ≤ f ∧ f < (N : Int)) := Lib.hid (by omega)
        clear hbad
        go_wp2_with (go_at_call 22; refine (CS.out _).mono ?_; rintro _ _ ⟨rfl, rfl⟩)
        obtain ⟨WL, hWL⟩ : ∃ W, ((W1.alloc (.cells #[.int .i64 0, .int .i64 0] 25)).alloc (.cells #[.bool false] 4)).alloc (.cells #[.slice x L.length c] 22) = W := ⟨_, rfl⟩
        have SL : Hid (WL.heap.size = W1.heap.size + 3) := Lib.hid (by rw [← hWL]; simp)
        have K9 : Hid (Kept WL W1.heap.size #[.int .i64 0, .int .i64 0] 25) := Lib.hid (by rw [← hWL]; exact ((Kept.new rfl).alloc _).alloc _)
        have K10 : Hid (Kept WL (W1.heap.size + 1) #[.bool false] 4) := Lib.hid (by rw [← hWL]; exact (Kept.new (by simp)).alloc _)
        have K11 : Hid (Kept WL (W1.heap.size + 2) #[.slice x L.length c] 22) := Lib.hid (by rw [← hWL]; exact Kept.new (by simp))
        have KK : Hid (Kept WL w.heap.size #[.int .i64 f] 3 ∧ Kept WL (w.heap.size + 1) #[.int .i64 0, .int .i64 0] 25 ∧ Kept WL (w.heap.size + 2) #[.int .i64 (N : Int)] 3) := Lib.hid (by rw [← hWL]; exact ⟨((HK.out.1.alloc _).alloc _).alloc _, ((HK.out.2.1.alloc _).alloc _).alloc _, ((HK.out.2.2.alloc _).alloc _).alloc _⟩)
        have B0 : Hid (Below w.heap.size w WL) := Lib.hid (by rw [← hWL]; exact ((HB.out.alloc HB.out.size _).alloc (by have := HB.out.size; simp; omega) _).alloc (by have := HB.out.size; simp; omega) _)
        have GL : Hid (w.heap.size + 2 < W1.heap.size) := Lib.hid HK.out.2.2.lt
        rw [hWL]
        clear hWL CS HK HB x1 x2 x3 y1 y2 y3 q1 q2 q3 q4 q5
        have hs := SL.out
        have hgl := GL.out
        have HXL := Lib.hid (HX.out.below B0.out)
        refine wpIn_wide.1 (wpIn_rangeFunc_ownH (F := Fence.wide) (n := 8) rfl (by decide) (gf := 28) (lb := #[.pointer (some ⟨W1.heap.size + 1 + 1, 0, none⟩)]) rfl trivial (enters_of Try.func28 (by kernel_rfl) rfl)
          (swept_stops 7 (by decide) (W1.heap.size + 2) WL.heap.size x c L (by omega) WL (Nat.le_refl _) (by omega) K11.out HXL.out) HiK.trans (fun W l o o' hl ho hc _ => hiK_putObj o' ho hc) (Below.refl _ _) (fun _ => rfl)
          (fun pre W => WtI ((N : Int) - f) W1.heap.size pre W ∧ Below W1.heap.size WL W)
          (fun _ _ _ => False)
          (OwnFrom.and (Own.from (wtI_own _ _) _) (ownFrom_below (by omega) (by omega)))
          (fun _ _ _ _ _ hs _ _ => hs)
          ⟨⟨K9.out, K10.out⟩, Below.refl _ _⟩
          (WtA (fun g e => #[.int .i64 f, .slice x L.length c, .pointer (some ⟨w.heap.size, 0, none⟩), undef, .pointer (some ⟨w.heap.size + 1, 0, none⟩), .bool false, .pointer (some ⟨w.heap.size + 1 + 1, 0, none⟩), undef, u8, .pointer (some ⟨W1.heap.size, 0, none⟩), .pointer (some ⟨W1.heap.size + 1, 0, none⟩), .pointer (some ⟨g, 0, none⟩), .int .i64 e.2, .slice x L.length c, .int .i64 (L.length : Int), .int .i64 (L.length : Int), .bool false, u17, u18, u19, u20, u21, u22, u23, .int .i64 f, .bool false, .bool false, .int .i64 f, .int .i64 (N : Int), .bool false, .bool false, undef, .slice x L.length c, .func (.func 28) #[] #[.pointer (some ⟨W1.heap.size + 1 + 1, 0, none⟩)], .agg #[.int .i64 e.1.1, .bool e.1.2], .int .i64 e.2, undef, undef, undef, undef, undef, undef, undef, undef, undef, undef, undef, undef, undef, undef, undef]) WL.heap.size)
          (fun e a' s A B row ⟨g, h1, h2, h3⟩ hg hr => ⟨g, h1, h2, kept_own h3 hg (fun r e => (hr r e).2)⟩)
          ?assign ?body ?done ?stop)
        case assign =>
          rintro l pre e W K ⟨⟨h1, h2⟩, hb⟩ hK
          have FF := Lib.hid (hK _ (W.alloc (.cells #[.int .i64 e.1.1, .bool e.1.2] 53)) (keepsFrom_below (one_alloc _ _)) (HiK.below (one_alloc _ _)) ⟨⟨h1.alloc _, h2.alloc _⟩, hb.alloc (by have := hb.size; omega) _⟩ ⟨W.heap.size, hb.size, rfl, Kept.new rfl⟩)
          unfold evV
          clear hK h1 h2 hb
          gi_wp2
          exact FF.out
        case body =>
          rintro l pre e a' W hl hr ⟨⟨h1, h2⟩, hb⟩ ⟨g, hg, rfl, hk⟩ hpre
          obtain ⟨⟨v, bb⟩, o⟩ := e
          obtain ⟨T, hT⟩ : ∃ T, (N : Int) - f = T := ⟨_, rfl⟩
          have ht := HT.out.2
          rw [hT] at h1 h2 ht
          have NX : Hid (∀ W', Kept W' W1.heap.size #[.int .i64 (stepW T (pre.foldl (stepW T) ((0, 0), false)) ((v, bb), o)).1.1, .int .i64 (stepW T (pre.foldl (stepW T) ((0, 0), false)) ((v, bb), o)).1.2] 25 → Kept W' (W1.heap.size + 1) #[.bool (stepW T (pre.foldl (stepW T) ((0, 0), false)) ((v, bb), o)).2] 4 → WtI ((N : Int) - f) W1.heap.size (pre ++ [((v, bb), o)]) W') := Lib.hid fun W' a b => by
            rw [hT]
            unfold WtI
            rw [List.foldl_append]
            exact ⟨a, b⟩
          obtain ⟨⟨⟨rl, rh⟩, fd⟩, hr⟩ : ∃ r, pre.foldl (stepW T) ((0, 0), false) = r := ⟨_, rfl⟩
          rw [hr] at h1 h2 NX
          dsimp only at h1 h2 hk
          obtain ⟨x1, x2, x3, x4, x5⟩ := Kept.two h1
          obtain ⟨y1, y2, y3⟩ := Kept.one h2
          obtain ⟨z1, z2, z3, z4, z5⟩ := Kept.two hk
          obtain ⟨m1, m2, m3⟩ := Kept.one (KK.out.1.below hb (by omega))
          obtain ⟨n1, n2, n3⟩ := Kept.one (KK.out.2.2.below hb (by omega))
          have H1 := Lib.hid h1
          have H2 := Lib.hid h2
          have HB := Lib.hid hb
          have ht2 : wrap64 ((N : Int) - f) = (N : Int) - f := by rw [hT]; exact ht
          have HTT := Lib.hid hT
          clear hr hpre h1 h2 hb hk hl hT ht
          by_cases hlt : o < T
          · have NY : Hid (WtI ((N : Int) - f) W1.heap.size (pre ++ [((v, bb), o)]) W) := Lib.hid (NX.out _ (by
                unfold stepW; rw [if_pos hlt]; exact H1.out) (by
                unfold stepW; rw [if_pos hlt]; exact H2.out))
            have d : decide (o < (N : Int) - f) = true := by rw [HTT.out]; exact decide_eq_true hlt
            clear hlt NX H1 H2
            gi_wp2
            exact ⟨KeepsFrom.refl _ _, HiK.refl _ _, NY.out, HB.out⟩
          · have d : decide (o < (N : Int) - f) = false := by rw [HTT.out]; exact decide_eq_false hlt
            cases fd
            · have NY : Hid (WtI ((N : Int) - f) W1.heap.size (pre ++ [((v, bb), o)]) (((W.setCell ⟨W1.heap.size, 0, none⟩ (.int .i64 v)).setCell ⟨W1.heap.size + 1, 0, none⟩ (.bool true)).setCell ⟨W1.heap.size, 1, none⟩ (.int .i64 v))) := Lib.hid (NX.out _ (by
                  unfold stepW; rw [if_neg hlt]; exact (((H1.out.set 0 (.int .i64 v)).far (p := ⟨W1.heap.size + 1, 0, none⟩) (by simp) (.bool true)).set 1 (.int .i64 v))) (by
                  unfold stepW; rw [if_neg hlt]; exact (((H2.out.far (p := ⟨W1.heap.size, 0, none⟩) (by simp) (.int .i64 v)).set 0 (.bool true)).far (p := ⟨W1.heap.size, 1, none⟩) (by simp) (.int .i64 v))))
              have XK : Hid (KeepsFrom WL.heap.size W (((W.setCell ⟨W1.heap.size, 0, none⟩ (.int .i64 v)).setCell ⟨W1.heap.size + 1, 0, none⟩ (.bool true)).setCell ⟨W1.heap.size, 1, none⟩ (.int .i64 v))) := Lib.hid ((((KeepsOthers.setCell _ _ _).trans (KeepsOthers.setCell _ _ _)).trans (KeepsOthers.setCell _ _ _)).from _)
              have XH : Hid (HiK WL.heap.size W (((W.setCell ⟨W1.heap.size, 0, none⟩ (.int .i64 v)).setCell ⟨W1.heap.size + 1, 0, none⟩ (.bool true)).setCell ⟨W1.heap.size, 1, none⟩ (.int .i64 v))) := Lib.hid ((((HiK.refl _ _).setCell (by simp; omega) _).setCell (by simp; omega) _).setCell (by simp; omega) _)
              have XB : Hid (Below W1.heap.size WL (((W.setCell ⟨W1.heap.size, 0, none⟩ (.int .i64 v)).setCell ⟨W1.heap.size + 1, 0, none⟩ (.bool true)).setCell ⟨W1.heap.size, 1, none⟩ (.int .i64 v))) := Lib.hid (((HB.out.setCell (by simp) _).setCell (by simp) _).setCell (by simp) _)
              clear hlt NX H1 H2 HB
              gi_wp2
              exact ⟨XK.out, XH.out, NY.out, XB.out⟩
            · have NY : Hid (WtI ((N : Int) - f) W1.heap.size (pre ++ [((v, bb), o)]) (W.setCell ⟨W1.heap.size, 1, none⟩ (.int .i64 v))) := Lib.hid (NX.out _ (by
                  unfold stepW; rw [if_neg hlt]; exact (H1.out.set 1 (.int .i64 v))) (by
                  unfold stepW; rw [if_neg hlt]; exact (H2.out.far (p := ⟨W1.heap.size, 1, none⟩) (by simp) (.int .i64 v))))
              have XK : Hid (KeepsFrom WL.heap.size W (W.setCell ⟨W1.heap.size, 1, none⟩ (.int .i64 v))) := Lib.hid ((KeepsOthers.setCell _ _ _).from _)
              have XH : Hid (HiK WL.heap.size W (W.setCell ⟨W1.heap.size, 1, none⟩ (.int .i64 v))) := Lib.hid ((HiK.refl _ _).setCell (by simp; omega) _)
              have XB : Hid (Below W1.heap.size WL (W.setCell ⟨W1.heap.size, 1, none⟩ (.int .i64 v))) := Lib.hid (HB.out.setCell (by simp) _)
              clear hlt NX H1 H2 HB
              gi_wp2
              exact ⟨XK.out, XH.out, NY.out, XB.out⟩
        case done =>
          rintro D ys W hD ⟨s, hp, hs', hys⟩ ⟨⟨h1, h2⟩, hb⟩ hK
          have HX0 := Lib.hid (with_x hp hs' HT.out.1)
          rw [hys] at h1 h2
          obtain ⟨⟨⟨rl, rh⟩, fd⟩, hr⟩ : ∃ r, (seqE s s.length).foldl (stepW ((N : Int) - f)) ((0, 0), false) = r := ⟨_, rfl⟩
          rw [hr] at h1 h2 HX0
          dsimp only at h1 h2
          have HP : Hid (WithP L f ((rl, rh), fd)) := Lib.hid (.inr ⟨by rw [HNN.out]; exact HFN.out, by rw [HNN.out]; exact HX0.out⟩)
          have H0 := Lib.hid (KK.out.2.1.below hb (by omega))
          have BW := Lib.hid (B0.out.trans (hb.mono (by omega)))
          have HD := Lib.hid (⟨hK, by omega, (Array.getElem?_eq_some_iff.1 hK).1⟩ : W.heap[D]? = some (.deferred (some [])) ∧ w.heap.size + 2 < D ∧ D < W.heap.size)
          obtain ⟨x1, x2, x3, x4, x5⟩ : W.cell? ⟨W1.heap.size, 0, none⟩ = some (.int .i64 rl) ∧ W.cell? ⟨W1.heap.size, 1, none⟩ = some (.int .i64 rh) ∧ True ∧ True ∧ True := ⟨(Kept.two h1).1, (Kept.two h1).2.1, trivial, trivial, trivial⟩
          obtain ⟨y1, y2, y3⟩ := Kept.one h2
          obtain ⟨q1, q2, q3, q4, q5⟩ := H0.out.two
          have Z0 : Hid (Kept ((W.setCell ⟨w.heap.size + 1, 0, none⟩ (.int .i64 rl)).setCell ⟨w.heap.size + 1, 1, none⟩ (.int .i64 rh)) (w.heap.size + 1) #[.int .i64 rl, .int .i64 rh] 25) := Lib.hid (H0.out.set2 (.int .i64 rl) (.int .i64 rh))
          have ZK : Hid (((W.setCell ⟨w.heap.size + 1, 0, none⟩ (.int .i64 rl)).setCell ⟨w.heap.size + 1, 1, none⟩ (.int .i64 rh)).heap[D]? = some (.deferred (some []))) := Lib.hid (((KeepsOthers.setCell _ _ _).trans (KeepsOthers.setCell _ _ _)).same D _ hK rfl)
          have ZB : Hid (Below w.heap.size w ((W.setCell ⟨w.heap.size + 1, 0, none⟩ (.int .i64 rl)).setCell ⟨w.heap.size + 1, 1, none⟩ (.int .i64 rh))) := Lib.hid ((BW.out.setCell (by simp) _).setCell (by simp) _)
          clear hr hys hp hs' h1 h2 hb hK hD K9 K10 K11 KK HXL HX B0 HX0 H0 BW
          go_upto_region 19 with fail
          refine Code.wp_mono (fun e a w q => noPan_out q) ?_
          go_region
          all_goals
            refine noPan_normal ?_
            go_wp2
            generalize (W.setCell ⟨w.heap.size + 1, 0, none⟩ (.int .i64 rl)).setCell ⟨w.heap.size + 1, 1, none⟩ (.int .i64 rh) = W8 at *
            have Z0d : Hid (Kept W8.drew (w.heap.size + 1) #[.int .i64 rl, .int .i64 rh] 25) := Lib.hid (Z0.out.drewN 1)
            have ZKd : Hid (W8.drew.heap[D]? = some (.deferred (some []))) := Lib.hid ZK.out
            have ZBd : Hid (Below w.heap.size w W8.drew) := Lib.hid ZB.out.drew
            clear Z0 ZK ZB
            generalize W8.drew = V at *
            refine ⟨by simp, .inl ⟨_, _, rfl, run_takeDeferred ZKd.out, ?_⟩⟩
            have Y0 := kept_own Z0d.out (grownBy_putObj' V D (.deferred none)) (fun r e => by cases e; exact ⟨_, ZKd.out, rfl⟩)
            have YB : Below w.heap.size w (V.putObj D (.deferred none)) := ZBd.out.trans (belowK_b (w := w) (Nat.le_refl _) V D _ _ (by have := HD.out.2.1; omega) ZKd.out rfl rfl)
            generalize V.putObj D (.deferred none) = W9 at *
            obtain ⟨u1, u2, u3, u4, u5⟩ := Kept.two Y0
            exact ⟨.tuple #[.agg #[.int .i64 rl, .int .i64 rh], .bool fd], by simp [results, Try.f11, go_sem, u1, u2], ((rl, rh), fd), rfl, HP, YB⟩
        case stop =>
          rintro D c' pre W _ _ h _
          exact h.elim
end Go.Proofs.Ytllkdohomkofhaa
