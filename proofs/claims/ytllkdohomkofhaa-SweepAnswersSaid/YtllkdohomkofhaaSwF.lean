/- sweep.Best. -/
import Derived.Test.YtllkdohomkofhaaSwI
import Derived.Test.YtllkdohomkofhaaSwG
namespace Go.Proofs.Ytllkdohomkofhaa
open Go.RowKit Go.Shelf
set_option linter.unusedVariables false
attribute [local go_sem] Oper.semAt_some

theorem swept_stops (n : Nat) (hn : 1 ≤ n) (Bs B : Nat) (x : Option Addr) (c : Nat) (L : List (Int × Int)) (hL : L.length ≤ 100000000) (w : World) (hB : B ≤ w.heap.size) (hBs : Bs < w.heap.size) (hk : Kept w Bs #[.slice x L.length c] 22) (hx : PairRow w x L) :
    SeqStopsK Fence.wide n Try.prog 28 #[.pointer (some ⟨Bs, 0, none⟩)] evV (HiK B) (fun ys => ∃ s, s.Perm (endsL L) ∧ sortE s ∧ ys = seqE s s.length) (fun _ => True) (2 * L.length) w := fun l J Jx W hW hJ hJx hY h0 =>
  swept1_in n hn l Bs B x c L hL J Jx W (Nat.le_trans hB hW.size) hJ hJx hY (hk.below hW hBs) (hx.below hW) h0
theorem kept_own {W W' : World} {row : Option Nat} {g : Nat} {cs : Array Value} {t : TypeId} (h : Kept W g cs t) (hg : W.grownBy W' row) (hr : ∀ r, row = some r → ∃ o : Obj, W.heap[r]? = some o ∧ o.isCells = false) : Kept W' g cs t :=
  (grownBy_keeps_cells hg hr h rfl).trans h
def noPan (Q : Exit → Act → World → Prop) : Exit → Act → World → Prop
  | .panic _, _, _ => False
  | e, a, w => Q e a w
theorem noPan_out {Q : Exit → Act → World → Prop} {e : Exit} {a : Act} {w : World} (h : noPan Q e a w) : Q e a w := by
  cases e <;> first | exact h | exact h.elim
theorem noPan_normal {Q : Exit → Act → World → Prop} {a : Act} {w : World} (h : Q .normal a w) : noPan Q .normal a w := h
theorem keepsFrom_below {B : Nat} {W W' : World} (h : Below W.heap.size W W') : KeepsFrom B W W' := ⟨h.size, fun k o _ hk _ => (h.block k (Array.getElem?_eq_some_iff.1 hk).1).trans hk⟩
def BeI (b : Nat) (pre : List (Ev × Int)) (W : World) : Prop := Kept W (b + 1) #[.int .i64 (pre.foldl stepB (0, 0)).1] 2 ∧ Kept W (b + 2) #[.int .i64 (pre.foldl stepB (0, 0)).2] 3
theorem beI_own (b : Nat) : Own (BeI b) := fun s A B row ⟨h1, h2⟩ hg hr => ⟨kept_own h1 hg hr, kept_own h2 hg hr⟩
def BeA (x : Option Addr) (c : Nat) (L : List (Int × Int)) (w : World) (B : Nat) (e : Ev × Int) (a' : Act) (W : World) : Prop := ∃ g, B ≤ g ∧ a' = { tmps := #[.slice x L.length c, undef, .pointer (some ⟨w.heap.size, 0, none⟩), .int .i64 0, .pointer (some ⟨w.heap.size + 1, 0, none⟩), .pointer (some ⟨w.heap.size + 1 + 1, 0, none⟩), .pointer (some ⟨g, 0, none⟩), .int .i64 e.2, undef, undef, undef, undef, undef, .slice x L.length c, .func (.func 28) #[] #[.pointer (some ⟨w.heap.size + 1 + 1 + 1, 0, none⟩)], .agg #[.int .i64 e.1.1, .bool e.1.2], .int .i64 e.2, undef, undef, undef, undef, undef, undef, undef, undef, undef, undef, undef, undef, undef, undef, undef, undef, undef, undef, undef, undef, undef, undef, undef, undef, undef, undef, undef, undef, undef, undef], defers := [] } ∧ Kept W g #[.int .i64 e.1.1, .bool e.1.2] 53
def BestOut (L : List (Int × Int)) (w : World) (e : Ending) (w' : World) : Prop := ∃ b n, e = .returned (.tuple #[.agg #[.int .i64 (b : Int × Int).1, .int .i64 b.2], .int .i64 n]) ∧ Hid (BestP L b n) ∧ Below w.heap.size w w'
def WiRel (L : List (Int × Int)) (x0 : Int) (W : World) (v i : Value) (wr : World) : Prop := ∃ k : Nat, k ≤ L.length ∧ i = .int .i64 k ∧ Hid (wr.ownsRow W.heap.size 25 2 v (withL (L.take k) x0).length (cells2 (withL (L.take k) x0))) ∧ Hid (Below W.heap.size W wr)
set_option maxHeartbeats 2000000 in
set_option maxRecDepth 100000 in
theorem best_any (x : Option Addr) (c : Nat) (L : List (Int × Int)) (w : World) (hx : PairRow w x L) (hin : ∀ p ∈ L, InP p) (hL : L.length ≤ 100000) :
    Calls Try.prog 8 #[.slice x L.length c] w (BestOut L w) := by
  have HX := Lib.hid hx
  have HLL := Lib.hid hL
  have HIN := Lib.hid hin
  have CS := Lib.hid (fun W => swept_any x L.length c W)
  obtain ⟨i0, hi, hz0, hz1, hz2⟩ := info_parts2 info_gap
  clear hx hL hin
  refine (callsIn_wide (n := 8)).1 ?_
  refine callsIn_of_wp_marks Try.func8 rfl trivial ?_ rfl
  refine wpIn_wide.2 ?_
  simp only [Try.ntmps8, List.size_toArray, List.length_cons, List.length_nil, Nat.reduceAdd, Nat.reduceSub, Array.replicate_succ, Array.replicate_zero, List.push_toArray, List.append_toArray, List.nil_append, List.cons_append]
  go_wp2_with (go_at_call 22; refine (CS.out _).mono ?_; rintro _ _ ⟨rfl, rfl⟩)
  obtain ⟨WL, hWL⟩ : ∃ W, (((w.alloc (.cells #[.int .i64 0, .int .i64 0] 25)).alloc (.cells #[.int .i64 0] 2)).alloc (.cells #[.int .i64 0] 3)).alloc (.cells #[.slice x L.length c] 22) = W := ⟨_, rfl⟩
  have SL : Hid (WL.heap.size = w.heap.size + 4) := Lib.hid (by rw [← hWL]; simp)
  have K0 : Hid (Kept WL w.heap.size #[.int .i64 0, .int .i64 0] 25) := Lib.hid (by rw [← hWL]; exact (((Kept.new rfl).alloc _).alloc _).alloc _)
  have K1 : Hid (Kept WL (w.heap.size + 1) #[.int .i64 0] 2) := Lib.hid (by rw [← hWL]; exact ((Kept.new (by simp)).alloc _).alloc _)
  have K2 : Hid (Kept WL (w.heap.size + 2) #[.int .i64 0] 3) := Lib.hid (by rw [← hWL]; exact (Kept.new (by simp)).alloc _)
  have K3 : Hid (Kept WL (w.heap.size + 3) #[.slice x L.length c] 22) := Lib.hid (by rw [← hWL]; exact Kept.new (by simp))
  have B0 : Hid (Below w.heap.size w WL) := Lib.hid (by rw [← hWL]; exact (((one_alloc _ _).alloc (by simp) _).alloc (by simp; omega) _).alloc (by simp; omega) _)
  rw [hWL]
  clear hWL CS
  have hs := SL.out
  have HXL := Lib.hid (HX.out.below B0.out)
  have hLL := HLL.out
  refine wpIn_wide.1 (wpIn_rangeFunc_ownH (F := Fence.wide) (n := 8) rfl (by decide) (gf := 28) (lb := #[.pointer (some ⟨w.heap.size + 1 + 1 + 1, 0, none⟩)]) rfl trivial (enters_of Try.func28 (by kernel_rfl) rfl)
    (swept_stops 7 (by decide) (w.heap.size + 3) WL.heap.size x c L (by omega) WL (Nat.le_refl _) (by omega) K3.out HXL.out) HiK.trans (fun W l o o' hl ho hc _ => hiK_putObj o' ho hc) (Below.refl _ _) (fun _ => rfl)
    (fun pre W => BeI w.heap.size pre W ∧ Below (w.heap.size + 1) WL W)
    (fun _ _ _ => False)
    (OwnFrom.and (Own.from (beI_own _) _) (ownFrom_below (by omega) (by omega)))
    (fun _ _ _ _ _ hs _ _ => hs)
    ⟨⟨K1.out, K2.out⟩, Below.refl _ _⟩
    (fun e a' W => BeA x c L w WL.heap.size e a' W)
    (fun e a' s A B row ⟨g, h1, h2, h3⟩ hg hr => ⟨g, h1, h2, kept_own h3 hg (fun r e => (hr r e).2)⟩)
    ?assign ?body ?done ?stop)
  case assign =>
    rintro l pre e W K ⟨⟨h1, h2⟩, hb⟩ hK
    have FF := Lib.hid (hK _ (W.alloc (.cells #[.int .i64 e.1.1, .bool e.1.2] 53)) (keepsFrom_below (one_alloc _ _)) (HiK.below (one_alloc _ _)) ⟨⟨h1.alloc _, h2.alloc _⟩, hb.alloc (by have := hb.size; omega) _⟩ ⟨W.heap.size, hb.size, rfl, Kept.new rfl⟩)
    unfold evV
    clear hK h1 h2 hb
    gi_wp2
    exact FF.out
  case body =>
    rintro l pre e a' W hl hr ⟨⟨h1, h2⟩, hb⟩ ⟨g, hg, rfl, hk⟩ hpre
    obtain ⟨⟨v, bb⟩, o⟩ := e
    have NX : Hid (∀ W', Kept W' (w.heap.size + 1) #[.int .i64 (stepB (pre.foldl stepB (0, 0)) ((v, bb), o)).1] 2 → Kept W' (w.heap.size + 2) #[.int .i64 (stepB (pre.foldl stepB (0, 0)) ((v, bb), o)).2] 3 → BeI w.heap.size (pre ++ [((v, bb), o)]) W') := Lib.hid fun W' a b => by
      unfold BeI
      rw [List.foldl_append]
      exact ⟨a, b⟩
    obtain ⟨⟨rx, rm⟩, hr⟩ : ∃ r, pre.foldl stepB (0, 0) = r := ⟨_, rfl⟩
    rw [hr] at h1 h2 NX
    dsimp only at h1 h2 hk
    obtain ⟨x1, x2, x3⟩ := Kept.one h1
    obtain ⟨y1, y2, y3⟩ := Kept.one h2
    obtain ⟨z1, z2, z3, z4, z5⟩ := Kept.two hk
    have H1 := Lib.hid h1
    have H2 := Lib.hid h2
    have HB := Lib.hid hb
    clear hr hpre h1 h2 hb hk hl
    by_cases hlt : rm < o
    · have NY : Hid (BeI w.heap.size (pre ++ [((v, bb), o)]) ((W.setCell ⟨w.heap.size + 1, 0, none⟩ (.int .i64 v)).setCell ⟨w.heap.size + 2, 0, none⟩ (.int .i64 o))) := Lib.hid (NX.out _ (by
          unfold stepB; rw [if_pos hlt]; exact (H1.out.set 0 (.int .i64 v)).far (by simp) _) (by
          unfold stepB; rw [if_pos hlt]; exact (H2.out.far (p := ⟨w.heap.size + 1, 0, none⟩) (by simp) (.int .i64 v)).set 0 (.int .i64 o)))
      have XK : Hid (KeepsFrom WL.heap.size W ((W.setCell ⟨w.heap.size + 1, 0, none⟩ (.int .i64 v)).setCell ⟨w.heap.size + 2, 0, none⟩ (.int .i64 o))) := Lib.hid (((KeepsOthers.setCell _ _ _).trans (KeepsOthers.setCell _ _ _)).from _)
      have XH : Hid (HiK WL.heap.size W ((W.setCell ⟨w.heap.size + 1, 0, none⟩ (.int .i64 v)).setCell ⟨w.heap.size + 2, 0, none⟩ (.int .i64 o))) := Lib.hid (((HiK.refl _ _).setCell (by simp; omega) _).setCell (by simp; omega) _)
      have XB : Hid (Below (w.heap.size + 1) WL ((W.setCell ⟨w.heap.size + 1, 0, none⟩ (.int .i64 v)).setCell ⟨w.heap.size + 2, 0, none⟩ (.int .i64 o))) := Lib.hid ((HB.out.setCell (by simp) _).setCell (by simp) _)
      have d : decide (rm < o) = true := decide_eq_true hlt
      clear hlt NX H1 H2 HB
      gi_wp2
      exact ⟨XK.out, XH.out, NY.out, XB.out⟩
    · have NY : Hid (BeI w.heap.size (pre ++ [((v, bb), o)]) W) := Lib.hid (NX.out _ (by
          unfold stepB; rw [if_neg hlt]; exact H1.out) (by
          unfold stepB; rw [if_neg hlt]; exact H2.out))
      have d : decide (rm < o) = false := decide_eq_false hlt
      clear hlt NX H1 H2
      gi_wp2
      exact ⟨KeepsFrom.refl _ _, HiK.refl _ _, NY.out, HB.out⟩
  case done =>
    rintro D ys W hD ⟨s, hp, hs', hys⟩ ⟨⟨h1, h2⟩, hb⟩ hK
    have HX0 := Lib.hid (best_x hp hs')
    rw [hys] at h1 h2
    obtain ⟨⟨rx, rm⟩, hr⟩ : ∃ r, (seqE s s.length).foldl stepB (0, 0) = r := ⟨_, rfl⟩
    rw [hr] at h1 h2 HX0
    dsimp only at h1 h2 HX0
    have H0 := Lib.hid (K0.out.below hb (by omega))
    have HXW := Lib.hid (HX.out.below (B0.out.trans (hb.mono (by omega))))
    have BW := Lib.hid (B0.out.trans (hb.mono (by omega)))
    have HD := Lib.hid (⟨hK, by omega, (Array.getElem?_eq_some_iff.1 hK).1⟩ : W.heap[D]? = some (.deferred (some [])) ∧ w.heap.size + 2 < D ∧ D < W.heap.size)
    obtain ⟨x1, x2, x3⟩ := Kept.one h1
    obtain ⟨y1, y2, y3⟩ := Kept.one h2
    have H1 := Lib.hid h1
    have H2 := Lib.hid h2
    have HW : Hid (w.heap.size + 4 ≤ W.heap.size) := Lib.hid (by have := hb.size; omega)
    clear hr hys hp hs' h1 h2 hb hK hD K0 K1 K2 K3 HXL HX B0
    obtain ⟨q1, q2, q3, q4, q5⟩ := H0.out.two
    by_cases hn : rm = 0
    · have BP := Lib.hid (best_none HX0.out hn)
      subst hn
      have Z0 := Lib.hid (H0.out.set2 (.int .i64 0) (.int .i64 0))
      have ZK : Hid (((W.setCell ⟨w.heap.size, 0, none⟩ (.int .i64 0)).setCell ⟨w.heap.size, 1, none⟩ (.int .i64 0)).heap[D]? = some (.deferred (some []))) := Lib.hid (((KeepsOthers.setCell _ _ _).trans (KeepsOthers.setCell _ _ _)).same D _ HD.out.1 rfl)
      have ZB : Hid (Below w.heap.size w ((W.setCell ⟨w.heap.size, 0, none⟩ (.int .i64 0)).setCell ⟨w.heap.size, 1, none⟩ (.int .i64 0))) := Lib.hid ((BW.out.setCell (by simp) _).setCell (by simp) _)
      go_wp2
      generalize (W.setCell ⟨w.heap.size, 0, none⟩ (.int .i64 0)).setCell ⟨w.heap.size, 1, none⟩ (.int .i64 0) = W8 at *
      refine ⟨by simp, .inl ⟨_, _, rfl, run_takeDeferred ZK.out, ?_⟩⟩
      have Y0 := kept_own Z0.out (grownBy_putObj' W8 D (.deferred none)) (fun r e => by cases e; exact ⟨_, ZK.out, rfl⟩)
      have YB : Below w.heap.size w (W8.putObj D (.deferred none)) := ZB.out.trans (belowK_b (w := w) (Nat.le_refl _) W8 D _ _ (by have := HD.out.2.1; omega) ZK.out rfl rfl)
      generalize W8.putObj D (.deferred none) = W9 at *
      obtain ⟨u1, u2, u3, u4, u5⟩ := Kept.two Y0
      exact ⟨.tuple #[.agg #[.int .i64 0, .int .i64 0], .int .i64 0], by simp [results, Try.f8, go_sem, u1, u2], (0, 0), 0, rfl, BP, YB⟩
    · have BM := Lib.hid (best_meet HIN.out HX0.out hn)
      have hd : (rm == 0) = false := beq_eq_false_iff_ne.mpr hn
      have ST : Hid (WiRel L rx W (.slice none 0 0) (.int .i64 0) W) := Lib.hid ⟨0, Nat.zero_le _, rfl, Lib.hid (World.ownsRow_nil _ _ _ _), Lib.hid (Below.refl _ _)⟩
      clear HX0 hn
      go_wp2
      go_loopw [8, 28] (fun v i wr => WiRel L rx W v i wr) (fun _ i _ => L.length - (intOf i).toNat)
      case atStart => exact ST.out
      case round =>
        obtain ⟨k, hk, rfl, HO, HB⟩ := hrel
        clear ST x1 x2 x3 y1 y2 y3 q1 q2 q3 q4 q5
        by_cases hlt : k < L.length
        · have HLT := Lib.hid hlt
          obtain ⟨b, off, rfl, g1, g2⟩ := HXW.out k hlt
          have c1 := (HB.out.cell (World.block_lt_of_cell? W _ g1)).trans g1
          have c2 := (HB.out.cell (World.block_lt_of_cell? W _ g2)).trans g2
          have hsn := withL_snoc L rx k hlt
          have hle := withL_len (L.take k) rx
          rw [List.length_take] at hle
          have hkk : (k : Int) < (L.length : Int) := by omega
          have hll := HLL.out
          have e2 : wrap64 ((k : Int) + 1) = (k : Int) + 1 := IntWalk.wrap64_in _ (by omega)
          obtain ⟨⟨p, q⟩, hpq⟩ : ∃ pq, L.getD k (0, 0) = pq := ⟨_, rfl⟩
          rw [hpq] at c1 c2 hsn
          dsimp only at c1 c2
          have F : Hid (∀ v W', W'.ownsRow W.heap.size 25 2 v (withL (L.take (k + 1)) rx).length (cells2 (withL (L.take (k + 1)) rx)) → Below W.heap.size W W' → WiRel L rx W v (.int .i64 ((k : Int) + 1)) W') := Lib.hid fun v W' h1 h2 => ⟨k + 1, hlt, rfl, Lib.hid h1, Lib.hid h2⟩
          have hc1 : (withL (L.take k) rx).length + [(p, q)].length ≤ maxLen := by unfold maxLen; simp; omega
          have hc2 : ((withL (L.take k) rx).length + [(p, q)].length) * 16 ≤ 140737488355328 := by simp; omega
          have CH := Lib.hid (fun r hr W => has_any p q rx r hr W)
          have KB : Hid (Kept (wr.alloc (.cells #[.int .i64 p, .int .i64 q] 25)) wr.heap.size #[.int .i64 p, .int .i64 q] 25) := Lib.hid (Kept.new rfl)
          have KX := Lib.hid ((H1.out.below HB.out (by have := HW.out; omega)).alloc (.cells #[.int .i64 p, .int .i64 q] 25))
          have O1 := Lib.hid (owns_below HO.out (one_alloc wr (.cells #[.int .i64 p, .int .i64 q] 25)))
          have B1 := Lib.hid (HB.out.alloc HB.out.size (.cells #[.int .i64 p, .int .i64 q] 25))
          obtain ⟨x1, x2, x3⟩ := Kept.one KX.out
          obtain ⟨y1, y2, y3, y4, y5⟩ := KB.out.two
          obtain ⟨vv, hvv⟩ : ∃ x, x = u8 := ⟨_, rfl⟩
          subst hvv
          by_cases hh : p ≤ rx ∧ rx ≤ q
          · have hbb : hasB rx (p, q) = true := hasB_iff.2 hh
            rw [if_pos hbb] at hsn
            have HSN := Lib.hid hsn
            have C1 := Lib.hid (fun W => CH.out true (decide_eq_true hh) W)
            clear hsn hle hll hpq hh hbb CH hlt hk g1 g2 HO HB
            go_wp2_with fail
            refine (C1.out _).mono ?_
            rintro _ w2 ⟨rfl, b2⟩
            have O2 := Lib.hid (owns_below O1.out b2)
            have B2 := Lib.hid (B1.out.trans (b2.mono B1.out.size))
            have K2 := Lib.hid (KB.out.next b2)
            clear x1 x2 x3 y1 y2 y3 y4 y5
            obtain ⟨y1, y2, y3, y4, y5⟩ := K2.out.two
            have O3 := Lib.hid (owns_below O2.out (one_alloc w2 (.cells #[.int .i64 p, .int .i64 q] 25)))
            have B3 := Lib.hid (B2.out.alloc B2.out.size (.cells #[.int .i64 p, .int .i64 q] 25))
            have K3 : Hid (PairRow (w2.alloc (.cells #[.int .i64 p, .int .i64 q] 25)) (some ⟨w2.heap.size, 0, none⟩) [(p, q)]) := Lib.hid (pair_one (T := 25) (Kept.new rfl))
            clear b2 KB O1 B1 O2 B2 K2 KX
            go_wp2_with (at_builtin; refine wpList_appendPairs rfl _ _ 22 rfl W 25 i0 (.agg #[.int .i64 0, .int .i64 0]) 16 Try.underlying22 hi hz0 hz1 hz2 rfl _ _ _ rfl O3.out (some ⟨w2.heap.size, 0, none⟩) 1 [(p, q)] rfl (by simp) K3.out hc1 hc2 B3.out ?_)
            intro v4 w4 o4 b4
            have GG := Lib.hid (F.out v4 w4 (by rw [HSN.out, List.length_append, cells2_append]; exact o4) b4)
            clear o4 b4 O3 B3 K3
            go_wp2
            go_roundw
            case rel => (try rw [e2]); exact GG.out
            case measure => have := HLT.out; (try rw [e2]); simp [intOf]; omega
          · have hbb : hasB rx (p, q) = false := decide_eq_false hh
            rw [hbb, if_neg (by simp), List.append_nil] at hsn
            have HSN := Lib.hid hsn
            have C1 := Lib.hid (fun W => CH.out false (decide_eq_false hh) W)
            clear hsn hle hll hpq hh hbb CH hlt hk g1 g2 HO HB
            go_wp2_with fail
            refine (C1.out _).mono ?_
            rintro _ w2 ⟨rfl, b2⟩
            have O2 := Lib.hid (owns_below O1.out b2)
            have B2 := Lib.hid (B1.out.trans (b2.mono B1.out.size))
            have GG := Lib.hid (F.out _ w2 (by rw [HSN.out]; exact O2.out) B2.out)
            clear b2 O2 B2 O1 B1 KX KB x1 x2 x3 y1 y2 y3 y4 y5
            go_wp2
            go_roundw
            case rel => (try rw [e2]); exact GG.out
            case measure => have := HLT.out; (try rw [e2]); simp [intOf]; omega
        · obtain rfl : k = L.length := by omega
          rw [List.take_length] at HO
          obtain ⟨vv, hvv⟩ : ∃ x, x = u8 := ⟨_, rfl⟩
          subst hvv
          obtain ⟨ax, cx, rfl, -, -, -, -, r8⟩ := PairRow.own HO.out
          have R8 := Lib.hid r8
          have hle := withL_len L rx
          have hll := HLL.out
          have CM := Lib.hid (meet_any ax cx (withL L rx) wr r8 (by omega))
          obtain ⟨hE, hP⟩ := BM.out
          rw [hE] at CM
          have HP := Lib.hid hP
          generalize combL (withL L rx) ((withL L rx).foldl opM fullP) = lo at *
          generalize combH (withL L rx) ((withL L rx).foldl opM fullP) = hi' at *
          obtain ⟨wy, hwy⟩ : ∃ x, x = wr := ⟨_, rfl⟩
          subst hwy
          clear hE hP BM hle hll hk hlt r8
          go_upto_region 17 with fail
          go_wp2_with fail
          refine CM.out.mono ?_
          rintro _ w2 ⟨rfl, b2⟩
          have QB : Hid (Below W.heap.size W (w2.alloc (.cells #[.int .i64 lo, .int .i64 hi'] 25)).drew) := Lib.hid ((HB.out.trans (b2.mono HB.out.size)).alloc (by have := HB.out.size; have := b2.size; omega) _).drew
          have KG : Hid (Kept (w2.alloc (.cells #[.int .i64 lo, .int .i64 hi'] 25)).drew w2.heap.size #[.int .i64 lo, .int .i64 hi'] 25) := Lib.hid ((Kept.new rfl).drewN 1)
          have Q0 := Lib.hid (H0.out.below QB.out (by have := HW.out; omega))
          have Q2 := Lib.hid (H2.out.below QB.out (by have := HW.out; omega))
          have QD : Hid ((w2.alloc (.cells #[.int .i64 lo, .int .i64 hi'] 25)).drew.heap[D]? = some (.deferred (some []))) := Lib.hid ((QB.out.block D HD.out.2.2).trans HD.out.1)
          have QW := Lib.hid (BW.out.trans (QB.out.mono BW.out.size))
          have GW : Hid (w.heap.size ≠ w2.heap.size) := Lib.hid (by have := HW.out; have := HB.out.size; have := b2.size; omega)
          clear b2 HO R8 HB H0 H1 H2 HXW BW
          go_upto_region 18 with fail
          generalize w2.alloc (.cells #[.int .i64 lo, .int .i64 hi'] 25) = WQ at *
          generalize w2.heap.size = gq at *
          obtain ⟨s1, s2, s3, s4, s5⟩ := KG.out.two
          obtain ⟨t1, t2, t3⟩ := Kept.one Q2.out
          obtain ⟨r1, r2, r3, r4, r5⟩ : WQ.cell? ⟨w.heap.size, 0, none⟩ = some (.int .i64 0) ∧ WQ.cell? ⟨w.heap.size, 1, none⟩ = some (.int .i64 0) ∧ WQ.frozen? ⟨w.heap.size, 0, none⟩ = false ∧ WQ.frozen? ⟨w.heap.size, 1, none⟩ = false ∧ True := by
            obtain ⟨r1, r2, r3, r4, r5⟩ := Q0.out.two
            exact ⟨r1, r2, r3, r4, trivial⟩
          have t1' : WQ.cell? ⟨w.heap.size + 1 + 1, 0, none⟩ = some (.int .i64 rm) := t1
          have s1' : WQ.cell? ⟨gq, 0, none⟩ = some (.int .i64 lo) := s1
          have s2' : WQ.cell? ⟨gq, 1, none⟩ = some (.int .i64 hi') := s2
          have Z0 : Hid (Kept ((WQ.setCell ⟨w.heap.size, 0, none⟩ (.int .i64 lo)).setCell ⟨w.heap.size, 1, none⟩ (.int .i64 hi')) w.heap.size #[.int .i64 lo, .int .i64 hi'] 25) := Lib.hid (Kept.set2 (show Kept WQ w.heap.size #[.int .i64 0, .int .i64 0] 25 from Q0.out) (.int .i64 lo) (.int .i64 hi'))
          have ZK : Hid (((WQ.setCell ⟨w.heap.size, 0, none⟩ (.int .i64 lo)).setCell ⟨w.heap.size, 1, none⟩ (.int .i64 hi')).heap[D]? = some (.deferred (some []))) := Lib.hid (((KeepsOthers.setCell _ _ _).trans (KeepsOthers.setCell _ _ _)).same D _ (show WQ.heap[D]? = _ from QD.out) rfl)
          have ZB : Hid (Below w.heap.size w ((WQ.setCell ⟨w.heap.size, 0, none⟩ (.int .i64 lo)).setCell ⟨w.heap.size, 1, none⟩ (.int .i64 hi'))) := Lib.hid (((show Below w.heap.size w WQ from ⟨QW.out.os, QW.out.tape, QW.out.output, QW.out.size, QW.out.block⟩).setCell (by simp) _).setCell (by simp) _)
          clear s1 s2 s3 s4 s5 t1 t2 t3 Q0 Q2 QD QW QB KG
          refine Code.wp_mono (fun e a w q => noPan_out q) ?_
          go_region
          all_goals
            refine noPan_normal ?_
            go_wp2
            generalize (WQ.setCell ⟨w.heap.size, 0, none⟩ (.int .i64 lo)).setCell ⟨w.heap.size, 1, none⟩ (.int .i64 hi') = W8 at *
            have Z0d : Hid (Kept W8.drew w.heap.size #[.int .i64 lo, .int .i64 hi'] 25) := Lib.hid (Z0.out.drewN 1)
            have ZKd : Hid (W8.drew.heap[D]? = some (.deferred (some []))) := Lib.hid ZK.out
            have ZBd : Hid (Below w.heap.size w W8.drew) := Lib.hid ZB.out.drew
            clear Z0 ZK ZB
            generalize W8.drew = V at *
            refine ⟨by simp, .inl ⟨_, _, rfl, run_takeDeferred ZKd.out, ?_⟩⟩
            have Y0 := kept_own Z0d.out (grownBy_putObj' V D (.deferred none)) (fun r e => by cases e; exact ⟨_, ZKd.out, rfl⟩)
            have YB : Below w.heap.size w (V.putObj D (.deferred none)) := ZBd.out.trans (belowK_b (w := w) (Nat.le_refl _) V D _ _ (by have := HD.out.2.1; omega) ZKd.out rfl rfl)
            generalize V.putObj D (.deferred none) = W9 at *
            obtain ⟨u1, u2, u3, u4, u5⟩ := Kept.two Y0
            exact ⟨.tuple #[.agg #[.int .i64 lo, .int .i64 hi'], .int .i64 rm], by simp [results, Try.f8, go_sem, u1, u2], (lo, hi'), rm, rfl, HP, YB⟩
  case stop =>
    rintro D c' pre W _ _ h _
    exact h.elim
end Go.Proofs.Ytllkdohomkofhaa
