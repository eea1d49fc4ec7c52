import Derived.Test.YtflplliiamodhaaZSRefB
import Derived.Deep.DeepCutAuto
/- noonmarkref17.Best, Agree: walked. -/
namespace Go.Proofs.Ytflplliiamodhaa
open Go.RowKit
set_option linter.unusedVariables false
set_option linter.unusedSimpArgs false

set_option maxHeartbeats 2000000 in
theorem rbest_any (xa : Option Addr) (xc : Nat) (L : List (Int × Int)) (w : World) (hx : PairRow w xa L) (hin : ∀ p ∈ L, InP p) (hl : L.length ≤ 100000) :
    Calls Try.prog 66 #[.slice xa L.length xc] w (BestOut L w) := by
  have HX := Lib.hid hx
  have HL := Lib.hid hl
  have HIN := Lib.hid hin
  have CV : Hid (∀ W y, PairRow W xa L → Calls Try.prog 92 #[.int .i64 y, .slice xa L.length xc] W (Gives (.int .i64 (votes L y : Int)) W)) := Lib.hid fun W y h => rvotes_any y xa xc L W h (by omega)
  clear hx hin hl
  go_enter Try.func66, Try.ntmps66
  go_wp2
  have T0 : Hid (Bq L 0 0 0) := Lib.hid (.inl ⟨rfl, rfl, fun j hj => by omega⟩)
  have T1 : Hid (Kept ((w.alloc (.cells #[.int .i64 0, .int .i64 0] 42)).alloc (.cells #[.int .i64 0, .int .i64 0] 42)) w.heap.size #[.int .i64 0, .int .i64 0] 42) := Lib.hid ((Kept.new rfl).alloc _)
  have T2 : Hid (Kept ((w.alloc (.cells #[.int .i64 0, .int .i64 0] 42)).alloc (.cells #[.int .i64 0, .int .i64 0] 42)) (w.heap.size + 1) #[.int .i64 0, .int .i64 0] 42) := Lib.hid (Kept.new (by simp))
  have T3 : Hid (Below w.heap.size w ((w.alloc (.cells #[.int .i64 0, .int .i64 0] 42)).alloc (.cells #[.int .i64 0, .int .i64 0] 42))) := Lib.hid ((one_alloc _ _).alloc (by simp) _)
  go_loopw [4, 6] (fun m i wr => B1Rel L w m i wr) (fun _ i _ => L.length - (intOf i).toNat)
  case atStart => exact ⟨0, 0, 0, Nat.zero_le _, rfl, rfl, T0, T1, T2, T3⟩
  case round =>
    clear T0 T1 T2 T3
    obtain ⟨k, lo, n, hk, rfl, rfl, HQ, K0, K1, HB⟩ := hrel
    by_cases hlt : k < L.length
    · have HLT := Lib.hid hlt
      obtain ⟨b, off, rfl, q1, q2⟩ := HX.out k hlt
      have c1 := (HB.out.cell (World.block_lt_of_cell? w _ q1)).trans q1
      have hkk : (k : Int) < (L.length : Int) := by omega
      have hk0 : (0 : Int) ≤ (k : Int) := by omega
      have hll := HL.out
      obtain ⟨p, hp⟩ : ∃ p, (L.getD k (0, 0)).1 = p := ⟨_, rfl⟩
      rw [hp] at c1 q1
      have Q1 := Lib.hid q1
      have hbq := HQ.out
      have hn0 : 0 ≤ n := by rcases hbq with ⟨h, _⟩ | ⟨h, _⟩ <;> omega
      have e2 : wrap64 ((k : Int) + 1) = (k : Int) + 1 := IntWalk.wrap64_in _ (by omega)
      have F : Hid (∀ lo n W, Bq L (k + 1) lo n → Kept W w.heap.size #[.int .i64 0, .int .i64 0] 42 → Kept W (w.heap.size + 1) #[.int .i64 lo, .int .i64 lo] 42 → Below w.heap.size w W → B1Rel L w (.int .i64 n) (.int .i64 ((k : Int) + 1)) W) := Lib.hid fun lo n W h1 h2 h3 h4 => ⟨k + 1, lo, n, hlt, rfl, rfl, Lib.hid h1, Lib.hid h2, Lib.hid h3, Lib.hid h4⟩
      have HY := Lib.hid (fun hc => bq_yes hbq hp hc)
      have HN := Lib.hid (fun hc => bq_no hbq hp hc)
      clear hll hlt hk q1 q2 hp hbq HQ
      go_wp2_with fail
      refine (CV.out _ p (HX.out.below HB.out)).mono ?_
      rintro _ w2 ⟨rfl, b2⟩
      have B2 := Lib.hid (HB.out.trans (b2.mono HB.out.size))
      have J0 := Lib.hid (K0.out.next b2)
      have J1 := Lib.hid (K1.out.next b2)
      clear b2 c1 HB K0 K1 CV
      have c1 := (B2.out.cell (World.block_lt_of_cell? w _ Q1.out)).trans Q1.out
      obtain ⟨y1, y2, y3, y4, y5⟩ := J1.out.two
      generalize (votes L p : Int) = V at *
      go_upto_region 7 with fail
      -- @a
      rcases Int.lt_trichotomy n V with h1 | h1 | h1
      · have hc : n < V ∨ (V = n ∧ 0 < n ∧ p < lo) := .inl h1
        have d1 : decide (n < V) = true := decide_eq_true h1
        have FF := Lib.hid (fun W => F.out p V W (HY.out hc))
        clear hc F HY HN
        go_quiet (fail)
        go_wp2
        -- @y1
        go_region
        -- @z1
        have GG := Lib.hid (FF.out (((w2.drewN (nq + 1)).setCell ⟨w.heap.size + 1, 0, none⟩ (.int .i64 p)).setCell ⟨w.heap.size + 1, 1, none⟩ (.int .i64 p)) (((J0.out.drewN (nq + 1)).far (by simp) _).far (by simp) _) ((J1.out.drewN (nq + 1)).set2 _ _) (((below_drewN B2.out (nq + 1)).setCell (by simp) _).setCell (by simp) _))
        go_wp2
        go_roundw
        case rel => (try rw [e2]); exact GG.out
        case measure => have := HLT.out; (try rw [e2]); simp [intOf]; omega
      · have d1 : decide (n < V) = false := decide_eq_false (by omega)
        have d2 : (V == n) = true := by simp [h1]
        by_cases h2 : 0 < V
        · have d3 : decide (0 < V) = true := decide_eq_true h2
          by_cases h3 : p < lo
          · have d4 : decide (p < lo) = true := decide_eq_true h3
            have hc : n < V ∨ (V = n ∧ 0 < n ∧ p < lo) := .inr ⟨h1.symm, by omega, h3⟩
            clear h1 h2 h3
            have FF := Lib.hid (fun W => F.out p V W (HY.out hc))
            clear hc F HY HN
            go_quiet (fail)
            go_wp2
            -- @y2
            go_region
            -- @z2
            have GG := Lib.hid (FF.out (((w2.drewN (nq + 1)).setCell ⟨w.heap.size + 1, 0, none⟩ (.int .i64 p)).setCell ⟨w.heap.size + 1, 1, none⟩ (.int .i64 p)) (((J0.out.drewN (nq + 1)).far (by simp) _).far (by simp) _) ((J1.out.drewN (nq + 1)).set2 _ _) (((below_drewN B2.out (nq + 1)).setCell (by simp) _).setCell (by simp) _))
            go_wp2
            go_roundw
            case rel => (try rw [e2]); exact GG.out
            case measure => have := HLT.out; (try rw [e2]); simp [intOf]; omega
          · have d4 : decide (p < lo) = false := decide_eq_false h3
            have hc : ¬ (n < V ∨ (V = n ∧ 0 < n ∧ p < lo)) := by omega
            clear h1 h2 h3
            have FF := Lib.hid (fun W => F.out lo n W (HN.out hc))
            clear hc F HY HN
            go_quiet (fail)
            have GG := Lib.hid (FF.out (w2.drewN nq) (J0.out.drewN nq) (J1.out.drewN nq) (below_drewN B2.out nq))
            go_wp2
            go_roundw
            case rel => (try rw [e2]); exact GG.out
            case measure => have := HLT.out; (try rw [e2]); simp [intOf]; omega
        · have d3 : decide (0 < V) = false := decide_eq_false h2
          have hc : ¬ (n < V ∨ (V = n ∧ 0 < n ∧ p < lo)) := by omega
          clear h1 h2
          have FF := Lib.hid (fun W => F.out lo n W (HN.out hc))
          clear hc F HY HN
          go_quiet (fail)
          have GG := Lib.hid (FF.out (w2.drewN nq) (J0.out.drewN nq) (J1.out.drewN nq) (below_drewN B2.out nq))
          go_wp2
          go_roundw
          case rel => (try rw [e2]); exact GG.out
          case measure => have := HLT.out; (try rw [e2]); simp [intOf]; omega
      · have d1 : decide (n < V) = false := decide_eq_false (by omega)
        have d2 : (V == n) = false := beq_eq_false_iff_ne.mpr (by omega)
        have hc : ¬ (n < V ∨ (V = n ∧ 0 < n ∧ p < lo)) := by omega
        clear h1
        have FF := Lib.hid (fun W => F.out lo n W (HN.out hc))
        clear hc F HY HN
        go_quiet (fail)
        have GG := Lib.hid (FF.out (w2.drewN nq) (J0.out.drewN nq) (J1.out.drewN nq) (below_drewN B2.out nq))
        go_wp2
        go_roundw
        case rel => (try rw [e2]); exact GG.out
        case measure => have := HLT.out; (try rw [e2]); simp [intOf]; omega
    · obtain rfl : k = L.length := by omega
      by_cases hn : n = 0
      · have BP := Lib.hid (bq_none HQ.out hn)
        subst hn
        clear hlt hk HQ CV
        obtain ⟨y1, y2, y3, y4, y5⟩ := K0.out.two
        have hlt0 : w.heap.size < wr.heap.size := y5
        have G0 : Hid (Kept ((wr.setCell ⟨w.heap.size, 0, none⟩ (.int .i64 0)).setCell ⟨w.heap.size, 1, none⟩ (.int .i64 0)) w.heap.size #[.int .i64 0, .int .i64 0] 42) := Lib.hid (K0.out.set2 _ _)
        have GB : Hid (Below w.heap.size w ((wr.setCell ⟨w.heap.size, 0, none⟩ (.int .i64 0)).setCell ⟨w.heap.size, 1, none⟩ (.int .i64 0))) := Lib.hid ((HB.out.setCell (by simp) _).setCell (by simp) _)
        go_wp2
        -- @h
        generalize (wr.setCell ⟨w.heap.size, 0, none⟩ (.int .i64 0)).setCell ⟨w.heap.size, 1, none⟩ (.int .i64 0) = W8 at *
        obtain ⟨u1, u2, u3, u4, u5⟩ := G0.out.two
        (try simp only [Exit.inBlock, Exit.then])
        refine bodyPost_ret (by simp [results, Try.f66, go_sem, u1, u2]; try rfl) rfl ?_
        exact ⟨(0, 0), 0, rfl, BP, GB.out⟩
      · have HB2 := Lib.hid (fun hi (h : Hq L lo L.length hi) => bq_best HIN.out HQ.out hn h)
        have dn : (n == 0) = false := beq_eq_false_iff_ne.mpr hn
        have T0 : Hid (Hq L lo 0 9223372036854775807) := Lib.hid ⟨fun j hj => by omega, .inl rfl⟩
        have T1 := Lib.hid (K0.out.far (p := ⟨w.heap.size + 1, 1, none⟩) (by simp) (.int .i64 9223372036854775807))
        have T2 : Hid (Kept (wr.setCell ⟨w.heap.size + 1, 1, none⟩ (.int .i64 9223372036854775807)) (w.heap.size + 1) #[.int .i64 lo, .int .i64 9223372036854775807] 42) := Lib.hid (K1.out.set 1 _)
        have T3 := Lib.hid (HB.out.setCell (p := ⟨w.heap.size + 1, 1, none⟩) (by simp) (.int .i64 9223372036854775807))
        obtain ⟨y1, y2, y3, y4, y5⟩ := K1.out.two
        clear hlt hk HQ CV hn
        go_wp2
        clear y1 y2 y3 y4 y5 K0 K1 HB HIN dn
        go_loopw [8] (fun i wr => B2Rel L lo w i wr) (fun i _ => L.length - (intOf i).toNat)
        case atStart => exact ⟨0, _, Nat.zero_le _, rfl, T0, T1, T2, T3⟩
        case round =>
          clear T0 T1 T2 T3
          obtain ⟨k, hi, hk, rfl, HQ, K0, K1, HB⟩ := hrel
          by_cases hlt : k < L.length
          · have HLT := Lib.hid hlt
            obtain ⟨b, off, rfl, q1, q2⟩ := HX.out k hlt
            have hkk : (k : Int) < (L.length : Int) := by omega
            have hk0 : (0 : Int) ≤ (k : Int) := by omega
            have hll := HL.out
            obtain ⟨⟨p, q⟩, hpq⟩ : ∃ pq, L.getD k (0, 0) = pq := ⟨_, rfl⟩
            rw [hpq] at q1 q2
            dsimp only at q1 q2
            have R2 : Hid (∀ W, Below w.heap.size w W → W.cell? ⟨b, off + k * 2, none⟩ = some (.int .i64 p) ∧ W.cell? ⟨b, off + k * 2 + 1, none⟩ = some (.int .i64 q)) := Lib.hid fun W h => ⟨(h.cell (World.block_lt_of_cell? w _ q1)).trans q1, (h.cell (World.block_lt_of_cell? w _ q2)).trans q2⟩
            have e2 : wrap64 ((k : Int) + 1) = (k : Int) + 1 := IntWalk.wrap64_in _ (by omega)
            have F : Hid (∀ hi W, Hq L lo (k + 1) hi → Kept W w.heap.size #[.int .i64 0, .int .i64 0] 42 → Kept W (w.heap.size + 1) #[.int .i64 lo, .int .i64 hi] 42 → Below w.heap.size w W → B2Rel L lo w (.int .i64 ((k : Int) + 1)) W) := Lib.hid fun hi W h1 h2 h3 h4 => ⟨k + 1, hi, hlt, rfl, Lib.hid h1, Lib.hid h2, Lib.hid h3, Lib.hid h4⟩
            have HY := Lib.hid (fun hb => hq_yes HQ.out hpq hb)
            have HN := Lib.hid (fun hb => hq_no HQ.out hpq hb)
            clear hll hlt hk q1 q2 hpq HQ
            obtain ⟨c1, c2⟩ := R2.out _ HB.out
            obtain ⟨y1, y2, y3, y4, y5⟩ := K1.out.two
            go_upto_region 16 with fail
            -- @i
            by_cases h0 : p ≤ q
            · have d0 := decide_eq_true h0
              by_cases h1 : p ≤ lo
              · have d1 : decide (p ≤ lo) = true := decide_eq_true h1
                by_cases h2 : lo ≤ q
                · have d2 : decide (lo ≤ q) = true := decide_eq_true h2
                  have hb : hasB lo (p, q) = true := decide_eq_true (by dsimp only; omega)
                  have FF := Lib.hid (fun W => F.out _ W (HY.out hb))
                  clear hb F HY HN h0 h1 h2
                  have B5 : Hid (Below w.heap.size w wr.drew) := Lib.hid HB.out.drew
                  have J5 := Lib.hid (K0.out.drewN 1)
                  have K5 := Lib.hid (K1.out.drewN 1)
                  clear c1 c2 y1 y2 y3 y4 y5
                  obtain ⟨c1, c2⟩ := R2.out _ B5.out
                  obtain ⟨y1, y2, y3, y4, y5⟩ := K5.out.two
                  refine wp_region_held_drew (S := fun W' => W'.cell? ⟨b, off + k * 2, none⟩ = some (.int .i64 p) ∧ W'.cell? ⟨b, off + k * 2 + 1, none⟩ = some (.int .i64 q) ∧ W'.cell? ⟨w.heap.size + 1, 0, none⟩ = some (.int .i64 lo) ∧ W'.cell? ⟨w.heap.size + 1, 1, none⟩ = some (.int .i64 hi)) (by kernel_rfl) ⟨c1, c2, y1, y2⟩ (fun hHeld => ?_)
                  clear HB K0 K1
                  change Hid (Kept wr.drew _ _ _) at J5
                  change Hid (Kept wr.drew _ _ _) at K5
                  generalize wr.drew = v2 at *
                  refine wpAnyH_take (i := 0) (oi := ({ dst := some 67, op := Op.move (Operand.tmp 0), type := 87, pos := "ref.go:44", after := #[], guard := none } : Oper)) (v := ?_) rfl (by kernel_rfl) (by kernel_rfl) (by kernel_rfl) (fun _ _ _ h => h) (Or.inl ⟨by rfl, ?_⟩) hHeld ?_
                  rotate_left
                  · ((intro w hSw; obtain ⟨s1, s2, s3, s4⟩ := hSw; go_simp); (try with_reducible rfl))
                  (try simp only [Act.put, List.setIfInBounds_toArray, List.set_cons_zero, List.set_cons_succ])
                  refine wpAnyH_take (i := 1) (oi := ({ dst := some 68, op := Op.move (Operand.tmp 8), type := 3, pos := "ref.go:44", after := #[], guard := none } : Oper)) (v := ?_) rfl (by kernel_rfl) (by kernel_rfl) (by kernel_rfl) (fun _ _ _ h => h) (Or.inl ⟨by rfl, ?_⟩) hHeld ?_
                  rotate_left
                  · ((intro w hSw; obtain ⟨s1, s2, s3, s4⟩ := hSw; go_simp); (try with_reducible rfl))
                  (try simp only [Act.put, List.setIfInBounds_toArray, List.set_cons_zero, List.set_cons_succ])
                  refine wpAnyH_take (i := 2) (oi := ({ dst := some 69, op := Op.indexAddr 87 (Operand.tmp 67) (Operand.tmp 68), type := 0, pos := "ref.go:44", after := #[{ on := 0, ground := Ground.data }, { on := 1, ground := Ground.data }], guard := none } : Oper)) (v := ?_) rfl (by kernel_rfl) (by kernel_rfl) (by kernel_rfl) (fun _ _ _ h => h) (Or.inl ⟨by rfl, ?_⟩) hHeld ?_
                  rotate_left
                  · ((intro w hSw; obtain ⟨s1, s2, s3, s4⟩ := hSw; go_simp); (try with_reducible rfl))
                  (try simp only [Act.put, List.setIfInBounds_toArray, List.set_cons_zero, List.set_cons_succ])
                  refine wpAnyH_take (i := 3) (oi := ({ dst := some 70, op := Op.load 42 (Operand.tmp 69), type := 42, pos := "ref.go:44", after := #[{ on := 2, ground := Ground.data }], guard := none } : Oper)) (v := ?_) rfl (by kernel_rfl) (by kernel_rfl) (by kernel_rfl) (fun _ _ _ h => h) (Or.inl ⟨by rfl, ?_⟩) hHeld ?_
                  rotate_left
                  · ((intro w hSw; obtain ⟨s1, s2, s3, s4⟩ := hSw; go_simp); (try with_reducible rfl))
                  (try simp only [Act.put, List.setIfInBounds_toArray, List.set_cons_zero, List.set_cons_succ])
                  refine wpAnyH_ready (rs := [4]) (by kernel_rfl) (by simp) ?_
                  refine AllReadyH.cons (o := ({ dst := some 71, op := Op.call { callee := Callee.value (Operand.func 50), args := #[Operand.tmp 70], argTypes := #[42] }, type := 4, pos := "ref.go:44", after := #[{ on := 3, ground := Ground.data }], guard := none } : Oper)) rfl (fun K hK => ?_) (AllReadyH.nil)
                  go_simp
                  refine (ref_right_any p q _).mono ?_
                  rintro _ w6 ⟨rfl, b6⟩
                  rw [d0]
                  have B6 := Lib.hid (B5.out.trans (b6.mono B5.out.size))
                  have J6 := Lib.hid (J5.out.next b6)
                  have K6 := Lib.hid (K5.out.next b6)
                  clear b6 B5 J5 K5 c1 c2 y1 y2 y3 y4 y5
                  obtain ⟨c1, c2⟩ := R2.out _ B6.out
                  obtain ⟨y1, y2, y3, y4, y5⟩ := K6.out.two
                  refine hK.out _ _ ?_ (fun hHeld => ?_)
                  · exact ⟨c1, c2, y1, y2⟩
                  clear hK K
                  (try simp only [Act.put, List.setIfInBounds_toArray, List.set_cons_zero, List.set_cons_succ])
                  refine wpAnyH_take (i := 5) (oi := ({ dst := some 72, op := Op.move (Operand.tmp 71), type := 4, pos := "ref.go:44", after := #[{ on := 4, ground := Ground.data }, { on := 4, ground := Ground.chain }], guard := none } : Oper)) (v := ?_) rfl (by kernel_rfl) (by kernel_rfl) (by kernel_rfl) (fun _ _ _ h => h) (Or.inl ⟨by rfl, ?_⟩) hHeld ?_
                  rotate_left
                  · ((intro w hSw; obtain ⟨s1, s2, s3, s4⟩ := hSw; go_simp); (try with_reducible rfl))
                  (try simp only [Act.put, List.setIfInBounds_toArray, List.set_cons_zero, List.set_cons_succ])
                  refine wpAnyH_take (i := 6) (oi := ({ dst := some 73, op := Op.move (Operand.tmp 0), type := 87, pos := "ref.go:44", after := #[{ on := 5, ground := Ground.guard }], guard := some (5, true) } : Oper)) (v := ?_) rfl (by kernel_rfl) (by kernel_rfl) (by kernel_rfl) (fun _ _ _ h => h) (Or.inl ⟨by rfl, ?_⟩) hHeld ?_
                  rotate_left
                  · ((intro w hSw; obtain ⟨s1, s2, s3, s4⟩ := hSw; go_simp); (try with_reducible rfl))
                  (try simp only [Act.put, List.setIfInBounds_toArray, List.set_cons_zero, List.set_cons_succ])
                  refine wpAnyH_take (i := 7) (oi := ({ dst := some 74, op := Op.move (Operand.tmp 8), type := 3, pos := "ref.go:44", after := #[{ on := 5, ground := Ground.guard }], guard := some (5, true) } : Oper)) (v := ?_) rfl (by kernel_rfl) (by kernel_rfl) (by kernel_rfl) (fun _ _ _ h => h) (Or.inl ⟨by rfl, ?_⟩) hHeld ?_
                  rotate_left
                  · ((intro w hSw; obtain ⟨s1, s2, s3, s4⟩ := hSw; go_simp); (try with_reducible rfl))
                  (try simp only [Act.put, List.setIfInBounds_toArray, List.set_cons_zero, List.set_cons_succ])
                  refine wpAnyH_take (i := 8) (oi := ({ dst := some 75, op := Op.indexAddr 87 (Operand.tmp 73) (Operand.tmp 74), type := 0, pos := "ref.go:44", after := #[{ on := 6, ground := Ground.data }, { on := 7, ground := Ground.data }, { on := 5, ground := Ground.guard }], guard := some (5, true) } : Oper)) (v := ?_) rfl (by kernel_rfl) (by kernel_rfl) (by kernel_rfl) (fun _ _ _ h => h) (Or.inl ⟨by rfl, ?_⟩) hHeld ?_
                  rotate_left
                  · ((intro w hSw; obtain ⟨s1, s2, s3, s4⟩ := hSw; go_simp); (try with_reducible rfl))
                  (try simp only [Act.put, List.setIfInBounds_toArray, List.set_cons_zero, List.set_cons_succ])
                  refine wpAnyH_take (i := 9) (oi := ({ dst := some 76, op := Op.fieldAddr 42 (Operand.tmp 75) 0, type := 0, pos := "ref.go:44", after := #[{ on := 8, ground := Ground.data }, { on := 5, ground := Ground.guard }], guard := some (5, true) } : Oper)) (v := ?_) rfl (by kernel_rfl) (by kernel_rfl) (by kernel_rfl) (fun _ _ _ h => h) (Or.inl ⟨by rfl, ?_⟩) hHeld ?_
                  rotate_left
                  · ((intro w hSw; obtain ⟨s1, s2, s3, s4⟩ := hSw; go_simp); (try with_reducible rfl))
                  (try simp only [Act.put, List.setIfInBounds_toArray, List.set_cons_zero, List.set_cons_succ])
                  refine wpAnyH_take (i := 10) (oi := ({ dst := some 77, op := Op.load 2 (Operand.tmp 76), type := 2, pos := "ref.go:44", after := #[{ on := 9, ground := Ground.data }, { on := 5, ground := Ground.guard }], guard := some (5, true) } : Oper)) (v := ?_) rfl (by kernel_rfl) (by kernel_rfl) (by kernel_rfl) (fun _ _ _ h => h) (Or.inl ⟨by rfl, ?_⟩) hHeld ?_
                  rotate_left
                  · ((intro w hSw; obtain ⟨s1, s2, s3, s4⟩ := hSw; go_simp); (try with_reducible rfl))
                  (try simp only [Act.put, List.setIfInBounds_toArray, List.set_cons_zero, List.set_cons_succ])
                  refine wpAnyH_take (i := 11) (oi := ({ dst := some 78, op := Op.fieldAddr 42 (Operand.tmp 5) 0, type := 0, pos := "ref.go:44", after := #[{ on := 5, ground := Ground.guard }], guard := some (5, true) } : Oper)) (v := ?_) rfl (by kernel_rfl) (by kernel_rfl) (by kernel_rfl) (fun _ _ _ h => h) (Or.inl ⟨by rfl, ?_⟩) hHeld ?_
                  rotate_left
                  · ((intro w hSw; obtain ⟨s1, s2, s3, s4⟩ := hSw; go_simp); (try with_reducible rfl))
                  (try simp only [Act.put, List.setIfInBounds_toArray, List.set_cons_zero, List.set_cons_succ])
                  refine wpAnyH_take (i := 12) (oi := ({ dst := some 79, op := Op.load 2 (Operand.tmp 78), type := 2, pos := "ref.go:44", after := #[{ on := 11, ground := Ground.data }, { on := 5, ground := Ground.guard }], guard := some (5, true) } : Oper)) (v := ?_) rfl (by kernel_rfl) (by kernel_rfl) (by kernel_rfl) (fun _ _ _ h => h) (Or.inl ⟨by rfl, ?_⟩) hHeld ?_
                  rotate_left
                  · ((intro w hSw; obtain ⟨s1, s2, s3, s4⟩ := hSw; go_simp); (try with_reducible rfl))
                  (try simp only [Act.put, List.setIfInBounds_toArray, List.set_cons_zero, List.set_cons_succ])
                  refine wpAnyH_take (i := 13) (oi := ({ dst := some 80, op := Op.binOp BinOp.leq 2 (Operand.tmp 77) (Operand.tmp 79) 2, type := 4, pos := "ref.go:44", after := #[{ on := 10, ground := Ground.data }, { on := 12, ground := Ground.data }, { on := 5, ground := Ground.guard }], guard := some (5, true) } : Oper)) (v := ?_) rfl (by kernel_rfl) (by kernel_rfl) (by kernel_rfl) (fun _ _ _ h => h) (Or.inl ⟨by rfl, ?_⟩) hHeld ?_
                  rotate_left
                  · ((intro w hSw; obtain ⟨s1, s2, s3, s4⟩ := hSw; go_simp); (try with_reducible rfl))
                  (try simp only [Act.put, List.setIfInBounds_toArray, List.set_cons_zero, List.set_cons_succ])
                  refine wpAnyH_take (i := 14) (oi := ({ dst := some 81, op := Op.pick (Operand.tmp 72) (Operand.tmp 80) (Operand.const (Value.bool false)), type := 4, pos := "ref.go:44", after := #[{ on := 5, ground := Ground.data }, { on := 13, ground := Ground.data }], guard := none } : Oper)) (v := ?_) rfl (by kernel_rfl) (by kernel_rfl) (by kernel_rfl) (fun _ _ _ h => h) (Or.inl ⟨by rfl, ?_⟩) hHeld ?_
                  rotate_left
                  · ((intro w hSw; obtain ⟨s1, s2, s3, s4⟩ := hSw; go_simp); (try with_reducible rfl))
                  (try simp only [Act.put, List.setIfInBounds_toArray, List.set_cons_zero, List.set_cons_succ])
                  refine wpAnyH_take (i := 15) (oi := ({ dst := some 82, op := Op.move (Operand.tmp 81), type := 4, pos := "ref.go:44", after := #[{ on := 14, ground := Ground.data }, { on := 5, ground := Ground.chain }], guard := none } : Oper)) (v := ?_) rfl (by kernel_rfl) (by kernel_rfl) (by kernel_rfl) (fun _ _ _ h => h) (Or.inl ⟨by rfl, ?_⟩) hHeld ?_
                  rotate_left
                  · ((intro w hSw; obtain ⟨s1, s2, s3, s4⟩ := hSw; go_simp); (try with_reducible rfl))
                  (try simp only [Act.put, List.setIfInBounds_toArray, List.set_cons_zero, List.set_cons_succ])
                  refine wpAnyH_take (i := 16) (oi := ({ dst := some 83, op := Op.move (Operand.tmp 0), type := 87, pos := "ref.go:44", after := #[{ on := 15, ground := Ground.guard }], guard := some (15, true) } : Oper)) (v := ?_) rfl (by kernel_rfl) (by kernel_rfl) (by kernel_rfl) (fun _ _ _ h => h) (Or.inl ⟨by rfl, ?_⟩) hHeld ?_
                  rotate_left
                  · ((intro w hSw; obtain ⟨s1, s2, s3, s4⟩ := hSw; go_simp); (try with_reducible rfl))
                  (try simp only [Act.put, List.setIfInBounds_toArray, List.set_cons_zero, List.set_cons_succ])
                  refine wpAnyH_take (i := 17) (oi := ({ dst := some 84, op := Op.move (Operand.tmp 8), type := 3, pos := "ref.go:44", after := #[{ on := 15, ground := Ground.guard }], guard := some (15, true) } : Oper)) (v := ?_) rfl (by kernel_rfl) (by kernel_rfl) (by kernel_rfl) (fun _ _ _ h => h) (Or.inl ⟨by rfl, ?_⟩) hHeld ?_
                  rotate_left
                  · ((intro w hSw; obtain ⟨s1, s2, s3, s4⟩ := hSw; go_simp); (try with_reducible rfl))
                  (try simp only [Act.put, List.setIfInBounds_toArray, List.set_cons_zero, List.set_cons_succ])
                  refine wpAnyH_take (i := 18) (oi := ({ dst := some 85, op := Op.indexAddr 87 (Operand.tmp 83) (Operand.tmp 84), type := 0, pos := "ref.go:44", after := #[{ on := 16, ground := Ground.data }, { on := 17, ground := Ground.data }, { on := 15, ground := Ground.guard }], guard := some (15, true) } : Oper)) (v := ?_) rfl (by kernel_rfl) (by kernel_rfl) (by kernel_rfl) (fun _ _ _ h => h) (Or.inl ⟨by rfl, ?_⟩) hHeld ?_
                  rotate_left
                  · ((intro w hSw; obtain ⟨s1, s2, s3, s4⟩ := hSw; go_simp); (try with_reducible rfl))
                  (try simp only [Act.put, List.setIfInBounds_toArray, List.set_cons_zero, List.set_cons_succ])
                  refine wpAnyH_take (i := 19) (oi := ({ dst := some 86, op := Op.fieldAddr 42 (Operand.tmp 85) 1, type := 0, pos := "ref.go:44", after := #[{ on := 18, ground := Ground.data }, { on := 15, ground := Ground.guard }], guard := some (15, true) } : Oper)) (v := ?_) rfl (by kernel_rfl) (by kernel_rfl) (by kernel_rfl) (fun _ _ _ h => h) (Or.inl ⟨by rfl, ?_⟩) hHeld ?_
                  rotate_left
                  · ((intro w hSw; obtain ⟨s1, s2, s3, s4⟩ := hSw; go_simp); (try with_reducible rfl))
                  (try simp only [Act.put, List.setIfInBounds_toArray, List.set_cons_zero, List.set_cons_succ])
                  refine wpAnyH_take (i := 20) (oi := ({ dst := some 87, op := Op.load 2 (Operand.tmp 86), type := 2, pos := "ref.go:44", after := #[{ on := 19, ground := Ground.data }, { on := 15, ground := Ground.guard }], guard := some (15, true) } : Oper)) (v := ?_) rfl (by kernel_rfl) (by kernel_rfl) (by kernel_rfl) (fun _ _ _ h => h) (Or.inl ⟨by rfl, ?_⟩) hHeld ?_
                  rotate_left
                  · ((intro w hSw; obtain ⟨s1, s2, s3, s4⟩ := hSw; go_simp); (try with_reducible rfl))
                  (try simp only [Act.put, List.setIfInBounds_toArray, List.set_cons_zero, List.set_cons_succ])
                  refine wpAnyH_take (i := 21) (oi := ({ dst := some 88, op := Op.fieldAddr 42 (Operand.tmp 5) 0, type := 0, pos := "ref.go:44", after := #[{ on := 15, ground := Ground.guard }], guard := some (15, true) } : Oper)) (v := ?_) rfl (by kernel_rfl) (by kernel_rfl) (by kernel_rfl) (fun _ _ _ h => h) (Or.inl ⟨by rfl, ?_⟩) hHeld ?_
                  rotate_left
                  · ((intro w hSw; obtain ⟨s1, s2, s3, s4⟩ := hSw; go_simp); (try with_reducible rfl))
                  (try simp only [Act.put, List.setIfInBounds_toArray, List.set_cons_zero, List.set_cons_succ])
                  refine wpAnyH_take (i := 22) (oi := ({ dst := some 89, op := Op.load 2 (Operand.tmp 88), type := 2, pos := "ref.go:44", after := #[{ on := 21, ground := Ground.data }, { on := 15, ground := Ground.guard }], guard := some (15, true) } : Oper)) (v := ?_) rfl (by kernel_rfl) (by kernel_rfl) (by kernel_rfl) (fun _ _ _ h => h) (Or.inl ⟨by rfl, ?_⟩) hHeld ?_
                  rotate_left
                  · ((intro w hSw; obtain ⟨s1, s2, s3, s4⟩ := hSw; go_simp); (try with_reducible rfl))
                  (try simp only [Act.put, List.setIfInBounds_toArray, List.set_cons_zero, List.set_cons_succ])
                  refine wpAnyH_take (i := 23) (oi := ({ dst := some 90, op := Op.binOp BinOp.geq 2 (Operand.tmp 87) (Operand.tmp 89) 2, type := 4, pos := "ref.go:44", after := #[{ on := 20, ground := Ground.data }, { on := 22, ground := Ground.data }, { on := 15, ground := Ground.guard }], guard := some (15, true) } : Oper)) (v := ?_) rfl (by kernel_rfl) (by kernel_rfl) (by kernel_rfl) (fun _ _ _ h => h) (Or.inl ⟨by rfl, ?_⟩) hHeld ?_
                  rotate_left
                  · ((intro w hSw; obtain ⟨s1, s2, s3, s4⟩ := hSw; go_simp); (try with_reducible rfl))
                  (try simp only [Act.put, List.setIfInBounds_toArray, List.set_cons_zero, List.set_cons_succ])
                  refine wpAnyH_take (i := 24) (oi := ({ dst := some 91, op := Op.pick (Operand.tmp 82) (Operand.tmp 90) (Operand.const (Value.bool false)), type := 4, pos := "ref.go:44", after := #[{ on := 15, ground := Ground.data }, { on := 23, ground := Ground.data }], guard := none } : Oper)) (v := ?_) rfl (by kernel_rfl) (by kernel_rfl) (by kernel_rfl) (fun _ _ _ h => h) (Or.inl ⟨by rfl, ?_⟩) hHeld ?_
                  rotate_left
                  · ((intro w hSw; obtain ⟨s1, s2, s3, s4⟩ := hSw; go_simp); (try with_reducible rfl))
                  (try simp only [Act.put, List.setIfInBounds_toArray, List.set_cons_zero, List.set_cons_succ])
                  refine wpAnyH_done (by kernel_rfl) ?_ _
                  clear hHeld
                  go_wp2_with fail
                  -- @k
                  go_region
                  -- @m
                  have GG := Lib.hid (FF.out (w6.setCell ⟨w.heap.size + 1, 1, none⟩ (.int .i64 (min hi q))).drew ((J6.out.far (by simp) _).drewN 1) ((K6.out.set 1 _).drewN 1) ((B6.out.setCell (by simp) _).drew))
                  go_wp2
                  go_roundw
                  case rel => (try rw [e2]); exact GG.out
                  case measure => have := HLT.out; (try rw [e2]); simp [intOf]; omega
                · have d2 : decide (lo ≤ q) = false := decide_eq_false h2
                  have hb : hasB lo (p, q) = false := decide_eq_false (by dsimp only; omega)
                  have FF := Lib.hid (fun W => F.out _ W (HN.out hb))
                  clear hb F HY HN h0 h1 h2
                  have B5 : Hid (Below w.heap.size w wr.drew) := Lib.hid HB.out.drew
                  have J5 := Lib.hid (K0.out.drewN 1)
                  have K5 := Lib.hid (K1.out.drewN 1)
                  clear c1 c2 y1 y2 y3 y4 y5
                  obtain ⟨c1, c2⟩ := R2.out _ B5.out
                  obtain ⟨y1, y2, y3, y4, y5⟩ := K5.out.two
                  refine wp_region_held_drew (S := fun W' => W'.cell? ⟨b, off + k * 2, none⟩ = some (.int .i64 p) ∧ W'.cell? ⟨b, off + k * 2 + 1, none⟩ = some (.int .i64 q) ∧ W'.cell? ⟨w.heap.size + 1, 0, none⟩ = some (.int .i64 lo) ∧ W'.cell? ⟨w.heap.size + 1, 1, none⟩ = some (.int .i64 hi)) (by kernel_rfl) ⟨c1, c2, y1, y2⟩ (fun hHeld => ?_)
                  clear HB K0 K1
                  change Hid (Kept wr.drew _ _ _) at J5
                  change Hid (Kept wr.drew _ _ _) at K5
                  generalize wr.drew = v2 at *
                  refine wpAnyH_take (i := 0) (oi := ({ dst := some 67, op := Op.move (Operand.tmp 0), type := 87, pos := "ref.go:44", after := #[], guard := none } : Oper)) (v := ?_) rfl (by kernel_rfl) (by kernel_rfl) (by kernel_rfl) (fun _ _ _ h => h) (Or.inl ⟨by rfl, ?_⟩) hHeld ?_
                  rotate_left
                  · ((intro w hSw; obtain ⟨s1, s2, s3, s4⟩ := hSw; go_simp); (try with_reducible rfl))
                  (try simp only [Act.put, List.setIfInBounds_toArray, List.set_cons_zero, List.set_cons_succ])
                  refine wpAnyH_take (i := 1) (oi := ({ dst := some 68, op := Op.move (Operand.tmp 8), type := 3, pos := "ref.go:44", after := #[], guard := none } : Oper)) (v := ?_) rfl (by kernel_rfl) (by kernel_rfl) (by kernel_rfl) (fun _ _ _ h => h) (Or.inl ⟨by rfl, ?_⟩) hHeld ?_
                  rotate_left
                  · ((intro w hSw; obtain ⟨s1, s2, s3, s4⟩ := hSw; go_simp); (try with_reducible rfl))
                  (try simp only [Act.put, List.setIfInBounds_toArray, List.set_cons_zero, List.set_cons_succ])
                  refine wpAnyH_take (i := 2) (oi := ({ dst := some 69, op := Op.indexAddr 87 (Operand.tmp 67) (Operand.tmp 68), type := 0, pos := "ref.go:44", after := #[{ on := 0, ground := Ground.data }, { on := 1, ground := Ground.data }], guard := none } : Oper)) (v := ?_) rfl (by kernel_rfl) (by kernel_rfl) (by kernel_rfl) (fun _ _ _ h => h) (Or.inl ⟨by rfl, ?_⟩) hHeld ?_
                  rotate_left
                  · ((intro w hSw; obtain ⟨s1, s2, s3, s4⟩ := hSw; go_simp); (try with_reducible rfl))
                  (try simp only [Act.put, List.setIfInBounds_toArray, List.set_cons_zero, List.set_cons_succ])
                  refine wpAnyH_take (i := 3) (oi := ({ dst := some 70, op := Op.load 42 (Operand.tmp 69), type := 42, pos := "ref.go:44", after := #[{ on := 2, ground := Ground.data }], guard := none } : Oper)) (v := ?_) rfl (by kernel_rfl) (by kernel_rfl) (by kernel_rfl) (fun _ _ _ h => h) (Or.inl ⟨by rfl, ?_⟩) hHeld ?_
                  rotate_left
                  · ((intro w hSw; obtain ⟨s1, s2, s3, s4⟩ := hSw; go_simp); (try with_reducible rfl))
                  (try simp only [Act.put, List.setIfInBounds_toArray, List.set_cons_zero, List.set_cons_succ])
                  refine wpAnyH_ready (rs := [4]) (by kernel_rfl) (by simp) ?_
                  refine AllReadyH.cons (o := ({ dst := some 71, op := Op.call { callee := Callee.value (Operand.func 50), args := #[Operand.tmp 70], argTypes := #[42] }, type := 4, pos := "ref.go:44", after := #[{ on := 3, ground := Ground.data }], guard := none } : Oper)) rfl (fun K hK => ?_) (AllReadyH.nil)
                  go_simp
                  refine (ref_right_any p q _).mono ?_
                  rintro _ w6 ⟨rfl, b6⟩
                  rw [d0]
                  have B6 := Lib.hid (B5.out.trans (b6.mono B5.out.size))
                  have J6 := Lib.hid (J5.out.next b6)
                  have K6 := Lib.hid (K5.out.next b6)
                  clear b6 B5 J5 K5 c1 c2 y1 y2 y3 y4 y5
                  obtain ⟨c1, c2⟩ := R2.out _ B6.out
                  obtain ⟨y1, y2, y3, y4, y5⟩ := K6.out.two
                  refine hK.out _ _ ?_ (fun hHeld => ?_)
                  · exact ⟨c1, c2, y1, y2⟩
                  clear hK K
                  (try simp only [Act.put, List.setIfInBounds_toArray, List.set_cons_zero, List.set_cons_succ])
                  refine wpAnyH_take (i := 5) (oi := ({ dst := some 72, op := Op.move (Operand.tmp 71), type := 4, pos := "ref.go:44", after := #[{ on := 4, ground := Ground.data }, { on := 4, ground := Ground.chain }], guard := none } : Oper)) (v := ?_) rfl (by kernel_rfl) (by kernel_rfl) (by kernel_rfl) (fun _ _ _ h => h) (Or.inl ⟨by rfl, ?_⟩) hHeld ?_
                  rotate_left
                  · ((intro w hSw; obtain ⟨s1, s2, s3, s4⟩ := hSw; go_simp); (try with_reducible rfl))
                  (try simp only [Act.put, List.setIfInBounds_toArray, List.set_cons_zero, List.set_cons_succ])
                  refine wpAnyH_take (i := 6) (oi := ({ dst := some 73, op := Op.move (Operand.tmp 0), type := 87, pos := "ref.go:44", after := #[{ on := 5, ground := Ground.guard }], guard := some (5, true) } : Oper)) (v := ?_) rfl (by kernel_rfl) (by kernel_rfl) (by kernel_rfl) (fun _ _ _ h => h) (Or.inl ⟨by rfl, ?_⟩) hHeld ?_
                  rotate_left
                  · ((intro w hSw; obtain ⟨s1, s2, s3, s4⟩ := hSw; go_simp); (try with_reducible rfl))
                  (try simp only [Act.put, List.setIfInBounds_toArray, List.set_cons_zero, List.set_cons_succ])
                  refine wpAnyH_take (i := 7) (oi := ({ dst := some 74, op := Op.move (Operand.tmp 8), type := 3, pos := "ref.go:44", after := #[{ on := 5, ground := Ground.guard }], guard := some (5, true) } : Oper)) (v := ?_) rfl (by kernel_rfl) (by kernel_rfl) (by kernel_rfl) (fun _ _ _ h => h) (Or.inl ⟨by rfl, ?_⟩) hHeld ?_
                  rotate_left
                  · ((intro w hSw; obtain ⟨s1, s2, s3, s4⟩ := hSw; go_simp); (try with_reducible rfl))
                  (try simp only [Act.put, List.setIfInBounds_toArray, List.set_cons_zero, List.set_cons_succ])
                  refine wpAnyH_take (i := 8) (oi := ({ dst := some 75, op := Op.indexAddr 87 (Operand.tmp 73) (Operand.tmp 74), type := 0, pos := "ref.go:44", after := #[{ on := 6, ground := Ground.data }, { on := 7, ground := Ground.data }, { on := 5, ground := Ground.guard }], guard := some (5, true) } : Oper)) (v := ?_) rfl (by kernel_rfl) (by kernel_rfl) (by kernel_rfl) (fun _ _ _ h => h) (Or.inl ⟨by rfl, ?_⟩) hHeld ?_
                  rotate_left
                  · ((intro w hSw; obtain ⟨s1, s2, s3, s4⟩ := hSw; go_simp); (try with_reducible rfl))
                  (try simp only [Act.put, List.setIfInBounds_toArray, List.set_cons_zero, List.set_cons_succ])
                  refine wpAnyH_take (i := 9) (oi := ({ dst := some 76, op := Op.fieldAddr 42 (Operand.tmp 75) 0, type := 0, pos := "ref.go:44", after := #[{ on := 8, ground := Ground.data }, { on := 5, ground := Ground.guard }], guard := some (5, true) } : Oper)) (v := ?_) rfl (by kernel_rfl) (by kernel_rfl) (by kernel_rfl) (fun _ _ _ h => h) (Or.inl ⟨by rfl, ?_⟩) hHeld ?_
                  rotate_left
                  · ((intro w hSw; obtain ⟨s1, s2, s3, s4⟩ := hSw; go_simp); (try with_reducible rfl))
                  (try simp only [Act.put, List.setIfInBounds_toArray, List.set_cons_zero, List.set_cons_succ])
                  refine wpAnyH_take (i := 10) (oi := ({ dst := some 77, op := Op.load 2 (Operand.tmp 76), type := 2, pos := "ref.go:44", after := #[{ on := 9, ground := Ground.data }, { on := 5, ground := Ground.guard }], guard := some (5, true) } : Oper)) (v := ?_) rfl (by kernel_rfl) (by kernel_rfl) (by kernel_rfl) (fun _ _ _ h => h) (Or.inl ⟨by rfl, ?_⟩) hHeld ?_
                  rotate_left
                  · ((intro w hSw; obtain ⟨s1, s2, s3, s4⟩ := hSw; go_simp); (try with_reducible rfl))
                  (try simp only [Act.put, List.setIfInBounds_toArray, List.set_cons_zero, List.set_cons_succ])
                  refine wpAnyH_take (i := 11) (oi := ({ dst := some 78, op := Op.fieldAddr 42 (Operand.tmp 5) 0, type := 0, pos := "ref.go:44", after := #[{ on := 5, ground := Ground.guard }], guard := some (5, true) } : Oper)) (v := ?_) rfl (by kernel_rfl) (by kernel_rfl) (by kernel_rfl) (fun _ _ _ h => h) (Or.inl ⟨by rfl, ?_⟩) hHeld ?_
                  rotate_left
                  · ((intro w hSw; obtain ⟨s1, s2, s3, s4⟩ := hSw; go_simp); (try with_reducible rfl))
                  (try simp only [Act.put, List.setIfInBounds_toArray, List.set_cons_zero, List.set_cons_succ])
                  refine wpAnyH_take (i := 12) (oi := ({ dst := some 79, op := Op.load 2 (Operand.tmp 78), type := 2, pos := "ref.go:44", after := #[{ on := 11, ground := Ground.data }, { on := 5, ground := Ground.guard }], guard := some (5, true) } : Oper)) (v := ?_) rfl (by kernel_rfl) (by kernel_rfl) (by kernel_rfl) (fun _ _ _ h => h) (Or.inl ⟨by rfl, ?_⟩) hHeld ?_
                  rotate_left
                  · ((intro w hSw; obtain ⟨s1, s2, s3, s4⟩ := hSw; go_simp); (try with_reducible rfl))
                  (try simp only [Act.put, List.setIfInBounds_toArray, List.set_cons_zero, List.set_cons_succ])
                  refine wpAnyH_take (i := 13) (oi := ({ dst := some 80, op := Op.binOp BinOp.leq 2 (Operand.tmp 77) (Operand.tmp 79) 2, type := 4, pos := "ref.go:44", after := #[{ on := 10, ground := Ground.data }, { on := 12, ground := Ground.data }, { on := 5, ground := Ground.guard }], guard := some (5, true) } : Oper)) (v := ?_) rfl (by kernel_rfl) (by kernel_rfl) (by kernel_rfl) (fun _ _ _ h => h) (Or.inl ⟨by rfl, ?_⟩) hHeld ?_
                  rotate_left
                  · ((intro w hSw; obtain ⟨s1, s2, s3, s4⟩ := hSw; go_simp); (try with_reducible rfl))
                  (try simp only [Act.put, List.setIfInBounds_toArray, List.set_cons_zero, List.set_cons_succ])
                  refine wpAnyH_take (i := 14) (oi := ({ dst := some 81, op := Op.pick (Operand.tmp 72) (Operand.tmp 80) (Operand.const (Value.bool false)), type := 4, pos := "ref.go:44", after := #[{ on := 5, ground := Ground.data }, { on := 13, ground := Ground.data }], guard := none } : Oper)) (v := ?_) rfl (by kernel_rfl) (by kernel_rfl) (by kernel_rfl) (fun _ _ _ h => h) (Or.inl ⟨by rfl, ?_⟩) hHeld ?_
                  rotate_left
                  · ((intro w hSw; obtain ⟨s1, s2, s3, s4⟩ := hSw; go_simp); (try with_reducible rfl))
                  (try simp only [Act.put, List.setIfInBounds_toArray, List.set_cons_zero, List.set_cons_succ])
                  refine wpAnyH_take (i := 15) (oi := ({ dst := some 82, op := Op.move (Operand.tmp 81), type := 4, pos := "ref.go:44", after := #[{ on := 14, ground := Ground.data }, { on := 5, ground := Ground.chain }], guard := none } : Oper)) (v := ?_) rfl (by kernel_rfl) (by kernel_rfl) (by kernel_rfl) (fun _ _ _ h => h) (Or.inl ⟨by rfl, ?_⟩) hHeld ?_
                  rotate_left
                  · ((intro w hSw; obtain ⟨s1, s2, s3, s4⟩ := hSw; go_simp); (try with_reducible rfl))
                  (try simp only [Act.put, List.setIfInBounds_toArray, List.set_cons_zero, List.set_cons_succ])
                  refine wpAnyH_take (i := 16) (oi := ({ dst := some 83, op := Op.move (Operand.tmp 0), type := 87, pos := "ref.go:44", after := #[{ on := 15, ground := Ground.guard }], guard := some (15, true) } : Oper)) (v := ?_) rfl (by kernel_rfl) (by kernel_rfl) (by kernel_rfl) (fun _ _ _ h => h) (Or.inl ⟨by rfl, ?_⟩) hHeld ?_
                  rotate_left
                  · ((intro w hSw; obtain ⟨s1, s2, s3, s4⟩ := hSw; go_simp); (try with_reducible rfl))
                  (try simp only [Act.put, List.setIfInBounds_toArray, List.set_cons_zero, List.set_cons_succ])
                  refine wpAnyH_take (i := 17) (oi := ({ dst := some 84, op := Op.move (Operand.tmp 8), type := 3, pos := "ref.go:44", after := #[{ on := 15, ground := Ground.guard }], guard := some (15, true) } : Oper)) (v := ?_) rfl (by kernel_rfl) (by kernel_rfl) (by kernel_rfl) (fun _ _ _ h => h) (Or.inl ⟨by rfl, ?_⟩) hHeld ?_
                  rotate_left
                  · ((intro w hSw; obtain ⟨s1, s2, s3, s4⟩ := hSw; go_simp); (try with_reducible rfl))
                  (try simp only [Act.put, List.setIfInBounds_toArray, List.set_cons_zero, List.set_cons_succ])
                  refine wpAnyH_take (i := 18) (oi := ({ dst := some 85, op := Op.indexAddr 87 (Operand.tmp 83) (Operand.tmp 84), type := 0, pos := "ref.go:44", after := #[{ on := 16, ground := Ground.data }, { on := 17, ground := Ground.data }, { on := 15, ground := Ground.guard }], guard := some (15, true) } : Oper)) (v := ?_) rfl (by kernel_rfl) (by kernel_rfl) (by kernel_rfl) (fun _ _ _ h => h) (Or.inl ⟨by rfl, ?_⟩) hHeld ?_
                  rotate_left
                  · ((intro w hSw; obtain ⟨s1, s2, s3, s4⟩ := hSw; go_simp); (try with_reducible rfl))
                  (try simp only [Act.put, List.setIfInBounds_toArray, List.set_cons_zero, List.set_cons_succ])
                  refine wpAnyH_take (i := 19) (oi := ({ dst := some 86, op := Op.fieldAddr 42 (Operand.tmp 85) 1, type := 0, pos := "ref.go:44", after := #[{ on := 18, ground := Ground.data }, { on := 15, ground := Ground.guard }], guard := some (15, true) } : Oper)) (v := ?_) rfl (by kernel_rfl) (by kernel_rfl) (by kernel_rfl) (fun _ _ _ h => h) (Or.inl ⟨by rfl, ?_⟩) hHeld ?_
                  rotate_left
                  · ((intro w hSw; obtain ⟨s1, s2, s3, s4⟩ := hSw; go_simp); (try with_reducible rfl))
                  (try simp only [Act.put, List.setIfInBounds_toArray, List.set_cons_zero, List.set_cons_succ])
                  refine wpAnyH_take (i := 20) (oi := ({ dst := some 87, op := Op.load 2 (Operand.tmp 86), type := 2, pos := "ref.go:44", after := #[{ on := 19, ground := Ground.data }, { on := 15, ground := Ground.guard }], guard := some (15, true) } : Oper)) (v := ?_) rfl (by kernel_rfl) (by kernel_rfl) (by kernel_rfl) (fun _ _ _ h => h) (Or.inl ⟨by rfl, ?_⟩) hHeld ?_
                  rotate_left
                  · ((intro w hSw; obtain ⟨s1, s2, s3, s4⟩ := hSw; go_simp); (try with_reducible rfl))
                  (try simp only [Act.put, List.setIfInBounds_toArray, List.set_cons_zero, List.set_cons_succ])
                  refine wpAnyH_take (i := 21) (oi := ({ dst := some 88, op := Op.fieldAddr 42 (Operand.tmp 5) 0, type := 0, pos := "ref.go:44", after := #[{ on := 15, ground := Ground.guard }], guard := some (15, true) } : Oper)) (v := ?_) rfl (by kernel_rfl) (by kernel_rfl) (by kernel_rfl) (fun _ _ _ h => h) (Or.inl ⟨by rfl, ?_⟩) hHeld ?_
                  rotate_left
                  · ((intro w hSw; obtain ⟨s1, s2, s3, s4⟩ := hSw; go_simp); (try with_reducible rfl))
                  (try simp only [Act.put, List.setIfInBounds_toArray, List.set_cons_zero, List.set_cons_succ])
                  refine wpAnyH_take (i := 22) (oi := ({ dst := some 89, op := Op.load 2 (Operand.tmp 88), type := 2, pos := "ref.go:44", after := #[{ on := 21, ground := Ground.data }, { on := 15, ground := Ground.guard }], guard := some (15, true) } : Oper)) (v := ?_) rfl (by kernel_rfl) (by kernel_rfl) (by kernel_rfl) (fun _ _ _ h => h) (Or.inl ⟨by rfl, ?_⟩) hHeld ?_
                  rotate_left
                  · ((intro w hSw; obtain ⟨s1, s2, s3, s4⟩ := hSw; go_simp); (try with_reducible rfl))
                  (try simp only [Act.put, List.setIfInBounds_toArray, List.set_cons_zero, List.set_cons_succ])
                  refine wpAnyH_take (i := 23) (oi := ({ dst := some 90, op := Op.binOp BinOp.geq 2 (Operand.tmp 87) (Operand.tmp 89) 2, type := 4, pos := "ref.go:44", after := #[{ on := 20, ground := Ground.data }, { on := 22, ground := Ground.data }, { on := 15, ground := Ground.guard }], guard := some (15, true) } : Oper)) (v := ?_) rfl (by kernel_rfl) (by kernel_rfl) (by kernel_rfl) (fun _ _ _ h => h) (Or.inl ⟨by rfl, ?_⟩) hHeld ?_
                  rotate_left
                  · ((intro w hSw; obtain ⟨s1, s2, s3, s4⟩ := hSw; go_simp); (try with_reducible rfl))
                  (try simp only [Act.put, List.setIfInBounds_toArray, List.set_cons_zero, List.set_cons_succ])
                  refine wpAnyH_take (i := 24) (oi := ({ dst := some 91, op := Op.pick (Operand.tmp 82) (Operand.tmp 90) (Operand.const (Value.bool false)), type := 4, pos := "ref.go:44", after := #[{ on := 15, ground := Ground.data }, { on := 23, ground := Ground.data }], guard := none } : Oper)) (v := ?_) rfl (by kernel_rfl) (by kernel_rfl) (by kernel_rfl) (fun _ _ _ h => h) (Or.inl ⟨by rfl, ?_⟩) hHeld ?_
                  rotate_left
                  · ((intro w hSw; obtain ⟨s1, s2, s3, s4⟩ := hSw; go_simp); (try with_reducible rfl))
                  (try simp only [Act.put, List.setIfInBounds_toArray, List.set_cons_zero, List.set_cons_succ])
                  refine wpAnyH_done (by kernel_rfl) ?_ _
                  clear hHeld
                  -- @l
                  have GG := Lib.hid (FF.out w6 J6.out K6.out B6.out)
                  go_wp2
                  go_roundw
                  case rel => (try rw [e2]); exact GG.out
                  case measure => have := HLT.out; (try rw [e2]); simp [intOf]; omega
              · have d1 : decide (p ≤ lo) = false := decide_eq_false h1
                have hb : hasB lo (p, q) = false := decide_eq_false (by dsimp only; omega)
                have FF := Lib.hid (fun W => F.out _ W (HN.out hb))
                clear hb F HY HN h0 h1
                have B5 : Hid (Below w.heap.size w wr.drew) := Lib.hid HB.out.drew
                have J5 := Lib.hid (K0.out.drewN 1)
                have K5 := Lib.hid (K1.out.drewN 1)
                clear c1 c2 y1 y2 y3 y4 y5
                obtain ⟨c1, c2⟩ := R2.out _ B5.out
                obtain ⟨y1, y2, y3, y4, y5⟩ := K5.out.two
                refine wp_region_held_drew (S := fun W' => W'.cell? ⟨b, off + k * 2, none⟩ = some (.int .i64 p) ∧ W'.cell? ⟨b, off + k * 2 + 1, none⟩ = some (.int .i64 q) ∧ W'.cell? ⟨w.heap.size + 1, 0, none⟩ = some (.int .i64 lo) ∧ W'.cell? ⟨w.heap.size + 1, 1, none⟩ = some (.int .i64 hi)) (by kernel_rfl) ⟨c1, c2, y1, y2⟩ (fun hHeld => ?_)
                clear HB K0 K1
                change Hid (Kept wr.drew _ _ _) at J5
                change Hid (Kept wr.drew _ _ _) at K5
                generalize wr.drew = v2 at *
                refine wpAnyH_take (i := 0) (oi := ({ dst := some 67, op := Op.move (Operand.tmp 0), type := 87, pos := "ref.go:44", after := #[], guard := none } : Oper)) (v := ?_) rfl (by kernel_rfl) (by kernel_rfl) (by kernel_rfl) (fun _ _ _ h => h) (Or.inl ⟨by rfl, ?_⟩) hHeld ?_
                rotate_left
                · ((intro w hSw; obtain ⟨s1, s2, s3, s4⟩ := hSw; go_simp); (try with_reducible rfl))
                (try simp only [Act.put, List.setIfInBounds_toArray, List.set_cons_zero, List.set_cons_succ])
                refine wpAnyH_take (i := 1) (oi := ({ dst := some 68, op := Op.move (Operand.tmp 8), type := 3, pos := "ref.go:44", after := #[], guard := none } : Oper)) (v := ?_) rfl (by kernel_rfl) (by kernel_rfl) (by kernel_rfl) (fun _ _ _ h => h) (Or.inl ⟨by rfl, ?_⟩) hHeld ?_
                rotate_left
                · ((intro w hSw; obtain ⟨s1, s2, s3, s4⟩ := hSw; go_simp); (try with_reducible rfl))
                (try simp only [Act.put, List.setIfInBounds_toArray, List.set_cons_zero, List.set_cons_succ])
                refine wpAnyH_take (i := 2) (oi := ({ dst := some 69, op := Op.indexAddr 87 (Operand.tmp 67) (Operand.tmp 68), type := 0, pos := "ref.go:44", after := #[{ on := 0, ground := Ground.data }, { on := 1, ground := Ground.data }], guard := none } : Oper)) (v := ?_) rfl (by kernel_rfl) (by kernel_rfl) (by kernel_rfl) (fun _ _ _ h => h) (Or.inl ⟨by rfl, ?_⟩) hHeld ?_
                rotate_left
                · ((intro w hSw; obtain ⟨s1, s2, s3, s4⟩ := hSw; go_simp); (try with_reducible rfl))
                (try simp only [Act.put, List.setIfInBounds_toArray, List.set_cons_zero, List.set_cons_succ])
                refine wpAnyH_take (i := 3) (oi := ({ dst := some 70, op := Op.load 42 (Operand.tmp 69), type := 42, pos := "ref.go:44", after := #[{ on := 2, ground := Ground.data }], guard := none } : Oper)) (v := ?_) rfl (by kernel_rfl) (by kernel_rfl) (by kernel_rfl) (fun _ _ _ h => h) (Or.inl ⟨by rfl, ?_⟩) hHeld ?_
                rotate_left
                · ((intro w hSw; obtain ⟨s1, s2, s3, s4⟩ := hSw; go_simp); (try with_reducible rfl))
                (try simp only [Act.put, List.setIfInBounds_toArray, List.set_cons_zero, List.set_cons_succ])
                refine wpAnyH_ready (rs := [4]) (by kernel_rfl) (by simp) ?_
                refine AllReadyH.cons (o := ({ dst := some 71, op := Op.call { callee := Callee.value (Operand.func 50), args := #[Operand.tmp 70], argTypes := #[42] }, type := 4, pos := "ref.go:44", after := #[{ on := 3, ground := Ground.data }], guard := none } : Oper)) rfl (fun K hK => ?_) (AllReadyH.nil)
                go_simp
                refine (ref_right_any p q _).mono ?_
                rintro _ w6 ⟨rfl, b6⟩
                rw [d0]
                have B6 := Lib.hid (B5.out.trans (b6.mono B5.out.size))
                have J6 := Lib.hid (J5.out.next b6)
                have K6 := Lib.hid (K5.out.next b6)
                clear b6 B5 J5 K5 c1 c2 y1 y2 y3 y4 y5
                obtain ⟨c1, c2⟩ := R2.out _ B6.out
                obtain ⟨y1, y2, y3, y4, y5⟩ := K6.out.two
                refine hK.out _ _ ?_ (fun hHeld => ?_)
                · exact ⟨c1, c2, y1, y2⟩
                clear hK K
                (try simp only [Act.put, List.setIfInBounds_toArray, List.set_cons_zero, List.set_cons_succ])
                refine wpAnyH_take (i := 5) (oi := ({ dst := some 72, op := Op.move (Operand.tmp 71), type := 4, pos := "ref.go:44", after := #[{ on := 4, ground := Ground.data }, { on := 4, ground := Ground.chain }], guard := none } : Oper)) (v := ?_) rfl (by kernel_rfl) (by kernel_rfl) (by kernel_rfl) (fun _ _ _ h => h) (Or.inl ⟨by rfl, ?_⟩) hHeld ?_
                rotate_left
                · ((intro w hSw; obtain ⟨s1, s2, s3, s4⟩ := hSw; go_simp); (try with_reducible rfl))
                (try simp only [Act.put, List.setIfInBounds_toArray, List.set_cons_zero, List.set_cons_succ])
                refine wpAnyH_take (i := 6) (oi := ({ dst := some 73, op := Op.move (Operand.tmp 0), type := 87, pos := "ref.go:44", after := #[{ on := 5, ground := Ground.guard }], guard := some (5, true) } : Oper)) (v := ?_) rfl (by kernel_rfl) (by kernel_rfl) (by kernel_rfl) (fun _ _ _ h => h) (Or.inl ⟨by rfl, ?_⟩) hHeld ?_
                rotate_left
                · ((intro w hSw; obtain ⟨s1, s2, s3, s4⟩ := hSw; go_simp); (try with_reducible rfl))
                (try simp only [Act.put, List.setIfInBounds_toArray, List.set_cons_zero, List.set_cons_succ])
                refine wpAnyH_take (i := 7) (oi := ({ dst := some 74, op := Op.move (Operand.tmp 8), type := 3, pos := "ref.go:44", after := #[{ on := 5, ground := Ground.guard }], guard := some (5, true) } : Oper)) (v := ?_) rfl (by kernel_rfl) (by kernel_rfl) (by kernel_rfl) (fun _ _ _ h => h) (Or.inl ⟨by rfl, ?_⟩) hHeld ?_
                rotate_left
                · ((intro w hSw; obtain ⟨s1, s2, s3, s4⟩ := hSw; go_simp); (try with_reducible rfl))
                (try simp only [Act.put, List.setIfInBounds_toArray, List.set_cons_zero, List.set_cons_succ])
                refine wpAnyH_take (i := 8) (oi := ({ dst := some 75, op := Op.indexAddr 87 (Operand.tmp 73) (Operand.tmp 74), type := 0, pos := "ref.go:44", after := #[{ on := 6, ground := Ground.data }, { on := 7, ground := Ground.data }, { on := 5, ground := Ground.guard }], guard := some (5, true) } : Oper)) (v := ?_) rfl (by kernel_rfl) (by kernel_rfl) (by kernel_rfl) (fun _ _ _ h => h) (Or.inl ⟨by rfl, ?_⟩) hHeld ?_
                rotate_left
                · ((intro w hSw; obtain ⟨s1, s2, s3, s4⟩ := hSw; go_simp); (try with_reducible rfl))
                (try simp only [Act.put, List.setIfInBounds_toArray, List.set_cons_zero, List.set_cons_succ])
                refine wpAnyH_take (i := 9) (oi := ({ dst := some 76, op := Op.fieldAddr 42 (Operand.tmp 75) 0, type := 0, pos := "ref.go:44", after := #[{ on := 8, ground := Ground.data }, { on := 5, ground := Ground.guard }], guard := some (5, true) } : Oper)) (v := ?_) rfl (by kernel_rfl) (by kernel_rfl) (by kernel_rfl) (fun _ _ _ h => h) (Or.inl ⟨by rfl, ?_⟩) hHeld ?_
                rotate_left
                · ((intro w hSw; obtain ⟨s1, s2, s3, s4⟩ := hSw; go_simp); (try with_reducible rfl))
                (try simp only [Act.put, List.setIfInBounds_toArray, List.set_cons_zero, List.set_cons_succ])
                refine wpAnyH_take (i := 10) (oi := ({ dst := some 77, op := Op.load 2 (Operand.tmp 76), type := 2, pos := "ref.go:44", after := #[{ on := 9, ground := Ground.data }, { on := 5, ground := Ground.guard }], guard := some (5, true) } : Oper)) (v := ?_) rfl (by kernel_rfl) (by kernel_rfl) (by kernel_rfl) (fun _ _ _ h => h) (Or.inl ⟨by rfl, ?_⟩) hHeld ?_
                rotate_left
                · ((intro w hSw; obtain ⟨s1, s2, s3, s4⟩ := hSw; go_simp); (try with_reducible rfl))
                (try simp only [Act.put, List.setIfInBounds_toArray, List.set_cons_zero, List.set_cons_succ])
                refine wpAnyH_take (i := 11) (oi := ({ dst := some 78, op := Op.fieldAddr 42 (Operand.tmp 5) 0, type := 0, pos := "ref.go:44", after := #[{ on := 5, ground := Ground.guard }], guard := some (5, true) } : Oper)) (v := ?_) rfl (by kernel_rfl) (by kernel_rfl) (by kernel_rfl) (fun _ _ _ h => h) (Or.inl ⟨by rfl, ?_⟩) hHeld ?_
                rotate_left
                · ((intro w hSw; obtain ⟨s1, s2, s3, s4⟩ := hSw; go_simp); (try with_reducible rfl))
                (try simp only [Act.put, List.setIfInBounds_toArray, List.set_cons_zero, List.set_cons_succ])
                refine wpAnyH_take (i := 12) (oi := ({ dst := some 79, op := Op.load 2 (Operand.tmp 78), type := 2, pos := "ref.go:44", after := #[{ on := 11, ground := Ground.data }, { on := 5, ground := Ground.guard }], guard := some (5, true) } : Oper)) (v := ?_) rfl (by kernel_rfl) (by kernel_rfl) (by kernel_rfl) (fun _ _ _ h => h) (Or.inl ⟨by rfl, ?_⟩) hHeld ?_
                rotate_left
                · ((intro w hSw; obtain ⟨s1, s2, s3, s4⟩ := hSw; go_simp); (try with_reducible rfl))
                (try simp only [Act.put, List.setIfInBounds_toArray, List.set_cons_zero, List.set_cons_succ])
                refine wpAnyH_take (i := 13) (oi := ({ dst := some 80, op := Op.binOp BinOp.leq 2 (Operand.tmp 77) (Operand.tmp 79) 2, type := 4, pos := "ref.go:44", after := #[{ on := 10, ground := Ground.data }, { on := 12, ground := Ground.data }, { on := 5, ground := Ground.guard }], guard := some (5, true) } : Oper)) (v := ?_) rfl (by kernel_rfl) (by kernel_rfl) (by kernel_rfl) (fun _ _ _ h => h) (Or.inl ⟨by rfl, ?_⟩) hHeld ?_
                rotate_left
                · ((intro w hSw; obtain ⟨s1, s2, s3, s4⟩ := hSw; go_simp); (try with_reducible rfl))
                (try simp only [Act.put, List.setIfInBounds_toArray, List.set_cons_zero, List.set_cons_succ])
                refine wpAnyH_take (i := 14) (oi := ({ dst := some 81, op := Op.pick (Operand.tmp 72) (Operand.tmp 80) (Operand.const (Value.bool false)), type := 4, pos := "ref.go:44", after := #[{ on := 5, ground := Ground.data }, { on := 13, ground := Ground.data }], guard := none } : Oper)) (v := ?_) rfl (by kernel_rfl) (by kernel_rfl) (by kernel_rfl) (fun _ _ _ h => h) (Or.inl ⟨by rfl, ?_⟩) hHeld ?_
                rotate_left
                · ((intro w hSw; obtain ⟨s1, s2, s3, s4⟩ := hSw; go_simp); (try with_reducible rfl))
                (try simp only [Act.put, List.setIfInBounds_toArray, List.set_cons_zero, List.set_cons_succ])
                refine wpAnyH_take (i := 15) (oi := ({ dst := some 82, op := Op.move (Operand.tmp 81), type := 4, pos := "ref.go:44", after := #[{ on := 14, ground := Ground.data }, { on := 5, ground := Ground.chain }], guard := none } : Oper)) (v := ?_) rfl (by kernel_rfl) (by kernel_rfl) (by kernel_rfl) (fun _ _ _ h => h) (Or.inl ⟨by rfl, ?_⟩) hHeld ?_
                rotate_left
                · ((intro w hSw; obtain ⟨s1, s2, s3, s4⟩ := hSw; go_simp); (try with_reducible rfl))
                (try simp only [Act.put, List.setIfInBounds_toArray, List.set_cons_zero, List.set_cons_succ])
                refine wpAnyH_take (i := 16) (oi := ({ dst := some 83, op := Op.move (Operand.tmp 0), type := 87, pos := "ref.go:44", after := #[{ on := 15, ground := Ground.guard }], guard := some (15, true) } : Oper)) (v := undef) rfl (by kernel_rfl) (by kernel_rfl) (by kernel_rfl) (fun _ _ _ h => h) (Or.inr ⟨by rfl, rfl⟩) hHeld ?_
                (try simp only [Act.put, List.setIfInBounds_toArray, List.set_cons_zero, List.set_cons_succ])
                refine wpAnyH_take (i := 17) (oi := ({ dst := some 84, op := Op.move (Operand.tmp 8), type := 3, pos := "ref.go:44", after := #[{ on := 15, ground := Ground.guard }], guard := some (15, true) } : Oper)) (v := undef) rfl (by kernel_rfl) (by kernel_rfl) (by kernel_rfl) (fun _ _ _ h => h) (Or.inr ⟨by rfl, rfl⟩) hHeld ?_
                (try simp only [Act.put, List.setIfInBounds_toArray, List.set_cons_zero, List.set_cons_succ])
                refine wpAnyH_take (i := 18) (oi := ({ dst := some 85, op := Op.indexAddr 87 (Operand.tmp 83) (Operand.tmp 84), type := 0, pos := "ref.go:44", after := #[{ on := 16, ground := Ground.data }, { on := 17, ground := Ground.data }, { on := 15, ground := Ground.guard }], guard := some (15, true) } : Oper)) (v := undef) rfl (by kernel_rfl) (by kernel_rfl) (by kernel_rfl) (fun _ _ _ h => h) (Or.inr ⟨by rfl, rfl⟩) hHeld ?_
                (try simp only [Act.put, List.setIfInBounds_toArray, List.set_cons_zero, List.set_cons_succ])
                refine wpAnyH_take (i := 19) (oi := ({ dst := some 86, op := Op.fieldAddr 42 (Operand.tmp 85) 1, type := 0, pos := "ref.go:44", after := #[{ on := 18, ground := Ground.data }, { on := 15, ground := Ground.guard }], guard := some (15, true) } : Oper)) (v := undef) rfl (by kernel_rfl) (by kernel_rfl) (by kernel_rfl) (fun _ _ _ h => h) (Or.inr ⟨by rfl, rfl⟩) hHeld ?_
                (try simp only [Act.put, List.setIfInBounds_toArray, List.set_cons_zero, List.set_cons_succ])
                refine wpAnyH_take (i := 20) (oi := ({ dst := some 87, op := Op.load 2 (Operand.tmp 86), type := 2, pos := "ref.go:44", after := #[{ on := 19, ground := Ground.data }, { on := 15, ground := Ground.guard }], guard := some (15, true) } : Oper)) (v := undef) rfl (by kernel_rfl) (by kernel_rfl) (by kernel_rfl) (fun _ _ _ h => h) (Or.inr ⟨by rfl, rfl⟩) hHeld ?_
                (try simp only [Act.put, List.setIfInBounds_toArray, List.set_cons_zero, List.set_cons_succ])
                refine wpAnyH_take (i := 21) (oi := ({ dst := some 88, op := Op.fieldAddr 42 (Operand.tmp 5) 0, type := 0, pos := "ref.go:44", after := #[{ on := 15, ground := Ground.guard }], guard := some (15, true) } : Oper)) (v := undef) rfl (by kernel_rfl) (by kernel_rfl) (by kernel_rfl) (fun _ _ _ h => h) (Or.inr ⟨by rfl, rfl⟩) hHeld ?_
                (try simp only [Act.put, List.setIfInBounds_toArray, List.set_cons_zero, List.set_cons_succ])
                refine wpAnyH_take (i := 22) (oi := ({ dst := some 89, op := Op.load 2 (Operand.tmp 88), type := 2, pos := "ref.go:44", after := #[{ on := 21, ground := Ground.data }, { on := 15, ground := Ground.guard }], guard := some (15, true) } : Oper)) (v := undef) rfl (by kernel_rfl) (by kernel_rfl) (by kernel_rfl) (fun _ _ _ h => h) (Or.inr ⟨by rfl, rfl⟩) hHeld ?_
                (try simp only [Act.put, List.setIfInBounds_toArray, List.set_cons_zero, List.set_cons_succ])
                refine wpAnyH_take (i := 23) (oi := ({ dst := some 90, op := Op.binOp BinOp.geq 2 (Operand.tmp 87) (Operand.tmp 89) 2, type := 4, pos := "ref.go:44", after := #[{ on := 20, ground := Ground.data }, { on := 22, ground := Ground.data }, { on := 15, ground := Ground.guard }], guard := some (15, true) } : Oper)) (v := undef) rfl (by kernel_rfl) (by kernel_rfl) (by kernel_rfl) (fun _ _ _ h => h) (Or.inr ⟨by rfl, rfl⟩) hHeld ?_
                (try simp only [Act.put, List.setIfInBounds_toArray, List.set_cons_zero, List.set_cons_succ])
                refine wpAnyH_take (i := 24) (oi := ({ dst := some 91, op := Op.pick (Operand.tmp 82) (Operand.tmp 90) (Operand.const (Value.bool false)), type := 4, pos := "ref.go:44", after := #[{ on := 15, ground := Ground.data }, { on := 23, ground := Ground.data }], guard := none } : Oper)) (v := ?_) rfl (by kernel_rfl) (by kernel_rfl) (by kernel_rfl) (fun _ _ _ h => h) (Or.inl ⟨by rfl, ?_⟩) hHeld ?_
                rotate_left
                · ((intro w hSw; obtain ⟨s1, s2, s3, s4⟩ := hSw; go_simp); (try with_reducible rfl))
                (try simp only [Act.put, List.setIfInBounds_toArray, List.set_cons_zero, List.set_cons_succ])
                refine wpAnyH_done (by kernel_rfl) ?_ _
                clear hHeld
                -- @l
                have GG := Lib.hid (FF.out w6 J6.out K6.out B6.out)
                go_wp2
                go_roundw
                case rel => (try rw [e2]); exact GG.out
                case measure => have := HLT.out; (try rw [e2]); simp [intOf]; omega
            · have d0 := decide_eq_false h0
              have hb : hasB lo (p, q) = false := decide_eq_false (by dsimp only; omega)
              have FF := Lib.hid (fun W => F.out _ W (HN.out hb))
              clear hb F HY HN h0
              have B5 : Hid (Below w.heap.size w wr.drew) := Lib.hid HB.out.drew
              have J5 := Lib.hid (K0.out.drewN 1)
              have K5 := Lib.hid (K1.out.drewN 1)
              clear c1 c2 y1 y2 y3 y4 y5
              obtain ⟨c1, c2⟩ := R2.out _ B5.out
              obtain ⟨y1, y2, y3, y4, y5⟩ := K5.out.two
              refine wp_region_held_drew (S := fun W' => W'.cell? ⟨b, off + k * 2, none⟩ = some (.int .i64 p) ∧ W'.cell? ⟨b, off + k * 2 + 1, none⟩ = some (.int .i64 q) ∧ W'.cell? ⟨w.heap.size + 1, 0, none⟩ = some (.int .i64 lo) ∧ W'.cell? ⟨w.heap.size + 1, 1, none⟩ = some (.int .i64 hi)) (by kernel_rfl) ⟨c1, c2, y1, y2⟩ (fun hHeld => ?_)
              clear HB K0 K1
              change Hid (Kept wr.drew _ _ _) at J5
              change Hid (Kept wr.drew _ _ _) at K5
              generalize wr.drew = v2 at *
              refine wpAnyH_take (i := 0) (oi := ({ dst := some 67, op := Op.move (Operand.tmp 0), type := 87, pos := "ref.go:44", after := #[], guard := none } : Oper)) (v := ?_) rfl (by kernel_rfl) (by kernel_rfl) (by kernel_rfl) (fun _ _ _ h => h) (Or.inl ⟨by rfl, ?_⟩) hHeld ?_
              rotate_left
              · ((intro w hSw; obtain ⟨s1, s2, s3, s4⟩ := hSw; go_simp); (try with_reducible rfl))
              (try simp only [Act.put, List.setIfInBounds_toArray, List.set_cons_zero, List.set_cons_succ])
              refine wpAnyH_take (i := 1) (oi := ({ dst := some 68, op := Op.move (Operand.tmp 8), type := 3, pos := "ref.go:44", after := #[], guard := none } : Oper)) (v := ?_) rfl (by kernel_rfl) (by kernel_rfl) (by kernel_rfl) (fun _ _ _ h => h) (Or.inl ⟨by rfl, ?_⟩) hHeld ?_
              rotate_left
              · ((intro w hSw; obtain ⟨s1, s2, s3, s4⟩ := hSw; go_simp); (try with_reducible rfl))
              (try simp only [Act.put, List.setIfInBounds_toArray, List.set_cons_zero, List.set_cons_succ])
              refine wpAnyH_take (i := 2) (oi := ({ dst := some 69, op := Op.indexAddr 87 (Operand.tmp 67) (Operand.tmp 68), type := 0, pos := "ref.go:44", after := #[{ on := 0, ground := Ground.data }, { on := 1, ground := Ground.data }], guard := none } : Oper)) (v := ?_) rfl (by kernel_rfl) (by kernel_rfl) (by kernel_rfl) (fun _ _ _ h => h) (Or.inl ⟨by rfl, ?_⟩) hHeld ?_
              rotate_left
              · ((intro w hSw; obtain ⟨s1, s2, s3, s4⟩ := hSw; go_simp); (try with_reducible rfl))
              (try simp only [Act.put, List.setIfInBounds_toArray, List.set_cons_zero, List.set_cons_succ])
              refine wpAnyH_take (i := 3) (oi := ({ dst := some 70, op := Op.load 42 (Operand.tmp 69), type := 42, pos := "ref.go:44", after := #[{ on := 2, ground := Ground.data }], guard := none } : Oper)) (v := ?_) rfl (by kernel_rfl) (by kernel_rfl) (by kernel_rfl) (fun _ _ _ h => h) (Or.inl ⟨by rfl, ?_⟩) hHeld ?_
              rotate_left
              · ((intro w hSw; obtain ⟨s1, s2, s3, s4⟩ := hSw; go_simp); (try with_reducible rfl))
              (try simp only [Act.put, List.setIfInBounds_toArray, List.set_cons_zero, List.set_cons_succ])
              refine wpAnyH_ready (rs := [4]) (by kernel_rfl) (by simp) ?_
              refine AllReadyH.cons (o := ({ dst := some 71, op := Op.call { callee := Callee.value (Operand.func 50), args := #[Operand.tmp 70], argTypes := #[42] }, type := 4, pos := "ref.go:44", after := #[{ on := 3, ground := Ground.data }], guard := none } : Oper)) rfl (fun K hK => ?_) (AllReadyH.nil)
              go_simp
              refine (ref_right_any p q _).mono ?_
              rintro _ w6 ⟨rfl, b6⟩
              rw [d0]
              have B6 := Lib.hid (B5.out.trans (b6.mono B5.out.size))
              have J6 := Lib.hid (J5.out.next b6)
              have K6 := Lib.hid (K5.out.next b6)
              clear b6 B5 J5 K5 c1 c2 y1 y2 y3 y4 y5
              obtain ⟨c1, c2⟩ := R2.out _ B6.out
              obtain ⟨y1, y2, y3, y4, y5⟩ := K6.out.two
              refine hK.out _ _ ?_ (fun hHeld => ?_)
              · exact ⟨c1, c2, y1, y2⟩
              clear hK K
              (try simp only [Act.put, List.setIfInBounds_toArray, List.set_cons_zero, List.set_cons_succ])
              refine wpAnyH_take (i := 5) (oi := ({ dst := some 72, op := Op.move (Operand.tmp 71), type := 4, pos := "ref.go:44", after := #[{ on := 4, ground := Ground.data }, { on := 4, ground := Ground.chain }], guard := none } : Oper)) (v := ?_) rfl (by kernel_rfl) (by kernel_rfl) (by kernel_rfl) (fun _ _ _ h => h) (Or.inl ⟨by rfl, ?_⟩) hHeld ?_
              rotate_left
              · ((intro w hSw; obtain ⟨s1, s2, s3, s4⟩ := hSw; go_simp); (try with_reducible rfl))
              (try simp only [Act.put, List.setIfInBounds_toArray, List.set_cons_zero, List.set_cons_succ])
              refine wpAnyH_take (i := 6) (oi := ({ dst := some 73, op := Op.move (Operand.tmp 0), type := 87, pos := "ref.go:44", after := #[{ on := 5, ground := Ground.guard }], guard := some (5, true) } : Oper)) (v := undef) rfl (by kernel_rfl) (by kernel_rfl) (by kernel_rfl) (fun _ _ _ h => h) (Or.inr ⟨by rfl, rfl⟩) hHeld ?_
              (try simp only [Act.put, List.setIfInBounds_toArray, List.set_cons_zero, List.set_cons_succ])
              refine wpAnyH_take (i := 7) (oi := ({ dst := some 74, op := Op.move (Operand.tmp 8), type := 3, pos := "ref.go:44", after := #[{ on := 5, ground := Ground.guard }], guard := some (5, true) } : Oper)) (v := undef) rfl (by kernel_rfl) (by kernel_rfl) (by kernel_rfl) (fun _ _ _ h => h) (Or.inr ⟨by rfl, rfl⟩) hHeld ?_
              (try simp only [Act.put, List.setIfInBounds_toArray, List.set_cons_zero, List.set_cons_succ])
              refine wpAnyH_take (i := 8) (oi := ({ dst := some 75, op := Op.indexAddr 87 (Operand.tmp 73) (Operand.tmp 74), type := 0, pos := "ref.go:44", after := #[{ on := 6, ground := Ground.data }, { on := 7, ground := Ground.data }, { on := 5, ground := Ground.guard }], guard := some (5, true) } : Oper)) (v := undef) rfl (by kernel_rfl) (by kernel_rfl) (by kernel_rfl) (fun _ _ _ h => h) (Or.inr ⟨by rfl, rfl⟩) hHeld ?_
              (try simp only [Act.put, List.setIfInBounds_toArray, List.set_cons_zero, List.set_cons_succ])
              refine wpAnyH_take (i := 9) (oi := ({ dst := some 76, op := Op.fieldAddr 42 (Operand.tmp 75) 0, type := 0, pos := "ref.go:44", after := #[{ on := 8, ground := Ground.data }, { on := 5, ground := Ground.guard }], guard := some (5, true) } : Oper)) (v := undef) rfl (by kernel_rfl) (by kernel_rfl) (by kernel_rfl) (fun _ _ _ h => h) (Or.inr ⟨by rfl, rfl⟩) hHeld ?_
              (try simp only [Act.put, List.setIfInBounds_toArray, List.set_cons_zero, List.set_cons_succ])
              refine wpAnyH_take (i := 10) (oi := ({ dst := some 77, op := Op.load 2 (Operand.tmp 76), type := 2, pos := "ref.go:44", after := #[{ on := 9, ground := Ground.data }, { on := 5, ground := Ground.guard }], guard := some (5, true) } : Oper)) (v := undef) rfl (by kernel_rfl) (by kernel_rfl) (by kernel_rfl) (fun _ _ _ h => h) (Or.inr ⟨by rfl, rfl⟩) hHeld ?_
              (try simp only [Act.put, List.setIfInBounds_toArray, List.set_cons_zero, List.set_cons_succ])
              refine wpAnyH_take (i := 11) (oi := ({ dst := some 78, op := Op.fieldAddr 42 (Operand.tmp 5) 0, type := 0, pos := "ref.go:44", after := #[{ on := 5, ground := Ground.guard }], guard := some (5, true) } : Oper)) (v := undef) rfl (by kernel_rfl) (by kernel_rfl) (by kernel_rfl) (fun _ _ _ h => h) (Or.inr ⟨by rfl, rfl⟩) hHeld ?_
              (try simp only [Act.put, List.setIfInBounds_toArray, List.set_cons_zero, List.set_cons_succ])
              refine wpAnyH_take (i := 12) (oi := ({ dst := some 79, op := Op.load 2 (Operand.tmp 78), type := 2, pos := "ref.go:44", after := #[{ on := 11, ground := Ground.data }, { on := 5, ground := Ground.guard }], guard := some (5, true) } : Oper)) (v := undef) rfl (by kernel_rfl) (by kernel_rfl) (by kernel_rfl) (fun _ _ _ h => h) (Or.inr ⟨by rfl, rfl⟩) hHeld ?_
              (try simp only [Act.put, List.setIfInBounds_toArray, List.set_cons_zero, List.set_cons_succ])
              refine wpAnyH_take (i := 13) (oi := ({ dst := some 80, op := Op.binOp BinOp.leq 2 (Operand.tmp 77) (Operand.tmp 79) 2, type := 4, pos := "ref.go:44", after := #[{ on := 10, ground := Ground.data }, { on := 12, ground := Ground.data }, { on := 5, ground := Ground.guard }], guard := some (5, true) } : Oper)) (v := undef) rfl (by kernel_rfl) (by kernel_rfl) (by kernel_rfl) (fun _ _ _ h => h) (Or.inr ⟨by rfl, rfl⟩) hHeld ?_
              (try simp only [Act.put, List.setIfInBounds_toArray, List.set_cons_zero, List.set_cons_succ])
              refine wpAnyH_take (i := 14) (oi := ({ dst := some 81, op := Op.pick (Operand.tmp 72) (Operand.tmp 80) (Operand.const (Value.bool false)), type := 4, pos := "ref.go:44", after := #[{ on := 5, ground := Ground.data }, { on := 13, ground := Ground.data }], guard := none } : Oper)) (v := ?_) rfl (by kernel_rfl) (by kernel_rfl) (by kernel_rfl) (fun _ _ _ h => h) (Or.inl ⟨by rfl, ?_⟩) hHeld ?_
              rotate_left
              · ((intro w hSw; obtain ⟨s1, s2, s3, s4⟩ := hSw; go_simp); (try with_reducible rfl))
              (try simp only [Act.put, List.setIfInBounds_toArray, List.set_cons_zero, List.set_cons_succ])
              refine wpAnyH_take (i := 15) (oi := ({ dst := some 82, op := Op.move (Operand.tmp 81), type := 4, pos := "ref.go:44", after := #[{ on := 14, ground := Ground.data }, { on := 5, ground := Ground.chain }], guard := none } : Oper)) (v := ?_) rfl (by kernel_rfl) (by kernel_rfl) (by kernel_rfl) (fun _ _ _ h => h) (Or.inl ⟨by rfl, ?_⟩) hHeld ?_
              rotate_left
              · ((intro w hSw; obtain ⟨s1, s2, s3, s4⟩ := hSw; go_simp); (try with_reducible rfl))
              (try simp only [Act.put, List.setIfInBounds_toArray, List.set_cons_zero, List.set_cons_succ])
              refine wpAnyH_take (i := 16) (oi := ({ dst := some 83, op := Op.move (Operand.tmp 0), type := 87, pos := "ref.go:44", after := #[{ on := 15, ground := Ground.guard }], guard := some (15, true) } : Oper)) (v := undef) rfl (by kernel_rfl) (by kernel_rfl) (by kernel_rfl) (fun _ _ _ h => h) (Or.inr ⟨by rfl, rfl⟩) hHeld ?_
              (try simp only [Act.put, List.setIfInBounds_toArray, List.set_cons_zero, List.set_cons_succ])
              refine wpAnyH_take (i := 17) (oi := ({ dst := some 84, op := Op.move (Operand.tmp 8), type := 3, pos := "ref.go:44", after := #[{ on := 15, ground := Ground.guard }], guard := some (15, true) } : Oper)) (v := undef) rfl (by kernel_rfl) (by kernel_rfl) (by kernel_rfl) (fun _ _ _ h => h) (Or.inr ⟨by rfl, rfl⟩) hHeld ?_
              (try simp only [Act.put, List.setIfInBounds_toArray, List.set_cons_zero, List.set_cons_succ])
              refine wpAnyH_take (i := 18) (oi := ({ dst := some 85, op := Op.indexAddr 87 (Operand.tmp 83) (Operand.tmp 84), type := 0, pos := "ref.go:44", after := #[{ on := 16, ground := Ground.data }, { on := 17, ground := Ground.data }, { on := 15, ground := Ground.guard }], guard := some (15, true) } : Oper)) (v := undef) rfl (by kernel_rfl) (by kernel_rfl) (by kernel_rfl) (fun _ _ _ h => h) (Or.inr ⟨by rfl, rfl⟩) hHeld ?_
              (try simp only [Act.put, List.setIfInBounds_toArray, List.set_cons_zero, List.set_cons_succ])
              refine wpAnyH_take (i := 19) (oi := ({ dst := some 86, op := Op.fieldAddr 42 (Operand.tmp 85) 1, type := 0, pos := "ref.go:44", after := #[{ on := 18, ground := Ground.data }, { on := 15, ground := Ground.guard }], guard := some (15, true) } : Oper)) (v := undef) rfl (by kernel_rfl) (by kernel_rfl) (by kernel_rfl) (fun _ _ _ h => h) (Or.inr ⟨by rfl, rfl⟩) hHeld ?_
              (try simp only [Act.put, List.setIfInBounds_toArray, List.set_cons_zero, List.set_cons_succ])
              refine wpAnyH_take (i := 20) (oi := ({ dst := some 87, op := Op.load 2 (Operand.tmp 86), type := 2, pos := "ref.go:44", after := #[{ on := 19, ground := Ground.data }, { on := 15, ground := Ground.guard }], guard := some (15, true) } : Oper)) (v := undef) rfl (by kernel_rfl) (by kernel_rfl) (by kernel_rfl) (fun _ _ _ h => h) (Or.inr ⟨by rfl, rfl⟩) hHeld ?_
              (try simp only [Act.put, List.setIfInBounds_toArray, List.set_cons_zero, List.set_cons_succ])
              refine wpAnyH_take (i := 21) (oi := ({ dst := some 88, op := Op.fieldAddr 42 (Operand.tmp 5) 0, type := 0, pos := "ref.go:44", after := #[{ on := 15, ground := Ground.guard }], guard := some (15, true) } : Oper)) (v := undef) rfl (by kernel_rfl) (by kernel_rfl) (by kernel_rfl) (fun _ _ _ h => h) (Or.inr ⟨by rfl, rfl⟩) hHeld ?_
              (try simp only [Act.put, List.setIfInBounds_toArray, List.set_cons_zero, List.set_cons_succ])
              refine wpAnyH_take (i := 22) (oi := ({ dst := some 89, op := Op.load 2 (Operand.tmp 88), type := 2, pos := "ref.go:44", after := #[{ on := 21, ground := Ground.data }, { on := 15, ground := Ground.guard }], guard := some (15, true) } : Oper)) (v := undef) rfl (by kernel_rfl) (by kernel_rfl) (by kernel_rfl) (fun _ _ _ h => h) (Or.inr ⟨by rfl, rfl⟩) hHeld ?_
              (try simp only [Act.put, List.setIfInBounds_toArray, List.set_cons_zero, List.set_cons_succ])
              refine wpAnyH_take (i := 23) (oi := ({ dst := some 90, op := Op.binOp BinOp.geq 2 (Operand.tmp 87) (Operand.tmp 89) 2, type := 4, pos := "ref.go:44", after := #[{ on := 20, ground := Ground.data }, { on := 22, ground := Ground.data }, { on := 15, ground := Ground.guard }], guard := some (15, true) } : Oper)) (v := undef) rfl (by kernel_rfl) (by kernel_rfl) (by kernel_rfl) (fun _ _ _ h => h) (Or.inr ⟨by rfl, rfl⟩) hHeld ?_
              (try simp only [Act.put, List.setIfInBounds_toArray, List.set_cons_zero, List.set_cons_succ])
              refine wpAnyH_take (i := 24) (oi := ({ dst := some 91, op := Op.pick (Operand.tmp 82) (Operand.tmp 90) (Operand.const (Value.bool false)), type := 4, pos := "ref.go:44", after := #[{ on := 15, ground := Ground.data }, { on := 23, ground := Ground.data }], guard := none } : Oper)) (v := ?_) rfl (by kernel_rfl) (by kernel_rfl) (by kernel_rfl) (fun _ _ _ h => h) (Or.inl ⟨by rfl, ?_⟩) hHeld ?_
              rotate_left
              · ((intro w hSw; obtain ⟨s1, s2, s3, s4⟩ := hSw; go_simp); (try with_reducible rfl))
              (try simp only [Act.put, List.setIfInBounds_toArray, List.set_cons_zero, List.set_cons_succ])
              refine wpAnyH_done (by kernel_rfl) ?_ _
              clear hHeld
              -- @l
              have GG := Lib.hid (FF.out w6 J6.out K6.out B6.out)
              go_wp2
              go_roundw
              case rel => (try rw [e2]); exact GG.out
              case measure => have := HLT.out; (try rw [e2]); simp [intOf]; omega
          · obtain rfl : k = L.length := by omega
            have BP := Lib.hid (HB2.out hi HQ.out)
            obtain ⟨y1, y2, y3, y4, y5⟩ := K1.out.two
            obtain ⟨z1, z2, z3, z4, z5⟩ := K0.out.two
            have G0 : Hid (Kept ((wr.setCell ⟨w.heap.size, 0, none⟩ (.int .i64 lo)).setCell ⟨w.heap.size, 1, none⟩ (.int .i64 hi)) w.heap.size #[.int .i64 lo, .int .i64 hi] 42) := Lib.hid (K0.out.set2 _ _)
            have GB : Hid (Below w.heap.size w ((wr.setCell ⟨w.heap.size, 0, none⟩ (.int .i64 lo)).setCell ⟨w.heap.size, 1, none⟩ (.int .i64 hi))) := Lib.hid ((HB.out.setCell (by simp) _).setCell (by simp) _)
            clear hlt hk HQ HB2
            go_wp2
            -- @j
            generalize (wr.setCell ⟨w.heap.size, 0, none⟩ (.int .i64 lo)).setCell ⟨w.heap.size, 1, none⟩ (.int .i64 hi) = W8 at *
            obtain ⟨u1, u2, u3, u4, u5⟩ := G0.out.two
            (try simp only [Exit.inBlock, Exit.then])
            refine bodyPost_ret (by simp [results, Try.f66, go_sem, u1, u2]; try rfl) rfl ?_
            exact ⟨(lo, hi), n, rfl, BP, GB.out⟩
end Go.Proofs.Ytflplliiamodhaa
