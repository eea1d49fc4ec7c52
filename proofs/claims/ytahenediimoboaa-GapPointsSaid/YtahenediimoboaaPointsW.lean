/- The walk of GapPoints. -/
import Derived.Test.YtahenediimoboaaPointsM
namespace Go.Proofs.Ytahenediimoboaa
open Go.RowKit
set_option linter.unusedVariables false
set_option linter.unusedSimpArgs false

def PtRel1 (l : List (Int × Int)) (x : Int) (w : World) (e s i : Value) (wr : World) : Prop := ∃ k : Nat, k ≤ l.length ∧ i = .int .i64 k ∧ e = .bool (eachB l x k) ∧ s = .bool (someB l x k) ∧ Hid (∀ j, j < k → (l.getD j (0, 0)).1 ≤ (l.getD j (0, 0)).2) ∧ Hid (Below w.heap.size w wr)
def PtRel2 (l : List (Int × Int)) (w : World) (b1 b2 : Nat) (ml mh h1 h2 : Int) (i : Value) (wr : World) : Prop := ∃ k : Nat, k ≤ l.length ∧ i = .int .i64 k ∧ Hid (Below w.heap.size w wr) ∧ Hid (Kept wr b1 #[.int .i64 ml, .int .i64 mh] 23) ∧ Hid (Kept wr b2 #[.int .i64 h1, .int .i64 h2] 23)
def PtPost (w : World) (e : Ending) (w' : World) : Prop := e = .returned (.bool true) ∧ Below w.heap.size w w'
theorem growE_cases (a b d : Int) (h : a ≤ b) (hd : 0 ≤ d) (ha : InI a) (hb : InI b) : growE a b d d ≠ 0 ∨ (growE a b d d = 0 ∧ growL a b d d = a - d ∧ -9223372036854775808 ≤ a - d ∧ growH a b d d = b + d ∧ b + d ≤ 9223372036854775807) := by
  unfold growE growL growH movE movL movH
  by_cases h1 : InI (a - d)
  · by_cases h2 : InI (b + d)
    · right
      simp only [if_pos h, eI_in h1, eI_in h2, vI_in h1, vI_in h2, if_true]
      rw [if_pos (by omega), if_pos (by omega), if_pos (by omega)]
      exact ⟨rfl, rfl, h1.1, rfl, h2.2⟩
    · left; simp only [if_pos h, eI_in h1, eI_out h2, if_true]; simp
  · left; simp only [if_pos h, eI_out h1]; simp
set_option maxHeartbeats 8000000 in
set_option maxRecDepth 100000 in
theorem points_walk (xa : Option Addr) (xc : Nat) (l : List (Int × Int)) (x by' : Int) (w : World) (hx : PairRow w xa l) (hl : l.length ≤ 100) (hb : ∀ p ∈ l, InP p) (hxi : InI x) (hby : 0 ≤ by' ∧ by' ≤ 4294967295) :
    Calls Try.prog 5 #[.slice xa l.length xc, .int .i64 x, .int .u32 by'] w (PtPost w) := by
  have HX := Lib.hid hx
  have HB := Lib.hid hb
  have HXI := Lib.hid hxi
  clear hx hb hxi
  go_enter Try.func5, Try.ntmps5
  go_wp2_with fail
  refine (alive_any _).mono ?_
  rintro ee w1 ⟨rfl, hb1⟩
  have B1 := Lib.hid hb1
  clear hb1
  go_wp2
  go_loopw [7, 8, 9] (fun e s i wr => PtRel1 l x w e s i wr) (fun _ _ i _ => l.length - (intOf i).toNat)
  case atStart => exact ⟨0, Nat.zero_le _, rfl, by simp [eachB], by simp [someB], Lib.hid (fun j hj => by omega), B1⟩
  case round =>
    obtain ⟨k, hk, rfl, rfl, rfl, HV, BB⟩ := hrel
    by_cases hlt : k < l.length
    · obtain ⟨b, off, rfl, h1, h2⟩ := HX.out k hlt
      have c1 := (BB.out.cell (World.block_lt_of_cell? w _ h1)).trans h1
      have c2 := (BB.out.cell (World.block_lt_of_cell? w _ h2)).trans h2
      have hin := HB.out _ (getP_mem hlt)
      obtain ⟨p, hp⟩ : ∃ p, (l.getD k (0, 0)).1 = p := ⟨_, rfl⟩
      obtain ⟨q, hq⟩ : ∃ q, (l.getD k (0, 0)).2 = q := ⟨_, rfl⟩
      have he := eachB_succ l x k
      have hs := someB_succ l x k
      rw [hp, hq] at he hs
      rw [hp] at c1
      rw [hq] at c2
      have ip : InI p := by rw [← hp]; exact hin.1
      have iq : InI q := by rw [← hq]; exact hin.2
      obtain ⟨W1, hW1⟩ : ∃ W, wr.alloc (.cells #[.int .i64 p, .int .i64 q] 23) = W := ⟨_, rfl⟩
      have Kg : Hid (Kept W1 wr.heap.size #[.int .i64 p, .int .i64 q] 23) := Lib.hid (by rw [← hW1]; exact Kept.new rfl)
      have BB : Hid (Below w.heap.size w W1) := Lib.hid (by rw [← hW1]; exact BB.out.alloc BB.out.size _)
      have HW1 := Lib.hid hW1
      by_cases hpq : p ≤ q
      · have Cr : Hid (∀ W, Calls Try.prog 14 #[.agg #[.int .i64 p, .int .i64 q]] W (Gives (.bool true) W)) := Lib.hid fun W => al_right p q true W (decide_eq_true hpq)
        obtain ⟨r, hr⟩ : ∃ r, decide (p ≤ x ∧ x ≤ q) = r := ⟨_, rfl⟩
        rw [hr] at he hs
        have Ch : Hid (∀ W, Calls Try.prog 17 #[.agg #[.int .i64 p, .int .i64 q], .int .i64 x] W (Gives (.bool r) W)) := Lib.hid fun W => has_any p q x r hr W
        have Ci : Hid (∀ y W, p ≤ y → y ≤ q → Calls Try.prog 17 #[.agg #[.int .i64 p, .int .i64 q], .int .i64 y] W (Gives (.bool true) W)) := Lib.hid fun y W a b => has_any p q y true (decide_eq_true ⟨a, b⟩) W
        obtain ⟨m, hm⟩ : ∃ m, midI p q = m := ⟨_, rfl⟩
        have hm1 : p ≤ m := by rw [← hm]; unfold midI; rw [if_pos hpq]; omega
        have hm2 : m ≤ q := by rw [← hm]; unfold midI; rw [if_pos hpq]; omega
        have Cm : Hid (∀ W, Calls Try.prog 15 #[.agg #[.int .i64 p, .int .i64 q]] W (Gives (.int .i64 m) W)) := Lib.hid fun W => al_mid p q m W ip iq hm
        have iby : InI by' := by unfold InI; omega
        obtain ⟨u, hu⟩ : ∃ u, growL p q by' by' = u := ⟨_, rfl⟩
        obtain ⟨v, hv⟩ : ∃ u, growH p q by' by' = u := ⟨_, rfl⟩
        obtain ⟨er, her⟩ : ∃ u, growE p q by' by' = u := ⟨_, rfl⟩
        have Cg : Hid (∀ W, Calls Try.prog 10 #[.agg #[.int .i64 p, .int .i64 q], .int .i64 by', .int .i64 by'] W (Gives (.tuple #[.agg #[.int .i64 u, .int .i64 v], .int .i64 er]) W)) := Lib.hid fun W => al_grow p q by' by' u v er W ip iq iby iby hu hv her
        have hgr := growE_cases p q by' hpq hby.1 ip iq
        rw [hu, hv, her] at hgr
        have Cw : Hid (∀ W, Calls Try.prog 19 #[.agg #[.int .i64 p, .int .i64 q]] W (Gives (.int .u64 (q - p)) W)) := Lib.hid fun W => al_width p q _ W ip iq (by unfold widI; rw [if_pos hpq])
        have fin : ∀ w', Below w.heap.size w w' → PtRel1 l x w (.bool (eachB l x k && r)) (.bool (someB l x k || r)) (.int .i64 ((k : Int) + 1)) w' := fun w' hb => ⟨k + 1, hlt, rfl, by rw [he], by rw [hs], Lib.hid (fun j hj => by
          by_cases e : j = k
          · rw [e, hp, hq]; exact hpq
          · exact HV.out j (by omega)), Lib.hid hb⟩
        have Fin := Lib.hid fin
        clear fin hu hv her hm hr he hs hp hq hin h1 h2 hW1 B1
        generalize eachB l x k = eb at *
        generalize someB l x k = sb at *
        have ip' : -9223372036854775808 ≤ p ∧ p ≤ 9223372036854775807 := ip
        have iq' : -9223372036854775808 ≤ q ∧ q ≤ 9223372036854775807 := iq
        rcases hgr with hgr | ⟨hgr, hu1, hu2, hv1, hv2⟩
        · have d1 : (er == 0) = false := by rw [beq_eq_false_iff_ne]; exact hgr
          clear hgr
          cases eb <;> cases sb
          · simp only [Bool.true_and, Bool.false_and, Bool.true_or, Bool.false_or] at Fin
            obtain ⟨g_1, g_2, g_3, g_4, g_5⟩ := Kg.out.two
            go_wp2_with fail
            rw [HW1.out]
            refine (Cr.out _).mono ?_
            rintro ee w4 ⟨rfl, hb⟩
            clear g_1 g_2 g_3 g_4 g_5
            have Kg : Hid (Kept w4 _ _ _) := Lib.hid (by first | exact Kg.out.next hb | exact (Kg.out.alloc _).next hb)
            have BB : Hid (Below w.heap.size w w4) := Lib.hid (by first | exact bnext BB.out BB.out.size hb | exact bnext (BB.out.alloc BB.out.size _) (by have := BB.out.size; simp; omega) hb)
            clear hb
            obtain ⟨g_1, g_2, g_3, g_4, g_5⟩ := Kg.out.two
            go_wp2_with fail
            refine (Ch.out _).mono ?_
            rintro ee w4 ⟨rfl, hb⟩
            clear g_1 g_2 g_3 g_4 g_5
            have Kg : Hid (Kept w4 _ _ _) := Lib.hid (by first | exact Kg.out.next hb | exact (Kg.out.alloc _).next hb)
            have BB : Hid (Below w.heap.size w w4) := Lib.hid (by first | exact bnext BB.out BB.out.size hb | exact bnext (BB.out.alloc BB.out.size _) (by have := BB.out.size; simp; omega) hb)
            clear hb
            obtain ⟨g_1, g_2, g_3, g_4, g_5⟩ := Kg.out.two
            go_wp2_with fail
            generalize hw5 : w4 = w5 at *
            clear hw5
            go_region_held3 (fun W' => W'.cell? ⟨wr.heap.size, 0, none⟩ = some (.int .i64 p) ∧ W'.cell? ⟨wr.heap.size, 1, none⟩ = some (.int .i64 q))
              (first | exact ⟨g_1, g_2⟩ | go_keep)
              (first | (go_at_call 15; refine (Cm.out _).mono ?_; rintro ee w4 ⟨rfl, hb⟩; have Kg : Hid (Kept w4 _ _ _) := Lib.hid (by first | exact Kg.out.next hb | exact (Kg.out.drewN 1).next hb); have BB : Hid (Below w.heap.size w w4) := Lib.hid (by first | exact bnext BB.out BB.out.size hb | exact bnext (below_drewN BB.out 1) BB.out.size hb); obtain ⟨g_1, g_2, g_3, g_4, g_5⟩ := Kg.out.two) | (go_at_call 17; refine (Ci.out _ _ (by omega) (by omega)).mono ?_; rintro ee w4 ⟨rfl, hb⟩; have Kg : Hid (Kept w4 _ _ _) := Lib.hid (by first | exact Kg.out.next hb | exact (Kg.out.drewN 1).next hb); have BB : Hid (Below w.heap.size w w4) := Lib.hid (by first | exact bnext BB.out BB.out.size hb | exact bnext (below_drewN BB.out 1) BB.out.size hb); obtain ⟨g_1, g_2, g_3, g_4, g_5⟩ := Kg.out.two))
            all_goals
              clear g_1 g_2 g_3 g_4 g_5
              obtain ⟨g_1, g_2, g_3, g_4, g_5⟩ := Kg.out.two
              go_wp2_with fail
              refine (Cg.out _).mono ?_
              rintro ee w6 ⟨rfl, hb⟩
              clear g_1 g_2 g_3 g_4 g_5
              obtain ⟨W7, hW7⟩ : ∃ W, w6.alloc (.cells #[.int .i64 u, .int .i64 v] 23) = W := ⟨_, rfl⟩
              have Kv : Hid (Kept W7 w6.heap.size #[.int .i64 u, .int .i64 v] 23) := Lib.hid (by rw [← hW7]; exact Kept.new rfl)
              have Kg : Hid (Kept W7 _ _ _) := Lib.hid (by rw [← hW7]; exact (Kg.out.next hb).alloc _)
              have BB : Hid (Below w.heap.size w w6) := Lib.hid (bnext BB.out BB.out.size hb)
              have BB : Hid (Below w.heap.size w W7) := Lib.hid (by rw [← hW7]; exact BB.out.alloc BB.out.size _)
              have HW7 := Lib.hid hW7
              clear hW7 hb
              go_wp2
              rw [HW7.out]
              go_quiet (fail)
              all_goals
                go_wp2
                go_roundw
                case rel => exact Fin.out _ (below_drewN BB.out _)
                case measure => simp [intOf]; omega
          · simp only [Bool.true_and, Bool.false_and, Bool.true_or, Bool.false_or] at Fin
            obtain ⟨g_1, g_2, g_3, g_4, g_5⟩ := Kg.out.two
            go_wp2_with fail
            rw [HW1.out]
            refine (Cr.out _).mono ?_
            rintro ee w4 ⟨rfl, hb⟩
            clear g_1 g_2 g_3 g_4 g_5
            have Kg : Hid (Kept w4 _ _ _) := Lib.hid (by first | exact Kg.out.next hb | exact (Kg.out.alloc _).next hb)
            have BB : Hid (Below w.heap.size w w4) := Lib.hid (by first | exact bnext BB.out BB.out.size hb | exact bnext (BB.out.alloc BB.out.size _) (by have := BB.out.size; simp; omega) hb)
            clear hb
            obtain ⟨g_1, g_2, g_3, g_4, g_5⟩ := Kg.out.two
            go_wp2_with fail
            generalize hw5 : w4 = w5 at *
            clear hw5
            go_region_held3 (fun W' => W'.cell? ⟨wr.heap.size, 0, none⟩ = some (.int .i64 p) ∧ W'.cell? ⟨wr.heap.size, 1, none⟩ = some (.int .i64 q))
              (first | exact ⟨g_1, g_2⟩ | go_keep)
              (first | (go_at_call 15; refine (Cm.out _).mono ?_; rintro ee w4 ⟨rfl, hb⟩; have Kg : Hid (Kept w4 _ _ _) := Lib.hid (by first | exact Kg.out.next hb | exact (Kg.out.drewN 1).next hb); have BB : Hid (Below w.heap.size w w4) := Lib.hid (by first | exact bnext BB.out BB.out.size hb | exact bnext (below_drewN BB.out 1) BB.out.size hb); obtain ⟨g_1, g_2, g_3, g_4, g_5⟩ := Kg.out.two) | (go_at_call 17; refine (Ci.out _ _ (by omega) (by omega)).mono ?_; rintro ee w4 ⟨rfl, hb⟩; have Kg : Hid (Kept w4 _ _ _) := Lib.hid (by first | exact Kg.out.next hb | exact (Kg.out.drewN 1).next hb); have BB : Hid (Below w.heap.size w w4) := Lib.hid (by first | exact bnext BB.out BB.out.size hb | exact bnext (below_drewN BB.out 1) BB.out.size hb); obtain ⟨g_1, g_2, g_3, g_4, g_5⟩ := Kg.out.two))
            all_goals
              clear g_1 g_2 g_3 g_4 g_5
              obtain ⟨g_1, g_2, g_3, g_4, g_5⟩ := Kg.out.two
              go_wp2_with fail
              refine (Cg.out _).mono ?_
              rintro ee w6 ⟨rfl, hb⟩
              clear g_1 g_2 g_3 g_4 g_5
              obtain ⟨W7, hW7⟩ : ∃ W, w6.alloc (.cells #[.int .i64 u, .int .i64 v] 23) = W := ⟨_, rfl⟩
              have Kv : Hid (Kept W7 w6.heap.size #[.int .i64 u, .int .i64 v] 23) := Lib.hid (by rw [← hW7]; exact Kept.new rfl)
              have Kg : Hid (Kept W7 _ _ _) := Lib.hid (by rw [← hW7]; exact (Kg.out.next hb).alloc _)
              have BB : Hid (Below w.heap.size w w6) := Lib.hid (bnext BB.out BB.out.size hb)
              have BB : Hid (Below w.heap.size w W7) := Lib.hid (by rw [← hW7]; exact BB.out.alloc BB.out.size _)
              have HW7 := Lib.hid hW7
              clear hW7 hb
              go_wp2
              rw [HW7.out]
              go_quiet (fail)
              all_goals
                go_wp2
                go_roundw
                case rel => exact Fin.out _ (below_drewN BB.out _)
                case measure => simp [intOf]; omega
          · simp only [Bool.true_and, Bool.false_and, Bool.true_or, Bool.false_or] at Fin
            obtain ⟨g_1, g_2, g_3, g_4, g_5⟩ := Kg.out.two
            go_wp2_with fail
            rw [HW1.out]
            refine (Cr.out _).mono ?_
            rintro ee w4 ⟨rfl, hb⟩
            clear g_1 g_2 g_3 g_4 g_5
            have Kg : Hid (Kept w4 _ _ _) := Lib.hid (by first | exact Kg.out.next hb | exact (Kg.out.alloc _).next hb)
            have BB : Hid (Below w.heap.size w w4) := Lib.hid (by first | exact bnext BB.out BB.out.size hb | exact bnext (BB.out.alloc BB.out.size _) (by have := BB.out.size; simp; omega) hb)
            clear hb
            obtain ⟨g_1, g_2, g_3, g_4, g_5⟩ := Kg.out.two
            go_wp2_with fail
            refine (Ch.out _).mono ?_
            rintro ee w4 ⟨rfl, hb⟩
            clear g_1 g_2 g_3 g_4 g_5
            have Kg : Hid (Kept w4 _ _ _) := Lib.hid (by first | exact Kg.out.next hb | exact (Kg.out.alloc _).next hb)
            have BB : Hid (Below w.heap.size w w4) := Lib.hid (by first | exact bnext BB.out BB.out.size hb | exact bnext (BB.out.alloc BB.out.size _) (by have := BB.out.size; simp; omega) hb)
            clear hb
            obtain ⟨g_1, g_2, g_3, g_4, g_5⟩ := Kg.out.two
            go_wp2_with fail
            refine (Ch.out _).mono ?_
            rintro ee w4 ⟨rfl, hb⟩
            clear g_1 g_2 g_3 g_4 g_5
            have Kg : Hid (Kept w4 _ _ _) := Lib.hid (by first | exact Kg.out.next hb | exact (Kg.out.alloc _).next hb)
            have BB : Hid (Below w.heap.size w w4) := Lib.hid (by first | exact bnext BB.out BB.out.size hb | exact bnext (BB.out.alloc BB.out.size _) (by have := BB.out.size; simp; omega) hb)
            clear hb
            obtain ⟨g_1, g_2, g_3, g_4, g_5⟩ := Kg.out.two
            go_wp2_with fail
            generalize hw5 : w4 = w5 at *
            clear hw5
            go_region_held3 (fun W' => W'.cell? ⟨wr.heap.size, 0, none⟩ = some (.int .i64 p) ∧ W'.cell? ⟨wr.heap.size, 1, none⟩ = some (.int .i64 q))
              (first | exact ⟨g_1, g_2⟩ | go_keep)
              (first | (go_at_call 15; refine (Cm.out _).mono ?_; rintro ee w4 ⟨rfl, hb⟩; have Kg : Hid (Kept w4 _ _ _) := Lib.hid (by first | exact Kg.out.next hb | exact (Kg.out.drewN 1).next hb); have BB : Hid (Below w.heap.size w w4) := Lib.hid (by first | exact bnext BB.out BB.out.size hb | exact bnext (below_drewN BB.out 1) BB.out.size hb); obtain ⟨g_1, g_2, g_3, g_4, g_5⟩ := Kg.out.two) | (go_at_call 17; refine (Ci.out _ _ (by omega) (by omega)).mono ?_; rintro ee w4 ⟨rfl, hb⟩; have Kg : Hid (Kept w4 _ _ _) := Lib.hid (by first | exact Kg.out.next hb | exact (Kg.out.drewN 1).next hb); have BB : Hid (Below w.heap.size w w4) := Lib.hid (by first | exact bnext BB.out BB.out.size hb | exact bnext (below_drewN BB.out 1) BB.out.size hb); obtain ⟨g_1, g_2, g_3, g_4, g_5⟩ := Kg.out.two))
            all_goals
              clear g_1 g_2 g_3 g_4 g_5
              obtain ⟨g_1, g_2, g_3, g_4, g_5⟩ := Kg.out.two
              go_wp2_with fail
              refine (Cg.out _).mono ?_
              rintro ee w6 ⟨rfl, hb⟩
              clear g_1 g_2 g_3 g_4 g_5
              obtain ⟨W7, hW7⟩ : ∃ W, w6.alloc (.cells #[.int .i64 u, .int .i64 v] 23) = W := ⟨_, rfl⟩
              have Kv : Hid (Kept W7 w6.heap.size #[.int .i64 u, .int .i64 v] 23) := Lib.hid (by rw [← hW7]; exact Kept.new rfl)
              have Kg : Hid (Kept W7 _ _ _) := Lib.hid (by rw [← hW7]; exact (Kg.out.next hb).alloc _)
              have BB : Hid (Below w.heap.size w w6) := Lib.hid (bnext BB.out BB.out.size hb)
              have BB : Hid (Below w.heap.size w W7) := Lib.hid (by rw [← hW7]; exact BB.out.alloc BB.out.size _)
              have HW7 := Lib.hid hW7
              clear hW7 hb
              go_wp2
              rw [HW7.out]
              go_quiet (fail)
              all_goals
                go_wp2
                go_roundw
                case rel => exact Fin.out _ (below_drewN BB.out _)
                case measure => simp [intOf]; omega
          · simp only [Bool.true_and, Bool.false_and, Bool.true_or, Bool.false_or] at Fin
            obtain ⟨g_1, g_2, g_3, g_4, g_5⟩ := Kg.out.two
            go_wp2_with fail
            rw [HW1.out]
            refine (Cr.out _).mono ?_
            rintro ee w4 ⟨rfl, hb⟩
            clear g_1 g_2 g_3 g_4 g_5
            have Kg : Hid (Kept w4 _ _ _) := Lib.hid (by first | exact Kg.out.next hb | exact (Kg.out.alloc _).next hb)
            have BB : Hid (Below w.heap.size w w4) := Lib.hid (by first | exact bnext BB.out BB.out.size hb | exact bnext (BB.out.alloc BB.out.size _) (by have := BB.out.size; simp; omega) hb)
            clear hb
            obtain ⟨g_1, g_2, g_3, g_4, g_5⟩ := Kg.out.two
            go_wp2_with fail
            refine (Ch.out _).mono ?_
            rintro ee w4 ⟨rfl, hb⟩
            clear g_1 g_2 g_3 g_4 g_5
            have Kg : Hid (Kept w4 _ _ _) := Lib.hid (by first | exact Kg.out.next hb | exact (Kg.out.alloc _).next hb)
            have BB : Hid (Below w.heap.size w w4) := Lib.hid (by first | exact bnext BB.out BB.out.size hb | exact bnext (BB.out.alloc BB.out.size _) (by have := BB.out.size; simp; omega) hb)
            clear hb
            obtain ⟨g_1, g_2, g_3, g_4, g_5⟩ := Kg.out.two
            go_wp2_with fail
            generalize hw5 : w4 = w5 at *
            clear hw5
            go_region_held3 (fun W' => W'.cell? ⟨wr.heap.size, 0, none⟩ = some (.int .i64 p) ∧ W'.cell? ⟨wr.heap.size, 1, none⟩ = some (.int .i64 q))
              (first | exact ⟨g_1, g_2⟩ | go_keep)
              (first | (go_at_call 15; refine (Cm.out _).mono ?_; rintro ee w4 ⟨rfl, hb⟩; have Kg : Hid (Kept w4 _ _ _) := Lib.hid (by first | exact Kg.out.next hb | exact (Kg.out.drewN 1).next hb); have BB : Hid (Below w.heap.size w w4) := Lib.hid (by first | exact bnext BB.out BB.out.size hb | exact bnext (below_drewN BB.out 1) BB.out.size hb); obtain ⟨g_1, g_2, g_3, g_4, g_5⟩ := Kg.out.two) | (go_at_call 17; refine (Ci.out _ _ (by omega) (by omega)).mono ?_; rintro ee w4 ⟨rfl, hb⟩; have Kg : Hid (Kept w4 _ _ _) := Lib.hid (by first | exact Kg.out.next hb | exact (Kg.out.drewN 1).next hb); have BB : Hid (Below w.heap.size w w4) := Lib.hid (by first | exact bnext BB.out BB.out.size hb | exact bnext (below_drewN BB.out 1) BB.out.size hb); obtain ⟨g_1, g_2, g_3, g_4, g_5⟩ := Kg.out.two))
            all_goals
              clear g_1 g_2 g_3 g_4 g_5
              obtain ⟨g_1, g_2, g_3, g_4, g_5⟩ := Kg.out.two
              go_wp2_with fail
              refine (Cg.out _).mono ?_
              rintro ee w6 ⟨rfl, hb⟩
              clear g_1 g_2 g_3 g_4 g_5
              obtain ⟨W7, hW7⟩ : ∃ W, w6.alloc (.cells #[.int .i64 u, .int .i64 v] 23) = W := ⟨_, rfl⟩
              have Kv : Hid (Kept W7 w6.heap.size #[.int .i64 u, .int .i64 v] 23) := Lib.hid (by rw [← hW7]; exact Kept.new rfl)
              have Kg : Hid (Kept W7 _ _ _) := Lib.hid (by rw [← hW7]; exact (Kg.out.next hb).alloc _)
              have BB : Hid (Below w.heap.size w w6) := Lib.hid (bnext BB.out BB.out.size hb)
              have BB : Hid (Below w.heap.size w W7) := Lib.hid (by rw [← hW7]; exact BB.out.alloc BB.out.size _)
              have HW7 := Lib.hid hW7
              clear hW7 hb
              go_wp2
              rw [HW7.out]
              go_quiet (fail)
              all_goals
                go_wp2
                go_roundw
                case rel => exact Fin.out _ (below_drewN BB.out _)
                case measure => simp [intOf]; omega
        · have Cn : Hid (∀ W, Calls Try.prog 18 #[.agg #[.int .i64 p, .int .i64 q], .agg #[.int .i64 u, .int .i64 v]] W (Gives (.bool true) W)) := Lib.hid fun W => within_any p q u v true (decide_eq_true (by omega)) W
          have Cv : Hid (∀ W, Calls Try.prog 19 #[.agg #[.int .i64 u, .int .i64 v]] W (Gives (.int .u64 (q - p + 2 * by')) W)) := Lib.hid fun W => al_width u v _ W (by unfold InI; omega) (by unfold InI; omega) (by unfold widI; rw [if_pos (by omega)]; omega)
          have d1 : (er == 0) = true := by rw [hgr]; rfl
          have eW1 : IntKind.u64.wrap by' = by' := by simp only [IntKind.wrap_u64]; omega
          have eW2 : IntKind.u64.wrap (2 * by') = 2 * by' := by simp only [IntKind.wrap_u64]; omega
          have eW3 : IntKind.u64.wrap (q - p + 2 * by') = q - p + 2 * by' := by simp only [IntKind.wrap_u64]; omega
          clear hgr hu1 hu2 hv1 hv2
          cases eb <;> cases sb
          · simp only [Bool.true_and, Bool.false_and, Bool.true_or, Bool.false_or] at Fin
            obtain ⟨g_1, g_2, g_3, g_4, g_5⟩ := Kg.out.two
            go_wp2_with fail
            rw [HW1.out]
            refine (Cr.out _).mono ?_
            rintro ee w4 ⟨rfl, hb⟩
            clear g_1 g_2 g_3 g_4 g_5
            have Kg : Hid (Kept w4 _ _ _) := Lib.hid (by first | exact Kg.out.next hb | exact (Kg.out.alloc _).next hb)
            have BB : Hid (Below w.heap.size w w4) := Lib.hid (by first | exact bnext BB.out BB.out.size hb | exact bnext (BB.out.alloc BB.out.size _) (by have := BB.out.size; simp; omega) hb)
            clear hb
            obtain ⟨g_1, g_2, g_3, g_4, g_5⟩ := Kg.out.two
            go_wp2_with fail
            refine (Ch.out _).mono ?_
            rintro ee w4 ⟨rfl, hb⟩
            clear g_1 g_2 g_3 g_4 g_5
            have Kg : Hid (Kept w4 _ _ _) := Lib.hid (by first | exact Kg.out.next hb | exact (Kg.out.alloc _).next hb)
            have BB : Hid (Below w.heap.size w w4) := Lib.hid (by first | exact bnext BB.out BB.out.size hb | exact bnext (BB.out.alloc BB.out.size _) (by have := BB.out.size; simp; omega) hb)
            clear hb
            obtain ⟨g_1, g_2, g_3, g_4, g_5⟩ := Kg.out.two
            go_wp2_with fail
            generalize hw5 : w4 = w5 at *
            clear hw5
            go_region_held3 (fun W' => W'.cell? ⟨wr.heap.size, 0, none⟩ = some (.int .i64 p) ∧ W'.cell? ⟨wr.heap.size, 1, none⟩ = some (.int .i64 q))
              (first | exact ⟨g_1, g_2⟩ | go_keep)
              (first | (go_at_call 15; refine (Cm.out _).mono ?_; rintro ee w4 ⟨rfl, hb⟩; have Kg : Hid (Kept w4 _ _ _) := Lib.hid (by first | exact Kg.out.next hb | exact (Kg.out.drewN 1).next hb); have BB : Hid (Below w.heap.size w w4) := Lib.hid (by first | exact bnext BB.out BB.out.size hb | exact bnext (below_drewN BB.out 1) BB.out.size hb); obtain ⟨g_1, g_2, g_3, g_4, g_5⟩ := Kg.out.two) | (go_at_call 17; refine (Ci.out _ _ (by omega) (by omega)).mono ?_; rintro ee w4 ⟨rfl, hb⟩; have Kg : Hid (Kept w4 _ _ _) := Lib.hid (by first | exact Kg.out.next hb | exact (Kg.out.drewN 1).next hb); have BB : Hid (Below w.heap.size w w4) := Lib.hid (by first | exact bnext BB.out BB.out.size hb | exact bnext (below_drewN BB.out 1) BB.out.size hb); obtain ⟨g_1, g_2, g_3, g_4, g_5⟩ := Kg.out.two))
            all_goals
              clear g_1 g_2 g_3 g_4 g_5
              obtain ⟨g_1, g_2, g_3, g_4, g_5⟩ := Kg.out.two
              go_wp2_with fail
              refine (Cg.out _).mono ?_
              rintro ee w6 ⟨rfl, hb⟩
              clear g_1 g_2 g_3 g_4 g_5
              obtain ⟨W7, hW7⟩ : ∃ W, w6.alloc (.cells #[.int .i64 u, .int .i64 v] 23) = W := ⟨_, rfl⟩
              have Kv : Hid (Kept W7 w6.heap.size #[.int .i64 u, .int .i64 v] 23) := Lib.hid (by rw [← hW7]; exact Kept.new rfl)
              have Kg : Hid (Kept W7 _ _ _) := Lib.hid (by rw [← hW7]; exact (Kg.out.next hb).alloc _)
              have BB : Hid (Below w.heap.size w w6) := Lib.hid (bnext BB.out BB.out.size hb)
              have BB : Hid (Below w.heap.size w W7) := Lib.hid (by rw [← hW7]; exact BB.out.alloc BB.out.size _)
              have HW7 := Lib.hid hW7
              clear hW7 hb
              go_wp2
              rw [HW7.out]
              obtain ⟨g_1, g_2, g_3, g_4, g_5⟩ := Kg.out.two
              obtain ⟨v_1, v_2, v_3, v_4, v_5⟩ := Kv.out.two
              go_region_held3 (fun W' => W'.cell? ⟨wr.heap.size, 0, none⟩ = some (.int .i64 p) ∧ W'.cell? ⟨wr.heap.size, 1, none⟩ = some (.int .i64 q) ∧ W'.cell? ⟨w6.heap.size, 0, none⟩ = some (.int .i64 u) ∧ W'.cell? ⟨w6.heap.size, 1, none⟩ = some (.int .i64 v))
                (first | exact ⟨g_1, g_2, v_1, v_2⟩ | go_keep)
                (first | (go_at_call 18; refine (Cn.out _).mono ?_; rintro ee w4 ⟨rfl, hb⟩; have Kg : Hid (Kept w4 _ _ _) := Lib.hid (by first | exact Kg.out.next hb | exact (Kg.out.drewN 1).next hb); have Kv : Hid (Kept w4 _ _ _) := Lib.hid (by first | exact Kv.out.next hb | exact (Kv.out.drewN 1).next hb); have BB : Hid (Below w.heap.size w w4) := Lib.hid (by first | exact bnext BB.out BB.out.size hb | exact bnext (below_drewN BB.out 1) BB.out.size hb); obtain ⟨g_1, g_2, g_3, g_4, g_5⟩ := Kg.out.two; obtain ⟨v_1, v_2, v_3, v_4, v_5⟩ := Kv.out.two) | (go_at_call_of 19 (Value.agg #[Value.int IntKind.i64 u, Value.int IntKind.i64 v]); refine (Cv.out _).mono ?_; rintro ee w4 ⟨rfl, hb⟩; have Kg : Hid (Kept w4 _ _ _) := Lib.hid (by first | exact Kg.out.next hb | exact (Kg.out.drewN 1).next hb); have Kv : Hid (Kept w4 _ _ _) := Lib.hid (by first | exact Kv.out.next hb | exact (Kv.out.drewN 1).next hb); have BB : Hid (Below w.heap.size w w4) := Lib.hid (by first | exact bnext BB.out BB.out.size hb | exact bnext (below_drewN BB.out 1) BB.out.size hb); obtain ⟨g_1, g_2, g_3, g_4, g_5⟩ := Kg.out.two; obtain ⟨v_1, v_2, v_3, v_4, v_5⟩ := Kv.out.two) | (go_at_call_of 19 (Value.agg #[Value.int IntKind.i64 p, Value.int IntKind.i64 q]); refine (Cw.out _).mono ?_; rintro ee w4 ⟨rfl, hb⟩; have Kg : Hid (Kept w4 _ _ _) := Lib.hid (by first | exact Kg.out.next hb | exact (Kg.out.drewN 1).next hb); have Kv : Hid (Kept w4 _ _ _) := Lib.hid (by first | exact Kv.out.next hb | exact (Kv.out.drewN 1).next hb); have BB : Hid (Below w.heap.size w w4) := Lib.hid (by first | exact bnext BB.out BB.out.size hb | exact bnext (below_drewN BB.out 1) BB.out.size hb); obtain ⟨g_1, g_2, g_3, g_4, g_5⟩ := Kg.out.two; obtain ⟨v_1, v_2, v_3, v_4, v_5⟩ := Kv.out.two))
              all_goals
                clear g_1 g_2 g_3 g_4 g_5 v_1 v_2 v_3 v_4 v_5
                go_wp2
                go_roundw
                case rel => exact Fin.out _ BB.out
                case measure => simp [intOf]; omega
          · simp only [Bool.true_and, Bool.false_and, Bool.true_or, Bool.false_or] at Fin
            obtain ⟨g_1, g_2, g_3, g_4, g_5⟩ := Kg.out.two
            go_wp2_with fail
            rw [HW1.out]
            refine (Cr.out _).mono ?_
            rintro ee w4 ⟨rfl, hb⟩
            clear g_1 g_2 g_3 g_4 g_5
            have Kg : Hid (Kept w4 _ _ _) := Lib.hid (by first | exact Kg.out.next hb | exact (Kg.out.alloc _).next hb)
            have BB : Hid (Below w.heap.size w w4) := Lib.hid (by first | exact bnext BB.out BB.out.size hb | exact bnext (BB.out.alloc BB.out.size _) (by have := BB.out.size; simp; omega) hb)
            clear hb
            obtain ⟨g_1, g_2, g_3, g_4, g_5⟩ := Kg.out.two
            go_wp2_with fail
            generalize hw5 : w4 = w5 at *
            clear hw5
            go_region_held3 (fun W' => W'.cell? ⟨wr.heap.size, 0, none⟩ = some (.int .i64 p) ∧ W'.cell? ⟨wr.heap.size, 1, none⟩ = some (.int .i64 q))
              (first | exact ⟨g_1, g_2⟩ | go_keep)
              (first | (go_at_call 15; refine (Cm.out _).mono ?_; rintro ee w4 ⟨rfl, hb⟩; have Kg : Hid (Kept w4 _ _ _) := Lib.hid (by first | exact Kg.out.next hb | exact (Kg.out.drewN 1).next hb); have BB : Hid (Below w.heap.size w w4) := Lib.hid (by first | exact bnext BB.out BB.out.size hb | exact bnext (below_drewN BB.out 1) BB.out.size hb); obtain ⟨g_1, g_2, g_3, g_4, g_5⟩ := Kg.out.two) | (go_at_call 17; refine (Ci.out _ _ (by omega) (by omega)).mono ?_; rintro ee w4 ⟨rfl, hb⟩; have Kg : Hid (Kept w4 _ _ _) := Lib.hid (by first | exact Kg.out.next hb | exact (Kg.out.drewN 1).next hb); have BB : Hid (Below w.heap.size w w4) := Lib.hid (by first | exact bnext BB.out BB.out.size hb | exact bnext (below_drewN BB.out 1) BB.out.size hb); obtain ⟨g_1, g_2, g_3, g_4, g_5⟩ := Kg.out.two))
            all_goals
              clear g_1 g_2 g_3 g_4 g_5
              obtain ⟨g_1, g_2, g_3, g_4, g_5⟩ := Kg.out.two
              go_wp2_with fail
              refine (Cg.out _).mono ?_
              rintro ee w6 ⟨rfl, hb⟩
              clear g_1 g_2 g_3 g_4 g_5
              obtain ⟨W7, hW7⟩ : ∃ W, w6.alloc (.cells #[.int .i64 u, .int .i64 v] 23) = W := ⟨_, rfl⟩
              have Kv : Hid (Kept W7 w6.heap.size #[.int .i64 u, .int .i64 v] 23) := Lib.hid (by rw [← hW7]; exact Kept.new rfl)
              have Kg : Hid (Kept W7 _ _ _) := Lib.hid (by rw [← hW7]; exact (Kg.out.next hb).alloc _)
              have BB : Hid (Below w.heap.size w w6) := Lib.hid (bnext BB.out BB.out.size hb)
              have BB : Hid (Below w.heap.size w W7) := Lib.hid (by rw [← hW7]; exact BB.out.alloc BB.out.size _)
              have HW7 := Lib.hid hW7
              clear hW7 hb
              go_wp2
              rw [HW7.out]
              obtain ⟨g_1, g_2, g_3, g_4, g_5⟩ := Kg.out.two
              obtain ⟨v_1, v_2, v_3, v_4, v_5⟩ := Kv.out.two
              go_region_held3 (fun W' => W'.cell? ⟨wr.heap.size, 0, none⟩ = some (.int .i64 p) ∧ W'.cell? ⟨wr.heap.size, 1, none⟩ = some (.int .i64 q) ∧ W'.cell? ⟨w6.heap.size, 0, none⟩ = some (.int .i64 u) ∧ W'.cell? ⟨w6.heap.size, 1, none⟩ = some (.int .i64 v))
                (first | exact ⟨g_1, g_2, v_1, v_2⟩ | go_keep)
                (first | (go_at_call 18; refine (Cn.out _).mono ?_; rintro ee w4 ⟨rfl, hb⟩; have Kg : Hid (Kept w4 _ _ _) := Lib.hid (by first | exact Kg.out.next hb | exact (Kg.out.drewN 1).next hb); have Kv : Hid (Kept w4 _ _ _) := Lib.hid (by first | exact Kv.out.next hb | exact (Kv.out.drewN 1).next hb); have BB : Hid (Below w.heap.size w w4) := Lib.hid (by first | exact bnext BB.out BB.out.size hb | exact bnext (below_drewN BB.out 1) BB.out.size hb); obtain ⟨g_1, g_2, g_3, g_4, g_5⟩ := Kg.out.two; obtain ⟨v_1, v_2, v_3, v_4, v_5⟩ := Kv.out.two) | (go_at_call_of 19 (Value.agg #[Value.int IntKind.i64 u, Value.int IntKind.i64 v]); refine (Cv.out _).mono ?_; rintro ee w4 ⟨rfl, hb⟩; have Kg : Hid (Kept w4 _ _ _) := Lib.hid (by first | exact Kg.out.next hb | exact (Kg.out.drewN 1).next hb); have Kv : Hid (Kept w4 _ _ _) := Lib.hid (by first | exact Kv.out.next hb | exact (Kv.out.drewN 1).next hb); have BB : Hid (Below w.heap.size w w4) := Lib.hid (by first | exact bnext BB.out BB.out.size hb | exact bnext (below_drewN BB.out 1) BB.out.size hb); obtain ⟨g_1, g_2, g_3, g_4, g_5⟩ := Kg.out.two; obtain ⟨v_1, v_2, v_3, v_4, v_5⟩ := Kv.out.two) | (go_at_call_of 19 (Value.agg #[Value.int IntKind.i64 p, Value.int IntKind.i64 q]); refine (Cw.out _).mono ?_; rintro ee w4 ⟨rfl, hb⟩; have Kg : Hid (Kept w4 _ _ _) := Lib.hid (by first | exact Kg.out.next hb | exact (Kg.out.drewN 1).next hb); have Kv : Hid (Kept w4 _ _ _) := Lib.hid (by first | exact Kv.out.next hb | exact (Kv.out.drewN 1).next hb); have BB : Hid (Below w.heap.size w w4) := Lib.hid (by first | exact bnext BB.out BB.out.size hb | exact bnext (below_drewN BB.out 1) BB.out.size hb); obtain ⟨g_1, g_2, g_3, g_4, g_5⟩ := Kg.out.two; obtain ⟨v_1, v_2, v_3, v_4, v_5⟩ := Kv.out.two))
              all_goals
                clear g_1 g_2 g_3 g_4 g_5 v_1 v_2 v_3 v_4 v_5
                go_wp2
                go_roundw
                case rel => exact Fin.out _ BB.out
                case measure => simp [intOf]; omega
          · simp only [Bool.true_and, Bool.false_and, Bool.true_or, Bool.false_or] at Fin
            obtain ⟨g_1, g_2, g_3, g_4, g_5⟩ := Kg.out.two
            go_wp2_with fail
            rw [HW1.out]
            refine (Cr.out _).mono ?_
            rintro ee w4 ⟨rfl, hb⟩
            clear g_1 g_2 g_3 g_4 g_5
            have Kg : Hid (Kept w4 _ _ _) := Lib.hid (by first | exact Kg.out.next hb | exact (Kg.out.alloc _).next hb)
            have BB : Hid (Below w.heap.size w w4) := Lib.hid (by first | exact bnext BB.out BB.out.size hb | exact bnext (BB.out.alloc BB.out.size _) (by have := BB.out.size; simp; omega) hb)
            clear hb
            obtain ⟨g_1, g_2, g_3, g_4, g_5⟩ := Kg.out.two
            go_wp2_with fail
            refine (Ch.out _).mono ?_
            rintro ee w4 ⟨rfl, hb⟩
            clear g_1 g_2 g_3 g_4 g_5
            have Kg : Hid (Kept w4 _ _ _) := Lib.hid (by first | exact Kg.out.next hb | exact (Kg.out.alloc _).next hb)
            have BB : Hid (Below w.heap.size w w4) := Lib.hid (by first | exact bnext BB.out BB.out.size hb | exact bnext (BB.out.alloc BB.out.size _) (by have := BB.out.size; simp; omega) hb)
            clear hb
            obtain ⟨g_1, g_2, g_3, g_4, g_5⟩ := Kg.out.two
            go_wp2_with fail
            refine (Ch.out _).mono ?_
            rintro ee w4 ⟨rfl, hb⟩
            clear g_1 g_2 g_3 g_4 g_5
            have Kg : Hid (Kept w4 _ _ _) := Lib.hid (by first | exact Kg.out.next hb | exact (Kg.out.alloc _).next hb)
            have BB : Hid (Below w.heap.size w w4) := Lib.hid (by first | exact bnext BB.out BB.out.size hb | exact bnext (BB.out.alloc BB.out.size _) (by have := BB.out.size; simp; omega) hb)
            clear hb
            obtain ⟨g_1, g_2, g_3, g_4, g_5⟩ := Kg.out.two
            go_wp2_with fail
            generalize hw5 : w4 = w5 at *
            clear hw5
            go_region_held3 (fun W' => W'.cell? ⟨wr.heap.size, 0, none⟩ = some (.int .i64 p) ∧ W'.cell? ⟨wr.heap.size, 1, none⟩ = some (.int .i64 q))
              (first | exact ⟨g_1, g_2⟩ | go_keep)
              (first | (go_at_call 15; refine (Cm.out _).mono ?_; rintro ee w4 ⟨rfl, hb⟩; have Kg : Hid (Kept w4 _ _ _) := Lib.hid (by first | exact Kg.out.next hb | exact (Kg.out.drewN 1).next hb); have BB : Hid (Below w.heap.size w w4) := Lib.hid (by first | exact bnext BB.out BB.out.size hb | exact bnext (below_drewN BB.out 1) BB.out.size hb); obtain ⟨g_1, g_2, g_3, g_4, g_5⟩ := Kg.out.two) | (go_at_call 17; refine (Ci.out _ _ (by omega) (by omega)).mono ?_; rintro ee w4 ⟨rfl, hb⟩; have Kg : Hid (Kept w4 _ _ _) := Lib.hid (by first | exact Kg.out.next hb | exact (Kg.out.drewN 1).next hb); have BB : Hid (Below w.heap.size w w4) := Lib.hid (by first | exact bnext BB.out BB.out.size hb | exact bnext (below_drewN BB.out 1) BB.out.size hb); obtain ⟨g_1, g_2, g_3, g_4, g_5⟩ := Kg.out.two))
            all_goals
              clear g_1 g_2 g_3 g_4 g_5
              obtain ⟨g_1, g_2, g_3, g_4, g_5⟩ := Kg.out.two
              go_wp2_with fail
              refine (Cg.out _).mono ?_
              rintro ee w6 ⟨rfl, hb⟩
              clear g_1 g_2 g_3 g_4 g_5
              obtain ⟨W7, hW7⟩ : ∃ W, w6.alloc (.cells #[.int .i64 u, .int .i64 v] 23) = W := ⟨_, rfl⟩
              have Kv : Hid (Kept W7 w6.heap.size #[.int .i64 u, .int .i64 v] 23) := Lib.hid (by rw [← hW7]; exact Kept.new rfl)
              have Kg : Hid (Kept W7 _ _ _) := Lib.hid (by rw [← hW7]; exact (Kg.out.next hb).alloc _)
              have BB : Hid (Below w.heap.size w w6) := Lib.hid (bnext BB.out BB.out.size hb)
              have BB : Hid (Below w.heap.size w W7) := Lib.hid (by rw [← hW7]; exact BB.out.alloc BB.out.size _)
              have HW7 := Lib.hid hW7
              clear hW7 hb
              go_wp2
              rw [HW7.out]
              obtain ⟨g_1, g_2, g_3, g_4, g_5⟩ := Kg.out.two
              obtain ⟨v_1, v_2, v_3, v_4, v_5⟩ := Kv.out.two
              go_region_held3 (fun W' => W'.cell? ⟨wr.heap.size, 0, none⟩ = some (.int .i64 p) ∧ W'.cell? ⟨wr.heap.size, 1, none⟩ = some (.int .i64 q) ∧ W'.cell? ⟨w6.heap.size, 0, none⟩ = some (.int .i64 u) ∧ W'.cell? ⟨w6.heap.size, 1, none⟩ = some (.int .i64 v))
                (first | exact ⟨g_1, g_2, v_1, v_2⟩ | go_keep)
                (first | (go_at_call 18; refine (Cn.out _).mono ?_; rintro ee w4 ⟨rfl, hb⟩; have Kg : Hid (Kept w4 _ _ _) := Lib.hid (by first | exact Kg.out.next hb | exact (Kg.out.drewN 1).next hb); have Kv : Hid (Kept w4 _ _ _) := Lib.hid (by first | exact Kv.out.next hb | exact (Kv.out.drewN 1).next hb); have BB : Hid (Below w.heap.size w w4) := Lib.hid (by first | exact bnext BB.out BB.out.size hb | exact bnext (below_drewN BB.out 1) BB.out.size hb); obtain ⟨g_1, g_2, g_3, g_4, g_5⟩ := Kg.out.two; obtain ⟨v_1, v_2, v_3, v_4, v_5⟩ := Kv.out.two) | (go_at_call_of 19 (Value.agg #[Value.int IntKind.i64 u, Value.int IntKind.i64 v]); refine (Cv.out _).mono ?_; rintro ee w4 ⟨rfl, hb⟩; have Kg : Hid (Kept w4 _ _ _) := Lib.hid (by first | exact Kg.out.next hb | exact (Kg.out.drewN 1).next hb); have Kv : Hid (Kept w4 _ _ _) := Lib.hid (by first | exact Kv.out.next hb | exact (Kv.out.drewN 1).next hb); have BB : Hid (Below w.heap.size w w4) := Lib.hid (by first | exact bnext BB.out BB.out.size hb | exact bnext (below_drewN BB.out 1) BB.out.size hb); obtain ⟨g_1, g_2, g_3, g_4, g_5⟩ := Kg.out.two; obtain ⟨v_1, v_2, v_3, v_4, v_5⟩ := Kv.out.two) | (go_at_call_of 19 (Value.agg #[Value.int IntKind.i64 p, Value.int IntKind.i64 q]); refine (Cw.out _).mono ?_; rintro ee w4 ⟨rfl, hb⟩; have Kg : Hid (Kept w4 _ _ _) := Lib.hid (by first | exact Kg.out.next hb | exact (Kg.out.drewN 1).next hb); have Kv : Hid (Kept w4 _ _ _) := Lib.hid (by first | exact Kv.out.next hb | exact (Kv.out.drewN 1).next hb); have BB : Hid (Below w.heap.size w w4) := Lib.hid (by first | exact bnext BB.out BB.out.size hb | exact bnext (below_drewN BB.out 1) BB.out.size hb); obtain ⟨g_1, g_2, g_3, g_4, g_5⟩ := Kg.out.two; obtain ⟨v_1, v_2, v_3, v_4, v_5⟩ := Kv.out.two))
              all_goals
                clear g_1 g_2 g_3 g_4 g_5 v_1 v_2 v_3 v_4 v_5
                go_wp2
                go_roundw
                case rel => exact Fin.out _ BB.out
                case measure => simp [intOf]; omega
          · simp only [Bool.true_and, Bool.false_and, Bool.true_or, Bool.false_or] at Fin
            obtain ⟨g_1, g_2, g_3, g_4, g_5⟩ := Kg.out.two
            go_wp2_with fail
            rw [HW1.out]
            refine (Cr.out _).mono ?_
            rintro ee w4 ⟨rfl, hb⟩
            clear g_1 g_2 g_3 g_4 g_5
            have Kg : Hid (Kept w4 _ _ _) := Lib.hid (by first | exact Kg.out.next hb | exact (Kg.out.alloc _).next hb)
            have BB : Hid (Below w.heap.size w w4) := Lib.hid (by first | exact bnext BB.out BB.out.size hb | exact bnext (BB.out.alloc BB.out.size _) (by have := BB.out.size; simp; omega) hb)
            clear hb
            obtain ⟨g_1, g_2, g_3, g_4, g_5⟩ := Kg.out.two
            go_wp2_with fail
            refine (Ch.out _).mono ?_
            rintro ee w4 ⟨rfl, hb⟩
            clear g_1 g_2 g_3 g_4 g_5
            have Kg : Hid (Kept w4 _ _ _) := Lib.hid (by first | exact Kg.out.next hb | exact (Kg.out.alloc _).next hb)
            have BB : Hid (Below w.heap.size w w4) := Lib.hid (by first | exact bnext BB.out BB.out.size hb | exact bnext (BB.out.alloc BB.out.size _) (by have := BB.out.size; simp; omega) hb)
            clear hb
            obtain ⟨g_1, g_2, g_3, g_4, g_5⟩ := Kg.out.two
            go_wp2_with fail
            generalize hw5 : w4 = w5 at *
            clear hw5
            go_region_held3 (fun W' => W'.cell? ⟨wr.heap.size, 0, none⟩ = some (.int .i64 p) ∧ W'.cell? ⟨wr.heap.size, 1, none⟩ = some (.int .i64 q))
              (first | exact ⟨g_1, g_2⟩ | go_keep)
              (first | (go_at_call 15; refine (Cm.out _).mono ?_; rintro ee w4 ⟨rfl, hb⟩; have Kg : Hid (Kept w4 _ _ _) := Lib.hid (by first | exact Kg.out.next hb | exact (Kg.out.drewN 1).next hb); have BB : Hid (Below w.heap.size w w4) := Lib.hid (by first | exact bnext BB.out BB.out.size hb | exact bnext (below_drewN BB.out 1) BB.out.size hb); obtain ⟨g_1, g_2, g_3, g_4, g_5⟩ := Kg.out.two) | (go_at_call 17; refine (Ci.out _ _ (by omega) (by omega)).mono ?_; rintro ee w4 ⟨rfl, hb⟩; have Kg : Hid (Kept w4 _ _ _) := Lib.hid (by first | exact Kg.out.next hb | exact (Kg.out.drewN 1).next hb); have BB : Hid (Below w.heap.size w w4) := Lib.hid (by first | exact bnext BB.out BB.out.size hb | exact bnext (below_drewN BB.out 1) BB.out.size hb); obtain ⟨g_1, g_2, g_3, g_4, g_5⟩ := Kg.out.two))
            all_goals
              clear g_1 g_2 g_3 g_4 g_5
              obtain ⟨g_1, g_2, g_3, g_4, g_5⟩ := Kg.out.two
              go_wp2_with fail
              refine (Cg.out _).mono ?_
              rintro ee w6 ⟨rfl, hb⟩
              clear g_1 g_2 g_3 g_4 g_5
              obtain ⟨W7, hW7⟩ : ∃ W, w6.alloc (.cells #[.int .i64 u, .int .i64 v] 23) = W := ⟨_, rfl⟩
              have Kv : Hid (Kept W7 w6.heap.size #[.int .i64 u, .int .i64 v] 23) := Lib.hid (by rw [← hW7]; exact Kept.new rfl)
              have Kg : Hid (Kept W7 _ _ _) := Lib.hid (by rw [← hW7]; exact (Kg.out.next hb).alloc _)
              have BB : Hid (Below w.heap.size w w6) := Lib.hid (bnext BB.out BB.out.size hb)
              have BB : Hid (Below w.heap.size w W7) := Lib.hid (by rw [← hW7]; exact BB.out.alloc BB.out.size _)
              have HW7 := Lib.hid hW7
              clear hW7 hb
              go_wp2
              rw [HW7.out]
              obtain ⟨g_1, g_2, g_3, g_4, g_5⟩ := Kg.out.two
              obtain ⟨v_1, v_2, v_3, v_4, v_5⟩ := Kv.out.two
              go_region_held3 (fun W' => W'.cell? ⟨wr.heap.size, 0, none⟩ = some (.int .i64 p) ∧ W'.cell? ⟨wr.heap.size, 1, none⟩ = some (.int .i64 q) ∧ W'.cell? ⟨w6.heap.size, 0, none⟩ = some (.int .i64 u) ∧ W'.cell? ⟨w6.heap.size, 1, none⟩ = some (.int .i64 v))
                (first | exact ⟨g_1, g_2, v_1, v_2⟩ | go_keep)
                (first | (go_at_call 18; refine (Cn.out _).mono ?_; rintro ee w4 ⟨rfl, hb⟩; have Kg : Hid (Kept w4 _ _ _) := Lib.hid (by first | exact Kg.out.next hb | exact (Kg.out.drewN 1).next hb); have Kv : Hid (Kept w4 _ _ _) := Lib.hid (by first | exact Kv.out.next hb | exact (Kv.out.drewN 1).next hb); have BB : Hid (Below w.heap.size w w4) := Lib.hid (by first | exact bnext BB.out BB.out.size hb | exact bnext (below_drewN BB.out 1) BB.out.size hb); obtain ⟨g_1, g_2, g_3, g_4, g_5⟩ := Kg.out.two; obtain ⟨v_1, v_2, v_3, v_4, v_5⟩ := Kv.out.two) | (go_at_call_of 19 (Value.agg #[Value.int IntKind.i64 u, Value.int IntKind.i64 v]); refine (Cv.out _).mono ?_; rintro ee w4 ⟨rfl, hb⟩; have Kg : Hid (Kept w4 _ _ _) := Lib.hid (by first | exact Kg.out.next hb | exact (Kg.out.drewN 1).next hb); have Kv : Hid (Kept w4 _ _ _) := Lib.hid (by first | exact Kv.out.next hb | exact (Kv.out.drewN 1).next hb); have BB : Hid (Below w.heap.size w w4) := Lib.hid (by first | exact bnext BB.out BB.out.size hb | exact bnext (below_drewN BB.out 1) BB.out.size hb); obtain ⟨g_1, g_2, g_3, g_4, g_5⟩ := Kg.out.two; obtain ⟨v_1, v_2, v_3, v_4, v_5⟩ := Kv.out.two) | (go_at_call_of 19 (Value.agg #[Value.int IntKind.i64 p, Value.int IntKind.i64 q]); refine (Cw.out _).mono ?_; rintro ee w4 ⟨rfl, hb⟩; have Kg : Hid (Kept w4 _ _ _) := Lib.hid (by first | exact Kg.out.next hb | exact (Kg.out.drewN 1).next hb); have Kv : Hid (Kept w4 _ _ _) := Lib.hid (by first | exact Kv.out.next hb | exact (Kv.out.drewN 1).next hb); have BB : Hid (Below w.heap.size w w4) := Lib.hid (by first | exact bnext BB.out BB.out.size hb | exact bnext (below_drewN BB.out 1) BB.out.size hb); obtain ⟨g_1, g_2, g_3, g_4, g_5⟩ := Kg.out.two; obtain ⟨v_1, v_2, v_3, v_4, v_5⟩ := Kv.out.two))
              all_goals
                clear g_1 g_2 g_3 g_4 g_5 v_1 v_2 v_3 v_4 v_5
                go_wp2
                go_roundw
                case rel => exact Fin.out _ BB.out
                case measure => simp [intOf]; omega
      · have Cr : Hid (∀ W, Calls Try.prog 14 #[.agg #[.int .i64 p, .int .i64 q]] W (Gives (.bool false) W)) := Lib.hid fun W => al_right p q false W (decide_eq_false hpq)
        have fin : ∀ w', Below w.heap.size w w' → PtPost w (.returned (.bool true)) w' := fun w' h => ⟨rfl, h⟩
        have Fin := Lib.hid fin
        clear fin he hs hin h1 h2 hW1 hp hq hpq
        generalize eachB l x k = eb at *
        generalize someB l x k = sb at *
        obtain ⟨g_1, g_2, g_3, g_4, g_5⟩ := Kg.out.two
        go_wp2_with fail
        rw [HW1.out]
        refine (Cr.out _).mono ?_
        rintro ee w4 ⟨rfl, hb⟩
        have BB : Hid (Below w.heap.size w w4) := Lib.hid (bnext BB.out BB.out.size hb)
        clear g_1 g_2 g_3 g_4 g_5 hb
        go_wp2
        go_ret
        exact Fin.out _ BB.out
    · obtain rfl : k = l.length := by omega
      have hall : allR l := fun j hj => HV.out j hj
      have pm := points_meet l x HXI.out hall
      have ph := points_hull l x hall
      obtain ⟨ml, hml⟩ : ∃ u, combL l (l.foldl opM fullP) = u := ⟨_, rfl⟩
      obtain ⟨mh, hmh⟩ : ∃ u, combH l (l.foldl opM fullP) = u := ⟨_, rfl⟩
      obtain ⟨em, hem⟩ : ∃ u, combE l (l.foldl opM fullP) = u := ⟨_, rfl⟩
      obtain ⟨h1, hh1⟩ : ∃ u, combL l (l.foldl opH noneP) = u := ⟨_, rfl⟩
      obtain ⟨h2, hh2⟩ : ∃ u, combH l (l.foldl opH noneP) = u := ⟨_, rfl⟩
      obtain ⟨eh, heh⟩ : ∃ u, combE l (l.foldl opH noneP) = u := ⟨_, rfl⟩
      have Cm : Hid (∀ W, PairRow W xa l → Calls Try.prog 20 #[.slice xa l.length xc] W (GapRes ml mh em W)) := Lib.hid fun W h => by rw [← hml, ← hmh, ← hem]; exact meet_any _ _ l _ h (by omega)
      have Ch : Hid (∀ W, PairRow W xa l → Calls Try.prog 21 #[.slice xa l.length xc] W (GapRes h1 h2 eh W)) := Lib.hid fun W h => by rw [← hh1, ← hh2, ← heh]; exact hull_any _ _ l _ h (by omega)
      rw [hml, hmh, hem] at pm
      rw [hh1, hh2, heh] at ph
      clear hml hmh hem hh1 hh2 heh hall
      have FH : Hid (∀ j, j < l.length → h1 ≤ (l.getD j (0, 0)).1 ∧ (l.getD j (0, 0)).2 ≤ h2) := Lib.hid (by
        rcases ph with ⟨h0, -⟩ | ⟨-, -, h⟩
        · intro j hj; omega
        · exact h)
      have FX : Hid (someB l x l.length = true → (eh == 0) = true ∧ h1 ≤ x ∧ x ≤ h2) := Lib.hid (by
        rcases ph with ⟨-, h0⟩ | ⟨h0, h, -⟩
        · intro h; rw [h0] at h; cases h
        · intro hs; exact ⟨by rw [h0]; rfl, h hs⟩)
      have FM : Hid ((em = 13 ∧ eachB l x l.length = false) ∨ (em = 0 ∧ decide (ml ≤ x ∧ x ≤ mh) = eachB l x l.length ∧ ml ≤ mh ∧ ∀ j, j < l.length → (l.getD j (0, 0)).1 ≤ ml ∧ mh ≤ (l.getD j (0, 0)).2)) := Lib.hid pm
      clear pm ph
      generalize eachB l x l.length = eb at *
      generalize someB l x l.length = sb at *
      rcases FM.out with ⟨rfl, rfl⟩ | ⟨rfl, hmx, hmr, hmj⟩
      · clear FM
        cases sb
        · clear FX
          go_wp2_with fail
          refine (Cm.out _ (HX.out.below BB.out)).mono ?_
          rintro ee w2 ⟨rfl, hb⟩
          have BB : Hid (Below w.heap.size w w2) := Lib.hid (bnext BB.out BB.out.size hb)
          clear hb
          obtain ⟨W3, hW3⟩ : ∃ W, w2.alloc (.cells #[.int .i64 ml, .int .i64 mh] 23) = W := ⟨_, rfl⟩
          have Km : Hid (Kept W3 w2.heap.size #[.int .i64 ml, .int .i64 mh] 23) := Lib.hid (by rw [← hW3]; exact Kept.new rfl)
          have BB : Hid (Below w.heap.size w W3) := Lib.hid (by rw [← hW3]; exact BB.out.alloc BB.out.size _)
          have HW3 := Lib.hid hW3
          clear hW3
          go_wp2_with fail
          rw [HW3.out]
          refine (Ch.out _ (HX.out.below BB.out)).mono ?_
          rintro ee w4 ⟨rfl, hb⟩
          obtain ⟨W5, hW5⟩ : ∃ W, w4.alloc (.cells #[.int .i64 h1, .int .i64 h2] 23) = W := ⟨_, rfl⟩
          have Kh : Hid (Kept W5 w4.heap.size #[.int .i64 h1, .int .i64 h2] 23) := Lib.hid (by rw [← hW5]; exact Kept.new rfl)
          have Km : Hid (Kept W5 _ _ _) := Lib.hid (by rw [← hW5]; exact (Km.out.next hb).alloc _)
          have BB : Hid (Below w.heap.size w w4) := Lib.hid (bnext BB.out BB.out.size hb)
          have BB : Hid (Below w.heap.size w W5) := Lib.hid (by rw [← hW5]; exact BB.out.alloc BB.out.size _)
          clear hb
          subst hW5
          obtain ⟨m_1, m_2, m_3, m_4, m_5⟩ := Km.out.two
          obtain ⟨h_1, h_2, h_3, h_4, h_5⟩ := Kh.out.two
          clear m_1 m_2 m_3 m_4 m_5 h_1 h_2 h_3 h_4 h_5
          go_wp2
          generalize hW6 : w4.alloc (.cells #[.int .i64 h1, .int .i64 h2] 23) = W6 at *
          clear hW6
          go_loopw [17] (fun i wr => PtRel2 l w w2.heap.size w4.heap.size ml mh h1 h2 i wr) (fun i _ => l.length - (intOf i).toNat)
          case atStart => exact ⟨0, Nat.zero_le _, rfl, Lib.hid (by first | exact BB.out | exact below_drewN BB.out _), Lib.hid (by first | exact Km.out | exact Km.out.drewN _), Lib.hid (by first | exact Kh.out | exact Kh.out.drewN _)⟩
          case round =>
            obtain ⟨k, hk, rfl, BB, Km, Kh⟩ := hrel
            by_cases hlt : k < l.length
            · obtain ⟨b, off, rfl, e1, e2⟩ := HX.out k hlt
              have c1 := (BB.out.cell (World.block_lt_of_cell? w _ e1)).trans e1
              have c2 := (BB.out.cell (World.block_lt_of_cell? w _ e2)).trans e2
              have f1 := FH.out k hlt
              have f2 := HV.out k hlt
              generalize (l.getD k (0, 0)).1 = p at *
              generalize (l.getD k (0, 0)).2 = q at *
              have CA : Hid (∀ W, Calls Try.prog 18 #[.agg #[.int .i64 p, .int .i64 q], .agg #[.int .i64 h1, .int .i64 h2]] W (Gives (.bool true) W)) := Lib.hid fun W => within_any p q h1 h2 true (decide_eq_true (by omega)) W
              clear f1 f2
              have fin : ∀ w', Below w.heap.size w w' → Kept w' w2.heap.size #[.int .i64 ml, .int .i64 mh] 23 → Kept w' w4.heap.size #[.int .i64 h1, .int .i64 h2] 23 → PtRel2 l w w2.heap.size w4.heap.size ml mh h1 h2 (.int .i64 ((k : Int) + 1)) w' := fun w' a b c => ⟨k + 1, hlt, rfl, Lib.hid a, Lib.hid b, Lib.hid c⟩
              have Fin := Lib.hid fin
              clear fin
              obtain ⟨m_1, m_2, m_3, m_4, m_5⟩ := Km.out.two
              obtain ⟨h_1, h_2, h_3, h_4, h_5⟩ := Kh.out.two
              go_wp2_with fail
              have i1 : (0 : Int) ≤ (k : Int) := by omega
              have i2 : (k : Int) < (l.length : Int) := by omega
              refine wp_region_held_drew (S := (fun W' => W'.cell? ⟨w2.heap.size, 0, none⟩ = some (.int .i64 ml) ∧ W'.cell? ⟨w2.heap.size, 1, none⟩ = some (.int .i64 mh) ∧ W'.cell? ⟨w4.heap.size, 0, none⟩ = some (.int .i64 h1) ∧ W'.cell? ⟨w4.heap.size, 1, none⟩ = some (.int .i64 h2) ∧ W'.cell? ⟨b, off + k * 2, none⟩ = some (.int .i64 p) ∧ W'.cell? ⟨b, off + k * 2 + 1, none⟩ = some (.int .i64 q))) (by kernel_rfl) ⟨m_1, m_2, h_1, h_2, c1, c2⟩ (fun hHeld => ?_)
              refine wpAnyH_take (i := 0) (oi := ({ dst := some 133, op := Op.move (Operand.tmp 0), type := 43, pos := "law.go:107", after := #[], guard := none } : Oper)) (v := ?_) rfl (by kernel_rfl) (by kernel_rfl) (by kernel_rfl) (fun _ _ _ h => h) (Or.inl ⟨by rfl, ?_⟩) (by assumption) ?_
              rotate_left
              · ((intro w hSw; (try dsimp only at hSw); go_simp); (try with_reducible rfl))
              try simp only [Act.put, List.setIfInBounds_toArray, List.set_cons_zero, List.set_cons_succ]
              refine wpAnyH_take (i := 1) (oi := ({ dst := some 134, op := Op.move (Operand.tmp 17), type := 3, pos := "law.go:107", after := #[], guard := none } : Oper)) (v := ?_) rfl (by kernel_rfl) (by kernel_rfl) (by kernel_rfl) (fun _ _ _ h => h) (Or.inl ⟨by rfl, ?_⟩) (by assumption) ?_
              rotate_left
              · ((intro w hSw; (try dsimp only at hSw); go_simp); (try with_reducible rfl))
              try simp only [Act.put, List.setIfInBounds_toArray, List.set_cons_zero, List.set_cons_succ]
              refine wpAnyH_take (i := 2) (oi := ({ dst := some 135, op := Op.indexAddr 43 (Operand.tmp 133) (Operand.tmp 134), type := 0, pos := "law.go:107", after := #[{ on := 0, ground := Ground.data }, { on := 1, ground := Ground.data }], guard := none } : Oper)) (v := ?_) rfl (by kernel_rfl) (by kernel_rfl) (by kernel_rfl) (fun _ _ _ h => h) (Or.inl ⟨by rfl, ?_⟩) (by assumption) ?_
              rotate_left
              · ((intro w hSw; (try dsimp only at hSw); go_simp); (try with_reducible rfl))
              try simp only [Act.put, List.setIfInBounds_toArray, List.set_cons_zero, List.set_cons_succ]
              refine wpAnyH_take (i := 3) (oi := ({ dst := some 136, op := Op.load 23 (Operand.tmp 135), type := 23, pos := "law.go:107", after := #[{ on := 2, ground := Ground.data }], guard := none } : Oper)) (v := ?_) rfl (by kernel_rfl) (by kernel_rfl) (by kernel_rfl) (fun _ _ _ h => h) (Or.inl ⟨by rfl, ?_⟩) (by assumption) ?_
              rotate_left
              · ((intro w hSw; (try dsimp only at hSw); go_simp); (try with_reducible rfl))
              try simp only [Act.put, List.setIfInBounds_toArray, List.set_cons_zero, List.set_cons_succ]
              refine wpAnyH_take (i := 4) (oi := ({ dst := some 137, op := Op.load 23 (Operand.tmp 15), type := 23, pos := "law.go:107", after := #[], guard := none } : Oper)) (v := ?_) rfl (by kernel_rfl) (by kernel_rfl) (by kernel_rfl) (fun _ _ _ h => h) (Or.inl ⟨by rfl, ?_⟩) (by assumption) ?_
              rotate_left
              · ((intro w hSw; (try dsimp only at hSw); go_simp); (try with_reducible rfl))
              try simp only [Act.put, List.setIfInBounds_toArray, List.set_cons_zero, List.set_cons_succ]
              refine wpAnyH_ready (rs := [5]) (by kernel_rfl) (by simp) ?_
              refine AllReadyH.cons (o := ({ dst := some 138, op := Op.call { callee := Callee.value (Operand.func 18), args := #[Operand.tmp 136, Operand.tmp 137], argTypes := #[23, 23] }, type := 4, pos := "law.go:107", after := #[{ on := 3, ground := Ground.data }, { on := 4, ground := Ground.data }], guard := none } : Oper)) rfl (fun K hK => ?_) AllReadyH.nil
              go_simp
              (with_reducible refine (CA.out _).mono ?_)
              rintro ee w6 ⟨rfl, hb⟩
              have Km : Hid (Kept w6 _ _ _) := Lib.hid (by first | exact Km.out.next hb | exact (Km.out.drewN 1).next hb)
              have Kh : Hid (Kept w6 _ _ _) := Lib.hid (by first | exact Kh.out.next hb | exact (Kh.out.drewN 1).next hb)
              have BB : Hid (Below w.heap.size w w6) := Lib.hid (by first | exact bnext BB.out BB.out.size hb | exact bnext (below_drewN BB.out 1) BB.out.size hb)
              obtain ⟨m_1, m_2, m_3, m_4, m_5⟩ := Km.out.two
              obtain ⟨h_1, h_2, h_3, h_4, h_5⟩ := Kh.out.two
              have c1 := (BB.out.cell (World.block_lt_of_cell? w _ e1)).trans e1
              have c2 := (BB.out.cell (World.block_lt_of_cell? w _ e2)).trans e2
              refine hK.out _ _ ?_ (fun hHeld => ?_)
              · exact ⟨m_1, m_2, h_1, h_2, c1, c2⟩
              clear hK K
              try simp only [Act.put, List.setIfInBounds_toArray, List.set_cons_zero, List.set_cons_succ]
              refine wpAnyH_take (i := 6) (oi := ({ dst := some 139, op := Op.unOp UnOp.not 4 (Operand.tmp 138), type := 4, pos := "law.go:107", after := #[{ on := 5, ground := Ground.data }], guard := none } : Oper)) (v := ?_) rfl (by kernel_rfl) (by kernel_rfl) (by kernel_rfl) (fun _ _ _ h => h) (Or.inl ⟨by rfl, ?_⟩) (by assumption) ?_
              rotate_left
              · ((intro w hSw; (try dsimp only at hSw); go_simp); (try with_reducible rfl))
              try simp only [Act.put, List.setIfInBounds_toArray, List.set_cons_zero, List.set_cons_succ]
              refine wpAnyH_take (i := 7) (oi := ({ dst := some 140, op := Op.move (Operand.tmp 139), type := 4, pos := "law.go:107", after := #[{ on := 6, ground := Ground.data }, { on := 5, ground := Ground.chain }], guard := none } : Oper)) (v := ?_) rfl (by kernel_rfl) (by kernel_rfl) (by kernel_rfl) (fun _ _ _ h => h) (Or.inl ⟨by rfl, ?_⟩) (by assumption) ?_
              rotate_left
              · ((intro w hSw; (try dsimp only at hSw); go_simp); (try with_reducible rfl))
              try simp only [Act.put, List.setIfInBounds_toArray, List.set_cons_zero, List.set_cons_succ]
              refine wpAnyH_take (i := 8) (oi := ({ dst := some 141, op := Op.move (Operand.tmp 14), type := 27, pos := "law.go:107", after := #[{ on := 7, ground := Ground.guard }], guard := some (7, false) } : Oper)) (v := ?_) rfl (by kernel_rfl) (by kernel_rfl) (by kernel_rfl) (fun _ _ _ h => h) (Or.inl ⟨by rfl, ?_⟩) (by assumption) ?_
              rotate_left
              · ((intro w hSw; (try dsimp only at hSw); go_simp); (try with_reducible rfl))
              try simp only [Act.put, List.setIfInBounds_toArray, List.set_cons_zero, List.set_cons_succ]
              refine wpAnyH_take (i := 9) (oi := ({ dst := some 142, op := Op.binOp BinOp.eql 27 (Operand.tmp 141) (Operand.const (Value.int IntKind.i64 0)) 27, type := 4, pos := "law.go:107", after := #[{ on := 8, ground := Ground.data }, { on := 7, ground := Ground.guard }], guard := some (7, false) } : Oper)) (v := ?_) rfl (by kernel_rfl) (by kernel_rfl) (by kernel_rfl) (fun _ _ _ h => h) (Or.inl ⟨by rfl, ?_⟩) (by assumption) ?_
              rotate_left
              · ((intro w hSw; (try dsimp only at hSw); go_simp); (try with_reducible rfl))
              try simp only [Act.put, List.setIfInBounds_toArray, List.set_cons_zero, List.set_cons_succ]
              refine wpAnyH_take (i := 10) (oi := ({ dst := some 143, op := Op.move (Operand.tmp 142), type := 4, pos := "law.go:107", after := #[{ on := 9, ground := Ground.data }, { on := 7, ground := Ground.chain }, { on := 7, ground := Ground.guard }], guard := some (7, false) } : Oper)) (v := ?_) rfl (by kernel_rfl) (by kernel_rfl) (by kernel_rfl) (fun _ _ _ h => h) (Or.inl ⟨by rfl, ?_⟩) (by assumption) ?_
              rotate_left
              · ((intro w hSw; (try dsimp only at hSw); go_simp); (try with_reducible rfl))
              try simp only [Act.put, List.setIfInBounds_toArray, List.set_cons_zero, List.set_cons_succ]
              refine wpAnyH_take (i := 11) (oi := ({ dst := some 144, op := Op.load 23 (Operand.tmp 13), type := 23, pos := "law.go:107", after := #[{ on := 10, ground := Ground.guard }], guard := some (10, true) } : Oper)) (v := undef) rfl (by kernel_rfl) (by kernel_rfl) (by kernel_rfl) (fun _ _ _ h => h) (Or.inr ⟨by rfl, rfl⟩) (by assumption) ?_
              try simp only [Act.put, List.setIfInBounds_toArray, List.set_cons_zero, List.set_cons_succ]
              refine wpAnyH_take (i := 12) (oi := ({ dst := some 145, op := Op.move (Operand.tmp 0), type := 43, pos := "law.go:107", after := #[{ on := 10, ground := Ground.guard }], guard := some (10, true) } : Oper)) (v := undef) rfl (by kernel_rfl) (by kernel_rfl) (by kernel_rfl) (fun _ _ _ h => h) (Or.inr ⟨by rfl, rfl⟩) (by assumption) ?_
              try simp only [Act.put, List.setIfInBounds_toArray, List.set_cons_zero, List.set_cons_succ]
              refine wpAnyH_take (i := 13) (oi := ({ dst := some 146, op := Op.move (Operand.tmp 17), type := 3, pos := "law.go:107", after := #[{ on := 10, ground := Ground.guard }], guard := some (10, true) } : Oper)) (v := undef) rfl (by kernel_rfl) (by kernel_rfl) (by kernel_rfl) (fun _ _ _ h => h) (Or.inr ⟨by rfl, rfl⟩) (by assumption) ?_
              try simp only [Act.put, List.setIfInBounds_toArray, List.set_cons_zero, List.set_cons_succ]
              refine wpAnyH_take (i := 14) (oi := ({ dst := some 147, op := Op.indexAddr 43 (Operand.tmp 145) (Operand.tmp 146), type := 0, pos := "law.go:107", after := #[{ on := 12, ground := Ground.data }, { on := 13, ground := Ground.data }, { on := 10, ground := Ground.guard }], guard := some (10, true) } : Oper)) (v := undef) rfl (by kernel_rfl) (by kernel_rfl) (by kernel_rfl) (fun _ _ _ h => h) (Or.inr ⟨by rfl, rfl⟩) (by assumption) ?_
              try simp only [Act.put, List.setIfInBounds_toArray, List.set_cons_zero, List.set_cons_succ]
              refine wpAnyH_take (i := 15) (oi := ({ dst := some 148, op := Op.load 23 (Operand.tmp 147), type := 23, pos := "law.go:107", after := #[{ on := 14, ground := Ground.data }, { on := 10, ground := Ground.guard }], guard := some (10, true) } : Oper)) (v := undef) rfl (by kernel_rfl) (by kernel_rfl) (by kernel_rfl) (fun _ _ _ h => h) (Or.inr ⟨by rfl, rfl⟩) (by assumption) ?_
              try simp only [Act.put, List.setIfInBounds_toArray, List.set_cons_zero, List.set_cons_succ]
              refine wpAnyH_take (i := 16) (oi := ({ dst := some 149, op := Op.call { callee := Callee.value (Operand.func 18), args := #[Operand.tmp 144, Operand.tmp 148], argTypes := #[23, 23] }, type := 4, pos := "law.go:107", after := #[{ on := 11, ground := Ground.data }, { on := 15, ground := Ground.data }, { on := 10, ground := Ground.chain }, { on := 10, ground := Ground.guard }], guard := some (10, true) } : Oper)) (v := undef) rfl (by kernel_rfl) (by kernel_rfl) (by kernel_rfl) (fun _ _ _ h => h) (Or.inr ⟨by rfl, rfl⟩) (by assumption) ?_
              try simp only [Act.put, List.setIfInBounds_toArray, List.set_cons_zero, List.set_cons_succ]
              refine wpAnyH_take (i := 17) (oi := ({ dst := some 150, op := Op.unOp UnOp.not 4 (Operand.tmp 149), type := 4, pos := "law.go:107", after := #[{ on := 16, ground := Ground.data }, { on := 10, ground := Ground.guard }], guard := some (10, true) } : Oper)) (v := undef) rfl (by kernel_rfl) (by kernel_rfl) (by kernel_rfl) (fun _ _ _ h => h) (Or.inr ⟨by rfl, rfl⟩) (by assumption) ?_
              try simp only [Act.put, List.setIfInBounds_toArray, List.set_cons_zero, List.set_cons_succ]
              refine wpAnyH_take (i := 18) (oi := ({ dst := some 151, op := Op.pick (Operand.tmp 143) (Operand.tmp 150) (Operand.const (Value.bool false)), type := 4, pos := "law.go:107", after := #[{ on := 10, ground := Ground.data }, { on := 17, ground := Ground.data }, { on := 7, ground := Ground.guard }], guard := some (7, false) } : Oper)) (v := ?_) rfl (by kernel_rfl) (by kernel_rfl) (by kernel_rfl) (fun _ _ _ h => h) (Or.inl ⟨by rfl, ?_⟩) (by assumption) ?_
              rotate_left
              · ((intro w hSw; (try dsimp only at hSw); go_simp); (try with_reducible rfl))
              try simp only [Act.put, List.setIfInBounds_toArray, List.set_cons_zero, List.set_cons_succ]
              refine wpAnyH_take (i := 19) (oi := ({ dst := some 152, op := Op.pick (Operand.tmp 140) (Operand.const (Value.bool true)) (Operand.tmp 151), type := 4, pos := "law.go:107", after := #[{ on := 7, ground := Ground.data }, { on := 18, ground := Ground.data }], guard := none } : Oper)) (v := ?_) rfl (by kernel_rfl) (by kernel_rfl) (by kernel_rfl) (fun _ _ _ h => h) (Or.inl ⟨by rfl, ?_⟩) (by assumption) ?_
              rotate_left
              · ((intro w hSw; (try dsimp only at hSw); go_simp); (try with_reducible rfl))
              try simp only [Act.put, List.setIfInBounds_toArray, List.set_cons_zero, List.set_cons_succ]
              refine wpAnyH_done (by kernel_rfl) ?_ _
              clear hHeld
              all_goals
                clear m_1 m_2 m_3 m_4 m_5 h_1 h_2 h_3 h_4 h_5 c1 c2
                clear e1 e2
                go_wp2
                go_roundw
                case rel => exact Fin.out _ (by first | exact BB.out | exact below_drewN BB.out _) (by first | exact Km.out | exact Km.out.drewN _) (by first | exact Kh.out | exact Kh.out.drewN _)
                case measure => simp [intOf]; omega
            · obtain rfl : k = l.length := by omega
              go_wp2
              go_ret
              exact ⟨rfl, by first | exact BB.out | exact below_drewN BB.out _⟩
        · obtain ⟨dh, hx1, hx2⟩ := FX.out rfl
          have CY : Hid (∀ W, Calls Try.prog 17 #[.agg #[.int .i64 h1, .int .i64 h2], .int .i64 x] W (Gives (.bool true) W)) := Lib.hid fun W => has_any h1 h2 x true (decide_eq_true ⟨hx1, hx2⟩) W
          clear hx1 hx2
          clear FX
          go_wp2_with fail
          refine (Cm.out _ (HX.out.below BB.out)).mono ?_
          rintro ee w2 ⟨rfl, hb⟩
          have BB : Hid (Below w.heap.size w w2) := Lib.hid (bnext BB.out BB.out.size hb)
          clear hb
          obtain ⟨W3, hW3⟩ : ∃ W, w2.alloc (.cells #[.int .i64 ml, .int .i64 mh] 23) = W := ⟨_, rfl⟩
          have Km : Hid (Kept W3 w2.heap.size #[.int .i64 ml, .int .i64 mh] 23) := Lib.hid (by rw [← hW3]; exact Kept.new rfl)
          have BB : Hid (Below w.heap.size w W3) := Lib.hid (by rw [← hW3]; exact BB.out.alloc BB.out.size _)
          have HW3 := Lib.hid hW3
          clear hW3
          go_wp2_with fail
          rw [HW3.out]
          refine (Ch.out _ (HX.out.below BB.out)).mono ?_
          rintro ee w4 ⟨rfl, hb⟩
          obtain ⟨W5, hW5⟩ : ∃ W, w4.alloc (.cells #[.int .i64 h1, .int .i64 h2] 23) = W := ⟨_, rfl⟩
          have Kh : Hid (Kept W5 w4.heap.size #[.int .i64 h1, .int .i64 h2] 23) := Lib.hid (by rw [← hW5]; exact Kept.new rfl)
          have Km : Hid (Kept W5 _ _ _) := Lib.hid (by rw [← hW5]; exact (Km.out.next hb).alloc _)
          have BB : Hid (Below w.heap.size w w4) := Lib.hid (bnext BB.out BB.out.size hb)
          have BB : Hid (Below w.heap.size w W5) := Lib.hid (by rw [← hW5]; exact BB.out.alloc BB.out.size _)
          clear hb
          subst hW5
          obtain ⟨m_1, m_2, m_3, m_4, m_5⟩ := Km.out.two
          obtain ⟨h_1, h_2, h_3, h_4, h_5⟩ := Kh.out.two
          go_wp2_with fail
          refine (CY.out _).mono ?_
          rintro ee w6 ⟨rfl, hb⟩
          clear m_1 m_2 m_3 m_4 m_5 h_1 h_2 h_3 h_4 h_5
          have Km : Hid (Kept w6 _ _ _) := Lib.hid (Km.out.next hb)
          have Kh : Hid (Kept w6 _ _ _) := Lib.hid (Kh.out.next hb)
          have BB : Hid (Below w.heap.size w w6) := Lib.hid (bnext BB.out BB.out.size hb)
          clear hb
          obtain ⟨m_1, m_2, m_3, m_4, m_5⟩ := Km.out.two
          obtain ⟨h_1, h_2, h_3, h_4, h_5⟩ := Kh.out.two
          go_wp2
          clear m_1 m_2 m_3 m_4 m_5 h_1 h_2 h_3 h_4 h_5
          go_loopw [17] (fun i wr => PtRel2 l w w2.heap.size w4.heap.size ml mh h1 h2 i wr) (fun i _ => l.length - (intOf i).toNat)
          case atStart => exact ⟨0, Nat.zero_le _, rfl, Lib.hid (by first | exact BB.out | exact below_drewN BB.out _), Lib.hid (by first | exact Km.out | exact Km.out.drewN _), Lib.hid (by first | exact Kh.out | exact Kh.out.drewN _)⟩
          case round =>
            obtain ⟨k, hk, rfl, BB, Km, Kh⟩ := hrel
            by_cases hlt : k < l.length
            · obtain ⟨b, off, rfl, e1, e2⟩ := HX.out k hlt
              have c1 := (BB.out.cell (World.block_lt_of_cell? w _ e1)).trans e1
              have c2 := (BB.out.cell (World.block_lt_of_cell? w _ e2)).trans e2
              have f1 := FH.out k hlt
              have f2 := HV.out k hlt
              generalize (l.getD k (0, 0)).1 = p at *
              generalize (l.getD k (0, 0)).2 = q at *
              have CA : Hid (∀ W, Calls Try.prog 18 #[.agg #[.int .i64 p, .int .i64 q], .agg #[.int .i64 h1, .int .i64 h2]] W (Gives (.bool true) W)) := Lib.hid fun W => within_any p q h1 h2 true (decide_eq_true (by omega)) W
              clear f1 f2
              have fin : ∀ w', Below w.heap.size w w' → Kept w' w2.heap.size #[.int .i64 ml, .int .i64 mh] 23 → Kept w' w4.heap.size #[.int .i64 h1, .int .i64 h2] 23 → PtRel2 l w w2.heap.size w4.heap.size ml mh h1 h2 (.int .i64 ((k : Int) + 1)) w' := fun w' a b c => ⟨k + 1, hlt, rfl, Lib.hid a, Lib.hid b, Lib.hid c⟩
              have Fin := Lib.hid fin
              clear fin
              obtain ⟨m_1, m_2, m_3, m_4, m_5⟩ := Km.out.two
              obtain ⟨h_1, h_2, h_3, h_4, h_5⟩ := Kh.out.two
              go_wp2_with fail
              have i1 : (0 : Int) ≤ (k : Int) := by omega
              have i2 : (k : Int) < (l.length : Int) := by omega
              refine wp_region_held_drew (S := (fun W' => W'.cell? ⟨w2.heap.size, 0, none⟩ = some (.int .i64 ml) ∧ W'.cell? ⟨w2.heap.size, 1, none⟩ = some (.int .i64 mh) ∧ W'.cell? ⟨w4.heap.size, 0, none⟩ = some (.int .i64 h1) ∧ W'.cell? ⟨w4.heap.size, 1, none⟩ = some (.int .i64 h2) ∧ W'.cell? ⟨b, off + k * 2, none⟩ = some (.int .i64 p) ∧ W'.cell? ⟨b, off + k * 2 + 1, none⟩ = some (.int .i64 q))) (by kernel_rfl) ⟨m_1, m_2, h_1, h_2, c1, c2⟩ (fun hHeld => ?_)
              refine wpAnyH_take (i := 0) (oi := ({ dst := some 133, op := Op.move (Operand.tmp 0), type := 43, pos := "law.go:107", after := #[], guard := none } : Oper)) (v := ?_) rfl (by kernel_rfl) (by kernel_rfl) (by kernel_rfl) (fun _ _ _ h => h) (Or.inl ⟨by rfl, ?_⟩) (by assumption) ?_
              rotate_left
              · ((intro w hSw; (try dsimp only at hSw); go_simp); (try with_reducible rfl))
              try simp only [Act.put, List.setIfInBounds_toArray, List.set_cons_zero, List.set_cons_succ]
              refine wpAnyH_take (i := 1) (oi := ({ dst := some 134, op := Op.move (Operand.tmp 17), type := 3, pos := "law.go:107", after := #[], guard := none } : Oper)) (v := ?_) rfl (by kernel_rfl) (by kernel_rfl) (by kernel_rfl) (fun _ _ _ h => h) (Or.inl ⟨by rfl, ?_⟩) (by assumption) ?_
              rotate_left
              · ((intro w hSw; (try dsimp only at hSw); go_simp); (try with_reducible rfl))
              try simp only [Act.put, List.setIfInBounds_toArray, List.set_cons_zero, List.set_cons_succ]
              refine wpAnyH_take (i := 2) (oi := ({ dst := some 135, op := Op.indexAddr 43 (Operand.tmp 133) (Operand.tmp 134), type := 0, pos := "law.go:107", after := #[{ on := 0, ground := Ground.data }, { on := 1, ground := Ground.data }], guard := none } : Oper)) (v := ?_) rfl (by kernel_rfl) (by kernel_rfl) (by kernel_rfl) (fun _ _ _ h => h) (Or.inl ⟨by rfl, ?_⟩) (by assumption) ?_
              rotate_left
              · ((intro w hSw; (try dsimp only at hSw); go_simp); (try with_reducible rfl))
              try simp only [Act.put, List.setIfInBounds_toArray, List.set_cons_zero, List.set_cons_succ]
              refine wpAnyH_take (i := 3) (oi := ({ dst := some 136, op := Op.load 23 (Operand.tmp 135), type := 23, pos := "law.go:107", after := #[{ on := 2, ground := Ground.data }], guard := none } : Oper)) (v := ?_) rfl (by kernel_rfl) (by kernel_rfl) (by kernel_rfl) (fun _ _ _ h => h) (Or.inl ⟨by rfl, ?_⟩) (by assumption) ?_
              rotate_left
              · ((intro w hSw; (try dsimp only at hSw); go_simp); (try with_reducible rfl))
              try simp only [Act.put, List.setIfInBounds_toArray, List.set_cons_zero, List.set_cons_succ]
              refine wpAnyH_take (i := 4) (oi := ({ dst := some 137, op := Op.load 23 (Operand.tmp 15), type := 23, pos := "law.go:107", after := #[], guard := none } : Oper)) (v := ?_) rfl (by kernel_rfl) (by kernel_rfl) (by kernel_rfl) (fun _ _ _ h => h) (Or.inl ⟨by rfl, ?_⟩) (by assumption) ?_
              rotate_left
              · ((intro w hSw; (try dsimp only at hSw); go_simp); (try with_reducible rfl))
              try simp only [Act.put, List.setIfInBounds_toArray, List.set_cons_zero, List.set_cons_succ]
              refine wpAnyH_ready (rs := [5]) (by kernel_rfl) (by simp) ?_
              refine AllReadyH.cons (o := ({ dst := some 138, op := Op.call { callee := Callee.value (Operand.func 18), args := #[Operand.tmp 136, Operand.tmp 137], argTypes := #[23, 23] }, type := 4, pos := "law.go:107", after := #[{ on := 3, ground := Ground.data }, { on := 4, ground := Ground.data }], guard := none } : Oper)) rfl (fun K hK => ?_) AllReadyH.nil
              go_simp
              (with_reducible refine (CA.out _).mono ?_)
              rintro ee w6 ⟨rfl, hb⟩
              have Km : Hid (Kept w6 _ _ _) := Lib.hid (by first | exact Km.out.next hb | exact (Km.out.drewN 1).next hb)
              have Kh : Hid (Kept w6 _ _ _) := Lib.hid (by first | exact Kh.out.next hb | exact (Kh.out.drewN 1).next hb)
              have BB : Hid (Below w.heap.size w w6) := Lib.hid (by first | exact bnext BB.out BB.out.size hb | exact bnext (below_drewN BB.out 1) BB.out.size hb)
              obtain ⟨m_1, m_2, m_3, m_4, m_5⟩ := Km.out.two
              obtain ⟨h_1, h_2, h_3, h_4, h_5⟩ := Kh.out.two
              have c1 := (BB.out.cell (World.block_lt_of_cell? w _ e1)).trans e1
              have c2 := (BB.out.cell (World.block_lt_of_cell? w _ e2)).trans e2
              refine hK.out _ _ ?_ (fun hHeld => ?_)
              · exact ⟨m_1, m_2, h_1, h_2, c1, c2⟩
              clear hK K
              try simp only [Act.put, List.setIfInBounds_toArray, List.set_cons_zero, List.set_cons_succ]
              refine wpAnyH_take (i := 6) (oi := ({ dst := some 139, op := Op.unOp UnOp.not 4 (Operand.tmp 138), type := 4, pos := "law.go:107", after := #[{ on := 5, ground := Ground.data }], guard := none } : Oper)) (v := ?_) rfl (by kernel_rfl) (by kernel_rfl) (by kernel_rfl) (fun _ _ _ h => h) (Or.inl ⟨by rfl, ?_⟩) (by assumption) ?_
              rotate_left
              · ((intro w hSw; (try dsimp only at hSw); go_simp); (try with_reducible rfl))
              try simp only [Act.put, List.setIfInBounds_toArray, List.set_cons_zero, List.set_cons_succ]
              refine wpAnyH_take (i := 7) (oi := ({ dst := some 140, op := Op.move (Operand.tmp 139), type := 4, pos := "law.go:107", after := #[{ on := 6, ground := Ground.data }, { on := 5, ground := Ground.chain }], guard := none } : Oper)) (v := ?_) rfl (by kernel_rfl) (by kernel_rfl) (by kernel_rfl) (fun _ _ _ h => h) (Or.inl ⟨by rfl, ?_⟩) (by assumption) ?_
              rotate_left
              · ((intro w hSw; (try dsimp only at hSw); go_simp); (try with_reducible rfl))
              try simp only [Act.put, List.setIfInBounds_toArray, List.set_cons_zero, List.set_cons_succ]
              refine wpAnyH_take (i := 8) (oi := ({ dst := some 141, op := Op.move (Operand.tmp 14), type := 27, pos := "law.go:107", after := #[{ on := 7, ground := Ground.guard }], guard := some (7, false) } : Oper)) (v := ?_) rfl (by kernel_rfl) (by kernel_rfl) (by kernel_rfl) (fun _ _ _ h => h) (Or.inl ⟨by rfl, ?_⟩) (by assumption) ?_
              rotate_left
              · ((intro w hSw; (try dsimp only at hSw); go_simp); (try with_reducible rfl))
              try simp only [Act.put, List.setIfInBounds_toArray, List.set_cons_zero, List.set_cons_succ]
              refine wpAnyH_take (i := 9) (oi := ({ dst := some 142, op := Op.binOp BinOp.eql 27 (Operand.tmp 141) (Operand.const (Value.int IntKind.i64 0)) 27, type := 4, pos := "law.go:107", after := #[{ on := 8, ground := Ground.data }, { on := 7, ground := Ground.guard }], guard := some (7, false) } : Oper)) (v := ?_) rfl (by kernel_rfl) (by kernel_rfl) (by kernel_rfl) (fun _ _ _ h => h) (Or.inl ⟨by rfl, ?_⟩) (by assumption) ?_
              rotate_left
              · ((intro w hSw; (try dsimp only at hSw); go_simp); (try with_reducible rfl))
              try simp only [Act.put, List.setIfInBounds_toArray, List.set_cons_zero, List.set_cons_succ]
              refine wpAnyH_take (i := 10) (oi := ({ dst := some 143, op := Op.move (Operand.tmp 142), type := 4, pos := "law.go:107", after := #[{ on := 9, ground := Ground.data }, { on := 7, ground := Ground.chain }, { on := 7, ground := Ground.guard }], guard := some (7, false) } : Oper)) (v := ?_) rfl (by kernel_rfl) (by kernel_rfl) (by kernel_rfl) (fun _ _ _ h => h) (Or.inl ⟨by rfl, ?_⟩) (by assumption) ?_
              rotate_left
              · ((intro w hSw; (try dsimp only at hSw); go_simp); (try with_reducible rfl))
              try simp only [Act.put, List.setIfInBounds_toArray, List.set_cons_zero, List.set_cons_succ]
              refine wpAnyH_take (i := 11) (oi := ({ dst := some 144, op := Op.load 23 (Operand.tmp 13), type := 23, pos := "law.go:107", after := #[{ on := 10, ground := Ground.guard }], guard := some (10, true) } : Oper)) (v := undef) rfl (by kernel_rfl) (by kernel_rfl) (by kernel_rfl) (fun _ _ _ h => h) (Or.inr ⟨by rfl, rfl⟩) (by assumption) ?_
              try simp only [Act.put, List.setIfInBounds_toArray, List.set_cons_zero, List.set_cons_succ]
              refine wpAnyH_take (i := 12) (oi := ({ dst := some 145, op := Op.move (Operand.tmp 0), type := 43, pos := "law.go:107", after := #[{ on := 10, ground := Ground.guard }], guard := some (10, true) } : Oper)) (v := undef) rfl (by kernel_rfl) (by kernel_rfl) (by kernel_rfl) (fun _ _ _ h => h) (Or.inr ⟨by rfl, rfl⟩) (by assumption) ?_
              try simp only [Act.put, List.setIfInBounds_toArray, List.set_cons_zero, List.set_cons_succ]
              refine wpAnyH_take (i := 13) (oi := ({ dst := some 146, op := Op.move (Operand.tmp 17), type := 3, pos := "law.go:107", after := #[{ on := 10, ground := Ground.guard }], guard := some (10, true) } : Oper)) (v := undef) rfl (by kernel_rfl) (by kernel_rfl) (by kernel_rfl) (fun _ _ _ h => h) (Or.inr ⟨by rfl, rfl⟩) (by assumption) ?_
              try simp only [Act.put, List.setIfInBounds_toArray, List.set_cons_zero, List.set_cons_succ]
              refine wpAnyH_take (i := 14) (oi := ({ dst := some 147, op := Op.indexAddr 43 (Operand.tmp 145) (Operand.tmp 146), type := 0, pos := "law.go:107", after := #[{ on := 12, ground := Ground.data }, { on := 13, ground := Ground.data }, { on := 10, ground := Ground.guard }], guard := some (10, true) } : Oper)) (v := undef) rfl (by kernel_rfl) (by kernel_rfl) (by kernel_rfl) (fun _ _ _ h => h) (Or.inr ⟨by rfl, rfl⟩) (by assumption) ?_
              try simp only [Act.put, List.setIfInBounds_toArray, List.set_cons_zero, List.set_cons_succ]
              refine wpAnyH_take (i := 15) (oi := ({ dst := some 148, op := Op.load 23 (Operand.tmp 147), type := 23, pos := "law.go:107", after := #[{ on := 14, ground := Ground.data }, { on := 10, ground := Ground.guard }], guard := some (10, true) } : Oper)) (v := undef) rfl (by kernel_rfl) (by kernel_rfl) (by kernel_rfl) (fun _ _ _ h => h) (Or.inr ⟨by rfl, rfl⟩) (by assumption) ?_
              try simp only [Act.put, List.setIfInBounds_toArray, List.set_cons_zero, List.set_cons_succ]
              refine wpAnyH_take (i := 16) (oi := ({ dst := some 149, op := Op.call { callee := Callee.value (Operand.func 18), args := #[Operand.tmp 144, Operand.tmp 148], argTypes := #[23, 23] }, type := 4, pos := "law.go:107", after := #[{ on := 11, ground := Ground.data }, { on := 15, ground := Ground.data }, { on := 10, ground := Ground.chain }, { on := 10, ground := Ground.guard }], guard := some (10, true) } : Oper)) (v := undef) rfl (by kernel_rfl) (by kernel_rfl) (by kernel_rfl) (fun _ _ _ h => h) (Or.inr ⟨by rfl, rfl⟩) (by assumption) ?_
              try simp only [Act.put, List.setIfInBounds_toArray, List.set_cons_zero, List.set_cons_succ]
              refine wpAnyH_take (i := 17) (oi := ({ dst := some 150, op := Op.unOp UnOp.not 4 (Operand.tmp 149), type := 4, pos := "law.go:107", after := #[{ on := 16, ground := Ground.data }, { on := 10, ground := Ground.guard }], guard := some (10, true) } : Oper)) (v := undef) rfl (by kernel_rfl) (by kernel_rfl) (by kernel_rfl) (fun _ _ _ h => h) (Or.inr ⟨by rfl, rfl⟩) (by assumption) ?_
              try simp only [Act.put, List.setIfInBounds_toArray, List.set_cons_zero, List.set_cons_succ]
              refine wpAnyH_take (i := 18) (oi := ({ dst := some 151, op := Op.pick (Operand.tmp 143) (Operand.tmp 150) (Operand.const (Value.bool false)), type := 4, pos := "law.go:107", after := #[{ on := 10, ground := Ground.data }, { on := 17, ground := Ground.data }, { on := 7, ground := Ground.guard }], guard := some (7, false) } : Oper)) (v := ?_) rfl (by kernel_rfl) (by kernel_rfl) (by kernel_rfl) (fun _ _ _ h => h) (Or.inl ⟨by rfl, ?_⟩) (by assumption) ?_
              rotate_left
              · ((intro w hSw; (try dsimp only at hSw); go_simp); (try with_reducible rfl))
              try simp only [Act.put, List.setIfInBounds_toArray, List.set_cons_zero, List.set_cons_succ]
              refine wpAnyH_take (i := 19) (oi := ({ dst := some 152, op := Op.pick (Operand.tmp 140) (Operand.const (Value.bool true)) (Operand.tmp 151), type := 4, pos := "law.go:107", after := #[{ on := 7, ground := Ground.data }, { on := 18, ground := Ground.data }], guard := none } : Oper)) (v := ?_) rfl (by kernel_rfl) (by kernel_rfl) (by kernel_rfl) (fun _ _ _ h => h) (Or.inl ⟨by rfl, ?_⟩) (by assumption) ?_
              rotate_left
              · ((intro w hSw; (try dsimp only at hSw); go_simp); (try with_reducible rfl))
              try simp only [Act.put, List.setIfInBounds_toArray, List.set_cons_zero, List.set_cons_succ]
              refine wpAnyH_done (by kernel_rfl) ?_ _
              clear hHeld
              all_goals
                clear m_1 m_2 m_3 m_4 m_5 h_1 h_2 h_3 h_4 h_5 c1 c2
                clear e1 e2
                go_wp2
                go_roundw
                case rel => exact Fin.out _ (by first | exact BB.out | exact below_drewN BB.out _) (by first | exact Km.out | exact Km.out.drewN _) (by first | exact Kh.out | exact Kh.out.drewN _)
                case measure => simp [intOf]; omega
            · obtain rfl : k = l.length := by omega
              go_wp2
              go_ret
              exact ⟨rfl, by first | exact BB.out | exact below_drewN BB.out _⟩
      · have CX : Hid (∀ W, Calls Try.prog 17 #[.agg #[.int .i64 ml, .int .i64 mh], .int .i64 x] W (Gives (.bool eb) W)) := Lib.hid fun W => has_any ml mh x eb hmx W
        have FJ := Lib.hid hmj
        have FR := Lib.hid hmr
        clear hmx hmr hmj FM
        cases eb <;> cases sb
        · clear FX
          go_wp2_with fail
          refine (Cm.out _ (HX.out.below BB.out)).mono ?_
          rintro ee w2 ⟨rfl, hb⟩
          have BB : Hid (Below w.heap.size w w2) := Lib.hid (bnext BB.out BB.out.size hb)
          clear hb
          obtain ⟨W3, hW3⟩ : ∃ W, w2.alloc (.cells #[.int .i64 ml, .int .i64 mh] 23) = W := ⟨_, rfl⟩
          have Km : Hid (Kept W3 w2.heap.size #[.int .i64 ml, .int .i64 mh] 23) := Lib.hid (by rw [← hW3]; exact Kept.new rfl)
          have BB : Hid (Below w.heap.size w W3) := Lib.hid (by rw [← hW3]; exact BB.out.alloc BB.out.size _)
          have HW3 := Lib.hid hW3
          clear hW3
          go_wp2_with fail
          rw [HW3.out]
          refine (Ch.out _ (HX.out.below BB.out)).mono ?_
          rintro ee w4 ⟨rfl, hb⟩
          obtain ⟨W5, hW5⟩ : ∃ W, w4.alloc (.cells #[.int .i64 h1, .int .i64 h2] 23) = W := ⟨_, rfl⟩
          have Kh : Hid (Kept W5 w4.heap.size #[.int .i64 h1, .int .i64 h2] 23) := Lib.hid (by rw [← hW5]; exact Kept.new rfl)
          have Km : Hid (Kept W5 _ _ _) := Lib.hid (by rw [← hW5]; exact (Km.out.next hb).alloc _)
          have BB : Hid (Below w.heap.size w w4) := Lib.hid (bnext BB.out BB.out.size hb)
          have BB : Hid (Below w.heap.size w W5) := Lib.hid (by rw [← hW5]; exact BB.out.alloc BB.out.size _)
          clear hb
          subst hW5
          obtain ⟨m_1, m_2, m_3, m_4, m_5⟩ := Km.out.two
          obtain ⟨h_1, h_2, h_3, h_4, h_5⟩ := Kh.out.two
          go_wp2_with fail
          refine (CX.out _).mono ?_
          rintro ee w6 ⟨rfl, hb⟩
          clear m_1 m_2 m_3 m_4 m_5 h_1 h_2 h_3 h_4 h_5
          have Km : Hid (Kept w6 _ _ _) := Lib.hid (Km.out.next hb)
          have Kh : Hid (Kept w6 _ _ _) := Lib.hid (Kh.out.next hb)
          have BB : Hid (Below w.heap.size w w6) := Lib.hid (bnext BB.out BB.out.size hb)
          clear hb
          obtain ⟨m_1, m_2, m_3, m_4, m_5⟩ := Km.out.two
          obtain ⟨h_1, h_2, h_3, h_4, h_5⟩ := Kh.out.two
          go_wp2
          clear m_1 m_2 m_3 m_4 m_5 h_1 h_2 h_3 h_4 h_5
          go_loopw [17] (fun i wr => PtRel2 l w w2.heap.size w4.heap.size ml mh h1 h2 i wr) (fun i _ => l.length - (intOf i).toNat)
          case atStart => exact ⟨0, Nat.zero_le _, rfl, Lib.hid (by first | exact BB.out | exact below_drewN BB.out _), Lib.hid (by first | exact Km.out | exact Km.out.drewN _), Lib.hid (by first | exact Kh.out | exact Kh.out.drewN _)⟩
          case round =>
            obtain ⟨k, hk, rfl, BB, Km, Kh⟩ := hrel
            by_cases hlt : k < l.length
            · obtain ⟨b, off, rfl, e1, e2⟩ := HX.out k hlt
              have c1 := (BB.out.cell (World.block_lt_of_cell? w _ e1)).trans e1
              have c2 := (BB.out.cell (World.block_lt_of_cell? w _ e2)).trans e2
              have f1 := FH.out k hlt
              have f2 := HV.out k hlt
              have f3 := FJ.out k hlt
              have f4 := FR.out
              generalize (l.getD k (0, 0)).1 = p at *
              generalize (l.getD k (0, 0)).2 = q at *
              have CA : Hid (∀ W, Calls Try.prog 18 #[.agg #[.int .i64 p, .int .i64 q], .agg #[.int .i64 h1, .int .i64 h2]] W (Gives (.bool true) W)) := Lib.hid fun W => within_any p q h1 h2 true (decide_eq_true (by omega)) W
              have CB : Hid (∀ W, Calls Try.prog 18 #[.agg #[.int .i64 ml, .int .i64 mh], .agg #[.int .i64 p, .int .i64 q]] W (Gives (.bool true) W)) := Lib.hid fun W => within_any ml mh p q true (decide_eq_true (by omega)) W
              clear f3 f4
              clear f1 f2
              have fin : ∀ w', Below w.heap.size w w' → Kept w' w2.heap.size #[.int .i64 ml, .int .i64 mh] 23 → Kept w' w4.heap.size #[.int .i64 h1, .int .i64 h2] 23 → PtRel2 l w w2.heap.size w4.heap.size ml mh h1 h2 (.int .i64 ((k : Int) + 1)) w' := fun w' a b c => ⟨k + 1, hlt, rfl, Lib.hid a, Lib.hid b, Lib.hid c⟩
              have Fin := Lib.hid fin
              clear fin
              obtain ⟨m_1, m_2, m_3, m_4, m_5⟩ := Km.out.two
              obtain ⟨h_1, h_2, h_3, h_4, h_5⟩ := Kh.out.two
              go_wp2_with fail
              have i1 : (0 : Int) ≤ (k : Int) := by omega
              have i2 : (k : Int) < (l.length : Int) := by omega
              first
              | (go_region_held3 (fun W' => W'.cell? ⟨w2.heap.size, 0, none⟩ = some (.int .i64 ml) ∧ W'.cell? ⟨w2.heap.size, 1, none⟩ = some (.int .i64 mh) ∧ W'.cell? ⟨w4.heap.size, 0, none⟩ = some (.int .i64 h1) ∧ W'.cell? ⟨w4.heap.size, 1, none⟩ = some (.int .i64 h2) ∧ W'.cell? ⟨b, off + k * 2, none⟩ = some (.int .i64 p) ∧ W'.cell? ⟨b, off + k * 2 + 1, none⟩ = some (.int .i64 q))
                  (first | exact ⟨m_1, m_2, h_1, h_2, c1, c2⟩ | assumption | fail)
                  (first | (go_at_call_of 18 (Value.agg #[Value.int IntKind.i64 ml, Value.int IntKind.i64 mh]); refine (CB.out _).mono ?_; rintro ee w6 ⟨rfl, hb⟩; have Km : Hid (Kept w6 _ _ _) := Lib.hid (by first | exact Km.out.next hb | exact (Km.out.drewN _).next hb); have Kh : Hid (Kept w6 _ _ _) := Lib.hid (by first | exact Kh.out.next hb | exact (Kh.out.drewN _).next hb); have BB : Hid (Below w.heap.size w w6) := Lib.hid (by first | exact bnext BB.out BB.out.size hb | exact bnext (below_drewN BB.out _) BB.out.size hb); obtain ⟨m_1, m_2, m_3, m_4, m_5⟩ := Km.out.two; obtain ⟨h_1, h_2, h_3, h_4, h_5⟩ := Kh.out.two; have c1 := (BB.out.cell (World.block_lt_of_cell? w _ e1)).trans e1; have c2 := (BB.out.cell (World.block_lt_of_cell? w _ e2)).trans e2) | (go_at_call_of 18 (Value.agg #[Value.int IntKind.i64 p, Value.int IntKind.i64 q]); refine (CA.out _).mono ?_; rintro ee w6 ⟨rfl, hb⟩; have Km : Hid (Kept w6 _ _ _) := Lib.hid (by first | exact Km.out.next hb | exact (Km.out.drewN _).next hb); have Kh : Hid (Kept w6 _ _ _) := Lib.hid (by first | exact Kh.out.next hb | exact (Kh.out.drewN _).next hb); have BB : Hid (Below w.heap.size w w6) := Lib.hid (by first | exact bnext BB.out BB.out.size hb | exact bnext (below_drewN BB.out _) BB.out.size hb); obtain ⟨m_1, m_2, m_3, m_4, m_5⟩ := Km.out.two; obtain ⟨h_1, h_2, h_3, h_4, h_5⟩ := Kh.out.two; have c1 := (BB.out.cell (World.block_lt_of_cell? w _ e1)).trans e1; have c2 := (BB.out.cell (World.block_lt_of_cell? w _ e2)).trans e2)))
              | fail
              all_goals
                clear m_1 m_2 m_3 m_4 m_5 h_1 h_2 h_3 h_4 h_5 c1 c2
                clear e1 e2
                go_wp2
                go_roundw
                case rel => exact Fin.out _ (by first | exact BB.out | exact below_drewN BB.out _) (by first | exact Km.out | exact Km.out.drewN _) (by first | exact Kh.out | exact Kh.out.drewN _)
                case measure => simp [intOf]; omega
            · obtain rfl : k = l.length := by omega
              go_wp2
              go_ret
              exact ⟨rfl, by first | exact BB.out | exact below_drewN BB.out _⟩
        · obtain ⟨dh, hx1, hx2⟩ := FX.out rfl
          have CY : Hid (∀ W, Calls Try.prog 17 #[.agg #[.int .i64 h1, .int .i64 h2], .int .i64 x] W (Gives (.bool true) W)) := Lib.hid fun W => has_any h1 h2 x true (decide_eq_true ⟨hx1, hx2⟩) W
          clear hx1 hx2
          clear FX
          go_wp2_with fail
          refine (Cm.out _ (HX.out.below BB.out)).mono ?_
          rintro ee w2 ⟨rfl, hb⟩
          have BB : Hid (Below w.heap.size w w2) := Lib.hid (bnext BB.out BB.out.size hb)
          clear hb
          obtain ⟨W3, hW3⟩ : ∃ W, w2.alloc (.cells #[.int .i64 ml, .int .i64 mh] 23) = W := ⟨_, rfl⟩
          have Km : Hid (Kept W3 w2.heap.size #[.int .i64 ml, .int .i64 mh] 23) := Lib.hid (by rw [← hW3]; exact Kept.new rfl)
          have BB : Hid (Below w.heap.size w W3) := Lib.hid (by rw [← hW3]; exact BB.out.alloc BB.out.size _)
          have HW3 := Lib.hid hW3
          clear hW3
          go_wp2_with fail
          rw [HW3.out]
          refine (Ch.out _ (HX.out.below BB.out)).mono ?_
          rintro ee w4 ⟨rfl, hb⟩
          obtain ⟨W5, hW5⟩ : ∃ W, w4.alloc (.cells #[.int .i64 h1, .int .i64 h2] 23) = W := ⟨_, rfl⟩
          have Kh : Hid (Kept W5 w4.heap.size #[.int .i64 h1, .int .i64 h2] 23) := Lib.hid (by rw [← hW5]; exact Kept.new rfl)
          have Km : Hid (Kept W5 _ _ _) := Lib.hid (by rw [← hW5]; exact (Km.out.next hb).alloc _)
          have BB : Hid (Below w.heap.size w w4) := Lib.hid (bnext BB.out BB.out.size hb)
          have BB : Hid (Below w.heap.size w W5) := Lib.hid (by rw [← hW5]; exact BB.out.alloc BB.out.size _)
          clear hb
          subst hW5
          obtain ⟨m_1, m_2, m_3, m_4, m_5⟩ := Km.out.two
          obtain ⟨h_1, h_2, h_3, h_4, h_5⟩ := Kh.out.two
          go_wp2_with fail
          refine (CX.out _).mono ?_
          rintro ee w6 ⟨rfl, hb⟩
          clear m_1 m_2 m_3 m_4 m_5 h_1 h_2 h_3 h_4 h_5
          have Km : Hid (Kept w6 _ _ _) := Lib.hid (Km.out.next hb)
          have Kh : Hid (Kept w6 _ _ _) := Lib.hid (Kh.out.next hb)
          have BB : Hid (Below w.heap.size w w6) := Lib.hid (bnext BB.out BB.out.size hb)
          clear hb
          obtain ⟨m_1, m_2, m_3, m_4, m_5⟩ := Km.out.two
          obtain ⟨h_1, h_2, h_3, h_4, h_5⟩ := Kh.out.two
          go_wp2_with fail
          refine (CY.out _).mono ?_
          rintro ee w6 ⟨rfl, hb⟩
          clear m_1 m_2 m_3 m_4 m_5 h_1 h_2 h_3 h_4 h_5
          have Km : Hid (Kept w6 _ _ _) := Lib.hid (Km.out.next hb)
          have Kh : Hid (Kept w6 _ _ _) := Lib.hid (Kh.out.next hb)
          have BB : Hid (Below w.heap.size w w6) := Lib.hid (bnext BB.out BB.out.size hb)
          clear hb
          obtain ⟨m_1, m_2, m_3, m_4, m_5⟩ := Km.out.two
          obtain ⟨h_1, h_2, h_3, h_4, h_5⟩ := Kh.out.two
          go_wp2
          clear m_1 m_2 m_3 m_4 m_5 h_1 h_2 h_3 h_4 h_5
          go_loopw [17] (fun i wr => PtRel2 l w w2.heap.size w4.heap.size ml mh h1 h2 i wr) (fun i _ => l.length - (intOf i).toNat)
          case atStart => exact ⟨0, Nat.zero_le _, rfl, Lib.hid (by first | exact BB.out | exact below_drewN BB.out _), Lib.hid (by first | exact Km.out | exact Km.out.drewN _), Lib.hid (by first | exact Kh.out | exact Kh.out.drewN _)⟩
          case round =>
            obtain ⟨k, hk, rfl, BB, Km, Kh⟩ := hrel
            by_cases hlt : k < l.length
            · obtain ⟨b, off, rfl, e1, e2⟩ := HX.out k hlt
              have c1 := (BB.out.cell (World.block_lt_of_cell? w _ e1)).trans e1
              have c2 := (BB.out.cell (World.block_lt_of_cell? w _ e2)).trans e2
              have f1 := FH.out k hlt
              have f2 := HV.out k hlt
              have f3 := FJ.out k hlt
              have f4 := FR.out
              generalize (l.getD k (0, 0)).1 = p at *
              generalize (l.getD k (0, 0)).2 = q at *
              have CA : Hid (∀ W, Calls Try.prog 18 #[.agg #[.int .i64 p, .int .i64 q], .agg #[.int .i64 h1, .int .i64 h2]] W (Gives (.bool true) W)) := Lib.hid fun W => within_any p q h1 h2 true (decide_eq_true (by omega)) W
              have CB : Hid (∀ W, Calls Try.prog 18 #[.agg #[.int .i64 ml, .int .i64 mh], .agg #[.int .i64 p, .int .i64 q]] W (Gives (.bool true) W)) := Lib.hid fun W => within_any ml mh p q true (decide_eq_true (by omega)) W
              clear f3 f4
              clear f1 f2
              have fin : ∀ w', Below w.heap.size w w' → Kept w' w2.heap.size #[.int .i64 ml, .int .i64 mh] 23 → Kept w' w4.heap.size #[.int .i64 h1, .int .i64 h2] 23 → PtRel2 l w w2.heap.size w4.heap.size ml mh h1 h2 (.int .i64 ((k : Int) + 1)) w' := fun w' a b c => ⟨k + 1, hlt, rfl, Lib.hid a, Lib.hid b, Lib.hid c⟩
              have Fin := Lib.hid fin
              clear fin
              obtain ⟨m_1, m_2, m_3, m_4, m_5⟩ := Km.out.two
              obtain ⟨h_1, h_2, h_3, h_4, h_5⟩ := Kh.out.two
              go_wp2_with fail
              have i1 : (0 : Int) ≤ (k : Int) := by omega
              have i2 : (k : Int) < (l.length : Int) := by omega
              first
              | (go_region_held3 (fun W' => W'.cell? ⟨w2.heap.size, 0, none⟩ = some (.int .i64 ml) ∧ W'.cell? ⟨w2.heap.size, 1, none⟩ = some (.int .i64 mh) ∧ W'.cell? ⟨w4.heap.size, 0, none⟩ = some (.int .i64 h1) ∧ W'.cell? ⟨w4.heap.size, 1, none⟩ = some (.int .i64 h2) ∧ W'.cell? ⟨b, off + k * 2, none⟩ = some (.int .i64 p) ∧ W'.cell? ⟨b, off + k * 2 + 1, none⟩ = some (.int .i64 q))
                  (first | exact ⟨m_1, m_2, h_1, h_2, c1, c2⟩ | assumption | fail)
                  (first | (go_at_call_of 18 (Value.agg #[Value.int IntKind.i64 ml, Value.int IntKind.i64 mh]); refine (CB.out _).mono ?_; rintro ee w6 ⟨rfl, hb⟩; have Km : Hid (Kept w6 _ _ _) := Lib.hid (by first | exact Km.out.next hb | exact (Km.out.drewN _).next hb); have Kh : Hid (Kept w6 _ _ _) := Lib.hid (by first | exact Kh.out.next hb | exact (Kh.out.drewN _).next hb); have BB : Hid (Below w.heap.size w w6) := Lib.hid (by first | exact bnext BB.out BB.out.size hb | exact bnext (below_drewN BB.out _) BB.out.size hb); obtain ⟨m_1, m_2, m_3, m_4, m_5⟩ := Km.out.two; obtain ⟨h_1, h_2, h_3, h_4, h_5⟩ := Kh.out.two; have c1 := (BB.out.cell (World.block_lt_of_cell? w _ e1)).trans e1; have c2 := (BB.out.cell (World.block_lt_of_cell? w _ e2)).trans e2) | (go_at_call_of 18 (Value.agg #[Value.int IntKind.i64 p, Value.int IntKind.i64 q]); refine (CA.out _).mono ?_; rintro ee w6 ⟨rfl, hb⟩; have Km : Hid (Kept w6 _ _ _) := Lib.hid (by first | exact Km.out.next hb | exact (Km.out.drewN _).next hb); have Kh : Hid (Kept w6 _ _ _) := Lib.hid (by first | exact Kh.out.next hb | exact (Kh.out.drewN _).next hb); have BB : Hid (Below w.heap.size w w6) := Lib.hid (by first | exact bnext BB.out BB.out.size hb | exact bnext (below_drewN BB.out _) BB.out.size hb); obtain ⟨m_1, m_2, m_3, m_4, m_5⟩ := Km.out.two; obtain ⟨h_1, h_2, h_3, h_4, h_5⟩ := Kh.out.two; have c1 := (BB.out.cell (World.block_lt_of_cell? w _ e1)).trans e1; have c2 := (BB.out.cell (World.block_lt_of_cell? w _ e2)).trans e2)))
              | fail
              all_goals
                clear m_1 m_2 m_3 m_4 m_5 h_1 h_2 h_3 h_4 h_5 c1 c2
                clear e1 e2
                go_wp2
                go_roundw
                case rel => exact Fin.out _ (by first | exact BB.out | exact below_drewN BB.out _) (by first | exact Km.out | exact Km.out.drewN _) (by first | exact Kh.out | exact Kh.out.drewN _)
                case measure => simp [intOf]; omega
            · obtain rfl : k = l.length := by omega
              go_wp2
              go_ret
              exact ⟨rfl, by first | exact BB.out | exact below_drewN BB.out _⟩
        · clear FX
          go_wp2_with fail
          refine (Cm.out _ (HX.out.below BB.out)).mono ?_
          rintro ee w2 ⟨rfl, hb⟩
          have BB : Hid (Below w.heap.size w w2) := Lib.hid (bnext BB.out BB.out.size hb)
          clear hb
          obtain ⟨W3, hW3⟩ : ∃ W, w2.alloc (.cells #[.int .i64 ml, .int .i64 mh] 23) = W := ⟨_, rfl⟩
          have Km : Hid (Kept W3 w2.heap.size #[.int .i64 ml, .int .i64 mh] 23) := Lib.hid (by rw [← hW3]; exact Kept.new rfl)
          have BB : Hid (Below w.heap.size w W3) := Lib.hid (by rw [← hW3]; exact BB.out.alloc BB.out.size _)
          have HW3 := Lib.hid hW3
          clear hW3
          go_wp2_with fail
          rw [HW3.out]
          refine (Ch.out _ (HX.out.below BB.out)).mono ?_
          rintro ee w4 ⟨rfl, hb⟩
          obtain ⟨W5, hW5⟩ : ∃ W, w4.alloc (.cells #[.int .i64 h1, .int .i64 h2] 23) = W := ⟨_, rfl⟩
          have Kh : Hid (Kept W5 w4.heap.size #[.int .i64 h1, .int .i64 h2] 23) := Lib.hid (by rw [← hW5]; exact Kept.new rfl)
          have Km : Hid (Kept W5 _ _ _) := Lib.hid (by rw [← hW5]; exact (Km.out.next hb).alloc _)
          have BB : Hid (Below w.heap.size w w4) := Lib.hid (bnext BB.out BB.out.size hb)
          have BB : Hid (Below w.heap.size w W5) := Lib.hid (by rw [← hW5]; exact BB.out.alloc BB.out.size _)
          clear hb
          subst hW5
          obtain ⟨m_1, m_2, m_3, m_4, m_5⟩ := Km.out.two
          obtain ⟨h_1, h_2, h_3, h_4, h_5⟩ := Kh.out.two
          go_wp2_with fail
          refine (CX.out _).mono ?_
          rintro ee w6 ⟨rfl, hb⟩
          clear m_1 m_2 m_3 m_4 m_5 h_1 h_2 h_3 h_4 h_5
          have Km : Hid (Kept w6 _ _ _) := Lib.hid (Km.out.next hb)
          have Kh : Hid (Kept w6 _ _ _) := Lib.hid (Kh.out.next hb)
          have BB : Hid (Below w.heap.size w w6) := Lib.hid (bnext BB.out BB.out.size hb)
          clear hb
          obtain ⟨m_1, m_2, m_3, m_4, m_5⟩ := Km.out.two
          obtain ⟨h_1, h_2, h_3, h_4, h_5⟩ := Kh.out.two
          go_wp2
          clear m_1 m_2 m_3 m_4 m_5 h_1 h_2 h_3 h_4 h_5
          go_loopw [17] (fun i wr => PtRel2 l w w2.heap.size w4.heap.size ml mh h1 h2 i wr) (fun i _ => l.length - (intOf i).toNat)
          case atStart => exact ⟨0, Nat.zero_le _, rfl, Lib.hid (by first | exact BB.out | exact below_drewN BB.out _), Lib.hid (by first | exact Km.out | exact Km.out.drewN _), Lib.hid (by first | exact Kh.out | exact Kh.out.drewN _)⟩
          case round =>
            obtain ⟨k, hk, rfl, BB, Km, Kh⟩ := hrel
            by_cases hlt : k < l.length
            · obtain ⟨b, off, rfl, e1, e2⟩ := HX.out k hlt
              have c1 := (BB.out.cell (World.block_lt_of_cell? w _ e1)).trans e1
              have c2 := (BB.out.cell (World.block_lt_of_cell? w _ e2)).trans e2
              have f1 := FH.out k hlt
              have f2 := HV.out k hlt
              have f3 := FJ.out k hlt
              have f4 := FR.out
              generalize (l.getD k (0, 0)).1 = p at *
              generalize (l.getD k (0, 0)).2 = q at *
              have CA : Hid (∀ W, Calls Try.prog 18 #[.agg #[.int .i64 p, .int .i64 q], .agg #[.int .i64 h1, .int .i64 h2]] W (Gives (.bool true) W)) := Lib.hid fun W => within_any p q h1 h2 true (decide_eq_true (by omega)) W
              have CB : Hid (∀ W, Calls Try.prog 18 #[.agg #[.int .i64 ml, .int .i64 mh], .agg #[.int .i64 p, .int .i64 q]] W (Gives (.bool true) W)) := Lib.hid fun W => within_any ml mh p q true (decide_eq_true (by omega)) W
              clear f3 f4
              clear f1 f2
              have fin : ∀ w', Below w.heap.size w w' → Kept w' w2.heap.size #[.int .i64 ml, .int .i64 mh] 23 → Kept w' w4.heap.size #[.int .i64 h1, .int .i64 h2] 23 → PtRel2 l w w2.heap.size w4.heap.size ml mh h1 h2 (.int .i64 ((k : Int) + 1)) w' := fun w' a b c => ⟨k + 1, hlt, rfl, Lib.hid a, Lib.hid b, Lib.hid c⟩
              have Fin := Lib.hid fin
              clear fin
              obtain ⟨m_1, m_2, m_3, m_4, m_5⟩ := Km.out.two
              obtain ⟨h_1, h_2, h_3, h_4, h_5⟩ := Kh.out.two
              go_wp2_with fail
              have i1 : (0 : Int) ≤ (k : Int) := by omega
              have i2 : (k : Int) < (l.length : Int) := by omega
              first
              | (go_region_held3 (fun W' => W'.cell? ⟨w2.heap.size, 0, none⟩ = some (.int .i64 ml) ∧ W'.cell? ⟨w2.heap.size, 1, none⟩ = some (.int .i64 mh) ∧ W'.cell? ⟨w4.heap.size, 0, none⟩ = some (.int .i64 h1) ∧ W'.cell? ⟨w4.heap.size, 1, none⟩ = some (.int .i64 h2) ∧ W'.cell? ⟨b, off + k * 2, none⟩ = some (.int .i64 p) ∧ W'.cell? ⟨b, off + k * 2 + 1, none⟩ = some (.int .i64 q))
                  (first | exact ⟨m_1, m_2, h_1, h_2, c1, c2⟩ | assumption | fail)
                  (first | (go_at_call_of 18 (Value.agg #[Value.int IntKind.i64 ml, Value.int IntKind.i64 mh]); refine (CB.out _).mono ?_; rintro ee w6 ⟨rfl, hb⟩; have Km : Hid (Kept w6 _ _ _) := Lib.hid (by first | exact Km.out.next hb | exact (Km.out.drewN _).next hb); have Kh : Hid (Kept w6 _ _ _) := Lib.hid (by first | exact Kh.out.next hb | exact (Kh.out.drewN _).next hb); have BB : Hid (Below w.heap.size w w6) := Lib.hid (by first | exact bnext BB.out BB.out.size hb | exact bnext (below_drewN BB.out _) BB.out.size hb); obtain ⟨m_1, m_2, m_3, m_4, m_5⟩ := Km.out.two; obtain ⟨h_1, h_2, h_3, h_4, h_5⟩ := Kh.out.two; have c1 := (BB.out.cell (World.block_lt_of_cell? w _ e1)).trans e1; have c2 := (BB.out.cell (World.block_lt_of_cell? w _ e2)).trans e2) | (go_at_call_of 18 (Value.agg #[Value.int IntKind.i64 p, Value.int IntKind.i64 q]); refine (CA.out _).mono ?_; rintro ee w6 ⟨rfl, hb⟩; have Km : Hid (Kept w6 _ _ _) := Lib.hid (by first | exact Km.out.next hb | exact (Km.out.drewN _).next hb); have Kh : Hid (Kept w6 _ _ _) := Lib.hid (by first | exact Kh.out.next hb | exact (Kh.out.drewN _).next hb); have BB : Hid (Below w.heap.size w w6) := Lib.hid (by first | exact bnext BB.out BB.out.size hb | exact bnext (below_drewN BB.out _) BB.out.size hb); obtain ⟨m_1, m_2, m_3, m_4, m_5⟩ := Km.out.two; obtain ⟨h_1, h_2, h_3, h_4, h_5⟩ := Kh.out.two; have c1 := (BB.out.cell (World.block_lt_of_cell? w _ e1)).trans e1; have c2 := (BB.out.cell (World.block_lt_of_cell? w _ e2)).trans e2)))
              | fail
              all_goals
                clear m_1 m_2 m_3 m_4 m_5 h_1 h_2 h_3 h_4 h_5 c1 c2
                clear e1 e2
                go_wp2
                go_roundw
                case rel => exact Fin.out _ (by first | exact BB.out | exact below_drewN BB.out _) (by first | exact Km.out | exact Km.out.drewN _) (by first | exact Kh.out | exact Kh.out.drewN _)
                case measure => simp [intOf]; omega
            · obtain rfl : k = l.length := by omega
              go_wp2
              go_ret
              exact ⟨rfl, by first | exact BB.out | exact below_drewN BB.out _⟩
        · obtain ⟨dh, hx1, hx2⟩ := FX.out rfl
          have CY : Hid (∀ W, Calls Try.prog 17 #[.agg #[.int .i64 h1, .int .i64 h2], .int .i64 x] W (Gives (.bool true) W)) := Lib.hid fun W => has_any h1 h2 x true (decide_eq_true ⟨hx1, hx2⟩) W
          clear hx1 hx2
          clear FX
          go_wp2_with fail
          refine (Cm.out _ (HX.out.below BB.out)).mono ?_
          rintro ee w2 ⟨rfl, hb⟩
          have BB : Hid (Below w.heap.size w w2) := Lib.hid (bnext BB.out BB.out.size hb)
          clear hb
          obtain ⟨W3, hW3⟩ : ∃ W, w2.alloc (.cells #[.int .i64 ml, .int .i64 mh] 23) = W := ⟨_, rfl⟩
          have Km : Hid (Kept W3 w2.heap.size #[.int .i64 ml, .int .i64 mh] 23) := Lib.hid (by rw [← hW3]; exact Kept.new rfl)
          have BB : Hid (Below w.heap.size w W3) := Lib.hid (by rw [← hW3]; exact BB.out.alloc BB.out.size _)
          have HW3 := Lib.hid hW3
          clear hW3
          go_wp2_with fail
          rw [HW3.out]
          refine (Ch.out _ (HX.out.below BB.out)).mono ?_
          rintro ee w4 ⟨rfl, hb⟩
          obtain ⟨W5, hW5⟩ : ∃ W, w4.alloc (.cells #[.int .i64 h1, .int .i64 h2] 23) = W := ⟨_, rfl⟩
          have Kh : Hid (Kept W5 w4.heap.size #[.int .i64 h1, .int .i64 h2] 23) := Lib.hid (by rw [← hW5]; exact Kept.new rfl)
          have Km : Hid (Kept W5 _ _ _) := Lib.hid (by rw [← hW5]; exact (Km.out.next hb).alloc _)
          have BB : Hid (Below w.heap.size w w4) := Lib.hid (bnext BB.out BB.out.size hb)
          have BB : Hid (Below w.heap.size w W5) := Lib.hid (by rw [← hW5]; exact BB.out.alloc BB.out.size _)
          clear hb
          subst hW5
          obtain ⟨m_1, m_2, m_3, m_4, m_5⟩ := Km.out.two
          obtain ⟨h_1, h_2, h_3, h_4, h_5⟩ := Kh.out.two
          go_wp2_with fail
          refine (CX.out _).mono ?_
          rintro ee w6 ⟨rfl, hb⟩
          clear m_1 m_2 m_3 m_4 m_5 h_1 h_2 h_3 h_4 h_5
          have Km : Hid (Kept w6 _ _ _) := Lib.hid (Km.out.next hb)
          have Kh : Hid (Kept w6 _ _ _) := Lib.hid (Kh.out.next hb)
          have BB : Hid (Below w.heap.size w w6) := Lib.hid (bnext BB.out BB.out.size hb)
          clear hb
          obtain ⟨m_1, m_2, m_3, m_4, m_5⟩ := Km.out.two
          obtain ⟨h_1, h_2, h_3, h_4, h_5⟩ := Kh.out.two
          go_wp2_with fail
          refine (CY.out _).mono ?_
          rintro ee w6 ⟨rfl, hb⟩
          clear m_1 m_2 m_3 m_4 m_5 h_1 h_2 h_3 h_4 h_5
          have Km : Hid (Kept w6 _ _ _) := Lib.hid (Km.out.next hb)
          have Kh : Hid (Kept w6 _ _ _) := Lib.hid (Kh.out.next hb)
          have BB : Hid (Below w.heap.size w w6) := Lib.hid (bnext BB.out BB.out.size hb)
          clear hb
          obtain ⟨m_1, m_2, m_3, m_4, m_5⟩ := Km.out.two
          obtain ⟨h_1, h_2, h_3, h_4, h_5⟩ := Kh.out.two
          go_wp2
          clear m_1 m_2 m_3 m_4 m_5 h_1 h_2 h_3 h_4 h_5
          go_loopw [17] (fun i wr => PtRel2 l w w2.heap.size w4.heap.size ml mh h1 h2 i wr) (fun i _ => l.length - (intOf i).toNat)
          case atStart => exact ⟨0, Nat.zero_le _, rfl, Lib.hid (by first | exact BB.out | exact below_drewN BB.out _), Lib.hid (by first | exact Km.out | exact Km.out.drewN _), Lib.hid (by first | exact Kh.out | exact Kh.out.drewN _)⟩
          case round =>
            obtain ⟨k, hk, rfl, BB, Km, Kh⟩ := hrel
            by_cases hlt : k < l.length
            · obtain ⟨b, off, rfl, e1, e2⟩ := HX.out k hlt
              have c1 := (BB.out.cell (World.block_lt_of_cell? w _ e1)).trans e1
              have c2 := (BB.out.cell (World.block_lt_of_cell? w _ e2)).trans e2
              have f1 := FH.out k hlt
              have f2 := HV.out k hlt
              have f3 := FJ.out k hlt
              have f4 := FR.out
              generalize (l.getD k (0, 0)).1 = p at *
              generalize (l.getD k (0, 0)).2 = q at *
              have CA : Hid (∀ W, Calls Try.prog 18 #[.agg #[.int .i64 p, .int .i64 q], .agg #[.int .i64 h1, .int .i64 h2]] W (Gives (.bool true) W)) := Lib.hid fun W => within_any p q h1 h2 true (decide_eq_true (by omega)) W
              have CB : Hid (∀ W, Calls Try.prog 18 #[.agg #[.int .i64 ml, .int .i64 mh], .agg #[.int .i64 p, .int .i64 q]] W (Gives (.bool true) W)) := Lib.hid fun W => within_any ml mh p q true (decide_eq_true (by omega)) W
              clear f3 f4
              clear f1 f2
              have fin : ∀ w', Below w.heap.size w w' → Kept w' w2.heap.size #[.int .i64 ml, .int .i64 mh] 23 → Kept w' w4.heap.size #[.int .i64 h1, .int .i64 h2] 23 → PtRel2 l w w2.heap.size w4.heap.size ml mh h1 h2 (.int .i64 ((k : Int) + 1)) w' := fun w' a b c => ⟨k + 1, hlt, rfl, Lib.hid a, Lib.hid b, Lib.hid c⟩
              have Fin := Lib.hid fin
              clear fin
              obtain ⟨m_1, m_2, m_3, m_4, m_5⟩ := Km.out.two
              obtain ⟨h_1, h_2, h_3, h_4, h_5⟩ := Kh.out.two
              go_wp2_with fail
              have i1 : (0 : Int) ≤ (k : Int) := by omega
              have i2 : (k : Int) < (l.length : Int) := by omega
              first
              | (go_region_held3 (fun W' => W'.cell? ⟨w2.heap.size, 0, none⟩ = some (.int .i64 ml) ∧ W'.cell? ⟨w2.heap.size, 1, none⟩ = some (.int .i64 mh) ∧ W'.cell? ⟨w4.heap.size, 0, none⟩ = some (.int .i64 h1) ∧ W'.cell? ⟨w4.heap.size, 1, none⟩ = some (.int .i64 h2) ∧ W'.cell? ⟨b, off + k * 2, none⟩ = some (.int .i64 p) ∧ W'.cell? ⟨b, off + k * 2 + 1, none⟩ = some (.int .i64 q))
                  (first | exact ⟨m_1, m_2, h_1, h_2, c1, c2⟩ | assumption | fail)
                  (first | (go_at_call_of 18 (Value.agg #[Value.int IntKind.i64 ml, Value.int IntKind.i64 mh]); refine (CB.out _).mono ?_; rintro ee w6 ⟨rfl, hb⟩; have Km : Hid (Kept w6 _ _ _) := Lib.hid (by first | exact Km.out.next hb | exact (Km.out.drewN _).next hb); have Kh : Hid (Kept w6 _ _ _) := Lib.hid (by first | exact Kh.out.next hb | exact (Kh.out.drewN _).next hb); have BB : Hid (Below w.heap.size w w6) := Lib.hid (by first | exact bnext BB.out BB.out.size hb | exact bnext (below_drewN BB.out _) BB.out.size hb); obtain ⟨m_1, m_2, m_3, m_4, m_5⟩ := Km.out.two; obtain ⟨h_1, h_2, h_3, h_4, h_5⟩ := Kh.out.two; have c1 := (BB.out.cell (World.block_lt_of_cell? w _ e1)).trans e1; have c2 := (BB.out.cell (World.block_lt_of_cell? w _ e2)).trans e2) | (go_at_call_of 18 (Value.agg #[Value.int IntKind.i64 p, Value.int IntKind.i64 q]); refine (CA.out _).mono ?_; rintro ee w6 ⟨rfl, hb⟩; have Km : Hid (Kept w6 _ _ _) := Lib.hid (by first | exact Km.out.next hb | exact (Km.out.drewN _).next hb); have Kh : Hid (Kept w6 _ _ _) := Lib.hid (by first | exact Kh.out.next hb | exact (Kh.out.drewN _).next hb); have BB : Hid (Below w.heap.size w w6) := Lib.hid (by first | exact bnext BB.out BB.out.size hb | exact bnext (below_drewN BB.out _) BB.out.size hb); obtain ⟨m_1, m_2, m_3, m_4, m_5⟩ := Km.out.two; obtain ⟨h_1, h_2, h_3, h_4, h_5⟩ := Kh.out.two; have c1 := (BB.out.cell (World.block_lt_of_cell? w _ e1)).trans e1; have c2 := (BB.out.cell (World.block_lt_of_cell? w _ e2)).trans e2)))
              | fail
              all_goals
                clear m_1 m_2 m_3 m_4 m_5 h_1 h_2 h_3 h_4 h_5 c1 c2
                clear e1 e2
                go_wp2
                go_roundw
                case rel => exact Fin.out _ (by first | exact BB.out | exact below_drewN BB.out _) (by first | exact Km.out | exact Km.out.drewN _) (by first | exact Kh.out | exact Kh.out.drewN _)
                case measure => simp [intOf]; omega
            · obtain rfl : k = l.length := by omega
              go_wp2
              go_ret
              exact ⟨rfl, by first | exact BB.out | exact below_drewN BB.out _⟩
end Go.Proofs.Ytahenediimoboaa
