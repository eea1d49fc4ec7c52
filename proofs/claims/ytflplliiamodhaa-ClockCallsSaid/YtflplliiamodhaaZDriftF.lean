import Derived.Test.YtflplliiamodhaaZDriftD
import Derived.Test.YtflplliiamodhaaZDriftE
/- drift.keeps: for every list of points. -/
namespace Go.Proofs.Ytflplliiamodhaa
open Go.RowKit
set_option linter.unusedVariables false

theorem hmf (fn : Fn) (first cap : Array Value) (w : World) : (Instr.makeFunc fn first cap).run Try.prog w = .ok (.func fn first cap) w := rfl
def adjAt (l : List (Int × Int)) (k : Nat) : Prop := ¬ ((l.getD (k + 1) (0, 0)).2 < (l.getD k (0, 0)).2 ∨ ((l.getD (k + 1) (0, 0)).1 = (l.getD k (0, 0)).1 ∧ (l.getD (k + 1) (0, 0)).2 ≠ (l.getD k (0, 0)).2))
def KpRel (r : Int) (l : List (Int × Int)) (w : World) (i : Value) (wr : World) : Prop := ∃ (m : Nat), (m < l.length ∨ m = 0) ∧ i = .int .i64 ((m + 1 : Nat) : Int) ∧ Hid (∀ j, j < m → adjAt l j) ∧ Hid (Kept wr w.heap.size #[.int .i64 r] 2) ∧ Hid (Below w.heap.size w wr)
set_option maxHeartbeats 8000000 in
set_option maxRecDepth 100000 in
theorem keeps_any (x : Option Addr) (xc : Nat) (l : List (Int × Int)) (r : Int) (w : World) (hx : PairRow w x l) (hl : l.length ≤ 4000000000) (hs : soundP l) (h1 : 0 ≤ r) (h2 : r ≤ 100000) :
    Calls Try.prog 57 #[.int .i64 r, .slice x l.length xc] w (Gives (.bool (keepB r l)) w) := by
  have HX := Lib.hid hx
  have C1 : Hid (∀ W, Below w.heap.size w W → W.cell? ⟨w.heap.size, 0, none⟩ = some (.int .i64 r) → Calls Try.prog 82 #[.slice x l.length xc, .func (.func 79) #[] #[.pointer (some ⟨w.heap.size, 0, none⟩)]] W (Gives (.bool (decide (risesP (fastV r) l))) W)) := Lib.hid fun W hb hc => ris1_any x xc l r w.heap.size W (hx.below hb) hl hs h1 h2 hc
  have C2 : Hid (∀ W, Below w.heap.size w W → W.cell? ⟨w.heap.size, 0, none⟩ = some (.int .i64 r) → Calls Try.prog 82 #[.slice x l.length xc, .func (.func 81) #[] #[.pointer (some ⟨w.heap.size, 0, none⟩)]] W (Gives (.bool (decide (risesP (slowV r) l))) W)) := Lib.hid fun W hb hc => ris2_any x xc l r w.heap.size W (hx.below hb) hl hs h1 h2 hc
  have Fno : Hid (∀ k, k < l.length - 1 → ¬ adjAt l k → keepB r l = false) := Lib.hid fun k hk h => by
    unfold keepB
    rw [decide_eq_false (fun ha : adjP l => h (ha k hk))]
    rfl
  have Fyes : Hid (adjP l → keepB r l = (decide (risesP (fastV r) l) && decide (risesP (slowV r) l))) := Lib.hid fun h => by
    unfold keepB
    rw [decide_eq_true h]
    rfl
  have HL := Lib.hid hl
  have KS : Hid (KpRel r l w (.int .i64 1) (w.alloc (.cells #[.int .i64 r] 2))) := Lib.hid ⟨0, .inr rfl, rfl, Lib.hid (fun j hj => by omega), Lib.hid (Kept.new rfl), Lib.hid (one_alloc _ _)⟩
  generalize decide (risesP (fastV r) l) = bf at *
  generalize decide (risesP (slowV r) l) = bs at *
  generalize keepB r l = res at *
  clear hx hs h1 h2
  have hmf' := hmf
  go_enter Try.func57, Try.ntmps57
  go_wp2
  go_loopw [5] (fun i wr => KpRel r l w i wr) (fun i _ => l.length + 1 - (intOf i).toNat)
  case atStart => exact KS.out
  case round =>
    obtain ⟨m, hm, rfl, HV, K0, B0⟩ := hrel
    clear KS
    obtain ⟨k, ek⟩ : ∃ k : Nat, m + 1 = k := ⟨_, rfl⟩
    rw [ek]
    by_cases hlt : k < l.length
    · obtain ⟨b, off, ea, h1, h2⟩ := HX.out m (by omega)
      obtain ⟨b', off', ea', h3, h4⟩ := HX.out k hlt
      subst ea
      cases ea'
      have c1 := (B0.out.cell (World.block_lt_of_cell? w _ h1)).trans h1
      have c2 := (B0.out.cell (World.block_lt_of_cell? w _ h2)).trans h2
      have c3 := (B0.out.cell (World.block_lt_of_cell? w _ h3)).trans h3
      have c4 := (B0.out.cell (World.block_lt_of_cell? w _ h4)).trans h4
      have e1 : IntKind.i64.wrap ((k : Int) - 1) = (m : Int) := by
        have := HL.out
        rw [IntKind.wrap_i64]; omega
      have hat : adjAt l m ↔ ¬ ((l.getD k (0, 0)).2 < (l.getD m (0, 0)).2 ∨ ((l.getD k (0, 0)).1 = (l.getD m (0, 0)).1 ∧ (l.getD k (0, 0)).2 ≠ (l.getD m (0, 0)).2)) := by rw [← ek]; exact Iff.rfl
      obtain ⟨p1, hp1⟩ : ∃ p, (l.getD m (0, 0)).1 = p := ⟨_, rfl⟩
      obtain ⟨p2, hp2⟩ : ∃ p, (l.getD m (0, 0)).2 = p := ⟨_, rfl⟩
      obtain ⟨q1, hq1⟩ : ∃ p, (l.getD k (0, 0)).1 = p := ⟨_, rfl⟩
      obtain ⟨q2, hq2⟩ : ∃ p, (l.getD k (0, 0)).2 = p := ⟨_, rfl⟩
      rw [hp1] at c1
      rw [hp2] at c2
      rw [hq1] at c3
      rw [hq2] at c4
      rw [hp1, hp2, hq1, hq2] at hat
      have F1 : Hid (adjAt l m → ∀ w', Hid (Kept w' w.heap.size #[.int .i64 r] 2) → Hid (Below w.heap.size w w') → ∀ v, v = .int .i64 ((k : Int) + 1) → KpRel r l w v w') := Lib.hid fun h w' a1 a2 v hv => ⟨k, .inl hlt, hv, Lib.hid (fun j hj => by
        by_cases e : j = m
        · rw [e]; exact h
        · exact HV.out j (by omega)), a1, a2⟩
      have F2 : Hid (¬ adjAt l m → res = false) := Lib.hid fun h => Fno.out m (by omega) h
      have SS : Hid (Below w.heap.size w wr.drew) ∧ wr.drew.cell? ⟨b, off + m * 2, none⟩ = some (.int .i64 p1) ∧ wr.drew.cell? ⟨b, off + m * 2 + 1, none⟩ = some (.int .i64 p2) ∧ wr.drew.cell? ⟨b, off + k * 2, none⟩ = some (.int .i64 q1) ∧ wr.drew.cell? ⟨b, off + k * 2 + 1, none⟩ = some (.int .i64 q2) := ⟨Lib.hid (below_drewN B0.out 1), c1, c2, c3, c4⟩
      have hkl : (k : Int) < (l.length : Int) := by omega
      have hml : (m : Int) < (l.length : Int) := by omega
      have HAT := Lib.hid hat
      have HLT := Lib.hid hlt
      have HEK := Lib.hid ek
      clear hat hp1 hp2 hq1 hq2 h1 h2 h3 h4 c1 c2 c3 c4 hm ek hlt
      go_wp2
      have HLD := Lib.hid SS
      clear SS
      have SS := HLD.out
      go_region_held3 (fun w' => Hid (Below w.heap.size w w') ∧ w'.cell? ⟨b, off + m * 2, none⟩ = some (.int .i64 p1) ∧ w'.cell? ⟨b, off + m * 2 + 1, none⟩ = some (.int .i64 p2) ∧ w'.cell? ⟨b, off + k * 2, none⟩ = some (.int .i64 q1) ∧ w'.cell? ⟨b, off + k * 2 + 1, none⟩ = some (.int .i64 q2))
        (first | exact SS | exact keepB4 (one_alloc _ _) SS | exact keepB4 (one_alloc _ _) (keepB4 (one_alloc _ _) SS) | go_keep)
        (fail)
      all_goals
        clear SS HLD
        have BB : Hid (∀ o1 o2 : Obj, Below w.heap.size w ((wr.alloc o1).alloc o2).drew) := Lib.hid fun o1 o2 => below_drewN ((B0.out.alloc B0.out.size _).alloc (by have := B0.out.size; simp; omega) _) 1
        have KK : Hid (∀ o1 o2 : Obj, Kept ((wr.alloc o1).alloc o2).drew w.heap.size #[.int .i64 r] 2) := Lib.hid fun o1 o2 => show Kept ((wr.alloc o1).alloc o2) _ _ _ from (K0.out.alloc _).alloc _
        by_cases a1 : q2 < p2
        · have d1 := decide_eq_true a1
          have F := Lib.hid (F2.out (fun h => (HAT.out.1 h) (.inl a1)))
          clear a1 F1 F2 HAT e1
          go_wp2
          go_ret
          exact ⟨ret_bool F.out.symm, BB.out _ _⟩
        · have d1 := decide_eq_false a1
          by_cases a2 : q1 = p1
          · have d2 : (q1 == p1) = true := by rw [a2]; simp
            by_cases a3 : q2 = p2
            · have d3 : (q2 != p2) = false := by rw [a3]; simp
              have F := Lib.hid (F1.out (HAT.out.2 (by omega)))
              clear a1 a2 a3 F1 F2 HAT e1
              go_wp2
              go_roundw
              case rel => exact F.out _ (Lib.hid (KK.out _ _)) (Lib.hid (BB.out _ _)) _ (by simp)
              case measure => have := HLT.out; simp [intOf]; omega
            · have d3 : (q2 != p2) = true := by simp [bne, a3]
              have F := Lib.hid (F2.out (fun h => (HAT.out.1 h) (.inr ⟨a2, a3⟩)))
              clear a1 a2 a3 F1 F2 HAT e1
              go_wp2
              go_ret
              exact ⟨ret_bool F.out.symm, BB.out _ _⟩
          · have d2 : (q1 == p1) = false := beq_eq_false_iff_ne.mpr a2
            have F := Lib.hid (F1.out (HAT.out.2 (by omega)))
            clear a1 a2 F1 F2 HAT e1
            go_wp2
            go_roundw
            case rel => exact F.out _ (Lib.hid (KK.out _ _)) (Lib.hid (BB.out _ _)) _ (by simp)
            case measure => have := HLT.out; simp [intOf]; omega
    · have F := Lib.hid (Fyes.out (fun j hj => HV.out j (by omega)))
      have hkl : decide ((k : Int) < (l.length : Int)) = false := decide_eq_false (by omega)
      obtain ⟨KI, hKI⟩ : ∃ KI : Int, (k : Int) = KI := ⟨_, rfl⟩
      rw [hKI] at hkl
      rw [hKI]
      obtain ⟨g1, g2, gl⟩ := K0.out.one
      clear Fno Fyes HV hm ek hlt HX hKI
      cases bf
      · go_wp2_with fail
        refine (C1.out _ B0.out g1).mono ?_
        rintro _ w1 ⟨rfl, hb1⟩
        have B1 := Lib.hid (bnext B0.out B0.out.size hb1)
        clear hb1 g1 g2 gl
        go_wp2
        go_ret
        exact ⟨ret_bool (by rw [F.out]; simp), B1.out⟩
      · go_wp2_with fail
        refine (C1.out _ B0.out g1).mono ?_
        rintro _ w1 ⟨rfl, hb1⟩
        have B1 := Lib.hid (bnext B0.out B0.out.size hb1)
        have K1 := Lib.hid (K0.out.next hb1)
        clear hb1 g1 g2 gl
        obtain ⟨g1, g2, gl⟩ := K1.out.one
        go_wp2_with fail
        refine (C2.out _ B1.out g1).mono ?_
        rintro _ w2 ⟨rfl, hb2⟩
        have B2 := Lib.hid (bnext B1.out B1.out.size hb2)
        clear hb2 g1 g2 gl
        go_wp2
        go_ret
        exact ⟨ret_bool (by rw [F.out]; simp), B2.out⟩
end Go.Proofs.Ytflplliiamodhaa
