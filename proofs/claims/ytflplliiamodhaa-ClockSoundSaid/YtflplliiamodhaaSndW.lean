/- ClockSound, walked. -/
import Derived.Test.YtflplliiamodhaaSndB
import Derived.StillTailTactics
import Derived.Deep.RegionHeld3
namespace Go.Proofs.Ytflplliiamodhaa
open Go.RowKit
set_option linter.unusedVariables false
set_option linter.unusedSimpArgs false

theorem snd_out1 (r : Int) (x y : Option Addr) (n xc m yc : Nat) (w : World) (h : (30 : Int) < (n : Int)) :
    Calls Try.prog 4 #[.int .i64 r, .slice x n xc, .slice y m yc] w fun e w' => e = .returned (.bool true) ∧ Below w.heap.size w w' := by
  have h' : decide ((30 : Int) < (n : Int)) = true := decide_eq_true h
  go_enter Try.func4, Try.ntmps4
  go_wp2_with fail
  refine (alive_any _).mono ?_
  rintro _ w1 ⟨rfl, b1⟩
  have B1 := Lib.hid b1
  clear b1
  go_wp2
  go_ret
  exact ⟨rfl, B1.out⟩
theorem snd_out2 (r : Int) (x y : Option Addr) (n xc m yc : Nat) (w : World) (h : ¬ (30 : Int) < (n : Int)) (h' : (30 : Int) < (m : Int)) :
    Calls Try.prog 4 #[.int .i64 r, .slice x n xc, .slice y m yc] w fun e w' => e = .returned (.bool true) ∧ Below w.heap.size w w' := by
  have d1 : decide ((30 : Int) < (n : Int)) = false := decide_eq_false h
  have d2 : decide ((30 : Int) < (m : Int)) = true := decide_eq_true h'
  go_enter Try.func4, Try.ntmps4
  go_wp2_with fail
  refine (alive_any _).mono ?_
  rintro _ w1 ⟨rfl, b1⟩
  have B1 := Lib.hid b1
  clear b1
  go_wp2
  go_ret
  exact ⟨rfl, B1.out⟩
theorem snd_out3 (r : Int) (x y : Option Addr) (n xc m yc : Nat) (w : World) (h : ¬ (30 : Int) < (n : Int)) (h' : ¬ (30 : Int) < (m : Int)) (C : Hid (∀ W, Below w.heap.size w W → Calls Try.prog 21 #[.int .i64 r, .slice x n xc] W (Gives (.bool false) W))) :
    Calls Try.prog 4 #[.int .i64 r, .slice x n xc, .slice y m yc] w fun e w' => e = .returned (.bool true) ∧ Below w.heap.size w w' := by
  have d1 : decide ((30 : Int) < (n : Int)) = false := decide_eq_false h
  have d2 : decide ((30 : Int) < (m : Int)) = false := decide_eq_false h'
  go_enter Try.func4, Try.ntmps4
  go_wp2_with fail
  refine (alive_any _).mono ?_
  rintro _ w1 ⟨rfl, b1⟩
  have B1 := Lib.hid b1
  clear b1
  go_wp2_with fail
  refine (C.out _ B1.out).mono ?_
  rintro _ w2 ⟨rfl, b2⟩
  have B2 := Lib.hid (B1.out.trans (b2.mono B1.out.size))
  clear b2
  go_wp2
  go_ret
  exact ⟨rfl, B2.out⟩
def SdRel (r : Int) (l : List (Int × Int)) (g : Nat) (n : Nat) (w : World) (m i : Value) (wr : World) : Prop :=
  ∃ (k : Nat) (v : Value) (st : Int) (L : List Sm), k ≤ n ∧ i = .int .i64 k ∧ m = .int .i64 st ∧ Hid (CkO wr g v ⟨r, 2, st, false, L⟩) ∧ Hid (Below w.heap.size w wr) ∧ Hid (∀ k, v.ownBlock = some k → w.heap.size ≤ k) ∧ Hid (L.length ≤ 8 ∧ 0 ≤ st ∧ st ≤ k ∧ ∀ s ∈ L, GoodS l r s)
def SiRel (n : Nat) (w9 : World) (i : Value) (wr : World) : Prop := ∃ k : Nat, k ≤ n ∧ i = .int .i64 k ∧ Hid (Below w9.heap.size w9 wr)
set_option maxHeartbeats 4000000 in
set_option maxRecDepth 100000 in
theorem snd_any2 (r : Int) (x y : Option Addr) (xc yc : Nat) (l : List (Int × Int)) (T : List Sm) (w : World) (hx : PairRow w x l) (hy : QuadRow w y T) (hl : l.length ≤ 30) (ht : T.length ≤ 30) (h1 : 0 ≤ r) (h2 : r ≤ 100000) (ho : okAll r l) (hs : ∀ p ∈ l, InT p)
    (C : Hid (∀ W, Below w.heap.size w W → Calls Try.prog 21 #[.int .i64 r, .slice x l.length xc] W (Gives (.bool true) W))) :
    Calls Try.prog 4 #[.int .i64 r, .slice x l.length xc, .slice y T.length yc] w fun e w' => e = .returned (.bool true) ∧ Below w.heap.size w w' := by
  have CN := Lib.hid fun W => cknew_any r 2 W (by unfold newOk; omega)
  have HX := Lib.hid hx
  have HY := Lib.hid hy
  have HL := Lib.hid hl
  have HT := Lib.hid ht
  have HH := Lib.hid (And.intro h1 (And.intro h2 (And.intro ho hs)))
  have d1 : decide ((30 : Int) < (l.length : Int)) = false := decide_eq_false (by omega)
  have d2 : decide ((30 : Int) < (T.length : Int)) = false := decide_eq_false (by omega)
  clear hx hy hl ht h1 h2 ho hs
  go_enter Try.func4, Try.ntmps4
  go_wp2_with fail
  refine (alive_any _).mono ?_
  rintro _ w1 ⟨rfl, b1⟩
  have B1 := Lib.hid b1
  clear b1
  go_wp2_with fail
  refine (C.out _ B1.out).mono ?_
  rintro _ w2 ⟨rfl, b2⟩
  have B2 := Lib.hid (B1.out.trans (b2.mono B1.out.size))
  clear b2 B1 C
  go_wp2_with fail
  refine (CN.out _).mono ?_
  rintro _ w3 ⟨g, rfl, hg, hC, b3⟩
  have START : Hid (SdRel r l g T.length w (.int .i64 0) (.int .i64 0) w3) := Lib.hid ⟨0, .slice none 0 0, 0, [], Nat.zero_le _, rfl, rfl, Lib.hid hC, Lib.hid (B2.out.trans (b3.mono B2.out.size)), Lib.hid fun k hk => by simp [Value.ownBlock] at hk, Lib.hid ⟨by simp, Int.le_refl _, Int.le_refl _, fun s hs => by simp at hs⟩⟩
  have GB : Hid (w.heap.size ≤ g) := Lib.hid (Nat.le_trans B2.out.size hg)
  clear hg hC b3 B2 CN
  go_wp2
  go_loopw [9, 10] (fun m i wr => SdRel r l g T.length w m i wr) (fun _ i _ => T.length - (intOf i).toNat)
  case atStart => exact START.out
  case round =>
    obtain ⟨k, v, st, L, hk, rfl, rfl, HC, BB, VV, LL⟩ := hrel
    clear START
    obtain ⟨v0, hv0⟩ : ∃ x, x = wr := ⟨_, rfl⟩
    subst hv0
    by_cases hlt : k < T.length
    · have HLT := Lib.hid hlt
      obtain ⟨b, off, rfl, q1, q2, q3, q4⟩ := (HY.out.below BB.out) k hlt
      have hkk : (k : Int) < (T.length : Int) := by omega
      have hk0 : (0 : Int) ≤ (k : Int) := by omega
      have e2 : wrap64 ((k : Int) + 1) = (k : Int) + 1 := IntWalk.wrap64_in _ (by have := HT.out; omega)
      obtain ⟨⟨tg, ts, ta, tb⟩, hs⟩ : ∃ s, T.getD k smZ = s := ⟨_, rfl⟩
      rw [hs] at q1 q2 q3 q4
      dsimp only at q1 q2 q3 q4
      have CM := Lib.hid (made_any x xc l tg ts ta tb v0 (HX.out.below BB.out) (by have := HL.out; omega) HH.out.2.2.2)
      unfold MadeOut at CM
      have GM := Lib.hid (fun h => good_made HH.out.1 HH.out.2.1 HH.out.2.2.1 HH.out.2.2.2 (g := tg) (s := ts) (ah := ta) (be := tb) h)
      generalize madeS l tg ts ta tb = S at *
      obtain ⟨sa, sg, ss, sc⟩ := S
      dsimp only at CM
      clear hlt hk hs
      cases hok : madeB l tg ts ta tb
      · rw [hok] at CM
        clear GM hok
        go_wp2_with fail
        refine CM.out.mono ?_
        rintro _ w5 ⟨rfl, b5⟩
        have bb := b5.trans ((one_alloc w5 (.cells #[.int .i64 sa, .int .i64 sg, .int .i64 ss, .int .i64 sc] 33)).mono b5.size)
        have FF : Hid (SdRel r l g T.length w (.int .i64 st) (.int .i64 ((k : Int) + 1)) (w5.alloc (.cells #[.int .i64 sa, .int .i64 sg, .int .i64 ss, .int .i64 sc] 33))) := Lib.hid ⟨k + 1, v, st, L, HLT.out, rfl, rfl, Lib.hid (HC.out.below bb), Lib.hid (BB.out.trans (bb.mono BB.out.size)), VV, Lib.hid ⟨LL.out.1, LL.out.2.1, by have := LL.out.2.2.1; omega, LL.out.2.2.2⟩⟩
        clear b5 bb CM HC BB VV LL q1 q2 q3 q4
        go_wp2
        go_roundw
        case rel => (try rw [e2]); exact FF.out
        case measure => have := HLT.out; (try rw [e2]); simp [intOf]; omega
      · obtain ⟨hgs, hgp⟩ := GM.out hok
        rw [hok] at CM
        clear GM hok
        obtain ⟨hadd, hgl⟩ := good_add LL.out.2.2.2 hgs hgp HH.out.2.2.2 LL.out.1 LL.out.2.1 LL.out.2.2.1 (by have := HLT.out; have := HT.out; omega)
        have hL2 := pushL_len (s := (sa, sg, ss, sc)) LL.out.1
        have hrs : rgtS (sa, sg, ss, sc) = true := hgs.1
        have e3 : wrap64 (st + 1) = st + 1 := IntWalk.wrap64_in _ (by have := LL.out.2; have := HLT.out; have := HT.out; omega)
        generalize pushL L (sa, sg, ss, sc) = L' at *
        have HA := Lib.hid hadd
        have HGL := Lib.hid hgl
        have CR := Lib.hid (fun W => srgt_any sa sg ss sc W)
        rw [hrs] at CR
        clear hadd hgl hgs hgp hrs
        go_wp2_with fail
        refine CM.out.mono ?_
        rintro _ w5 ⟨rfl, b5⟩
        have bb := b5.trans ((one_alloc w5 (.cells #[.int .i64 sa, .int .i64 sg, .int .i64 ss, .int .i64 sc] 33)).mono b5.size)
        have HC5 := Lib.hid (HC.out.below bb)
        have B5 := Lib.hid (BB.out.trans (bb.mono BB.out.size))
        have T11 : Hid (KA (w5.alloc (.cells #[.int .i64 sa, .int .i64 sg, .int .i64 ss, .int .i64 sc] 33)) g v w5.heap.size #[.int .i64 sa, .int .i64 sg, .int .i64 ss, .int .i64 sc] 33) := Lib.hid (KA.new (HC.out.below b5))
        clear b5 bb CM HC BB q1 q2 q3 q4
        go_upto_region 13 with fail
        generalize w5.alloc (.cells #[.int .i64 sa, .int .i64 sg, .int .i64 ss, .int .i64 sc] 33) = W5 at *
        generalize w5.heap.size = k11 at *
        obtain ⟨y1, y2, y3, y4, -⟩ := T11.out.1.four
        go_wp2_with fail
        refine (CR.out _).mono ?_
        rintro _ w6 ⟨rfl, b6⟩
        have HC6 := Lib.hid (HC5.out.below b6)
        have B6 := Lib.hid (B5.out.trans (b6.mono B5.out.size))
        have T12 := Lib.hid (T11.out.next b6)
        clear b6 HC5 B5 T11 CR y1 y2 y3 y4
        obtain ⟨y1, y2, y3, y4, -⟩ := T12.out.1.four
        go_wp2_with fail
        refine (al_add g v _ _ sa sg ss sc 0 w6 HC6.out LL.out.1 (by unfold InI; have := LL.out.2; have := HLT.out; have := HT.out; show -9223372036854775808 ≤ st ∧ st ≤ 9223372036854775807; omega) HA.out).mono ?_
        rintro _ w7 ⟨v7, rfl, h7, k7, f7⟩
        have HC7 := Lib.hid h7
        have B7 : Hid (Below w.heap.size w w7) := Lib.hid (B6.out.trans (k7.out B6.out.size GB.out VV.out))
        have V7 : Hid (∀ k, v7.ownBlock = some k → w.heap.size ≤ k) := Lib.hid fun k hk => by
          rcases f7 k hk with h | h
          · exact VV.out k h
          · have := B6.out.size; omega
        have L7 : Hid (L'.length ≤ 8 ∧ 1 ≤ L'.length ∧ 0 ≤ st + 1 ∧ st + 1 ≤ (k : Int) + 1) := Lib.hid (by have := LL.out.2; omega)
        clear h7 k7 f7 HC6 B6 T12 VV LL HA hL2 y1 y2 y3 y4
        obtain ⟨st', hst'⟩ : ∃ z, st + 1 = z := ⟨_, rfl⟩
        rw [hst'] at HC7 L7 e3
        go_wp2_with fail
        refine (held_any g v7 _ w7 HC7.out).mono ?_
        rintro _ w8 ⟨rfl, b8⟩
        have HC8 := Lib.hid (HC7.out.below b8)
        have B8 := Lib.hid (B7.out.trans (b8.mono B7.out.size))
        clear b8 HC7 B7
        go_wp2_with fail
        refine (streak_any g v7 _ w8 HC8.out).mono ?_
        rintro _ w9 ⟨rfl, b9⟩
        have HC9 := Lib.hid (HC8.out.below b9)
        have B9 := Lib.hid (B8.out.trans (b9.mono B8.out.size))
        clear b9 HC8 B8
        (try dsimp only)
        have hnn : (st' != st') = false := by simp
        have START2 : Hid (SiRel l.length w9 (.int .i64 0) w9) := Lib.hid ⟨0, Nat.zero_le _, rfl, Lib.hid (Below.refl _ _)⟩
        go_wp2
        go_loopw [13] (fun i wr => SiRel l.length w9 i wr) (fun i _ => l.length - (intOf i).toNat)
        case atStart => exact START2.out
        case round =>
          obtain ⟨j, hj, rfl, BJ⟩ := hrel
          clear START2
          obtain ⟨va, hva⟩ : ∃ x, x = wr := ⟨_, rfl⟩
          subst hva
          by_cases hjt : j < l.length
          · have HJT := Lib.hid hjt
            have hin := HH.out.2.2.2 _ (getD_mem hjt)
            have hat := good_at (st := st') (hd := false) HGL.out (by have := L7.out; omega) (getD_mem hjt) hin
            obtain ⟨b', off', rfl, q1, q2⟩ := (HX.out.below (B9.out.trans (BJ.out.mono B9.out.size))) j hjt
            have hjj : (j : Int) < (l.length : Int) := by omega
            have hj0 : (0 : Int) ≤ (j : Int) := by omega
            have e4 : wrap64 ((j : Int) + 1) = (j : Int) + 1 := IntWalk.wrap64_in _ (by have := HL.out; omega)
            obtain ⟨⟨p, q⟩, hp⟩ : ∃ z, l.getD j (0, 0) = z := ⟨_, rfl⟩
            rw [hp] at q1 q2 hat
            dsimp only at q1 q2 hat
            have CAT := Lib.hid (ckat_any g v7 _ q va (HC9.out.below BJ.out) (by have := L7.out; show L'.length ≤ 1000; omega))
            unfold CkAtOut at CAT
            rw [hat.1] at CAT
            generalize ckG ⟨r, 2, st', false, L'⟩ q = z at *
            obtain ⟨lo, up⟩ := z
            dsimp only at CAT hat
            have CHA := Lib.hid (fun W => has_any lo up p true (decide_eq_true ⟨hat.2.1, hat.2.2⟩) W)
            have FX : Hid (∀ W, Below w9.heap.size w9 W → SiRel l.length w9 (.int .i64 ((j : Int) + 1)) W) := Lib.hid fun W h => ⟨j + 1, hjt, rfl, Lib.hid h⟩
            clear hjt hj hin hat hp
            go_wp2_with fail
            refine CAT.out.mono ?_
            rintro _ wb ⟨rfl, bb⟩
            have bc := bb.trans ((one_alloc wb (.cells #[.int .i64 lo, .int .i64 up] 39)).mono bb.size)
            have KG : Hid (Kept (wb.alloc (.cells #[.int .i64 lo, .int .i64 up] 39)) wb.heap.size #[.int .i64 lo, .int .i64 up] 39) := Lib.hid (Kept.new rfl)
            have BK := Lib.hid (BJ.out.trans (bc.mono BJ.out.size))
            have r1 := keep1 bc q1
            clear bb bc CAT BJ q1 q2
            go_upto_region 21 with fail
            generalize wb.alloc (.cells #[.int .i64 lo, .int .i64 up] 39) = WB at *
            generalize wb.heap.size = k14 at *
            have SS : Hid (Below w9.heap.size w9 WB.drew) ∧ WB.drew.cell? ⟨k14, 0, none⟩ = some (.int .i64 lo) ∧ WB.drew.cell? ⟨k14, 1, none⟩ = some (.int .i64 up) ∧ WB.drew.cell? ⟨b', off' + j * 2, none⟩ = some (.int .i64 p) := ⟨Lib.hid BK.out.drew, KG.out.two.1, KG.out.two.2.1, r1⟩
            clear KG BK r1
            go_region_held3 (fun w' => Hid (Below w9.heap.size w9 w') ∧ w'.cell? ⟨k14, 0, none⟩ = some (.int .i64 lo) ∧ w'.cell? ⟨k14, 1, none⟩ = some (.int .i64 up) ∧ w'.cell? ⟨b', off' + j * 2, none⟩ = some (.int .i64 p))
              (first | exact SS | go_keep)
              (first | (go_at_call 26; refine (CHA.out _).mono ?_; rintro _ wd ⟨rfl, bd⟩; have SS := keepB3 (a := w9) bd SS))
            all_goals
              have FF := Lib.hid (FX.out _ SS.1.out)
              clear SS
              go_wp2
              go_roundw
              case rel => (try rw [e4]); exact FF.out
              case measure => have := HJT.out; (try rw [e4]); simp [intOf]; omega
          · -- @j
            have FF : Hid (SdRel r l g T.length w (.int .i64 st') (.int .i64 ((k : Int) + 1)) va) := Lib.hid ⟨k + 1, v7, st', L', HLT.out, rfl, rfl, Lib.hid (HC9.out.below BJ.out), Lib.hid (B9.out.trans (BJ.out.mono B9.out.size)), V7, Lib.hid ⟨L7.out.1, L7.out.2.2.1, by have := L7.out.2.2.2; omega, HGL.out⟩⟩
            have ej : j = l.length := by omega
            clear hjt hj BJ
            subst ej
            go_wp2
            go_roundw
            case rel => (try rw [e2]); exact FF.out
            case measure => have := HLT.out; (try rw [e2]); simp [intOf]; omega
    · have e : k = T.length := by omega
      have BE := BB
      clear BB hlt hk
      subst e
      go_wp2
      go_ret
      exact ⟨rfl, BE.out⟩
end Go.Proofs.Ytflplliiamodhaa
