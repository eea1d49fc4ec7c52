/- SweepAnswers, walked. -/
import Derived.Test.YtllkdohomkofhaaRefY
import Derived.Test.YtllkdohomkofhaaRefO
import Derived.Test.YtllkdohomkofhaaTurnW
namespace Go.Proofs.Ytllkdohomkofhaa
open Go.RowKit
set_option linter.unusedVariables false
set_option linter.unusedSimpArgs false

theorem answ_out (xa : Option Addr) (n c : Nat) (x f : Int) (w : World) (h : (100 : Int) < (n : Int)) :
    Calls Try.prog 3 #[.slice xa n c, .int .i64 x, .int .i64 f] w fun e w' => e = .returned (.bool true) ∧ Below w.heap.size w w' := by
  go_enter Try.func3, Try.ntmps3
  go_wp2_with fail
  refine (alive_any _).mono ?_
  rintro _ w1 ⟨rfl, b1⟩
  have B1 := Lib.hid b1
  clear b1
  go_wp2
  go_ret
  exact ⟨rfl, B1.out⟩
def AnRel (w : World) (xa : Option Addr) (L : List (Int × Int)) (B0 : Nat) (vo : Value) (g8 g10 g12 g14 : Nat) (lo up x1 x2 : Int) (i : Value) (W : World) : Prop := ∃ k : Nat, k ≤ L.length ∧ i = .int .i64 k ∧ Hid (TS w W xa L B0 vo L) ∧
  Hid (Kept W g8 #[.int .i64 lo, .int .i64 up] 25) ∧ Hid (Kept W g10 #[.int .i64 lo, .int .i64 up] 28) ∧ Hid (Kept W g12 #[.int .i64 x1, .int .i64 x2] 25) ∧ Hid (Kept W g14 #[.int .i64 x1, .int .i64 x2] 28)
set_option maxHeartbeats 4000000 in
theorem answ_any (xa : Option Addr) (c : Nat) (L : List (Int × Int)) (x f : Int) (w : World) (hx : PairRow w xa L) (hxan : xa = none → c = 0) (hin : ∀ p ∈ L, InP p) (hL : L.length ≤ 100) (hfi : InI f) :
    Calls Try.prog 3 #[.slice xa L.length c, .int .i64 x, .int .i64 f] w fun e w' => e = .returned (.bool true) ∧ Below w.heap.size w w' := by
  obtain ⟨i0, hi, hz0, hz1, hz2⟩ := info_parts2 info_gap
  have HX := Lib.hid hx
  have HLL := Lib.hid hL
  have CB : Hid (∀ W a c, PairRow W a L → Calls Try.prog 8 #[.slice a L.length c] W (BestOut L W)) := Lib.hid fun W a c h => best_any a c L W h hin (by omega)
  have RB : Hid (∀ W a c, PairRow W a L → Calls Try.prog 9 #[.slice a L.length c] W (BestOut L W)) := Lib.hid fun W a c h => rbest_any a c L W h hin (by omega)
  have CW : Hid (∀ W a c, PairRow W a L → Calls Try.prog 11 #[.int .i64 f, .slice a L.length c] W (WithOut L f W)) := Lib.hid fun W a c h => without_any a c L f W hfi h hin (by omega)
  have RW : Hid (∀ W a c, PairRow W a L → Calls Try.prog 12 #[.int .i64 f, .slice a L.length c] W (WithOut L f W)) := Lib.hid fun W a c h => rwithout_any f a c L W h hin (by omega)
  have CV : Hid (∀ W, PairRow W xa L → Calls Try.prog 13 #[.int .i64 x, .slice xa L.length c] W (Gives (.int .i64 (votes L x : Int)) W)) := Lib.hid fun W h => votes_any x xa c L W h (by omega)
  have RV : Hid (∀ W a c, PairRow W a L → Calls Try.prog 14 #[.int .i64 x, .slice a L.length c] W (Gives (.int .i64 (votes L x : Int)) W)) := Lib.hid fun W a c h => rvotes_any x a c L W h (by omega)
  have CG : Hid (∀ W, PairRow W xa L → Calls Try.prog 15 #[.slice xa L.length c] W (Gives (.bool (agreeB L)) W)) := Lib.hid fun W h => agree_any xa c L W h (by omega)
  have RG : Hid (∀ W a c, PairRow W a L → Calls Try.prog 16 #[.slice a L.length c] W (Gives (.bool (agreeB L)) W)) := Lib.hid fun W a c h => ragree_any a c L W h hin (by omega)
  have CO : Hid (∀ W, PairRow W xa L → Calls Try.prog 10 #[.slice xa L.length c] W (OfOut L W)) := Lib.hid fun W h => of_any xa c L W h (by omega)
  generalize agreeB L = ag at *
  generalize (votes L x : Int) = V at *
  have h100 : ¬ (100 : Int) < (L.length : Int) := by omega
  have hc1 : 0 + L.length ≤ maxLen := by unfold maxLen; omega
  have hc2 : (0 + L.length) * 16 ≤ 140737488355328 := by omega
  clear hx hin hL hfi
  go_enter Try.func3, Try.ntmps3
  go_wp2_with fail
  refine (alive_any _).mono ?_
  rintro _ w1 ⟨rfl, b1⟩
  have B1 := Lib.hid b1
  have B2 := Lib.hid (B1.out.alloc B1.out.size (.cells #[] 25))
  have E2 : Hid (Below w1.heap.size w1 (w1.alloc (.cells #[] 25))) := Lib.hid (one_alloc _ _)
  have O2 : Hid ((w1.alloc (.cells #[] 25)).ownsRow w1.heap.size 25 2 (.slice (some ⟨w1.heap.size, 0, none⟩) 0 0) 0 []) := Lib.hid (World.ownsRow_made _ #[] 0 (Nat.le_refl _) (by unfold maxLen; omega) rfl)
  have R2 := Lib.hid (HX.out.below B2.out)
  clear b1 B2
  go_upto_region 5 with fail
  go_wp2_with (at_builtin; refine wpList_appendPairs rfl _ _ 22 rfl w1 25 i0 (.agg #[.int .i64 0, .int .i64 0]) 16 Try.underlying22 hi hz0 hz1 hz2 rfl _ _ _ rfl O2.out xa c L rfl hxan R2.out hc1 hc2 E2.out ?_)
  intro v5 w5 o5 b5
  obtain ⟨a, cap, rfl, -, -, -, -, -⟩ := PairRow.own o5
  have S6 : Hid (TS w w5 xa L w1.heap.size (.slice a L.length cap) L) := Lib.hid ⟨Lib.hid (HX.out.below (B1.out.trans (b5.mono B1.out.size))), Lib.hid o5, Lib.hid (B1.out.trans (b5.mono B1.out.size)), B1.out.size, b5.size⟩
  clear O2 E2 R2 B1 o5 b5 hc1 hc2 HX hi hz0 hz1 hz2
  generalize w1.heap.size = B0 at *
  go_wp2_with fail
  refine (CB.out _ _ _ S6.out.row).mono ?_
  rintro _ w6 ⟨⟨lo, up⟩, n, rfl, HP, b6⟩
  have S7x := Lib.hid (S6.out.step b6)
  have S7 := Lib.hid (S7x.out.alloc (.cells #[.int .i64 lo, .int .i64 up] 25))
  have K7 : Hid (Kept (w6.alloc (.cells #[.int .i64 lo, .int .i64 up] 25)) w6.heap.size #[.int .i64 lo, .int .i64 up] 25) := Lib.hid (Kept.new rfl)
  clear b6 S6 S7x CB
  dsimp only
  go_upto_region 7 with fail
  generalize w6.alloc (.cells #[.int .i64 lo, .int .i64 up] 25) = W7 at *
  generalize w6.heap.size = g7 at *
  go_wp2_with fail
  refine (CO.out _ S7.out.1.out).mono ?_
  rintro _ w7 ⟨oa, oc, rfl, HR, b7⟩
  have S8y := Lib.hid (S7.out.step b7)
  have K8y := Lib.hid (K7.out.next b7)
  clear b7 S7 K7
  go_wp2_with fail
  refine (RB.out _ _ _ HR.out).mono ?_
  rintro _ w8 ⟨⟨lo', up'⟩, n', rfl, HQ, b8⟩
  obtain ⟨e1, e2⟩ := best_uniq HQ.out HP.out
  cases e1
  have e3 := e2.symm
  clear e2
  subst e3
  have S8 := Lib.hid ((S8y.out.step b8).alloc (.cells #[.int .i64 lo, .int .i64 up] 28))
  have K8 := Lib.hid ((K8y.out.next b8).alloc (.cells #[.int .i64 lo, .int .i64 up] 28))
  have J8 : Hid (Kept (w8.alloc (.cells #[.int .i64 lo, .int .i64 up] 28)) w8.heap.size #[.int .i64 lo, .int .i64 up] 28) := Lib.hid (Kept.new rfl)
  clear b8 S8y K8y HR RB HP HQ
  dsimp only
  go_upto_region 8 with fail
  generalize w8.alloc (.cells #[.int .i64 lo, .int .i64 up] 28) = W8 at *
  generalize w8.heap.size = g8 at *
  go_wp2_with fail
  refine (CW.out _ _ _ S8.out.row).mono ?_
  rintro _ w9 ⟨⟨⟨x1, x2⟩, xk⟩, rfl, HW, b9⟩
  have S9 := Lib.hid ((S8.out.step b9).alloc (.cells #[.int .i64 x1, .int .i64 x2] 25))
  have K9 := Lib.hid ((K8.out.next b9).alloc (.cells #[.int .i64 x1, .int .i64 x2] 25))
  have J9 := Lib.hid ((J8.out.next b9).alloc (.cells #[.int .i64 x1, .int .i64 x2] 25))
  have M9 : Hid (Kept (w9.alloc (.cells #[.int .i64 x1, .int .i64 x2] 25)) w9.heap.size #[.int .i64 x1, .int .i64 x2] 25) := Lib.hid (Kept.new rfl)
  clear b9 S8 K8 J8 CW
  dsimp only
  go_upto_region 9 with fail
  generalize w9.alloc (.cells #[.int .i64 x1, .int .i64 x2] 25) = W9 at *
  generalize w9.heap.size = g9 at *
  go_wp2_with fail
  refine (CO.out _ S9.out.1.out).mono ?_
  rintro _ wa ⟨ob, od, rfl, HR, ba⟩
  have Sa := Lib.hid (S9.out.step ba)
  have Ka := Lib.hid (K9.out.next ba)
  have Ja := Lib.hid (J9.out.next ba)
  have Ma := Lib.hid (M9.out.next ba)
  clear ba S9 K9 J9 M9
  go_wp2_with fail
  refine (RW.out _ _ _ HR.out).mono ?_
  rintro _ wb ⟨⟨⟨y1, y2⟩, yk⟩, rfl, HV, bb⟩
  have eV := with_uniq HV.out HW.out
  cases eV
  have Sb := Lib.hid ((Sa.out.step bb).alloc (.cells #[.int .i64 x1, .int .i64 x2] 28))
  have Kb := Lib.hid ((Ka.out.next bb).alloc (.cells #[.int .i64 x1, .int .i64 x2] 28))
  have Jb := Lib.hid ((Ja.out.next bb).alloc (.cells #[.int .i64 x1, .int .i64 x2] 28))
  have Mb := Lib.hid ((Ma.out.next bb).alloc (.cells #[.int .i64 x1, .int .i64 x2] 28))
  have Nb : Hid (Kept (wb.alloc (.cells #[.int .i64 x1, .int .i64 x2] 28)) wb.heap.size #[.int .i64 x1, .int .i64 x2] 28) := Lib.hid (Kept.new rfl)
  clear bb Sa Ka Ja Ma HR RW HV HW
  dsimp only
  go_upto_region 10 with fail
  generalize wb.alloc (.cells #[.int .i64 x1, .int .i64 x2] 28) = Wb at *
  generalize wb.heap.size = gb at *
  go_wp2
  go_loopw [16] (fun i W => AnRel w xa L B0 (.slice a L.length cap) g7 g8 g9 gb lo up x1 x2 i W) (fun i _ => L.length - (intOf i).toNat)
  case atStart => exact ⟨0, Nat.zero_le _, rfl, Sb, Kb, Jb, Mb, Nb⟩
  case round =>
    clear Sb Kb Jb Mb Nb
    obtain ⟨k, hk, rfl, SS, K1, J1, M1, N1⟩ := hrel
    by_cases hlt : k < L.length
    · have HLT := Lib.hid hlt
      obtain ⟨b, off, rfl, q1, q2⟩ := SS.out.1.out k hlt
      obtain ⟨b', off', rfl, r1, r2⟩ := SS.out.row k hlt
      have hkk : (k : Int) < (L.length : Int) := by omega
      have hk0 : (0 : Int) ≤ (k : Int) := by omega
      have hll := HLL.out
      obtain ⟨⟨p, q⟩, hpq⟩ : ∃ pq, L.getD k (0, 0) = pq := ⟨_, rfl⟩
      rw [hpq] at q1 q2 r1 r2
      dsimp only at q1 q2 r1 r2
      have e2 : wrap64 ((k : Int) + 1) = (k : Int) + 1 := IntWalk.wrap64_in _ (by omega)
      have hne := fun W => g_neq_self p q W
      have F : Hid (∀ W, Below wr.heap.size wr W → AnRel w (some ⟨b, off, none⟩) L B0 (.slice (some ⟨b', off', none⟩) L.length cap) g7 g8 g9 gb lo up x1 x2 (.int .i64 ((k : Int) + 1)) W) := Lib.hid fun W h => ⟨k + 1, hlt, rfl, Lib.hid (SS.out.step h), Lib.hid (K1.out.next h), Lib.hid (J1.out.next h), Lib.hid (M1.out.next h), Lib.hid (N1.out.next h)⟩
      clear hll hlt hk hpq
      go_upto_region 13 with fail
      go_quiet (fail)
      have GG := Lib.hid (F.out (wr.drewN nq) (below_drewN (Below.refl _ _) nq))
      clear F
      go_wp2
      go_roundw
      case rel => (try rw [e2]); exact GG.out
      case measure => have := HLT.out; (try rw [e2]); simp [intOf]; omega
    · obtain rfl : k = L.length := by omega
      have hnn : (n == n) = true := by simp
      have hll : (lo == lo) = true := by simp
      have huu : (up == up) = true := by simp
      have hkk : (xk == xk) = true := by simp
      have h11 : (x1 == x1) = true := by simp
      have h22 : (x2 == x2) = true := by simp
      have hvv : (V == V) = true := by simp
      have haa : (ag == ag) = true := by simp
      clear hlt hk
      obtain ⟨k1, k2, k3, k4, k5⟩ := K1.out.two
      obtain ⟨j1, j2, j3, j4, j5⟩ := J1.out.two
      obtain ⟨m1, m2, m3, m4, m5⟩ := M1.out.two
      obtain ⟨n1, n2, n3, n4, n5⟩ := N1.out.two
      go_upto_region 15 with fail
      go_wp2_with fail
      refine (CV.out _ SS.out.1.out).mono ?_
      rintro _ wc ⟨rfl, bc⟩
      have Sc := Lib.hid (SS.out.step bc)
      clear bc SS K1 J1 M1 N1 k1 k2 k3 k4 k5 j1 j2 j3 j4 j5 m1 m2 m3 m4 m5 n1 n2 n3 n4 n5 CV
      go_wp2_with fail
      refine (CO.out _ Sc.out.1.out).mono ?_
      rintro _ wd ⟨oe, of', rfl, HR, bd⟩
      have Sd := Lib.hid (Sc.out.step bd)
      clear bd Sc
      go_wp2_with fail
      refine (RV.out _ _ _ HR.out).mono ?_
      rintro _ we ⟨rfl, be⟩
      have Se := Lib.hid (Sd.out.step be)
      clear be Sd HR RV
      go_wp2_with fail
      refine (CG.out _ Se.out.1.out).mono ?_
      rintro _ wf ⟨rfl, bf⟩
      have Sf := Lib.hid (Se.out.step bf)
      clear bf Se CG
      go_wp2_with fail
      refine (CO.out _ Sf.out.1.out).mono ?_
      rintro _ wg ⟨og, oh, rfl, HR, bg⟩
      have Sg := Lib.hid (Sf.out.step bg)
      clear bg Sf CO
      go_wp2_with fail
      refine (RG.out _ _ _ HR.out).mono ?_
      rintro _ wh ⟨rfl, bh⟩
      have Bh := Lib.hid (Sg.out.step bh).2.2.1
      clear bh Sg HR RG
      go_wp2
      go_ret
      exact ⟨rfl, Bh.out.out⟩
end Go.Proofs.Ytllkdohomkofhaa
