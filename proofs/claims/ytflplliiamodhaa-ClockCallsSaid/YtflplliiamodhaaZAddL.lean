import Derived.Test.YtflplliiamodhaaZClkJ
/- noonmarklaw18.alive. -/
namespace Go.Proofs.Ytflplliiamodhaa
open Go.RowKit
set_option linter.unusedVariables false
set_option linter.unusedSimpArgs false

theorem g_eql_self (a b : Int) (w : World) : (binOp .eql 39 (.agg #[.int .i64 a, .int .i64 b]) (.agg #[.int .i64 a, .int .i64 b])).run Try.prog w = .ok (.bool true) w := by
  simp [go_sem]
def A1c : Array Value := #[.int .i64 100, .int .i64 7, .int .i64 9, .int .i64 110]
theorem al_sat (W : World) : Calls Try.prog 29 #[.agg #[.int .i64 100, .int .i64 7, .int .i64 9, .int .i64 110], .int .i64 9, .int .i64 0] W (Gives (.tuple #[.agg #[.int .i64 101, .int .i64 111], .int .i64 0]) W) :=
  (at_any 100 7 9 110 9 0 W).mono fun e w' h => by
    unfold AtOut at h
    rw [show atG (100, 7, 9, 110) 9 0 = (101, 111) from al_at.1, show atE (100, 7, 9, 110) 9 0 = 0 from al_at.2] at h
    exact h
theorem al_ckat (g : Nat) (v : Value) (c : Ck) (lo hi er : Int) (W : World) (h : CkO W g v c) (hl : c.L.length ≤ 8) (hG : ckG c 9 = (lo, hi)) (hE : ckE c 9 = er) : Calls Try.prog 16 #[.pointer (some ⟨g, 0, none⟩), .int .i64 9] W (Gives (.tuple #[.agg #[.int .i64 lo, .int .i64 hi], .int .i64 er]) W) :=
  (ckat_any g v c 9 W h (by omega)).mono fun e w' h => by
    unfold CkAtOut at h
    rw [hG, hE] at h
    exact h
theorem al_add (g : Nat) (v : Value) (c c' : Ck) (a gg ss cc er : Int) (W : World) (h : CkO W g v c) (hl : c.L.length ≤ 8) (hs : InI c.streak) (hA : addC c (a, gg, ss, cc) = (er, c')) : Calls Try.prog 12 #[.pointer (some ⟨g, 0, none⟩), .agg #[.int .i64 a, .int .i64 gg, .int .i64 ss, .int .i64 cc]] W fun e w' => ∃ v', e = .returned (.int .i64 er) ∧ CkO w' g v' c' ∧ KpC g v W w' ∧ Fr v v' W :=
  (ckadd_any g v c a gg ss cc W h hl hs).mono fun e w' h => by
    unfold AddOut at h
    rw [hA] at h
    exact h
set_option maxHeartbeats 4000000 in
set_option maxRecDepth 100000 in
theorem alive_any (w : World) : Calls Try.prog 9 #[] w (Gives (.bool true) w) := by
  have hgg := fun W => g_eql_self 101 111 W
  have T1 : Hid (Kept (w.alloc (.cells #[.int .i64 100, .int .i64 7, .int .i64 9, .int .i64 110] 33)) w.heap.size #[.int .i64 100, .int .i64 7, .int .i64 9, .int .i64 110] 33) := Lib.hid (Kept.new rfl)
  have B1 : Hid (Below w.heap.size w (w.alloc (.cells #[.int .i64 100, .int .i64 7, .int .i64 9, .int .i64 110] 33))) := Lib.hid (one_alloc _ _)
  go_enter Try.func9, Try.ntmps9
  go_wp2_with fail
  refine (al_sat _).mono ?_
  rintro _ w1 ⟨rfl, b1⟩
  have T1x := Lib.hid ((T1.out.next b1).alloc (.cells #[.int .i64 101, .int .i64 111] 39))
  have T2 : Hid (Kept (w1.alloc (.cells #[.int .i64 101, .int .i64 111] 39)) w1.heap.size #[.int .i64 101, .int .i64 111] 39) := Lib.hid (Kept.new rfl)
  have B2x := Lib.hid (B1.out.trans (b1.mono B1.out.size))
  have B2 := Lib.hid (B2x.out.alloc B2x.out.size (.cells #[.int .i64 101, .int .i64 111] 39))
  clear b1 T1 B1 B2x
  go_upto_region 3 with fail
  generalize hW2 : w1.alloc (.cells #[.int .i64 101, .int .i64 111] 39) = W2 at *
  clear hW2
  generalize w1.heap.size = k2 at *
  obtain ⟨k1, hk1⟩ : ∃ k1, w.heap.size = k1 := ⟨_, rfl⟩
  rw [hk1] at T1x
  (try rw [hk1])
  have HK1 := Lib.hid hk1
  clear hk1
  go_wp2_with fail
  refine (cknew_any 0 1 W2 (by unfold newOk; decide)).mono ?_
  rintro _ w3 ⟨g, rfl, hg, hC, b3⟩
  have HC : Hid (CkO w3 g (.slice none 0 0) ⟨0, 1, 0, false, []⟩) := Lib.hid hC
  have GB : Hid (w.heap.size ≤ g) := Lib.hid (Nat.le_trans B2.out.size hg)
  have B3 := Lib.hid (B2.out.trans (b3.mono B2.out.size))
  have N1 : Hid (KA w3 g (.slice none 0 0) k1 #[.int .i64 100, .int .i64 7, .int .i64 9, .int .i64 110] 33) := Lib.hid ⟨T1x.out.next b3, by have := T1x.out.lt; omega, by simp [Value.ownBlock], (T1x.out.next b3).lt⟩
  have N2 : Hid (KA w3 g (.slice none 0 0) k2 #[.int .i64 101, .int .i64 111] 39) := Lib.hid ⟨T2.out.next b3, by have := T2.out.lt; omega, by simp [Value.ownBlock], (T2.out.next b3).lt⟩
  clear hg hC b3 B2 T1x T2
  go_wp2_with fail
  refine (al_ckat g _ _ 0 0 19 w3 HC.out (by decide) al_none.2 al_none.1).mono ?_
  rintro _ w4 ⟨rfl, b4⟩
  have bb := b4.trans ((one_alloc w4 (.cells #[.int .i64 0, .int .i64 0] 39)).mono b4.size)
  have HC4 := Lib.hid (HC.out.below bb)
  have B4 := Lib.hid (B3.out.trans (bb.mono B3.out.size))
  have N14 := Lib.hid (N1.out.next bb)
  have N24 := Lib.hid (N2.out.next bb)
  clear b4 bb HC B3 N1 N2
  go_upto_region 7 with fail
  generalize hW4 : w4.alloc (.cells #[.int .i64 0, .int .i64 0] 39) = W4 at *
  clear hW4
  generalize w4.heap.size = k6 at *
  obtain ⟨x1, x2, x3, x4, -⟩ := N14.out.1.four
  go_wp2_with fail
  refine (al_add g _ _ _ 100 7 9 110 0 W4 HC4.out (by decide) (by unfold InI; decide) al_a1).mono ?_
  rintro _ w5 ⟨v5, rfl, hC5, kp5, fr5⟩
  have HC5 := Lib.hid hC5
  have B5 : Hid (Below w.heap.size w w5) := Lib.hid (B4.out.trans (kp5.out B4.out.size GB.out (fun k hk => by simp [Value.ownBlock] at hk)))
  have V5 : Hid (∀ k, v5.ownBlock = some k → w.heap.size ≤ k) := Lib.hid fun k hk => by
    rcases fr5 k hk with h1 | h1
    · simp [Value.ownBlock] at h1
    · have := B4.out.size; omega
  have N15 := Lib.hid (N14.out.add kp5 fr5)
  have N25 := Lib.hid (N24.out.add kp5 fr5)
  clear hC5 kp5 fr5 HC4 B4 N14 N24 x1 x2 x3 x4
  go_wp2_with fail
  refine (al_ckat g _ _ 101 111 0 w5 HC5.out (by decide) al_h1 al_e1).mono ?_
  rintro _ w6 ⟨rfl, b6⟩
  have N9 : Hid (KA (w6.alloc (.cells #[.int .i64 101, .int .i64 111] 39)) g v5 w6.heap.size #[.int .i64 101, .int .i64 111] 39) := Lib.hid (KA.new (HC5.out.below b6))
  have bb := b6.trans ((one_alloc w6 (.cells #[.int .i64 101, .int .i64 111] 39)).mono b6.size)
  have HC6 := Lib.hid (HC5.out.below bb)
  have B6 := Lib.hid (B5.out.trans (bb.mono B5.out.size))
  have N16 := Lib.hid (N15.out.next bb)
  have N26 := Lib.hid (N25.out.next bb)
  clear b6 bb HC5 B5 N15 N25
  go_upto_region 9 with fail
  generalize hW6 : w6.alloc (.cells #[.int .i64 101, .int .i64 111] 39) = W6 at *
  clear hW6
  generalize w6.heap.size = k9 at *
  go_wp2_with fail
  refine (ckpoint_any g v5 _ 9 W6 HC6.out (by decide)).mono ?_
  rw [al_p1, al_e1]
  rintro _ w7 ⟨rfl, b7⟩
  have HC7 := Lib.hid (HC6.out.below b7)
  have B7 := Lib.hid (B6.out.trans (b7.mono B6.out.size))
  have N17 := Lib.hid (N16.out.next b7)
  have N27 := Lib.hid (N26.out.next b7)
  have N97 := Lib.hid (N9.out.next b7)
  clear b7 HC6 B6 N16 N26 N9
  go_wp2_with fail
  refine (ckclone_any g v5 _ w7 HC7.out (by decide)).mono ?_
  rintro _ w8 ⟨gx, vx, rfl, hgx, hvx, hCx, b8⟩
  have HC8 := Lib.hid (HC7.out.below b8)
  have B8 := Lib.hid (B7.out.trans (b8.mono B7.out.size))
  have N18 := Lib.hid (N17.out.next b8)
  have N28 := Lib.hid (N27.out.next b8)
  have N98 := Lib.hid (N97.out.next b8)
  have X8 : Hid (CA w8 g v5 gx vx ⟨0, 1, 1, false, [S1]⟩) := Lib.hid ⟨hCx, Ap.fresh HC7.out hgx hCx.lt.1, fun k hk => Ap.fresh HC7.out (hvx k hk) (hCx.lt.2 k hk)⟩
  clear hgx hvx hCx b8 HC7 B7 N17 N27 N97
  go_wp2_with fail
  refine (al_add g v5 _ _ 300 9 9 301 21 w8 HC8.out (by decide) (by unfold InI; decide) al_a2).mono ?_
  rintro _ w9 ⟨v9, rfl, hC9, kp9, fr9⟩
  have HC9 := Lib.hid hC9
  have B9 : Hid (Below w.heap.size w w9) := Lib.hid (B8.out.trans (kp9.out B8.out.size GB.out V5.out))
  have V9 : Hid (∀ k, v9.ownBlock = some k → w.heap.size ≤ k) := Lib.hid fun k hk => by
    rcases fr9 k hk with h1 | h1
    · exact V5.out k h1
    · have := B8.out.size; omega
  have N19 := Lib.hid (N18.out.add kp9 fr9)
  have N29 := Lib.hid (N28.out.add kp9 fr9)
  have N99 := Lib.hid (N98.out.add kp9 fr9)
  have X9 := Lib.hid (X8.out.add kp9 fr9)
  clear hC9 kp9 fr9 HC8 B8 N18 N28 N98 X8 V5
  go_wp2_with fail
  refine (held_any g v9 _ w9 HC9.out).mono ?_
  rintro _ wa ⟨rfl, ba⟩
  have HCa := Lib.hid (HC9.out.below ba)
  have Ba := Lib.hid (B9.out.trans (ba.mono B9.out.size))
  have N1a := Lib.hid (N19.out.next ba)
  have N2a := Lib.hid (N29.out.next ba)
  have N9a := Lib.hid (N99.out.next ba)
  have Xa := Lib.hid (X9.out.next ba)
  clear ba HC9 B9 N19 N29 N99 X9
  go_wp2_with fail
  refine (samples_any g v9 _ wa HCa.out (by decide)).mono ?_
  rintro _ wb ⟨ar, cr, rfl, ob, bb⟩
  have HCb := Lib.hid (HCa.out.below bb)
  have Bb := Lib.hid (Ba.out.trans (bb.mono Ba.out.size))
  have N1b := Lib.hid (N1a.out.next bb)
  have N2b := Lib.hid (N2a.out.next bb)
  have N9b := Lib.hid (N9a.out.next bb)
  have Xb := Lib.hid (Xa.out.next bb)
  have Ob : Hid (OA wb g v9 (.slice ar 1 cr) [S2]) := Lib.hid ⟨owns_base (Nat.zero_le _) ob, fun k hk => Ap.fresh HCa.out (ob.lt k hk).1 (ob.lt k hk).2⟩
  clear ob bb HCa Ba N1a N2a N9a Xa
  go_wp2_with fail
  refine (al_add g v9 _ _ 310 19 19 311 0 wb HCb.out (by decide) (by unfold InI; decide) al_a3).mono ?_
  rintro _ wc ⟨vc, rfl, hCc, kpc, frc⟩
  have HCc := Lib.hid hCc
  have Bc : Hid (Below w.heap.size w wc) := Lib.hid (Bb.out.trans (kpc.out Bb.out.size GB.out V9.out))
  have Vc : Hid (∀ k, vc.ownBlock = some k → w.heap.size ≤ k) := Lib.hid fun k hk => by
    rcases frc k hk with h1 | h1
    · exact V9.out k h1
    · have := Bb.out.size; omega
  have N1c := Lib.hid (N1b.out.add kpc frc)
  have N2c := Lib.hid (N2b.out.add kpc frc)
  have N9c := Lib.hid (N9b.out.add kpc frc)
  have Xc := Lib.hid (Xb.out.add kpc frc)
  have Oc := Lib.hid (Ob.out.add kpc frc)
  clear hCc kpc frc HCb Bb N1b N2b N9b Xb Ob V9
  obtain ⟨x1, x2, -⟩ := N2c.out.1.two
  obtain ⟨y1, y2, -⟩ := N9c.out.1.two
  obtain ⟨ar', cr', er, -, -, -, -, qr⟩ := QuadRow.own Oc.out.1
  cases er
  obtain ⟨br, offr, rfl, z1, -⟩ := qr 0 (by decide)
  rw [Nat.zero_mul, Nat.add_zero] at z1
  have z1' : wc.cell? ⟨br, offr, none⟩ = some (.int .i64 300) := z1
  clear z1 qr Oc
  go_wp2_with fail
  refine (held_any g vc _ wc HCc.out).mono ?_
  rintro _ wd ⟨rfl, bd⟩
  have HCd := Lib.hid (HCc.out.below bd)
  have Bd := Lib.hid (Bc.out.trans (bd.mono Bc.out.size))
  have N1d := Lib.hid (N1c.out.next bd)
  have Xd := Lib.hid (Xc.out.next bd)
  clear bd HCc Bc N1c Xc N2c N9c x1 x2 y1 y2 z1'
  go_wp2_with fail
  refine (streak_any g vc _ wd HCd.out).mono ?_
  rintro _ we ⟨rfl, be⟩
  have HCe := Lib.hid (HCd.out.below be)
  have Be := Lib.hid (Bd.out.trans (be.mono Bd.out.size))
  have N1e := Lib.hid (N1d.out.next be)
  have Xe := Lib.hid (Xd.out.next be)
  obtain ⟨x1, x2, x3, x4, -⟩ := N1e.out.1.four
  clear be HCd Bd N1d Xd
  go_wp2_with fail
  refine (srgt_any 100 7 9 110 we).mono ?_
  rw [show rgtS (100, 7, 9, 110) = true by decide +kernel]
  rintro _ wf ⟨rfl, bf⟩
  have HCf := Lib.hid (HCe.out.below bf)
  have Bf := Lib.hid (Be.out.trans (bf.mono Be.out.size))
  have N1f := Lib.hid (N1e.out.next bf)
  have Xf := Lib.hid (Xe.out.next bf)
  clear x1 x2 x3 x4
  obtain ⟨x1, x2, x3, x4, -⟩ := N1f.out.1.four
  clear bf HCe Be N1e Xe
  go_wp2_with fail
  refine (trip_any 100 7 9 110 wf).mono ?_
  rw [show tripS (100, 7, 9, 110) = 8 by decide +kernel]
  rintro _ wg ⟨rfl, bg⟩
  have HCg := Lib.hid (HCf.out.below bg)
  have Bg := Lib.hid (Bf.out.trans (bg.mono Bf.out.size))
  have N1g := Lib.hid (N1f.out.next bg)
  have Xg := Lib.hid (Xf.out.next bg)
  clear bg HCf Bf N1f Xf x1 x2 x3 x4
  go_wp2_with fail
  refine (held_any gx vx _ wg Xg.out.1).mono ?_
  rintro _ wh ⟨rfl, bh⟩
  have HCh := Lib.hid (HCg.out.below bh)
  have Bh := Lib.hid (Bg.out.trans (bh.mono Bg.out.size))
  have N1h := Lib.hid (N1g.out.next bh)
  have Xh := Lib.hid (Xg.out.next bh)
  clear bh HCg Bg N1g Xg
  go_wp2_with fail
  refine (streak_any gx vx _ wh Xh.out.1).mono ?_
  rintro _ wi ⟨rfl, bi⟩
  have HCi := Lib.hid (HCh.out.below bi)
  have Bi := Lib.hid (Bh.out.trans (bi.mono Bh.out.size))
  have N1i := Lib.hid (N1h.out.next bi)
  obtain ⟨x1, x2, x3, x4, -⟩ := N1i.out.1.four
  clear bi HCh Bh N1h Xh
  have bj := one_alloc wi (.cells #[.int .i64 100, .int .i64 7, .int .i64 9, .int .i64 110] 33)
  have HCj := Lib.hid (HCi.out.below bj)
  have Bj := Lib.hid (Bi.out.trans (bj.mono Bi.out.size))
  have KJ : Kept (wi.alloc (.cells #[.int .i64 100, .int .i64 7, .int .i64 9, .int .i64 110] 33)) wi.heap.size #[.int .i64 100, .int .i64 7, .int .i64 9, .int .i64 110] 33 := Kept.new rfl
  have CS := Lib.hid (ckset_any g vc _ true 0 (some ⟨wi.heap.size, 0, none⟩) 1 [S1] _ HCj.out (fun j hj => by
    have : j = 0 := by simpa using hj
    subst this
    exact ⟨wi.heap.size, 0, rfl, KJ.four.1, KJ.four.2.1, KJ.four.2.2.1, KJ.four.2.2.2.1⟩) (fun e => by cases e) (fun b o e => by
      cases e
      have := HCi.out.lt.1
      omega) (by decide) (by decide) (fun s hs => by
      have : s = S1 := by simpa using hs
      subst this
      decide +kernel))
  clear bj KJ
  go_wp2_with fail
  refine CS.out.mono ?_
  rintro _ wk ⟨vk, rfl, hCk, kpk, frk⟩
  have HCk := Lib.hid hCk
  have Bk : Hid (Below w.heap.size w wk) := Lib.hid (Bj.out.trans (kpk.out Bj.out.size GB.out Vc.out))
  clear hCk kpk frk CS x1 x2 x3 x4 HCi Bi
  go_wp2_with fail
  refine (held_any g vk _ wk HCk.out).mono ?_
  rintro _ wl ⟨rfl, bl⟩
  have Bl := Lib.hid (Bk.out.trans (bl.mono Bk.out.size))
  clear bl
  go_wp2
  go_ret
  exact ⟨rfl, Bl.out⟩
end Go.Proofs.Ytflplliiamodhaa

/- What holds of a clock behind each Add. -/
namespace Go.Proofs.Ytflplliiamodhaa
open Go.RowKit
set_option linter.unusedVariables false

/-- a clock of a law: its samples are right, and not too many -/
def CkOk (r t : Int) (k : Nat) (c : Ck) : Prop := c.rho = r ∧ c.need = t ∧ c.L.length ≤ 8 ∧ 0 ≤ c.streak ∧ c.streak ≤ k ∧ ∀ s ∈ c.L, rgtS s = true
theorem pushL_mem {L : List Sm} {s x : Sm} (h : x ∈ pushL L s) : x ∈ L ∨ x = s := by
  have key : x ∈ L ++ [s] := by
    unfold pushL at h
    split at h
    · exact List.mem_of_mem_drop h
    · exact h
  simpa using key
theorem CkOk.add {r t : Int} {k : Nat} {c : Ck} (h : CkOk r t k c) (hk : k ≤ 1000) (s : Sm) : CkOk r t (k + 1) (addC c s).2 := by
  obtain ⟨h1, h2, h3, h4, h5, h6⟩ := h
  cases hr : rgtS s
  · rw [addC_no hr]
    exact ⟨h1, h2, h3, h4, by show c.streak ≤ ((k + 1 : Nat) : Int); omega, h6⟩
  · cases hag : agreeB (gapsS (pushL c.L s) s.2.2.1 c.rho)
    · rw [addC_un hr hag]
      refine ⟨h1, h2, ?_, Int.le_refl _, by show (0 : Int) ≤ ((k + 1 : Nat) : Int); omega, fun x hx => ?_⟩
      · dsimp only; split <;> simp
      · dsimp only at hx
        split at hx
        · have : x = s := by simpa using hx
          rw [this]; exact hr
        · simp at hx
    · rw [addC_yes hr hag]
      have hu : upS c.streak = c.streak + 1 := if_pos (by omega)
      refine ⟨h1, h2, (pushL_len h3).2, by show 0 ≤ upS c.streak; rw [hu]; omega, by show upS c.streak ≤ ((k + 1 : Nat) : Int); rw [hu]; omega, fun x hx => ?_⟩
      rcases pushL_mem hx with h' | rfl
      · exact h6 x h'
      · exact hr
theorem g_neq_self (a b : Int) (w : World) : (binOp .neq 39 (.agg #[.int .i64 a, .int .i64 b]) (.agg #[.int .i64 a, .int .i64 b])).run Try.prog w = .ok (.bool false) w := by
  simp [go_sem]
/-- behind the loop of Adds -/
def AdRel (r t : Int) (g : Nat) (n : Nat) (w : World) (i : Value) (wr : World) : Prop :=
  ∃ (k : Nat) (v : Value) (c : Ck), k ≤ n ∧ i = .int .i64 k ∧ Hid (CkO wr g v c) ∧ Hid (Below w.heap.size w wr) ∧ Hid (∀ k, v.ownBlock = some k → w.heap.size ≤ k) ∧ Hid (CkOk r t k c)
theorem AdRel.next {r t : Int} {g n k : Nat} {w wr W : World} {v v' : Value} {c : Ck} {s : Sm} (hk : k < n) (hn : n ≤ 1000) (hB : Below w.heap.size w wr) (hg : w.heap.size ≤ g) (hV : ∀ k, v.ownBlock = some k → w.heap.size ≤ k) (ho : CkOk r t k c)
    (h1 : CkO W g v' (addC c s).2) (h2 : KpC g v wr W) (h3 : Fr v v' wr) : AdRel r t g n w (.int .i64 ((k : Int) + 1)) W :=
  ⟨k + 1, v', (addC c s).2, hk, rfl, Lib.hid h1, Lib.hid (hB.trans (h2.out hB.size hg hV)), Lib.hid fun j hj => by
    rcases h3 j hj with h | h
    · exact hV j h
    · have := hB.size; omega, Lib.hid (ho.add (by omega) s)⟩
end Go.Proofs.Ytflplliiamodhaa
