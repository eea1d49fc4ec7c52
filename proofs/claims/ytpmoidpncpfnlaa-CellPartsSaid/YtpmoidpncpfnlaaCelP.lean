/- cell.readHist. -/
import Derived.Test.YtpmoidpncpfnlaaCelO
import Derived.Test.YtpmoidpncpfnlaaCodeR
namespace Go.Proofs.Ytpmoidpncpfnlaa
open Go.RowKit
set_option linter.unusedVariables false
set_option linter.unusedSimpArgs false

theorem longr_any (g : Nat) (l : List Int) (e : Int) (w : World) (h : Rd w g l e) (hb : ByteL l) (hl : l.length ≤ 1000000000) :
    Calls Try.prog 47 #[.pointer (some ⟨g, 0, none⟩)] w (RdOutR w g (uintS l e).2.1 (uintS l e).2.2 (.int .i64 (wrap64 (uintS l e).1))) := by
  have C1 := Lib.hid (uintr_any g l e w h hb hl)
  clear h hb hl
  unfold RdOutR at *
  generalize (uintS l e).1 = n at *
  generalize (uintS l e).2.1 = l' at *
  generalize (uintS l e).2.2 = e' at *
  go_enter Try.func47, Try.ntmps47
  go_wp2_with fail
  refine C1.out.mono ?_
  rintro _ w1 ⟨rfl, R, B⟩
  go_wp2
  go_ret
  exact ⟨rfl, R, B⟩
/-- what readHist has read: the counts, whether they rise, the least bucket that may follow, and what is left -/
structure RhS where
  h : List Int
  ok : Bool
  least : Int
  l : List Int
  e : Int
def rhStep (s : RhS) : RhS :=
  if (uintS s.l s.e).1 < s.least ∨ 65 ≤ (uintS s.l s.e).1 ∨ wrap64 (uintS (uintS s.l s.e).2.1 (uintS s.l s.e).2.2).1 ≤ 0 then ⟨s.h, false, s.least, (uintS (uintS s.l s.e).2.1 (uintS s.l s.e).2.2).2.1, (uintS (uintS s.l s.e).2.1 (uintS s.l s.e).2.2).2.2⟩
  else ⟨s.h.set (uintS s.l s.e).1.toNat (wrap64 (uintS (uintS s.l s.e).2.1 (uintS s.l s.e).2.2).1), s.ok, (uintS s.l s.e).1 + 1, (uintS (uintS s.l s.e).2.1 (uintS s.l s.e).2.2).2.1, (uintS (uintS s.l s.e).2.1 (uintS s.l s.e).2.2).2.2⟩
def rhN : Nat → RhS → RhS
  | 0, s => s
  | k + 1, s => rhStep (rhN k s)
def rhOf (l : List Int) (e : Int) : RhS := rhN (countS l e 65).1.toNat ⟨zeros65, true, 0, (countS l e 65).2.1, (countS l e 65).2.2⟩
structure RhOk (s : RhS) (n : Nat) : Prop where
  len : s.h.length = 65
  bytes : ByteL s.l
  left : s.l.length ≤ n
  least : 0 ≤ s.least ∧ s.least ≤ 65
  inI : ∀ b, b < 65 → InI (s.h.getD b 0)
theorem wrap64_InI (x : Int) : InI (wrap64 x) := by unfold InI wrap64; omega
theorem rhStep_ok {s : RhS} {n : Nat} (h : RhOk s n) : RhOk (rhStep s) n := by
  obtain ⟨a1, a2⟩ := uintS_sub s.l s.e
  obtain ⟨b1, b2⟩ := uintS_sub (uintS s.l s.e).2.1 (uintS s.l s.e).2.2
  obtain ⟨u, hu, _⟩ := uintS_nat s.l s.e h.bytes
  have hl := h.left
  unfold rhStep
  split
  · exact ⟨h.len, b2 (a2 h.bytes), by dsimp only; omega, h.least, h.inI⟩
  · rename_i hc
    refine ⟨by simp [h.len], b2 (a2 h.bytes), by dsimp only; omega, by dsimp only; omega, fun b hb => ?_⟩
    dsimp only
    rw [List.getD_eq_getElem?_getD, List.getElem?_set]
    split
    · split
      · exact wrap64_InI _
      · unfold InI; simp
    · rw [← List.getD_eq_getElem?_getD]; exact h.inI b hb
theorem rhN_ok {s : RhS} {n : Nat} (h : RhOk s n) : ∀ k, RhOk (rhN k s) n
  | 0 => h
  | k + 1 => rhStep_ok (rhN_ok h k)
theorem zeros_all : ∀ b, b < 65 → zeros65.getD b 0 = 0 := by decide +kernel
theorem rh_start (l : List Int) (e : Int) (hb : ByteL l) : RhOk ⟨zeros65, true, 0, (countS l e 65).2.1, (countS l e 65).2.2⟩ l.length := by
  obtain ⟨a1, a2⟩ := countS_sub l e 65
  exact ⟨zeros65_len, a2 hb, a1, ⟨Int.le_refl 0, by show (0 : Int) ≤ 65; omega⟩, fun b hb => by
    have := zeros_all b hb
    rw [this]; unfold InI; omega⟩
def RhK (w : World) (g : Nat) (Z : Array Value) (s : RhS) (wr : World) : Prop := Kept wr w.heap.size Z 27 ∧ Kept wr (w.heap.size + 1) (hC s.h) 27 ∧ Rd wr g s.l s.e ∧ BelR g w wr
def RhRel (s0 : RhS) (n : Nat) (w : World) (g : Nat) (Z : Array Value) (ok least i : Value) (wr : World) : Prop := ∃ k : Nat, k ≤ n ∧ i = .int .i64 k ∧ ok = .bool (rhN k s0).ok ∧ least = .int .u64 (rhN k s0).least ∧ Hid (RhK w g Z (rhN k s0) wr)
def RhOut (w : World) (g : Nat) (s : RhS) (e : Ending) (w' : World) : Prop := e = .returned (.tuple #[.agg (hC s.h), .bool s.ok]) ∧ Hid (Rd w' g s.l s.e) ∧ Hid (BelR g w w')
theorem RhK.two {w wr : World} {g : Nat} {Z : Array Value} {s : RhS} (h : RhK w g Z s wr) (hg : g < w.heap.size) {w' : World} (hb : BelR g wr w') {l : List Int} {e : Int} (hr : Rd w' g l e) : RhK w g Z { s with l := l, e := e } w' :=
  ⟨h.1.belr hb (by omega), h.2.1.belr hb (by omega), hr, h.2.2.2.trans hb⟩
theorem Rd.far {W : World} {g : Nat} {l : List Int} {e : Int} (h : Rd W g l e) {p : Addr} (hp : g < p.block) (v : Value) : Rd (W.setCell p v) g l e := h.below ((Below.refl p.block W).setCell (Nat.le_refl _) v) hp
theorem BelR.far {g : Nat} {w w' : World} (h : BelR g w w') {p : Addr} (hp : w.heap.size ≤ p.block) (v : Value) : BelR g w (w'.setCell p v) := ⟨h.os, h.tape, h.output, by simpa [World.setCell] using h.size, fun k hk hg => (Below.heap_setCell w' p v k (by omega)).trans (h.block k hk hg)⟩
theorem BelR.setRow {g b : Nat} {w w' : World} (h : BelR g w w') (hb : w.heap.size ≤ b) (c : Array Value) : BelR g w (w'.setRow b c) := ⟨h.os, h.tape, h.output, by have := h.size; simpa [World.setRow] using this, fun k hk hg => by
  rw [← h.block k hk hg]
  unfold World.setRow
  simp [Array.getElem?_modify, show b ≠ k by omega]⟩
theorem Rd.setRow {W : World} {g b : Nat} {l : List Int} {e : Int} (h : Rd W g l e) (hb : g < b) (c : Array Value) : Rd (W.setRow b c) g l e := h.below (below_setRow (Below.refl b W) (Nat.le_refl _) c) hb
theorem RhK.setH {w wr : World} {g : Nat} {Z : Array Value} {s : RhS} (h : RhK w g Z s wr) (hg : g < w.heap.size) (n : Nat) (v : Int) : RhK w g Z { s with h := s.h.set n v } (wr.setCell ⟨w.heap.size + 1, n, none⟩ (.int .i64 v)) :=
  ⟨h.1.far (by simp) _, by rw [← hC_set]; exact h.2.1.set n _, h.2.2.1.far (by simp; omega) _, h.2.2.2.far (by simp) _⟩
set_option maxHeartbeats 8000000 in
set_option maxRecDepth 1000000 in
theorem readHist_any (g : Nat) (l : List Int) (e : Int) (w : World) (h : Rd w g l e) (hb : ByteL l) (hl : l.length ≤ 1000000000) :
    Calls Try.prog 51 #[.pointer (some ⟨g, 0, none⟩)] w (RhOut w g (rhOf l e)) := by
  have hz := h_zero
  obtain ⟨Z, hZ⟩ : ∃ Z, hC zeros65 = Z := ⟨_, rfl⟩
  have zs : (Try.prog.info? 27).map (·.size) = some Z.size := by rw [← hZ, hC_size, zeros65_len]; exact h_info
  have zz : Z.size = 65 := by rw [← hZ, hC_size, zeros65_len]
  rw [hZ] at hz
  have HG : Hid (g < w.heap.size) := Lib.hid h.lt
  have hs0 := rh_start l e hb
  have hcl := countS_sub l e 65
  obtain ⟨n, hn, hn65⟩ := countS_nat l e 65 hb
  have CC : Hid (∀ W, Below w.heap.size w W → Calls Try.prog 80 #[.pointer (some ⟨g, 0, none⟩), .int .i64 65] W (RdOutR W g (countS l e 65).2.1 (countS l e 65).2.2 (.int .i64 n))) := Lib.hid fun W hW => by
    rw [← hn]
    exact countr_any g l e 65 W (h.below hW h.lt) hb hl (by omega)
  have HOUT : Hid (rhOf l e = rhN n ⟨zeros65, true, 0, (countS l e 65).2.1, (countS l e 65).2.2⟩) := Lib.hid (by unfold rhOf; rw [hn, Int.toNat_natCast])
  rw [HOUT.out]
  clear HOUT
  have K0 : Hid (Kept ((w.alloc (.cells Z 27)).alloc (.cells Z 27)) w.heap.size Z 27 ∧ Kept ((w.alloc (.cells Z 27)).alloc (.cells Z 27)) (w.heap.size + 1) (hC zeros65) 27 ∧ Below w.heap.size w ((w.alloc (.cells Z 27)).alloc (.cells Z 27))) := Lib.hid ⟨(Kept.new rfl).alloc _, by rw [hZ]; exact Kept.new (by simp), (one_alloc _ _).alloc (by simp) _⟩
  have HOK := Lib.hid (fun k => rhN_ok hs0 k)
  have HLL : Hid (l.length ≤ 1000000000) := Lib.hid hl
  generalize (countS l e 65).2.1 = l1 at *
  generalize (countS l e 65).2.2 = e1 at *
  obtain ⟨s0, hs⟩ : ∃ s0 : RhS, ⟨zeros65, true, 0, l1, e1⟩ = s0 := ⟨_, rfl⟩
  have HSS : Hid (s0.h = zeros65 ∧ s0.ok = true ∧ s0.least = 0 ∧ s0.l = l1 ∧ s0.e = e1) := Lib.hid (by rw [← hs]; exact ⟨rfl, rfl, rfl, rfl, rfl⟩)
  rw [hs] at HOK
  rw [hs]
  clear h hb hl hZ hs0 hs hcl hn
  go_enter Try.func51, Try.ntmps51
  go_wp2_with fail
  refine (CC.out _ K0.out.2.2).mono ?_
  rintro _ w1 ⟨rfl, R1, B1⟩
  have HS : Hid (RhRel s0 n w g Z (.bool true) (.int .u64 0) (.int .i64 0) w1) := Lib.hid ⟨0, Nat.zero_le _, rfl, by rw [show rhN 0 s0 = s0 from rfl, HSS.out.2.1], by rw [show rhN 0 s0 = s0 from rfl, HSS.out.2.2.1], Lib.hid ⟨K0.out.1.belr B1.out (by have := HG.out; omega), by rw [show rhN 0 s0 = s0 from rfl, HSS.out.1]; exact K0.out.2.1.belr B1.out (by have := HG.out; omega), by rw [show rhN 0 s0 = s0 from rfl, HSS.out.2.2.2.1, HSS.out.2.2.2.2]; exact R1.out, (BelR.below K0.out.2.2).trans B1.out⟩⟩
  clear R1 B1 K0 CC HSS
  go_wp2
  go_loopw [5, 6, 11] (fun ok least i wr => RhRel s0 n w g Z ok least i wr) (fun _ _ i _ => n - (intOf i).toNat)
  case atStart => exact HS.out
  case round =>
    obtain ⟨k, hk, rfl, rfl, rfl, K0⟩ := hrel
    clear HS
    by_cases hlt : k < n
    · have hok := HOK.out k
      have CU := Lib.hid (uintr_any g _ _ wr K0.out.2.2.1 hok.bytes (by have := HLL.out; have := hok.left; omega))
      obtain ⟨u, hu, hu2⟩ := uintS_nat (rhN k s0).l (rhN k s0).e hok.bytes
      obtain ⟨a1, a2⟩ := uintS_sub (rhN k s0).l (rhN k s0).e
      have hst : rhN (k + 1) s0 = rhStep (rhN k s0) := rfl
      have HLT := Lib.hid hlt
      obtain ⟨s, hs⟩ : ∃ s, rhN k s0 = s := ⟨_, rfl⟩
      rw [hs] at hok CU hu a1 a2 hst K0
      rw [hs]
      have CL : Hid (∀ W, Rd W g (uintS s.l s.e).2.1 (uintS s.l s.e).2.2 → Calls Try.prog 47 #[.pointer (some ⟨g, 0, none⟩)] W (RdOutR W g (uintS (uintS s.l s.e).2.1 (uintS s.l s.e).2.2).2.1 (uintS (uintS s.l s.e).2.1 (uintS s.l s.e).2.2).2.2 (.int .i64 (wrap64 (uintS (uintS s.l s.e).2.1 (uintS s.l s.e).2.2).1)))) := Lib.hid fun W h => longr_any g _ _ W h (a2 hok.bytes) (by have := HLL.out; have := hok.left; omega)
      unfold rhStep at hst
      have hls := hok.least
      have hlen := hok.len
      have hin := hok.inI
      generalize wrap64 (uintS (uintS s.l s.e).2.1 (uintS s.l s.e).2.2).1 = V at *
      generalize (uintS (uintS s.l s.e).2.1 (uintS s.l s.e).2.2).2.1 = l2 at *
      generalize (uintS (uintS s.l s.e).2.1 (uintS s.l s.e).2.2).2.2 = e2 at *
      generalize (uintS s.l s.e).1 = U at *
      generalize (uintS s.l s.e).2.1 = l3 at *
      generalize (uintS s.l s.e).2.2 = e3 at *
      have FN : Hid (∀ s', rhN (k + 1) s0 = s' → ∀ W, RhK w g Z s' W → RhRel s0 n w g Z (.bool s'.ok) (.int .u64 s'.least) (.int .i64 ((k : Int) + 1)) W) := Lib.hid fun s' h W hK => ⟨k + 1, HLT.out, rfl, by rw [h], by rw [h], Lib.hid (by rw [h]; exact hK)⟩
      have hkk : (k : Int) < (n : Int) := by omega
      have hk0 : (0 : Int) ≤ (k : Int) := by omega
      have U0 : 0 ≤ U := by omega
      have U1 : U ≤ 18446744073709551615 := by omega
      obtain ⟨LS, hLS⟩ : ∃ x, s.least = x := ⟨_, rfl⟩
      rw [hLS] at hst hls
      rw [hLS]
      have HLS := Lib.hid hLS
      have L0 := hls.1
      have L1 := hls.2
      have HU := Lib.hid hu
      clear hs hu2 a1 a2 hok hlt hk hLS hls hu
      have WALK : ∀ b1 b2 b3 : Bool, decide (U < LS) = b1 → decide (65 ≤ U) = b2 → decide (V ≤ 0) = b3 → (b1 || b2 || b3) = true → rhN (k + 1) s0 = ⟨s.h, false, LS, l2, e2⟩ → True := fun _ _ _ _ _ _ _ _ => trivial
      clear WALK
      by_cases hbad : U < LS ∨ 65 ≤ U ∨ V ≤ 0
      · rw [if_pos hbad] at hst
        have FF := Lib.hid (FN.out _ hst)
        dsimp only at FF
        have KN : Hid (∀ W W', BelR g wr W → BelR g W W' → Rd W' g l2 e2 → RhK w g Z ⟨s.h, false, LS, l2, e2⟩ W') := Lib.hid fun W W' h1 h2 h3 => ⟨K0.out.1.belr (h1.trans h2) (by have := HG.out; omega), K0.out.2.1.belr (h1.trans h2) (by have := HG.out; omega), h3, K0.out.2.2.2.trans (h1.trans h2)⟩
        rcases hb1 : decide (U < LS) with _ | _ <;> rcases hb2 : decide (65 ≤ U) with _ | _ <;> rcases hb3 : decide (V ≤ 0) with _ | _
        case pos.false.false.false =>
          exfalso
          have h1 := of_decide_eq_false hb1
          have h2 := of_decide_eq_false hb2
          have h3 := of_decide_eq_false hb3
          omega
        all_goals
          clear hst FN hbad K0 hlen hin
          go_wp2_with fail
          refine CU.out.mono ?_
          rintro _ w1 ⟨rfl, R1, B1⟩
          go_wp2_with fail
          refine (CL.out _ R1.out).mono ?_
          rintro _ w2 ⟨rfl, R2, B2⟩
          have FG := Lib.hid (FF.out _ (KN.out _ _ B1.out B2.out R2.out))
          clear R1 B1 R2 B2 FF KN CU CL
          go_wp2
          go_roundw
          case rel => exact FG.out
          case measure => have := HLT.out; simp [intOf]; omega
      · rw [if_neg hbad] at hst
        have FF := Lib.hid (FN.out _ hst)
        dsimp only at FF
        have hu := HU.out
        subst hu
        rw [Int.toNat_natCast] at FF
        have hu65 : u < 65 := by omega
        have b1 : decide ((u : Int) < LS) = false := decide_eq_false (by omega)
        have b2 : decide (65 ≤ (u : Int)) = false := decide_eq_false (by omega)
        have b3 : decide (V ≤ 0) = false := decide_eq_false (by omega)
        have u64 : (u : Int) ≤ 64 := by omega
        have KN : Hid (∀ W W', BelR g wr W → BelR g W W' → Rd W' g l2 e2 → RhK w g Z ⟨s.h, s.ok, (u : Int) + 1, l2, e2⟩ W') := Lib.hid fun W W' h1 h2 h3 => ⟨K0.out.1.belr (h1.trans h2) (by have := HG.out; omega), K0.out.2.1.belr (h1.trans h2) (by have := HG.out; omega), h3, K0.out.2.2.2.trans (h1.trans h2)⟩
        have HLEN := Lib.hid hlen
        clear hst FN hbad K0 hlen hin
        go_wp2_with fail
        refine CU.out.mono ?_
        rintro _ w1 ⟨rfl, R1, B1⟩
        go_wp2_with fail
        refine (CL.out _ R1.out).mono ?_
        rintro _ w2 ⟨rfl, R2, B2⟩
        have KK := Lib.hid (KN.out _ _ B1.out B2.out R2.out)
        have FG := Lib.hid (FF.out _ (KK.out.setH HG.out u V))
        obtain ⟨c1, c2⟩ := KK.out.2.1.cellK u (by dsimp only; rw [HLEN.out]; exact hu65)
        clear R1 B1 R2 B2 FF KN CU CL
        go_wp2
        go_roundw
        case rel => exact FG.out
        case measure => have := HLT.out; simp [intOf]; omega
    · obtain rfl : k = n := by omega
      have hok := HOK.out k
      obtain ⟨s, hs⟩ : ∃ s, rhN k s0 = s := ⟨_, rfl⟩
      rw [hs] at K0 hok
      rw [hs]
      have KA := Lib.hid K0.out.1
      have KH := Lib.hid K0.out.2.1
      have s65 : (hC s.h).size = 65 := by rw [hC_size]; exact hok.len
      have sa := hC_cells s.h
      have FIN : Hid (RhOut w g s (.returned (.tuple #[.agg (hC s.h), .bool s.ok])) (wr.setRow w.heap.size (hC s.h))) := Lib.hid ⟨rfl, Lib.hid (K0.out.2.2.1.setRow HG.out _), Lib.hid (K0.out.2.2.2.setRow (Nat.le_refl _) _)⟩
      have RF : Hid (Kept (wr.setRow w.heap.size (hC s.h)) w.heap.size (hC s.h) 27) := Lib.hid (KA.out.setRow _)
      have HSK := Lib.hid hs
      obtain ⟨sok, hso⟩ : ∃ x, s.ok = x := ⟨_, rfl⟩
      rw [hso] at FIN
      rw [hso]
      generalize hC s.h = C at *
      have cs : (Try.prog.info? 27).map (·.size) = some C.size := by rw [s65]; exact h_info
      have zc : Z.size = C.size := by rw [zz, s65]
      have hld := run_loadVar_row (P := Try.prog) (wr.setRow w.heap.size C) w.heap.size 27 27 C (0, 0) _ RF.out h_under rfl cs
      generalize s.least = lst at *
      clear hok hs s65 hlt hk K0 hso HOK
      go_wp2_with (first
        | refine wpList_load_row rfl 27 _ rfl (w.heap.size + 1) rfl 27 C (0, 0) _ KH.out h_under rfl cs ?_
        | refine wpList_store_row rfl 27 _ _ rfl w.heap.size C rfl rfl 27 Z KA.out cs zc sa ?_)
      refine bodyPost_ret (v := .tuple #[.agg C, .bool sok]) (by simp [results, Try.results51, asAddr, Result.andThen, hld]) rfl ?_
      rw [HSK.out]
      exact FIN.out
end Go.Proofs.Ytpmoidpncpfnlaa
