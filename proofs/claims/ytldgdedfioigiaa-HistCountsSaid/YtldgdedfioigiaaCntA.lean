/- noonmarkref05: Of; noonmarkref01.Sum; CopyLongs. -/
import Derived.Test.YtldgdedfioigiaaRankA
import Derived.Test.YtldgdedfioigiaaLimT
import Derived.Test.YtldgdedfioigiaaLimF
import Derived.Test.YtldgdedfioigiaaHistD
import Derived.Laws.AppendOwnNone
namespace Go.Proofs.Ytldgdedfioigiaa
open Go.RowKit
set_option linter.unusedVariables false

theorem IntRow.ownK {w : World} {base e n : Nat} {v : Value} {k : IntKind} {d : List Int} (h : w.ownsRow base e 1 v n (d.map (Value.int k))) : ∃ a cap, v = .slice a n cap ∧ d.length = n ∧ n ≤ cap ∧ cap ≤ 9223372036854775807 ∧ (a = none → cap = 0) ∧ IntRow w a k d := by
  have hl : d.length = n := by have := h.1; simpa using this
  rcases h.2 with ⟨rfl, h0⟩ | ⟨g, cap, cur, rfl, hb, hh, h1, h2, h3, h4⟩
  · exact ⟨none, 0, by rw [h0], hl, by omega, by omega, fun _ => rfl, fun j hj => by omega⟩
  · refine ⟨_, cap, rfl, hl, h1, h2, fun e => by simp at e, fun j hj => ⟨g, 0, rfl, ?_⟩⟩
    rw [Nat.zero_add, h.cellAt j (by omega)]
    simp [List.getD_eq_getElem?_getD, List.getElem?_eq_getElem hj]
theorem a_under : Try.prog.underlying 32 = some (.array 65 2) := by kernel_rfl
theorem a_info : (Try.prog.info? 32).map (·.size) = some 65 := by kernel_rfl
theorem a_zero0 : (Try.prog.info? 32).map (fun i => (i.zero, i.size)) = some (some (.agg (hC zeros65)), 65) := by kernel_rfl
theorem a_zero (w : World) : (zeroValue 32).run Try.prog w = .ok (.agg (hC zeros65)) w := (zero_of_info a_zero0).1 w
theorem setRow_alloc1 {w : World} {o : Obj} {C D : Array Value} {t : TypeId} : ((w.alloc o).alloc (.cells C t)).setRow (w.heap.size + 1) D = (w.alloc o).alloc (.cells D t) := by
  have h := World.setRow_alloc_new (w.alloc o) C D t
  rw [World.size_alloc] at h
  exact h
def RoRel (l : List Int) (w : World) (i : Value) (wr : World) : Prop := ∃ k : Nat, k ≤ l.length ∧ i = .int .i64 k ∧ Hid (Kept wr (w.heap.size + 1) (hC (cntL (l.take k))) 32) ∧ Hid (Kept wr w.heap.size (hC zeros65) 32) ∧ Hid (Below w.heap.size w wr)
set_option maxHeartbeats 4000000 in
set_option maxRecDepth 1000000 in
theorem rof_any (a : Option Addr) (c : Nat) (l : List Int) (w : World) (hr : IntRow w a .i64 l) (hin : ∀ x ∈ l, InI x) (hl : l.length ≤ 4000000000) : Calls Try.prog 18 #[.slice a l.length c] w (Gives (.agg (hC (cntL l))) w) := by
  have hz := a_zero
  have HR := Lib.hid hr
  have HN := Lib.hid hin
  obtain ⟨Z, hZ⟩ : ∃ Z, hC zeros65 = Z := ⟨_, rfl⟩
  have zs : (Try.prog.info? 32).map (·.size) = some Z.size := by rw [← hZ, hC_size, zeros65_len]; exact a_info
  rw [hZ] at hz
  have HS : Hid (RoRel l w (.int .i64 0) ((w.alloc (.cells Z 32)).alloc (.cells Z 32))) := Lib.hid ⟨0, Nat.zero_le _, rfl, Lib.hid (by
    rw [List.take_zero, cntL_nil, hZ]
    exact Kept.new (by simp)), Lib.hid (by rw [hZ]; exact (Kept.new rfl).alloc _), Lib.hid ((one_alloc _ _).alloc (by simp) _)⟩
  have HZ := Lib.hid hZ
  clear hr hin hZ
  have TZ : Hid (Kept ((w.alloc (.cells Z 32)).alloc (.cells Z 32)) (w.heap.size + 1) Z 32) := Lib.hid (Kept.new (by simp))
  have za : Z.all (·.oneCell') = true := by rw [← HZ.out]; exact hC_cells _
  go_enter Try.func18, Try.ntmps18
  go_wp2_with (refine wpList_store_row rfl 32 _ _ rfl (w.heap.size + 1) Z rfl rfl 32 Z TZ.out zs rfl za ?_; rw [setRow_alloc1])
  clear TZ za
  go_loopw [4] (fun i wr => RoRel l w i wr) (fun i _ => l.length - (intOf i).toNat)
  case atStart => exact HS.out
  case round =>
    obtain ⟨k, hk, rfl, H0, R0, B0⟩ := hrel
    clear HS hz
    by_cases hlt : k < l.length
    · obtain ⟨b, off, rfl, h1⟩ := HR.out k hlt
      have c1 := (B0.out.cell (World.block_lt_of_cell? w _ h1)).trans h1
      have hin := getD_in HN.out k hlt
      have htk := take_int l k hlt
      have hlen := cntL_le (l.take k)
      rw [List.length_take] at hlen
      obtain ⟨x, hx⟩ : ∃ x, l.getD k 0 = x := ⟨_, rfl⟩
      rw [hx] at c1 hin htk
      have hb65 := bkt_lt hin
      have hsn := cntL_snoc (l.take k) x hin
      have Cb := Lib.hid (fun W => rbucket_any x W hin)
      obtain ⟨n, hn⟩ : ∃ n, bkt x = n := ⟨_, rfl⟩
      rw [hn] at hb65 hsn Cb
      have hcl := hlen n hb65
      have hcell := H0.out.cellK n (by rw [cntL_len]; exact hb65)
      obtain ⟨v, hv⟩ : ∃ v, (cntL (l.take k)).getD n 0 = v := ⟨_, rfl⟩
      rw [hv] at hsn hcl hcell
      obtain ⟨g1, g2⟩ := hcell
      obtain ⟨v0, v1⟩ : 0 ≤ v ∧ v ≤ 4000000000 := by omega
      have K1 : Hid (Kept (wr.setCell ⟨w.heap.size + 1, n, none⟩ (.int .i64 (v + 1))) (w.heap.size + 1) (hC (cntL (l.take (k + 1)))) 32) := Lib.hid (by
        rw [htk, hsn, ← hC_set]
        exact H0.out.set n _)
      have R1 : Hid (Kept (wr.setCell ⟨w.heap.size + 1, n, none⟩ (.int .i64 (v + 1))) w.heap.size (hC zeros65) 32) := Lib.hid (R0.out.far (p := ⟨w.heap.size + 1, n, none⟩) (by simp) _)
      have B1 : Hid (Below w.heap.size w (wr.setCell ⟨w.heap.size + 1, n, none⟩ (.int .i64 (v + 1)))) := Lib.hid (B0.out.setCell (by simp) _)
      have F : Hid (RoRel l w (.int .i64 ((k : Int) + 1)) (wr.setCell ⟨w.heap.size + 1, n, none⟩ (.int .i64 (v + 1)))) := Lib.hid ⟨k + 1, hlt, rfl, K1, R1, B1⟩
      have hn2 : (n : Int) < 65 := by omega
      have HLT := Lib.hid hlt
      clear htk hsn hcl hlen hin hx hn hv K1 R1 B1 h1 HR HN
      go_wp2_with fail
      refine (Cb.out _).mono ?_
      rintro _ _ ⟨rfl, rfl⟩
      go_wp2
      go_roundw
      case rel => exact F.out
      case measure => have := HLT.out; simp [intOf]; omega
    · obtain rfl : k = l.length := by omega
      have H1 := H0.out
      rw [List.take_length] at H1
      have hz1 : (Try.prog.info? 32).map (·.size) = some (hC (cntL l)).size := by rw [hC_size, cntL_len]; exact a_info
      have hz2 : (hC zeros65).size = (hC (cntL l)).size := by rw [hC_size, hC_size, cntL_len, zeros65_len]
      have hz3 := hC_cells (cntL l)
      have RF : Hid (Kept (wr.setRow w.heap.size (hC (cntL l))) w.heap.size (hC (cntL l)) 32) := Lib.hid (R0.out.setRow _)
      have BF : Hid (Below w.heap.size w (wr.setRow w.heap.size (hC (cntL l)))) := Lib.hid (below_setRow B0.out (Nat.le_refl _) _)
      have H2 := Lib.hid H1
      clear H1 H0 hlt hk
      generalize hC (cntL l) = C at *
      generalize hC zeros65 = ZZ at *
      go_wp2_with (first
        | refine wpList_load_row rfl 32 _ rfl (w.heap.size + 1) rfl 32 C (0, 0) _ H2.out a_under rfl hz1 ?_
        | refine wpList_store_row rfl 32 _ _ rfl w.heap.size C rfl rfl 32 ZZ R0.out hz1 hz2 hz3 ?_)
      refine bodyPost_ret (v := .agg C) (results_cell_row rfl _ _ w.heap.size 32 C (0, 0) _ rfl RF.out a_under rfl hz1) rfl ?_
      exact ⟨rfl, BF.out⟩
theorem sum_ref (xa : Option Addr) (xc : Nat) (l : List Int) (w : World) (hx : IntRow w xa .i64 l) (hb : ∀ x ∈ l, InI x) (hl : l.length ≤ 100) :
    Calls Try.prog 31 #[.slice xa l.length xc] w fun e w' => e = .returned (.tuple #[.int .i64 (vI (isum l)), .int .i64 (eI (isum l))]) ∧ Below w.heap.size w w' := by
  have Ct := Lib.hid (ltotal_any xa xc l w hx hb hl)
  clear hx hb hl
  go_enter Try.func31, Try.ntmps31
  go_wp2_with fail
  refine Ct.out.mono ?_
  rintro e w2 ⟨v, rfl, hn, hB⟩
  have Cd := Lib.hid (told_any v (isum l) w2 hn)
  have HB := Lib.hid hB
  clear hn hB
  go_wp2_with fail
  refine Cd.out.mono ?_
  rintro e w3 ⟨rfl, hB3⟩
  have HB3 := Lib.hid hB3
  clear hB3
  go_wp2
  go_ret2
  exact ⟨rfl, HB.out.trans (HB3.out.mono HB.out.size)⟩
theorem info_i64 : (Try.prog.info? 2).map (fun i => (i.zero, i.size, i.bytes)) = some (some (.int .i64 0), 1, 8) := by kernel_rfl
set_option maxHeartbeats 400000 in
theorem copyLongs_any (a : Option Addr) (c : Nat) (l : List Int) (w : World) (hr : IntRow w a .i64 l) (ha : a = none → c = 0) (hl : l.length ≤ 1000000) :
    Calls Try.prog 15 #[.slice a l.length c] w fun e w' => ∃ v, e = .returned v ∧ w'.ownsRow w.heap.size 2 1 v l.length (l.map (Value.int .i64)) ∧ Below w.heap.size w w' := by
  obtain ⟨i0, hi, hz0, hz1, hz2⟩ := info_parts info_i64
  have HR := Lib.hid (hr.alloc (Obj.cells #[] 2))
  have HA := Lib.hid ha
  have hc1 : 0 + l.length ≤ maxLen := by unfold maxLen; omega
  have hc2 : (0 + l.length) * 8 ≤ 140737488355328 := by omega
  have hown : Hid ((w.alloc (Obj.cells #[] 2)).ownsRow w.heap.size 2 1 (.slice (some ⟨w.heap.size, 0, none⟩) 0 0) 0 []) := Lib.hid (World.ownsRow_made _ #[] 0 (Nat.le_refl _) (by unfold maxLen; omega) rfl)
  have hbel : Hid (Below w.heap.size w (w.alloc (Obj.cells #[] 2))) := Lib.hid ((Below.refl _ _).alloc (Nat.le_refl _) _)
  clear hr ha
  go_enter Try.func15, Try.ntmps15
  go_wp2_with (at_builtin; refine wpList_appendInts rfl _ _ 30 rfl w 2 i0 (.int .i64 0) 8 Try.underlying30 hi hz0 hz1 hz2 rfl _ 0 [] rfl hown.out .i64 a c l rfl HA.out HR.out hc1 hc2 hbel.out ?_)
  intro v' w1 hown' hbel'
  have Hown' := Lib.hid hown'
  have Hbel' := Lib.hid hbel'
  clear hown' hbel'
  go_wp2
  go_ret
  exact ⟨_, rfl, by simpa using Hown'.out, Hbel'.out⟩
def WSum3 (L : List Int) (w : World) (e : Ending) (w' : World) : Prop := ∃ a c, e = .returned (.slice a L.length c) ∧ IntRow w' a .i64 L ∧ Below w.heap.size w w'
theorem copyL (a : Option Addr) (c : Nat) (l : List Int) (w : World) (hr : IntRow w a .i64 l) (ha : a = none → c = 0) (hl : l.length ≤ 100) : Calls Try.prog 15 #[.slice a l.length c] w (WSum3 l w) := by
  refine (copyLongs_any a c l w hr ha (by omega)).mono ?_
  rintro e w' ⟨v, rfl, hown, hb⟩
  obtain ⟨a', cap, rfl, e2, -, -, -, e6⟩ := IntRow.ownK hown
  exact ⟨a', cap, rfl, e6, hb⟩
end Go.Proofs.Ytldgdedfioigiaa
