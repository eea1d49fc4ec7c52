/- cell.Back, for every row of bytes. -/
import Derived.Test.YtpmoidpncpfnlaaCelP
import Derived.Lib.ConvBytes
namespace Go.Proofs.Ytpmoidpncpfnlaa
open Go.RowKit
set_option linter.unusedVariables false
set_option linter.unusedSimpArgs false

def sz128 (z : Int) : Int := (z + 170141183460469231731687303715884105728) % 340282366920938463463374607431768211456 - 170141183460469231731687303715884105728
theorem sz128_in (z : Int) : InW (sz128 z) := by unfold InW sz128; omega
theorem wI_sz (z : Int) : wI z = wI (sz128 z) := wI_congr (by unfold sz128; omega)
/-- what Back reads ahead of the histogram -/
structure BkS where
  q : Ce
  ok : Bool
  l : List Int
  e : Int
def txN (s : ByteArray) : Int := sz128 (if (strB s).length = 16 then bv (strB s) 16 else 0)
def bkU (p : List Int × Int) : Int × List Int × Int := uintS p.1 p.2
def bkHead (b : List Int) : BkS :=
  let u1 := uintS b 0
  let u2 := uintS u1.2.1 u1.2.2
  let u3 := uintS u2.2.1 u2.2.2
  let i1 := uintS u3.2.1 u3.2.2
  let i2 := uintS i1.2.1 i1.2.2
  let t := textS i2.2.1 i2.2.2 16
  ⟨⟨wrap64 u1.1, txN t.1, unzig i1.1, unzig i2.1, wrap64 u2.1, wrap64 u3.1, (rhOf t.2.1 t.2.2).h⟩, decide ((strB t.1).length = 16) && (rhOf t.2.1 t.2.2).ok, (rhOf t.2.1 t.2.2).l, (rhOf t.2.1 t.2.2).e⟩
def backC (b : List Int) : Ce × Int :=
  if endS (bkHead b).l (bkHead b).e ≠ 0 then (ceZ, endS (bkHead b).l (bkHead b).e) else if (bkHead b).ok = false ∨ rtC (bkHead b).q = false then (ceZ, 10) else ((bkHead b).q, 0)
def BkOut (b : List Int) (w : World) (e : Ending) (w' : World) : Prop := e = .returned (.tuple #[.agg (backC b).1.A, .int .i64 (backC b).2]) ∧ Below w.heap.size w w'
theorem wpList_load_rowG {P : Program} {ops : Array Oper} {rest : List Oper} {o : Oper} {a : Act} {w : World} {Q : Exit → Act → World → Prop} (ty : TypeId) (x : Operand) (ho : o.op = .load ty x)
    (g : Nat) (hx : a.eval x = .pointer (some ⟨g, 0, none⟩)) (t : TypeId) (cs : Array Value) (fr : Nat × Nat) (d : TypeDesc) (hg : w.heap[g]? = some (.cells cs t fr))
    (hu : P.underlying ty = some d) (hd : (match d with | .struct _ | .array _ _ => true | _ => false) = true) (hi : (P.info? ty).map (·.size) = some cs.size) (hw : Region.wanted o (yielded ops a.tmps) = true)
    (h : wpList P ops Q rest (a.put o.dst (.agg cs)) w) : wpList P ops Q (o :: rest) a w := by
  unfold wpList
  rw [if_pos hw]
  exact .inl (wp_load_row ty x ho g hx t cs fr d hg hu hd hi h)
theorem textS_sub (l : List Int) (e : Int) (m : Nat) : (textS l e m).2.1.length ≤ l.length ∧ (ByteL l → ByteL (textS l e m).2.1) := by
  obtain ⟨h1, h2⟩ := countS_sub l e m
  unfold textS
  split
  · exact ⟨h1, h2⟩
  · split
    · exact ⟨Nat.le_refl _, id⟩
    · exact ⟨by simp only [List.length_drop]; omega, fun h => drop_bytes (h2 h) _⟩
theorem strB_w (s : ByteArray) : WByteL (strB s) := fun j => by
  by_cases h : j < (strB s).length
  · exact getD_of_all (P := fun x => 0 ≤ x ∧ x ≤ 255) (strB s) (strB_bytes s) j h
  · rw [getD_past _ _ (by omega)]; omega
theorem bytesWorld_below (w : World) (e : TypeId) (s : ByteArray) : Below w.heap.size w (Lib.bytesWorld w e s) := by
  refine ⟨rfl, rfl, rfl, by rw [Lib.bytesWorld_size]; omega, fun j hj => Lib.bytesWorld_at_old w e s j hj⟩
theorem bytesWorld_row (w : World) (e : TypeId) (s : ByteArray) : IntRow (Lib.bytesWorld w e s) (some ⟨w.heap.size, 0, none⟩) .u8 (strB s) := fun j hj => by
  rw [strB_len] at hj
  refine ⟨w.heap.size, 0, rfl, ?_⟩
  rw [Nat.zero_add, Lib.bytesWorld_cell w e s j hj]
  have hj2 : j < s.data.toList.length := by simpa using hj
  unfold strB
  rw [List.getD_eq_getElem?_getD, List.getD_eq_getElem?_getD, List.getElem?_map, List.getElem?_eq_getElem hj2]
  rfl
theorem textS_size (l : List Int) (e : Int) (m : Nat) (hb : ByteL l) : (textS l e m).1.size ≤ m := by
  obtain ⟨u, hu, hm⟩ := countS_nat l e m hb
  unfold textS
  split
  · exact Nat.zero_le _
  · split
    · exact Nat.zero_le _
    · rw [hu, Int.toNat_natCast]
      have h2 : (strOfNums ((countS l e m).2.1.take u)).size = ((countS l e m).2.1.take u).length := strOfNums_size _
      dsimp only
      rw [h2, List.length_take]
      omega
/-- what the walk of Back carries -/
def Bk (w : World) (g gc : Nat) (Z : Array Value) (q : Ce) (l : List Int) (e : Int) (W : World) : Prop := Kept W w.heap.size Z 29 ∧ Kept W gc q.A 29 ∧ Rd W g l e ∧ Below w.heap.size w W ∧ w.heap.size < g ∧ g < gc
theorem Bk.call {w W W' : World} {g gc : Nat} {Z : Array Value} {q : Ce} {l l' : List Int} {e e' : Int} (h : Bk w g gc Z q l e W) (hb : BelR g W W') (hr : Rd W' g l' e') : Bk w g gc Z q l' e' W' :=
  ⟨h.1.belr hb (by have := h.2.2.2.2.1; omega), h.2.1.belr hb (by have := h.2.2.2.2.2; omega), hr, h.2.2.2.1.trans (hb.out h.2.2.2.1.size (by have := h.2.2.2.2.1; omega)), h.2.2.2.2⟩
theorem Bk.next {w W W' : World} {g gc : Nat} {Z : Array Value} {q : Ce} {l : List Int} {e : Int} (h : Bk w g gc Z q l e W) (hb : Below W.heap.size W W') : Bk w g gc Z q l e W' :=
  ⟨h.1.next hb, h.2.1.next hb, h.2.2.1.below hb h.2.2.1.lt, h.2.2.2.1.trans (hb.mono h.2.2.2.1.size), h.2.2.2.2⟩
theorem Bk.setQ {w W : World} {g gc : Nat} {Z : Array Value} {q : Ce} {l : List Int} {e : Int} (h : Bk w g gc Z q l e W) (i : Nat) (v : Value) (q' : Ce) (hq : q.A.setIfInBounds i v = q'.A) : Bk w g gc Z q' l e (W.setCell ⟨gc, i, none⟩ v) := by
  obtain ⟨h1, h2, h3, h4, h5, h6⟩ := h
  exact ⟨h1.far (by simp; omega) _, by rw [← hq]; exact h2.set i v, h3.far (by simp; omega) _, h4.setCell (by simp; omega) _, h5, h6⟩
theorem Rd.setCells {g b : Nat} {l : List Int} {e : Int} (hg : g < b) : ∀ (vs : List Value) (W : World) (o : Nat), Rd W g l e → Rd (W.setCells b o vs) g l e
  | [], W, o, h => h
  | v :: vs, W, o, h => Rd.setCells hg vs _ (o + 1) (h.far (p := ⟨b, o, none⟩) hg v)
theorem Bk.setH {w W : World} {g gc : Nat} {Z : Array Value} {q : Ce} {l : List Int} {e : Int} {m : List Int} (h : Bk w g gc Z q l e W) (h1 : q.H.length = 65) (h2 : m.length = 65) : Bk w g gc Z { q with H := m } l e (W.setCells gc 7 (hC m).toList) := by
  obtain ⟨a1, a2, a3, a4, a5, a6⟩ := h
  exact ⟨Kept.setCells_far (by omega) _ _ _ a1, a2.cellH h1 h2, Rd.setCells a6 _ _ _ a3, below_setCells (by omega) _ _ _ a4, a5, a6⟩
theorem Bk.setZ {w W : World} {g gc : Nat} {Z : Array Value} {q : Ce} {l : List Int} {e : Int} (h : Bk w g gc Z q l e W) (z : Int) : Bk w g gc Z { q with z := z } l e ((W.setCell ⟨gc, 1, none⟩ (.int .i64 (hiW z))).setCell ⟨gc, 2, none⟩ (.int .u64 (loW z))) := by
  obtain ⟨h1, h2, h3, h4, h5, h6⟩ := h
  exact ⟨(h1.far (by simp; omega) _).far (by simp; omega) _, by rw [← ceA_set12]; exact (h2.set 1 _).set 2 _, (h3.far (by simp; omega) _).far (by simp; omega) _, (h4.setCell (by simp; omega) _).setCell (by simp; omega) _, h5, h6⟩
theorem Bk.cells {w W : World} {g gc : Nat} {Z : Array Value} {q : Ce} {l : List Int} {e : Int} (h : Bk w g gc Z q l e W) : (W.cell? ⟨gc, 0, none⟩ = some (.int .i64 q.n) ∧ W.cell? ⟨gc, 1, none⟩ = some (.int .i64 (hiW q.z)) ∧ W.cell? ⟨gc, 2, none⟩ = some (.int .u64 (loW q.z)) ∧ W.cell? ⟨gc, 3, none⟩ = some (.int .i64 q.mn) ∧ W.cell? ⟨gc, 4, none⟩ = some (.int .i64 q.mx) ∧ W.cell? ⟨gc, 5, none⟩ = some (.int .i64 q.ce) ∧ W.cell? ⟨gc, 6, none⟩ = some (.int .i64 q.po)) ∧
    (W.frozen? ⟨gc, 0, none⟩ = false ∧ W.frozen? ⟨gc, 1, none⟩ = false ∧ W.frozen? ⟨gc, 2, none⟩ = false ∧ W.frozen? ⟨gc, 3, none⟩ = false ∧ W.frozen? ⟨gc, 4, none⟩ = false ∧ W.frozen? ⟨gc, 5, none⟩ = false ∧ W.frozen? ⟨gc, 6, none⟩ = false) :=
  ⟨h.2.1.cell7, ⟨(h.2.1.at_ 0).2, (h.2.1.at_ 1).2, (h.2.1.at_ 2).2, (h.2.1.at_ 3).2, (h.2.1.at_ 4).2, (h.2.1.at_ 5).2, (h.2.1.at_ 6).2⟩⟩
set_option maxHeartbeats 8000000 in
set_option maxRecDepth 1000000 in
theorem cback_any (v : Value) (b : List Int) (w : World) (h : BytesAt w v b) (hb : ByteL b) (hl : b.length ≤ 1000000000) :
    Calls Try.prog 19 #[v] w (BkOut b w) := by
  have hz := c_zero
  have hzh := h_zero
  obtain ⟨Z, hZ⟩ : ∃ Z, ceZ.A = Z := ⟨_, rfl⟩
  have z72 : Z.size = 72 := by rw [← hZ]; exact ce_size _ rfl
  have zs : (Try.prog.info? 29).map (·.size) = some Z.size := by rw [z72]; exact c_info
  have za : Z.all (·.oneCell') = true := by rw [← hZ]; exact ce_cells _
  rw [hZ] at hz
  have HZ := Lib.hid hZ
  obtain ⟨Y, hY⟩ : ∃ Y, hC zeros65 = Y := ⟨_, rfl⟩
  have y65 : Y.size = 65 := by rw [← hY, hC_size, zeros65_len]
  rw [hY] at hzh
  obtain ⟨s1, s1'⟩ := uintS_sub b 0
  rcases h1 : uintS b 0 with ⟨n1, l1, e1⟩
  obtain ⟨s2, s2'⟩ := uintS_sub l1 e1
  rcases h2 : uintS l1 e1 with ⟨n2, l2, e2⟩
  obtain ⟨s3, s3'⟩ := uintS_sub l2 e2
  rcases h3 : uintS l2 e2 with ⟨n3, l3, e3⟩
  obtain ⟨s4, s4'⟩ := uintS_sub l3 e3
  obtain ⟨u4, hu4, hu4'⟩ : ∃ u : Nat, (uintS l3 e3).1 = u ∧ u < 18446744073709551616 := uintS_nat l3 e3 (by rw [h3] at s3'; rw [h2] at s2'; rw [h1] at s1'; exact s3' (s2' (s1' hb)))
  rcases h4 : uintS l3 e3 with ⟨n4, l4, e4⟩
  obtain ⟨s5, s5'⟩ := uintS_sub l4 e4
  rw [h1] at s1 s1'
  rw [h2] at s2 s2'
  rw [h3] at s3 s3'
  rw [h4] at s4 s4' hu4
  dsimp only at s1 s1' s2 s2' s3 s3' s4 s4' hu4
  have y1 := s1' hb
  have y2 := s2' y1
  have y3 := s3' y2
  have y4 := s4' y3
  obtain ⟨u5, hu5, hu5'⟩ : ∃ u : Nat, (uintS l4 e4).1 = u ∧ u < 18446744073709551616 := uintS_nat l4 e4 y4
  rcases h5 : uintS l4 e4 with ⟨n5, l5, e5⟩
  rw [h5] at s5 s5' hu5
  dsimp only at s5 s5' hu5
  have y5 := s5' y4
  obtain ⟨s6, s6'⟩ := textS_sub l5 e5 16
  rcases h6 : textS l5 e5 16 with ⟨tx, l6, e6⟩
  rw [h6] at s6 s6'
  dsimp only at s6 s6'
  have y6 := s6' y5
  have hok := rhN_ok (rh_start l6 e6 y6) (countS l6 e6 65).1.toNat
  rcases h7 : rhOf l6 e6 with ⟨hh, rok, lst, l7, e7⟩
  have hok' : RhOk ⟨hh, rok, lst, l7, e7⟩ l6.length := by rw [← h7]; exact hok
  have hhl : hh.length = 65 := hok'.len
  have hhead : bkHead b = ⟨⟨wrap64 n1, txN tx, unzig n4, unzig n5, wrap64 n2, wrap64 n3, hh⟩, decide ((strB tx).length = 16) && rok, l7, e7⟩ := by
    unfold bkHead
    simp only [h1, h2, h3, h4, h5, h6, h7]
  have hcin : CeIn ⟨wrap64 n1, txN tx, unzig n4, unzig n5, wrap64 n2, wrap64 n3, hh⟩ := ⟨wrap64_InI _, sz128_in _, unzig_bd (by omega), unzig_bd (by omega), wrap64_InI _, wrap64_InI _, hhl, hok'.inI⟩
  have htx : tx.size ≤ 16 := by have := textS_size l5 e5 16 y5; rw [h6] at this; exact this
  have CN := Lib.hid (fun W (hb : Below w.heap.size w W) => new_any v b W (h.below hb) hl)
  have C1 := Lib.hid (fun g W (hr : Rd W g b 0) => longr_any g b 0 W hr hb hl)
  have C2 := Lib.hid (fun g W (hr : Rd W g l1 e1) => longr_any g l1 e1 W hr y1 (by omega))
  have C3 := Lib.hid (fun g W (hr : Rd W g l2 e2) => longr_any g l2 e2 W hr y2 (by omega))
  have C4 := Lib.hid (fun g W (hr : Rd W g l3 e3) => intr_any g l3 e3 W hr y3 (by omega))
  have C5 := Lib.hid (fun g W (hr : Rd W g l4 e4) => intr_any g l4 e4 W hr y4 (by omega))
  have C6 := Lib.hid (fun g W (hr : Rd W g l5 e5) => textr_any g l5 e5 16 W hr y5 (by omega) (by omega))
  have C7 := Lib.hid (fun g W (hr : Rd W g l6 e6) => readHist_any g l6 e6 W hr y6 (by omega))
  have C8 := Lib.hid (fun g W (hr : Rd W g l7 e7) => endr_any g l7 e7 W hr)
  rw [h1] at C1
  rw [h2] at C2
  rw [h3] at C3
  rw [h4] at C4
  rw [h5] at C5
  rw [h6] at C6
  rw [h7] at C7
  dsimp only at C1 C2 C3 C4 C5 C6 C7
  unfold RdOutR at C1 C2 C3 C4 C5 C6 C8
  unfold RhOut at C7
  dsimp only at C7
  have CB : Hid (∀ W (W' : World) c, W' = Lib.bytesWorld W 5 tx → Calls Try.prog 49 #[.slice (some ⟨W.heap.size, 0, none⟩) tx.size c] W' (Gives (.tuple #[wI (txN tx), .bool (decide ((strB tx).length = 16))]) W')) := Lib.hid fun W W' c e => by
    subst e
    have hq := wback_any (some ⟨W.heap.size, 0, none⟩) c (strB tx) _ (bytesWorld_row W 5 tx) (strB_w tx) (by rw [strB_len]; omega)
    rw [strB_len] at hq
    unfold BackOut at hq
    rw [wI_sz] at hq
    exact hq
  have HB := Lib.hid h
  have KZ : Hid (Kept (w.alloc (.cells Z 29)) w.heap.size Z 29 ∧ Below w.heap.size w (w.alloc (.cells Z 29))) := Lib.hid ⟨Kept.new rfl, one_alloc _ _⟩
  have HCIN := Lib.hid hcin
  have HHL := Lib.hid hhl
  have HQ0 : Hid (ceZ.H.length = 65) := Lib.hid rfl
  have HEND := Lib.hid (⟨hhead, rfl⟩ : bkHead b = ⟨⟨wrap64 n1, txN tx, unzig n4, unzig n5, wrap64 n2, wrap64 n3, hh⟩, decide ((strB tx).length = 16) && rok, l7, e7⟩ ∧ True = True)
  obtain ⟨b16, hb16⟩ : ∃ x, decide ((strB tx).length = 16) = x := ⟨_, rfl⟩
  rw [hb16] at CB HEND
  have HTX := Lib.hid htx
  obtain ⟨a1, ha1⟩ : ∃ x, wrap64 n1 = x := ⟨_, rfl⟩
  obtain ⟨a2, ha2⟩ : ∃ x, wrap64 n2 = x := ⟨_, rfl⟩
  obtain ⟨a3, ha3⟩ : ∃ x, wrap64 n3 = x := ⟨_, rfl⟩
  obtain ⟨a4, ha4⟩ : ∃ x, unzig n4 = x := ⟨_, rfl⟩
  obtain ⟨a5, ha5⟩ : ∃ x, unzig n5 = x := ⟨_, rfl⟩
  obtain ⟨a6, ha6⟩ : ∃ x, txN tx = x := ⟨_, rfl⟩
  rw [ha1] at C1 HCIN HEND
  rw [ha2] at C2 HCIN HEND
  rw [ha3] at C3 HCIN HEND
  rw [ha4] at C4 HCIN HEND
  rw [ha5] at C5 HCIN HEND
  rw [ha6] at CB HCIN HEND
  unfold wI at CB
  have hcv := fun w => Lib.run_convert_string_bytes (P := Try.prog) w 9 53 5 tx Try.underlying9 Try.underlying53 Try.underlying5
  clear h hl s1 s1' s2 s2' s3 s3' s4 s4' s5 s5' s6 s6' h1 h2 h3 h4 h5 h6 h7 hu4 hu4' hu5 hu5' hok hok' hhl hhead hcin y1 y2 y3 y4 y5 y6 hZ hb16 htx ha1 ha2 ha3 ha4 ha5 ha6 hb
  go_enter Try.func19, Try.ntmps19
  go_wp2_with fail
  refine (CN.out _ KZ.out.2).mono ?_
  rintro _ w0 ⟨g, rfl, hg, R0, B0⟩
  have hgw : w.heap.size < g := by have := hg; simp at this; omega
  have N0 : Hid (Kept w0 w.heap.size Z 29 ∧ Rd w0 g b 0 ∧ Below w.heap.size w w0) := Lib.hid ⟨KZ.out.1.next B0.out, R0.out, KZ.out.2.trans (B0.out.mono (by simp))⟩
  clear R0 B0 KZ CN hg
  go_upto_region 3 with fail
  have M0 : Hid (Bk w g w0.heap.size Z ceZ b 0 (w0.alloc (.cells Z 29))) := Lib.hid ⟨N0.out.1.alloc _, by rw [HZ.out]; exact Kept.new rfl, N0.out.2.1.below (one_alloc _ _) N0.out.2.1.lt, N0.out.2.2.alloc N0.out.2.2.size _, hgw, N0.out.2.1.lt⟩
  obtain ⟨gc, hgc⟩ : ∃ gc, w0.heap.size = gc := ⟨_, rfl⟩
  rw [hgc] at M0
  generalize w0.alloc (.cells Z 29) = W0 at *
  clear N0 HB
  go_wp2_with fail
  refine (C1.out g _ M0.out.2.2.1).mono ?_
  rintro _ w1 ⟨rfl, R1, b1⟩
  have N1 := Lib.hid (M0.out.call b1.out R1.out)
  clear R1 b1 M0 C1
  go_wp2_with fail
  refine (C2.out g _ N1.out.2.2.1).mono ?_
  rintro _ w2 ⟨rfl, R2, b2⟩
  have N2 := Lib.hid (N1.out.call b2.out R2.out)
  clear R2 b2 N1 C2
  go_wp2_with fail
  refine (C3.out g _ N2.out.2.2.1).mono ?_
  rintro _ w3 ⟨rfl, R3, b3⟩
  have N3 := Lib.hid (N2.out.call b3.out R3.out)
  clear R3 b3 N2 C3
  obtain ⟨⟨p0, p1, p2, p3, p4, p5, p6⟩, ⟨f0, f1, f2, f3, f4, f5, f6⟩⟩ := N3.out.cells
  go_upto_region 4 with fail
  have M3 : Hid (Bk w g gc Z { ceZ with n := a1, ce := a2, po := a3 } l3 e3 _) := Lib.hid (((N3.out.setQ 0 (.int .i64 a1) { ceZ with n := a1 } (ceA_set0 _ _)).setQ 5 (.int .i64 a2) { ceZ with n := a1, ce := a2 } (ceA_set5 _ _)).setQ 6 (.int .i64 a3) { ceZ with n := a1, ce := a2, po := a3 } (ceA_set6 _ _))
  clear p0 p1 p2 p3 p4 p5 p6 f0 f1 f2 f3 f4 f5 f6 N3
  generalize ((w3.setCell ⟨gc, 0, none⟩ (.int .i64 a1)).setCell ⟨gc, 5, none⟩ (.int .i64 a2)).setCell ⟨gc, 6, none⟩ (.int .i64 a3) = W3 at *
  go_wp2_with fail
  refine (C4.out g _ M3.out.2.2.1).mono ?_
  rintro _ w4 ⟨rfl, R4, b4⟩
  have N4 := Lib.hid (M3.out.call b4.out R4.out)
  clear R4 b4 M3 C4
  go_wp2_with fail
  refine (C5.out g _ N4.out.2.2.1).mono ?_
  rintro _ w5 ⟨rfl, R5, b5⟩
  have N5 := Lib.hid (N4.out.call b5.out R5.out)
  clear R5 b5 N4 C5
  obtain ⟨⟨p0, p1, p2, p3, p4, p5, p6⟩, ⟨f0, f1, f2, f3, f4, f5, f6⟩⟩ := N5.out.cells
  go_upto_region 5 with fail
  have M5 : Hid (Bk w g gc Z { ceZ with n := a1, ce := a2, po := a3, mn := a4, mx := a5 } l5 e5 _) := Lib.hid ((N5.out.setQ 3 (.int .i64 a4) { ceZ with n := a1, ce := a2, po := a3, mn := a4 } (ceA_set3 _ _)).setQ 4 (.int .i64 a5) { ceZ with n := a1, ce := a2, po := a3, mn := a4, mx := a5 } (ceA_set4 _ _))
  clear p0 p1 p2 p3 p4 p5 p6 f0 f1 f2 f3 f4 f5 f6 N5
  generalize (w5.setCell ⟨gc, 3, none⟩ (.int .i64 a4)).setCell ⟨gc, 4, none⟩ (.int .i64 a5) = W5 at *
  go_wp2_with fail
  refine (C6.out g _ M5.out.2.2.1).mono ?_
  rintro _ w6 ⟨rfl, R6, b6⟩
  have N6 := Lib.hid (M5.out.call b6.out R6.out)
  clear R6 b6 M5 C6
  go_wp2_with fail
  have B7 := bytesWorld_below w6 5 tx
  refine (CB.out w6 _ _ rfl).mono ?_
  rintro _ w7 ⟨rfl, b7⟩
  have N7 := Lib.hid ((N6.out.next B7).next b7)
  clear B7 b7 N6 CB hcv
  go_upto_region 6 with fail
  have P6 := (one_alloc w7 (.cells #[.int .i64 (hiW a6), .int .u64 (loW a6)] 25))
  have N7b := Lib.hid (N7.out.next P6)
  have K6 : Hid (Kept (w7.alloc (.cells #[.int .i64 (hiW a6), .int .u64 (loW a6)] 25)) w7.heap.size #[.int .i64 (hiW a6), .int .u64 (loW a6)] 25) := Lib.hid (Kept.new rfl)
  clear P6 N7
  obtain ⟨g6, hg6⟩ : ∃ x, w7.heap.size = x := ⟨_, rfl⟩
  rw [hg6] at K6
  generalize w7.alloc (.cells #[.int .i64 (hiW a6), .int .u64 (loW a6)] 25) = W6 at *
  obtain ⟨k1, k2, k3, k4, k5⟩ := K6.out.two
  obtain ⟨⟨p0, p1, p2, p3, p4, p5, p6⟩, ⟨f0, f1, f2, f3, f4, f5, f6⟩⟩ := N7b.out.cells
  have M6 : Hid (Bk w g gc Z { ceZ with n := a1, ce := a2, po := a3, mn := a4, mx := a5, z := a6 } l6 e6 ((W6.setCell ⟨gc, 1, none⟩ (.int .i64 (hiW a6))).setCell ⟨gc, 2, none⟩ (.int .u64 (loW a6)))) := Lib.hid (N7b.out.setZ a6)
  generalize hiW a6 = z1 at *
  generalize loW a6 = z2 at *
  go_upto_region 7 with fail
  clear k1 k2 k3 k4 k5 p0 p1 p2 p3 p4 p5 p6 f0 f1 f2 f3 f4 f5 f6 N7b K6
  generalize (W6.setCell ⟨gc, 1, none⟩ (.int .i64 z1)).setCell ⟨gc, 2, none⟩ (.int .u64 z2) = W7 at *
  go_wp2_with fail
  refine (C7.out g _ M6.out.2.2.1).mono ?_
  rintro _ w8 ⟨rfl, R8, b8⟩
  have N8 := Lib.hid (M6.out.call b8.out R8.out)
  clear R8 b8 M6 C7
  have HL65 := HHL.out
  have d65 : (hC hh).size = 65 := by rw [hC_size]; exact HL65
  have da := hC_cells hh
  have B9 : Below w8.heap.size w8 ((w8.alloc (.cells Y 27)).setRow w8.heap.size (hC hh)) := below_setRow (one_alloc _ _) (Nat.le_refl _) _
  have N9 := Lib.hid (N8.out.next B9)
  have K9 : Hid (Kept ((w8.alloc (.cells Y 27)).setRow w8.heap.size (hC hh)) w8.heap.size (hC hh) 27) := Lib.hid (Kept.setRow (Kept.new rfl) _)
  have GY : Hid ((w8.alloc (.cells Y 27)).heap[w8.heap.size]? = some (.cells Y 27 (0, 0))) := Lib.hid (heap_alloc_new w8 _)
  have TH := N9.out.2.1.thereH rfl 65 rfl
  have M9 : Hid (Bk w g gc Z ⟨a1, a6, a4, a5, a2, a3, hh⟩ l7 e7 (((w8.alloc (.cells Y 27)).setRow w8.heap.size (hC hh)).setCells gc 7 (hC hh).toList)) := Lib.hid (N9.out.setH rfl HL65)
  clear B9 N9 N8
  generalize hC hh = D at *
  have di : (Try.prog.info? 27).map (·.size) = some D.size := by rw [d65]; exact h_info
  have yd : Y.size = D.size := by rw [y65, d65]
  rw [← d65] at TH
  go_upto_region 8 with (refine wpList_store_row rfl 27 _ _ rfl w8.heap.size D rfl rfl 27 Y GY.out di yd da ?_)
  generalize (w8.alloc (.cells Y 27)).setRow w8.heap.size D = W8 at *
  clear GY
  go_upto_region 9 with (first | refine wpList_load_row rfl 27 _ rfl w8.heap.size rfl 27 D (0, 0) _ K9.out h_under rfl di ?_ | refine wpList_store_mid rfl 27 _ _ rfl gc 7 D rfl rfl TH di da ?_)
  generalize W8.setCells gc 7 D.toList = W9 at *
  clear K9 TH d65 di yd da HL65
  go_wp2_with fail
  refine (C8.out g _ M9.out.2.2.1).mono ?_
  rintro _ wA ⟨rfl, RA, bA⟩
  have NA := Lib.hid (M9.out.call bA.out RA.out)
  clear RA bA M9 C8
  have KR := Lib.hid (fun W => right_any _ W HCIN.out)
  have hbc : backC b = if endS l7 e7 ≠ 0 then (ceZ, endS l7 e7) else if (b16 && rok) = false ∨ rtC ⟨a1, a6, a4, a5, a2, a3, hh⟩ = false then (ceZ, 10) else (⟨a1, a6, a4, a5, a2, a3, hh⟩, 0) := by unfold backC; rw [HEND.out.1]
  have FIN : Hid (∀ (q : Ce) (E : Int), backC b = (q, E) → ∀ C, q.A = C → ∀ W, Below w.heap.size w W → BkOut b w (.returned (.tuple #[.agg C, .int .i64 E])) W) := Lib.hid fun q E h C hC W hb => ⟨by rw [h, hC], hb⟩
  have KC := Lib.hid NA.out.2.1
  have KZ := Lib.hid NA.out.1
  have KB := Lib.hid NA.out.2.2.2.1
  have q72 : (Ce.mk a1 a6 a4 a5 a2 a3 hh).A.size = 72 := ce_size _ HHL.out
  have qa := ce_cells (Ce.mk a1 a6 a4 a5 a2 a3 hh)
  obtain ⟨rt, hrt⟩ : ∃ x, rtC (Ce.mk a1 a6 a4 a5 a2 a3 hh) = x := ⟨_, rfl⟩
  rw [hrt] at hbc KR
  obtain ⟨E9, hE9⟩ : ∃ x, endS l7 e7 = x := ⟨_, rfl⟩
  rw [hE9] at hbc
  rw [hE9]
  have FC := Lib.hid (FIN.out (Ce.mk a1 a6 a4 a5 a2 a3 hh) 0)
  obtain ⟨C, hC1⟩ : ∃ C, (Ce.mk a1 a6 a4 a5 a2 a3 hh).A = C := ⟨_, rfl⟩
  rw [hC1] at KC q72 qa KR FC
  have ci : (Try.prog.info? 29).map (·.size) = some C.size := by rw [q72]; exact c_info
  have zc : Z.size = C.size := by rw [z72, q72]
  clear NA HCIN HHL HEND hrt hE9 HQ0 HTX
  by_cases hE : E9 = 0
  · have htr := trivial
    subst hE
    rw [if_neg (by simp)] at hbc
    rcases hb1 : b16 with _ | _
    · rw [hb1] at hbc
      clear hb1
      have FZ := Lib.hid (FIN.out ceZ 10 (by rw [hbc]; simp) Z HZ.out)
      have RF : Hid (Kept (wA.setRow w.heap.size Z) w.heap.size Z 29) := Lib.hid (Kept.setRow KZ.out _)
      have BF := Lib.hid (below_setRow KB.out (g := w.heap.size) (Nat.le_refl _) Z)
      have hld := run_loadVar_row (P := Try.prog) (wA.setRow w.heap.size Z) w.heap.size 29 29 Z (0, 0) _ RF.out Try.underlying29 rfl zs
      clear FIN FC hbc
      go_wp2_with (first | refine wpList_cz rfl rfl Z HZ.out ?_ | refine wpList_store_row rfl 29 _ _ rfl w.heap.size Z rfl rfl 29 Z KZ.out zs rfl za ?_)
      refine bodyPost_ret (v := .tuple #[.agg Z, .int .i64 10]) (by simp [results, Try.results19, asAddr, Result.andThen, hld]) rfl ?_
      exact FZ.out _ BF.out
    · have htr := trivial
      rcases hb2 : rok with _ | _
      · rw [hb1, hb2] at hbc
        clear hb1 hb2
        have FZ := Lib.hid (FIN.out ceZ 10 (by rw [hbc]; simp) Z HZ.out)
        have RF : Hid (Kept (wA.setRow w.heap.size Z) w.heap.size Z 29) := Lib.hid (Kept.setRow KZ.out _)
        have BF := Lib.hid (below_setRow KB.out (g := w.heap.size) (Nat.le_refl _) Z)
        have hld := run_loadVar_row (P := Try.prog) (wA.setRow w.heap.size Z) w.heap.size 29 29 Z (0, 0) _ RF.out Try.underlying29 rfl zs
        clear FIN FC hbc
        go_wp2_with (first | refine wpList_cz rfl rfl Z HZ.out ?_ | refine wpList_store_row rfl 29 _ _ rfl w.heap.size Z rfl rfl 29 Z KZ.out zs rfl za ?_)
        refine bodyPost_ret (v := .tuple #[.agg Z, .int .i64 10]) (by simp [results, Try.results19, asAddr, Result.andThen, hld]) rfl ?_
        exact FZ.out _ BF.out
      · have htr := trivial
        rw [hb1, hb2] at hbc
        clear hb1 hb2
        go_upto_region 12 with fail
        rcases hr : rt with _ | _
        · rw [hr] at hbc KR
          go_upto_region 13 with (first | (refine wpList_load_rowG 29 _ rfl gc rfl 29 C (0, 0) _ KC.out Try.underlying29 rfl ci (by rfl) ?_) | (go_at_call 12; refine (KR.out _).mono ?_; rintro _ wB ⟨rfl, bB⟩; have KZ2 := Lib.hid (KZ.out.next bB); have KC2 := Lib.hid (KC.out.next bB); have KB2 := Lib.hid (KB.out.trans (bB.mono KB.out.size)); clear bB))
          have FZ := Lib.hid (FIN.out ceZ 10 (by rw [hbc]; simp) Z HZ.out)
          have RF : Hid (Kept (wB.setRow w.heap.size Z) w.heap.size Z 29) := Lib.hid (Kept.setRow KZ2.out _)
          have BF := Lib.hid (below_setRow KB2.out (g := w.heap.size) (Nat.le_refl _) Z)
          have hld := run_loadVar_row (P := Try.prog) (wB.setRow w.heap.size Z) w.heap.size 29 29 Z (0, 0) _ RF.out Try.underlying29 rfl zs
          clear FIN FC hbc
          go_wp2_with (first | refine wpList_cz rfl rfl Z HZ.out ?_ | refine wpList_store_row rfl 29 _ _ rfl w.heap.size Z rfl rfl 29 Z KZ2.out zs rfl za ?_)
          refine bodyPost_ret (v := .tuple #[.agg Z, .int .i64 10]) (by simp [results, Try.results19, asAddr, Result.andThen, hld]) rfl ?_
          exact FZ.out _ BF.out
        · rw [hr] at hbc KR
          go_upto_region 14 with (first | (refine wpList_load_rowG 29 _ rfl gc rfl 29 C (0, 0) _ KC.out Try.underlying29 rfl ci (by rfl) ?_) | (go_at_call 12; refine (KR.out _).mono ?_; rintro _ wB ⟨rfl, bB⟩; have KZ2 := Lib.hid (KZ.out.next bB); have KC2 := Lib.hid (KC.out.next bB); have KB2 := Lib.hid (KB.out.trans (bB.mono KB.out.size)); clear bB))
          have FZ := Lib.hid (FC.out (by rw [hbc]; simp) C rfl)
          have RF : Hid (Kept (wB.setRow w.heap.size C) w.heap.size C 29) := Lib.hid (Kept.setRow KZ2.out _)
          have BF := Lib.hid (below_setRow KB2.out (g := w.heap.size) (Nat.le_refl _) C)
          have hld := run_loadVar_row (P := Try.prog) (wB.setRow w.heap.size C) w.heap.size 29 29 C (0, 0) _ RF.out Try.underlying29 rfl ci
          clear FIN FC hbc
          go_wp2_with (first | refine wpList_load_row rfl 29 _ rfl gc rfl 29 C (0, 0) _ KC2.out Try.underlying29 rfl ci ?_ | refine wpList_store_row rfl 29 _ _ rfl w.heap.size C rfl rfl 29 Z KZ2.out ci zc qa ?_)
          refine bodyPost_ret (v := .tuple #[.agg C, .int .i64 0]) (by simp [results, Try.results19, asAddr, Result.andThen, hld]) rfl ?_
          exact FZ.out _ BF.out
  · rw [if_pos hE] at hbc
    have FZ := Lib.hid (FIN.out ceZ E9 (by rw [hbc]; skip) Z HZ.out)
    have RF : Hid (Kept (wA.setRow w.heap.size Z) w.heap.size Z 29) := Lib.hid (Kept.setRow KZ.out _)
    have BF := Lib.hid (below_setRow KB.out (g := w.heap.size) (Nat.le_refl _) Z)
    have hld := run_loadVar_row (P := Try.prog) (wA.setRow w.heap.size Z) w.heap.size 29 29 Z (0, 0) _ RF.out Try.underlying29 rfl zs
    have hne : (E9 != 0) = true := by simp [hE]
    clear FIN FC hbc hE
    go_wp2_with (first | refine wpList_cz rfl rfl Z HZ.out ?_ | refine wpList_store_row rfl 29 _ _ rfl w.heap.size Z rfl rfl 29 Z KZ.out zs rfl za ?_)
    refine bodyPost_ret (v := .tuple #[.agg Z, .int .i64 E9]) (by simp [results, Try.results19, asAddr, Result.andThen, hld]) rfl ?_
    exact FZ.out _ BF.out
end Go.Proofs.Ytpmoidpncpfnlaa
