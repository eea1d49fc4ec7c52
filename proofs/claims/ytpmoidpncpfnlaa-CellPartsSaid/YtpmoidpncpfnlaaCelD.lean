/- cell.total, for every row of cells and each of the three numbers. -/
import Derived.Test.YtpmoidpncpfnlaaCelC
import Derived.Conc.MuLone
namespace Go.Proofs.Ytpmoidpncpfnlaa
open Go.RowKit
set_option linter.unusedVariables false
set_option linter.unusedSimpArgs false

theorem info_i64 : (Try.prog.info? 2).map (fun i => (i.zero, i.size, i.bytes)) = some (some (.int .i64 0), 1, 8) := by kernel_rfl
theorem owns_below {w w' : World} {base e size n : Nat} {v : Value} {xs : List Value} (h : w.ownsRow base e size v n xs) (hb : Below w.heap.size w w') : w'.ownsRow base e size v n xs := by
  obtain ⟨h1, h2⟩ := h
  refine ⟨h1, ?_⟩
  rcases h2 with h2 | ⟨g, cap, cur, e1, e2, e3, e4⟩
  · exact .inl h2
  · exact .inr ⟨g, cap, cur, e1, e2, (hb.block g (Array.getElem?_eq_some_iff.1 e3).1).trans e3, e4⟩
def TotRel (L : List Ce) (f : Ce → Int) (w : World) (v i : Value) (wr : World) : Prop := ∃ k : Nat, k ≤ L.length ∧ i = .int .i64 k ∧ Hid (wr.ownsRow w.heap.size 2 1 v k (((L.take k).map f).map (Value.int .i64))) ∧ Hid (Below w.heap.size w wr)
def TotOut (L : List Ce) (f : Ce → Int) (w : World) (e : Ending) (w' : World) : Prop := e = .returned (.tuple #[.int .i64 (vI (isum (L.map f))), .int .i64 (eI (isum (L.map f)))]) ∧ Below w.heap.size w w'
set_option maxHeartbeats 4000000 in
set_option maxRecDepth 1000000 in
theorem ctotal_any (F : FuncId) (hE : ∀ args W, (callFunc F args).run Try.prog W = .ok (.enter F args) W) (f : Ce → Int) (hF : ∀ q : Ce, ∀ W, Calls Try.prog F #[.agg q.A] W (Gives (.int .i64 (f q)) W)) (a : Option Addr) (c : Nat) (L : List Ce) (w : World) (hr : CsAt w a L) (h65 : All72 L) (hin : ∀ x ∈ L.map f, InI x) (hl : L.length ≤ 1000000) :
    Calls Try.prog 40 #[.slice a L.length c, .func (.func F) #[] #[]] w (TotOut L f w) := by
  have hz := c_zero
  obtain ⟨Z, hZ⟩ : ∃ Z, ceZ.A = Z := ⟨_, rfl⟩
  have z72 : Z.size = 72 := by rw [← hZ]; exact ce_size _ rfl
  have zs : (Try.prog.info? 29).map (·.size) = some Z.size := by rw [z72]; exact c_info
  rw [hZ] at hz
  have HR := Lib.hid hr
  have H65 := Lib.hid h65
  have HIN := Lib.hid hin
  have HF := Lib.hid hF
  have HS : Hid (TotRel L f w (.slice none 0 0) (.int .i64 0) w) := Lib.hid ⟨0, Nat.zero_le _, rfl, Lib.hid (World.ownsRow_nil _ _ _ _), Lib.hid (Below.refl _ _)⟩
  obtain ⟨i0, hi, hz0, hz1, hz2⟩ := info_parts info_i64
  clear hr h65 hZ hin hF
  go_enter Try.func40, Try.ntmps40
  go_wp2
  go_loopw [6, 11] (fun v i wr => TotRel L f w v i wr) (fun _ i _ => L.length - (intOf i).toNat)
  case atStart => exact HS.out
  case round =>
    obtain ⟨k, hk, rfl, O0, B0⟩ := hrel
    clear HS
    by_cases hlt : k < L.length
    · obtain ⟨b, off, rfl, h1⟩ := HR.out k hlt
      have hlen := H65.out k hlt
      have c1 : wr.rangeAt b (off + k * 72) (L.getD k ceZ).A.toList := fun i v hv => (B0.out.cell (World.block_lt_of_cell? w _ (h1 i v hv))).trans (h1 i v hv)
      have HLT := Lib.hid hlt
      have hsn : (L.take (k + 1)).map f = (L.take k).map f ++ [f (L.getD k ceZ)] := by
        rw [List.take_add_one, List.getElem?_eq_getElem hlt, Option.toList_some, List.map_append]
        simp only [List.getD, List.getElem?_eq_getElem hlt, Option.getD_some, List.map_cons, List.map_nil]
      obtain ⟨q, hq⟩ : ∃ q, L.getD k ceZ = q := ⟨_, rfl⟩
      rw [hq] at hlen c1 hsn
      have C1 : Hid (∀ W, Calls Try.prog F #[.agg q.A] W (Gives (.int .i64 (f q)) W)) := Lib.hid (HF.out q)
      have G1 : Hid ((wr.alloc (.cells Z 29)).heap[wr.heap.size]? = some (.cells Z 29 (0, 0))) := Lib.hid (heap_alloc_new wr _)
      have G2 : Hid (((wr.alloc (.cells Z 29)).setRow wr.heap.size q.A).heap[wr.heap.size]? = some (.cells q.A 29 (0, 0))) := Lib.hid (setRow_heap _ _ _ _ _ _ G1.out)
      have BL : Hid (Below wr.heap.size wr ((wr.alloc (.cells Z 29)).setRow wr.heap.size q.A)) := Lib.hid (below_setRow (one_alloc _ _) (Nat.le_refl _) _)
      have q72 : q.A.size = 72 := ce_size _ hlen
      have qa := ce_cells q
      obtain ⟨u, hu⟩ : ∃ u, f q = u := ⟨_, rfl⟩
      rw [hu] at hsn C1
      generalize q.A = C at *
      have ci : (Try.prog.info? 29).map (·.size) = some C.size := by rw [q72]; exact c_info
      have cl : (Try.prog.info? 29).map (·.size) = some C.toList.length := by rw [Array.length_toList, q72]; exact c_info
      have zc : Z.size = C.size := by rw [z72, q72]
      obtain ⟨X, hX⟩ : ∃ X, ((L.take k).map f).map (Value.int .i64) = X := ⟨_, rfl⟩
      rw [hX] at O0
      have FF : Hid (∀ v W, W.ownsRow w.heap.size 2 1 v (k + 1) (X ++ [.int .i64 u]) → Below w.heap.size w W → TotRel L f w v (.int .i64 ((k : Int) + 1)) W) := Lib.hid fun v W h1 h2 => ⟨k + 1, HLT.out, rfl, Lib.hid (by rw [hsn, List.map_append, hX]; exact h1), Lib.hid h2⟩
      have hkk : (k : Int) < (L.length : Int) := by omega
      have hk0 : (0 : Int) ≤ (k : Int) := by omega
      have hc1 : k + 1 ≤ maxLen := by unfold maxLen; omega
      have hc2 : (k + 1) * 8 ≤ 140737488355328 := by omega
      have OB := Lib.hid (fun W (hb : Below wr.heap.size wr W) => owns_below O0.out hb)
      have BB := Lib.hid (fun W (hb : Below wr.heap.size wr W) => B0.out.trans (hb.mono B0.out.size))
      clear hX hu hq hsn hlen h1 q72 hlt hk
      go_wp2_with (first
        | refine wpList_load_mid rfl 29 _ rfl b (off + k * 72) rfl C.toList _ c1 Try.underlying29 rfl cl ?_
        | refine wpList_store_row rfl 29 _ _ rfl wr.heap.size C rfl rfl 29 Z G1.out ci zc qa ?_
        | refine wpList_load_row rfl 29 _ rfl wr.heap.size rfl 29 C (0, 0) _ G2.out Try.underlying29 rfl ci ?_)
      refine (C1.out _).mono ?_
      rintro _ w1 ⟨rfl, b1⟩
      have BL2 := BL.out.trans (b1.mono BL.out.size)
      have O1 := Lib.hid (OB.out _ BL2)
      have B1 := Lib.hid (BB.out _ BL2)
      clear BL2 OB BB BL G1 G2 b1 c1 C1 O0
      go_wp2_with (at_builtin; refine wpList_append1 rfl _ _ 22 rfl w 2 i0 (.int .i64 0) 8 Try.underlying22 hi hz0 hz1 hz2 rfl _ _ _ _ rfl O1.out (.int .i64 u) rfl rfl hc1 hc2 B1.out ?_)
      intro v' w2 h2 b2
      have FF1 := Lib.hid (FF.out _ _ h2 b2)
      clear h2 b2 O1 B1 FF
      go_wp2
      go_roundw
      case rel => exact FF1.out
      case measure => have := HLT.out; simp [intOf]; omega
    · obtain rfl : k = L.length := by omega
      rw [List.take_length] at O0
      obtain ⟨a2, c2, rfl, e2, -, -, -, r2⟩ := IntRow.own O0.out
      have SS : Hid (Calls Try.prog 73 #[.slice a2 L.length c2] wr (SSumPost (L.map f) wr)) := Lib.hid (by
        rw [← e2]
        exact ssum_any a2 c2 (L.map f) wr r2 HIN.out (by rw [e2]; omega))
      unfold SSumPost at SS
      obtain ⟨V, hV⟩ : ∃ V, vI (isum (L.map f)) = V := ⟨_, rfl⟩
      obtain ⟨E, hEE⟩ : ∃ V, eI (isum (L.map f)) = V := ⟨_, rfl⟩
      rw [hV, hEE] at SS
      have FIN : Hid (TotOut L f w (.returned (.tuple #[.int .i64 V, .int .i64 E])) wr) := Lib.hid ⟨by rw [hV, hEE], B0.out⟩
      clear hlt hk e2 r2 O0 hV hEE
      go_wp2_with fail
      refine SS.out.mono ?_
      rintro _ _ ⟨rfl, rfl⟩
      go_wp2
      go_ret2
      exact FIN.out
theorem total1_any (a : Option Addr) (c : Nat) (L : List Ce) (w : World) (hr : CsAt w a L) (h65 : All72 L) (hin : ∀ x ∈ L.map Ce.n, InI x) (hl : L.length ≤ 1000000) :
    Calls Try.prog 40 #[.slice a L.length c, .func (.func 41) #[] #[]] w (TotOut L Ce.n w) :=
  ctotal_any _ (fun args W => Go.MuLone.run_callFunc_enter Try.func41 (by kernel_rfl) rfl args W) Ce.n of1_any a c L w hr h65 hin hl
theorem total2_any (a : Option Addr) (c : Nat) (L : List Ce) (w : World) (hr : CsAt w a L) (h65 : All72 L) (hin : ∀ x ∈ L.map Ce.ce, InI x) (hl : L.length ≤ 1000000) :
    Calls Try.prog 40 #[.slice a L.length c, .func (.func 42) #[] #[]] w (TotOut L Ce.ce w) :=
  ctotal_any _ (fun args W => Go.MuLone.run_callFunc_enter Try.func42 (by kernel_rfl) rfl args W) Ce.ce of2_any a c L w hr h65 hin hl
theorem total3_any (a : Option Addr) (c : Nat) (L : List Ce) (w : World) (hr : CsAt w a L) (h65 : All72 L) (hin : ∀ x ∈ L.map Ce.po, InI x) (hl : L.length ≤ 1000000) :
    Calls Try.prog 40 #[.slice a L.length c, .func (.func 43) #[] #[]] w (TotOut L Ce.po w) :=
  ctotal_any _ (fun args W => Go.MuLone.run_callFunc_enter Try.func43 (by kernel_rfl) rfl args W) Ce.po of3_any a c L w hr h65 hin hl
end Go.Proofs.Ytpmoidpncpfnlaa
