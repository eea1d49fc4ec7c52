/- Stores into a cell; the model of Merge. -/
import Derived.Test.YtpmoidpncpfnlaaCelK
namespace Go.Proofs.Ytpmoidpncpfnlaa
open Go.RowKit
set_option linter.unusedVariables false
set_option linter.unusedSimpArgs false

theorem Kept.setCells {g : Nat} {t : TypeId} : ∀ (vs old pre post : List Value) (W : World) (o : Nat), Kept W g (pre ++ (old ++ post)).toArray t → pre.length = o → old.length = vs.length → Kept (W.setCells g o vs) g (pre ++ (vs ++ post)).toArray t
  | [], old, pre, post, W, o, h, hp, ho => by
    have : old = [] := by simpa using ho
    subst this
    exact h
  | v :: vs, [], pre, post, W, o, h, hp, ho => by simp at ho
  | v :: vs, x :: old, pre, post, W, o, h, hp, ho => by
    have h1 := h.set o v
    have e : (pre ++ (x :: old ++ post)).toArray.setIfInBounds o v = ((pre ++ [v]) ++ (old ++ post)).toArray := by
      apply Array.ext'
      simp [← hp]
    rw [e] at h1
    have h2 := Kept.setCells vs old (pre ++ [v]) post (W.setCell ⟨g, o, none⟩ v) (o + 1) h1 (by simp [hp]) (by simpa using ho)
    rw [World.setCells]
    simpa using h2
theorem Kept.setCells_far {g b : Nat} {t : TypeId} {cs : Array Value} (hne : g ≠ b) : ∀ (vs : List Value) (W : World) (o : Nat), Kept W g cs t → Kept (W.setCells b o vs) g cs t
  | [], W, o, h => h
  | v :: vs, W, o, h => Kept.setCells_far hne vs _ (o + 1) (h.far (p := ⟨b, o, none⟩) hne v)
theorem below_setCells {B b : Nat} {w : World} (hb : B ≤ b) : ∀ (vs : List Value) (W : World) (o : Nat), Below B w W → Below B w (W.setCells b o vs)
  | [], W, o, h => h
  | v :: vs, W, o, h => below_setCells hb vs _ (o + 1) (h.setCell (p := ⟨b, o, none⟩) hb v)
theorem Kept.cellH {W : World} {g : Nat} {c : Ce} {t : TypeId} {l : List Int} (h : Kept W g c.A t) (h1 : c.H.length = 65) (h2 : l.length = 65) : Kept (W.setCells g 7 (hC l).toList) g ({ c with H := l } : Ce).A t := by
  have := Kept.setCells (hC l).toList (c.H.map (Value.int .i64)) [.int .i64 c.n, .int .i64 (hiW c.z), .int .u64 (loW c.z), .int .i64 c.mn, .int .i64 c.mx, .int .i64 c.ce, .int .i64 c.po] [] W 7 (by rw [List.append_nil]; exact h) rfl (by rw [hC_list]; simp [h1, h2])
  rw [List.append_nil, hC_list] at this
  rw [hC_list]
  exact this
theorem Kept.thereH {W : World} {g : Nat} {c : Ce} {t : TypeId} (h : Kept W g c.A t) (h1 : c.H.length = 65) (n : Nat) (hn : n = 65) : W.there g 7 n := fun j hj => by
  obtain ⟨h2, h3⟩ := h.at_ (7 + j)
  refine ⟨?_, h3⟩
  rw [h2]
  show (ceL c.n (hiW c.z) (loW c.z) c.mn c.mx c.ce c.po c.H).toArray[7 + j]?.isSome = true
  rw [List.getElem?_toArray, ceL_hist _ _ _ _ _ _ _ _ j (by omega)]
  rfl
theorem ceA_set0 (c : Ce) (v : Int) : c.A.setIfInBounds 0 (.int .i64 v) = ({ c with n := v } : Ce).A := rfl
theorem ceA_set3 (c : Ce) (v : Int) : c.A.setIfInBounds 3 (.int .i64 v) = ({ c with mn := v } : Ce).A := rfl
theorem ceA_set4 (c : Ce) (v : Int) : c.A.setIfInBounds 4 (.int .i64 v) = ({ c with mx := v } : Ce).A := rfl
theorem ceA_set12 (c : Ce) (z : Int) : (c.A.setIfInBounds 1 (.int .i64 (hiW z))).setIfInBounds 2 (.int .u64 (loW z)) = ({ c with z := z } : Ce).A := rfl
def wrongL (L : List Ce) : Prop := ∃ j, j < L.length ∧ rtC (L.getD j ceZ) = false
def overL (L : List Ce) : Prop := ¬ InI (isum (L.map Ce.n)) ∨ ¬ InI (isum (L.map Ce.ce)) ∨ ¬ InI (isum (L.map Ce.po)) ∨ ¬ InW (zS L) ∨ overP (L.map Ce.H)
def allC (L : List Ce) : Ce := ⟨isum (L.map Ce.n), zS L, (ends2 L).1, (ends2 L).2.1, isum (L.map Ce.ce), isum (L.map Ce.po), sumR (L.map Ce.H)⟩
def CIn (L : List Ce) : Prop := ∀ j, j < L.length → CeIn (L.getD j ceZ)
theorem cIn_mem {L : List Ce} (h : CIn L) : ∀ c ∈ L, CeIn c := fun c hc => by
  obtain ⟨j, hj, rfl⟩ := List.getElem_of_mem hc
  have := h j hj
  rwa [List.getD, List.getElem?_eq_getElem hj] at this
/-- what Merge answers -/
def MrOut (L : List Ce) (w : World) (e : Ending) (w' : World) : Prop := (∃ q E, e = .returned (.tuple #[.agg q.A, .int .i64 E]) ∧ Hid ((wrongL L ∧ q = ceZ ∧ E = 10) ∨ (¬ wrongL L ∧ overL L ∧ q = ceZ ∧ E = 12) ∨ (¬ wrongL L ∧ ¬ overL L ∧ q = allC L ∧ E = 0))) ∧ Below w.heap.size w w'
theorem rtC_pos {c : Ce} (h : rtC c = true) (hl : c.H.length = 65) : okL c.H = true := by
  unfold rtC at h
  simp only [Bool.and_eq_true] at h
  have h1 := h.1.2
  rw [List.all_eq_true] at h1
  refine okL_iff.2 fun k hk => ?_
  by_cases e : c.H.getD k 0 = 0
  · rw [e]; exact Int.le_refl _
  · have := h1 (k, c.H.getD k 0) ((mem_fullF _ _ _).2 ⟨hk, rfl, e⟩)
    unfold okB at this
    generalize c.H.getD k 0 = v at *
    simp at this
    omega
set_option maxRecDepth 1000000 in
theorem errs_neq (a b c d e : Int) (ha : a = 0 ∨ a = 12) (hb : b = 0 ∨ b = 12) (hc : c = 0 ∨ c = 12) (hd : d = 0 ∨ d = 12) (he : e = 0 ∨ e = 12) (w : World) :
    (binOp .neq 77 (.agg #[.int .i64 a, .int .i64 b, .int .i64 c, .int .i64 d, .int .i64 e]) (.agg #[.int .i64 0, .int .i64 0, .int .i64 0, .int .i64 0, .int .i64 0])).run Try.prog w = .ok (.bool (!decide (a = 0 ∧ b = 0 ∧ c = 0 ∧ d = 0 ∧ e = 0))) w := by
  rcases ha with rfl | rfl <;> rcases hb with rfl | rfl <;> rcases hc with rfl | rfl <;> rcases hd with rfl | rfl <;> rcases he with rfl | rfl <;> kernel_rfl
theorem eI_two (x : Int) : eI x = 0 ∨ eI x = 12 := by unfold eI; split <;> simp
theorem eW_two (x : Int) : eW x = 0 ∨ eW x = 12 := by unfold eW; split <;> simp
theorem eI_zero {x : Int} : eI x = 0 ↔ InI x := by unfold eI; split <;> simp [*]
theorem eW_zero {x : Int} : eW x = 0 ↔ InW x := by unfold eW; split <;> simp [*]
def M0Rel (L : List Ce) (w : World) (Z : Array Value) (i : Value) (wr : World) : Prop := ∃ k : Nat, k ≤ L.length ∧ i = .int .i64 k ∧ Hid (∀ j, j < k → rtC (L.getD j ceZ) = true) ∧ Hid (Kept wr w.heap.size Z 29 ∧ Below w.heap.size w wr)
set_option maxRecDepth 1000000 in
theorem e77_zero (w : World) : (zeroValue 77).run Try.prog w = .ok (.agg #[.int .i64 0, .int .i64 0, .int .i64 0, .int .i64 0, .int .i64 0]) w := by kernel_rfl
set_option maxRecDepth 1000000 in
theorem e77_info : (Try.prog.info? 77).map (·.size) = some 5 := by kernel_rfl
theorem bset1 {B : Nat} {a w : World} {g o : Nat} (h : Below B a w) (hg : B ≤ g) (p : Value) : Below B a (w.setCell ⟨g, o, none⟩ p) := h.setCell hg p
/-- what the walk of Merge carries: the result's box, the new cell, the five errors -/
def Mr (w : World) (g : Nat) (Z : Array Value) (q : Ce) (a b c d e : Int) (W : World) : Prop := Kept W w.heap.size Z 29 ∧ Kept W g q.A 29 ∧ Kept W (g + 1) #[.int .i64 a, .int .i64 b, .int .i64 c, .int .i64 d, .int .i64 e] 77 ∧ Below w.heap.size w W ∧ w.heap.size < g
theorem Mr.next {w W W' : World} {g : Nat} {Z : Array Value} {q : Ce} {a b c d e : Int} (h : Mr w g Z q a b c d e W) (hb : Below W.heap.size W W') : Mr w g Z q a b c d e W' := ⟨h.1.next hb, h.2.1.next hb, h.2.2.1.next hb, h.2.2.2.1.trans (hb.mono h.2.2.2.1.size), h.2.2.2.2⟩
theorem Mr.setQ {w W : World} {g : Nat} {Z : Array Value} {q : Ce} {a b c d e : Int} (h : Mr w g Z q a b c d e W) (i : Nat) (v : Value) (q' : Ce) (hq : q.A.setIfInBounds i v = q'.A) : Mr w g Z q' a b c d e (W.setCell ⟨g, i, none⟩ v) := by
  have hg := h.2.2.2.2
  exact ⟨h.1.far (by simp; omega) _, by rw [← hq]; exact h.2.1.set i v, h.2.2.1.far (by simp) _, h.2.2.2.1.setCell (by simp; omega) _, hg⟩
theorem Mr.setZ {w W : World} {g : Nat} {Z : Array Value} {q : Ce} {a b c d e : Int} (h : Mr w g Z q a b c d e W) (z : Int) : Mr w g Z { q with z := z } a b c d e ((W.setCell ⟨g, 1, none⟩ (.int .i64 (hiW z))).setCell ⟨g, 2, none⟩ (.int .u64 (loW z))) := by
  have hg := h.2.2.2.2
  exact ⟨(h.1.far (by simp; omega) _).far (by simp; omega) _, by rw [← ceA_set12]; exact (h.2.1.set 1 _).set 2 _, (h.2.2.1.far (by simp) _).far (by simp) _, (h.2.2.2.1.setCell (by simp; omega) _).setCell (by simp; omega) _, hg⟩
theorem Mr.setE {w W : World} {g : Nat} {Z : Array Value} {q : Ce} {a b c d e a' b' c' d' e' : Int} (h : Mr w g Z q a b c d e W) (i : Nat) (v : Value) (hq : (#[.int .i64 a, .int .i64 b, .int .i64 c, .int .i64 d, .int .i64 e] : Array Value).setIfInBounds i v = #[.int .i64 a', .int .i64 b', .int .i64 c', .int .i64 d', .int .i64 e']) : Mr w g Z q a' b' c' d' e' (W.setCell ⟨g + 1, i, none⟩ v) := by
  have hg := h.2.2.2.2
  exact ⟨h.1.far (by simp; omega) _, h.2.1.far (by simp) _, by rw [← hq]; exact h.2.2.1.set i v, h.2.2.2.1.setCell (by simp; omega) _, hg⟩
theorem Mr.setH {w W : World} {g : Nat} {Z : Array Value} {q : Ce} {a b c d e : Int} {l : List Int} (h : Mr w g Z q a b c d e W) (h1 : q.H.length = 65) (h2 : l.length = 65) : Mr w g Z { q with H := l } a b c d e (W.setCells g 7 (hC l).toList) := by
  have hg := h.2.2.2.2
  exact ⟨Kept.setCells_far (by omega) _ _ _ h.1, h.2.1.cellH h1 h2, Kept.setCells_far (by omega) _ _ _ h.2.2.1, below_setCells (by omega) _ _ _ h.2.2.2.1, hg⟩
/-- the cells of the five errors and of the new cell -/
theorem Mr.cells {w W : World} {g : Nat} {Z : Array Value} {q : Ce} {a b c d e : Int} (h : Mr w g Z q a b c d e W) : (W.cell? ⟨g, 0, none⟩ = some (.int .i64 q.n) ∧ W.cell? ⟨g, 1, none⟩ = some (.int .i64 (hiW q.z)) ∧ W.cell? ⟨g, 2, none⟩ = some (.int .u64 (loW q.z)) ∧ W.cell? ⟨g, 3, none⟩ = some (.int .i64 q.mn) ∧ W.cell? ⟨g, 4, none⟩ = some (.int .i64 q.mx) ∧ W.cell? ⟨g, 5, none⟩ = some (.int .i64 q.ce) ∧ W.cell? ⟨g, 6, none⟩ = some (.int .i64 q.po)) ∧
    (W.frozen? ⟨g, 0, none⟩ = false ∧ W.frozen? ⟨g, 1, none⟩ = false ∧ W.frozen? ⟨g, 2, none⟩ = false ∧ W.frozen? ⟨g, 3, none⟩ = false ∧ W.frozen? ⟨g, 4, none⟩ = false ∧ W.frozen? ⟨g, 5, none⟩ = false ∧ W.frozen? ⟨g, 6, none⟩ = false) ∧
    (W.cell? ⟨g + 1, 0, none⟩ = some (.int .i64 a) ∧ W.cell? ⟨g + 1, 1, none⟩ = some (.int .i64 b) ∧ W.cell? ⟨g + 1, 2, none⟩ = some (.int .i64 c) ∧ W.cell? ⟨g + 1, 3, none⟩ = some (.int .i64 d) ∧ W.cell? ⟨g + 1, 4, none⟩ = some (.int .i64 e)) ∧
    (W.frozen? ⟨g + 1, 0, none⟩ = false ∧ W.frozen? ⟨g + 1, 1, none⟩ = false ∧ W.frozen? ⟨g + 1, 2, none⟩ = false ∧ W.frozen? ⟨g + 1, 3, none⟩ = false ∧ W.frozen? ⟨g + 1, 4, none⟩ = false) :=
  ⟨h.2.1.cell7, ⟨(h.2.1.at_ 0).2, (h.2.1.at_ 1).2, (h.2.1.at_ 2).2, (h.2.1.at_ 3).2, (h.2.1.at_ 4).2, (h.2.1.at_ 5).2, (h.2.1.at_ 6).2⟩,
    ⟨(h.2.2.1.at_ 0).1, (h.2.2.1.at_ 1).1, (h.2.2.1.at_ 2).1, (h.2.2.1.at_ 3).1, (h.2.2.1.at_ 4).1⟩, ⟨(h.2.2.1.at_ 0).2, (h.2.2.1.at_ 1).2, (h.2.2.1.at_ 2).2, (h.2.2.1.at_ 3).2, (h.2.2.1.at_ 4).2⟩⟩
set_option maxHeartbeats 8000000 in
set_option maxRecDepth 1000000 in
theorem cmerge_any (a : Option Addr) (c : Nat) (L : List Ce) (w : World) (hr : CsAt w a L) (hin : CIn L) (hl : L.length ≤ 100000) :
    Calls Try.prog 18 #[.slice a L.length c] w (MrOut L w) := by
  have hz := c_zero
  obtain ⟨Z, hZ⟩ : ∃ Z, ceZ.A = Z := ⟨_, rfl⟩
  have z72 : Z.size = 72 := by rw [← hZ]; exact ce_size _ rfl
  have zs : (Try.prog.info? 29).map (·.size) = some Z.size := by rw [z72]; exact c_info
  have za : Z.all (·.oneCell') = true := by rw [← hZ]; exact ce_cells _
  rw [hZ] at hz
  have HZ := Lib.hid hZ
  have HR := Lib.hid hr
  have HIN := Lib.hid hin
  have HS : Hid (M0Rel L w Z (.int .i64 0) (w.alloc (.cells Z 29))) := Lib.hid ⟨0, Nat.zero_le _, rfl, Lib.hid (fun j hj => by omega), Lib.hid ⟨Kept.new rfl, one_alloc _ _⟩⟩
  have FNO : Hid (wrongL L → ∀ W, Below w.heap.size w W → MrOut L w (.returned (.tuple #[.agg Z, .int .i64 10])) W) := Lib.hid fun h W hb => ⟨⟨ceZ, 10, by rw [hZ], Lib.hid (.inl ⟨h, rfl, rfl⟩)⟩, hb⟩
  clear hr hZ hin
  go_enter Try.func18, Try.ntmps18
  go_wp2
  go_loopw [10] (fun i wr => M0Rel L w Z i wr) (fun i _ => L.length - (intOf i).toNat)
  case atStart => exact HS.out
  case round =>
    obtain ⟨k, hk, rfl, HV, H0⟩ := hrel
    clear HS
    by_cases hlt : k < L.length
    · obtain ⟨b, off, rfl, h1⟩ := HR.out k hlt
      have hcin := HIN.out k hlt
      have B0 := Lib.hid H0.out.2
      have c1 : wr.rangeAt b (off + k * 72) (L.getD k ceZ).A.toList := fun i v hv => (B0.out.cell (World.block_lt_of_cell? w _ (h1 i v hv))).trans (h1 i v hv)
      have HLT := Lib.hid hlt
      have FNO2 : Hid (rtC (L.getD k ceZ) = false → ∀ W, Below w.heap.size w W → MrOut L w (.returned (.tuple #[.agg Z, .int .i64 10])) W) := Lib.hid fun h => FNO.out ⟨k, hlt, h⟩
      have FGO : Hid (rtC (L.getD k ceZ) = true → ∀ W, Below wr.heap.size wr W → M0Rel L w Z (.int .i64 ((k : Int) + 1)) W) := Lib.hid fun h W hb => ⟨k + 1, hlt, rfl, Lib.hid (fun j hj => by
        by_cases e : j = k
        · rw [e]; exact h
        · exact HV.out j (by omega)), Lib.hid ⟨H0.out.1.next hb, H0.out.2.trans (hb.mono H0.out.2.size)⟩⟩
      obtain ⟨q, hq⟩ : ∃ q, L.getD k ceZ = q := ⟨_, rfl⟩
      rw [hq] at c1 hcin FNO2 FGO
      have CR := Lib.hid (fun W => right_any q W hcin)
      have q72 : q.A.size = 72 := ce_size _ hcin.len
      have qa := ce_cells q
      have G1 : Hid ((wr.alloc (.cells Z 29)).heap[wr.heap.size]? = some (.cells Z 29 (0, 0))) := Lib.hid (heap_alloc_new wr _)
      have G2 : Hid (((wr.alloc (.cells Z 29)).setRow wr.heap.size q.A).heap[wr.heap.size]? = some (.cells q.A 29 (0, 0))) := Lib.hid (setRow_heap _ _ _ _ _ _ G1.out)
      have BL : Hid (Below wr.heap.size wr ((wr.alloc (.cells Z 29)).setRow wr.heap.size q.A)) := Lib.hid (below_setRow (one_alloc _ _) (Nat.le_refl _) _)
      have GB : w.heap.size < wr.heap.size := H0.out.1.lt
      obtain ⟨r, hrt⟩ : ∃ r, rtC q = r := ⟨_, rfl⟩
      rw [hrt] at FNO2 FGO CR
      generalize q.A = C at *
      have ci : (Try.prog.info? 29).map (·.size) = some C.size := by rw [q72]; exact c_info
      have cl : (Try.prog.info? 29).map (·.size) = some C.toList.length := by rw [Array.length_toList, q72]; exact c_info
      have zc : Z.size = C.size := by rw [z72, q72]
      have hkk : (k : Int) < (L.length : Int) := by omega
      have hk0 : (0 : Int) ≤ (k : Int) := by omega
      clear hcin hq h1 q72 hlt hk hrt HV FNO
      cases r
      · have FF := Lib.hid (FNO2.out rfl)
        clear FNO2 FGO
        go_wp2_with (first
          | refine wpList_load_mid rfl 29 _ rfl b (off + k * 72) rfl C.toList _ c1 Try.underlying29 rfl cl ?_
          | refine wpList_store_row rfl 29 _ _ rfl wr.heap.size C rfl rfl 29 Z G1.out ci zc qa ?_
          | refine wpList_load_row rfl 29 _ rfl wr.heap.size rfl 29 C (0, 0) _ G2.out Try.underlying29 rfl ci ?_)
        refine (CR.out _).mono ?_
        rintro _ w1 ⟨rfl, b1⟩
        have B1 := BL.out.trans (b1.mono BL.out.size)
        have K2 := Lib.hid (H0.out.1.next B1)
        have B2 := Lib.hid (H0.out.2.trans (B1.mono H0.out.2.size))
        have RF : Hid (Kept (w1.setRow w.heap.size Z) w.heap.size Z 29) := Lib.hid (Kept.setRow K2.out _)
        have BF := Lib.hid (below_setRow B2.out (g := w.heap.size) (Nat.le_refl _) Z)
        have hld := run_loadVar_row (P := Try.prog) (w1.setRow w.heap.size Z) w.heap.size 29 29 Z (0, 0) _ RF.out Try.underlying29 rfl zs
        clear b1 G1 G2 B0 B1 BL H0 c1
        go_wp2_with (first
          | refine wpList_cz rfl rfl Z HZ.out ?_
          | refine wpList_store_row rfl 29 _ _ rfl w.heap.size Z rfl rfl 29 Z K2.out zs rfl za ?_)
        refine bodyPost_ret (v := .tuple #[.agg Z, .int .i64 10]) (by simp [results, Try.results18, asAddr, Result.andThen, hld]) rfl ?_
        exact FF.out _ BF.out
      · have FF := Lib.hid (FGO.out rfl)
        clear FNO2 FGO
        go_wp2_with (first
          | refine wpList_load_mid rfl 29 _ rfl b (off + k * 72) rfl C.toList _ c1 Try.underlying29 rfl cl ?_
          | refine wpList_store_row rfl 29 _ _ rfl wr.heap.size C rfl rfl 29 Z G1.out ci zc qa ?_
          | refine wpList_load_row rfl 29 _ rfl wr.heap.size rfl 29 C (0, 0) _ G2.out Try.underlying29 rfl ci ?_)
        refine (CR.out _).mono ?_
        rintro _ w1 ⟨rfl, b1⟩
        have FG := Lib.hid (FF.out _ (BL.out.trans (b1.mono BL.out.size)))
        clear b1 G1 G2 B0 BL H0 c1 FF
        go_wp2
        go_roundw
        case rel => exact FG.out
        case measure => have := HLT.out; simp [intOf]; omega
    · obtain rfl : k = L.length := by omega
      have hnw : ¬ wrongL L := fun ⟨j, hj, h⟩ => by rw [HV.out j hj] at h; cases h
      have hall := HIN.out
      have hmem := cIn_mem hall
      have h72 : All72 L := fun j hj => (hall j hj).len
      have hzi : ZIn L := fun j hj => (hall j hj).z
      have hnn : ¬ negP (L.map Ce.H) := fun ⟨j, hj, h⟩ => by
        have hj' : j < L.length := by simpa using hj
        have := rtC_pos (HV.out j hj') (hall j hj').len
        rw [show (L.map Ce.H).getD j [] = (L.getD j ceZ).H by simp [List.getD_eq_getElem?_getD, List.getElem?_eq_getElem hj']] at h
        rw [h] at this; cases this
      have CE := Lib.hid (fun W (hb : Below w.heap.size w W) => ends_any a c L W (HR.out.below hb) h72 (by omega))
      have CT1 := Lib.hid (fun W (hb : Below w.heap.size w W) => total1_any a c L W (HR.out.below hb) h72 (fun x hx => by obtain ⟨q, hq, rfl⟩ := List.mem_map.1 hx; exact (hmem q hq).n) (by omega))
      have CT2 := Lib.hid (fun W (hb : Below w.heap.size w W) => total2_any a c L W (HR.out.below hb) h72 (fun x hx => by obtain ⟨q, hq, rfl⟩ := List.mem_map.1 hx; exact (hmem q hq).ce) (by omega))
      have CT3 := Lib.hid (fun W (hb : Below w.heap.size w W) => total3_any a c L W (HR.out.below hb) h72 (fun x hx => by obtain ⟨q, hq, rfl⟩ := List.mem_map.1 hx; exact (hmem q hq).po) (by omega))
      have CS := Lib.hid (fun W (hb : Below w.heap.size w W) => sums_any a c L W (HR.out.below hb) h72 hzi (by omega))
      have CH := Lib.hid (fun W (hb : Below w.heap.size w W) => chists_any a c L W (HR.out.below hb) h72 hl (fun j b hj hb => by
        rw [show (L.map Ce.H).getD j [] = (L.getD j ceZ).H by simp [List.getD_eq_getElem?_getD, List.getElem?_eq_getElem hj]]
        exact (hall j hj).H b hb))
      have FOVER : Hid (overL L → ∀ W, Below w.heap.size w W → MrOut L w (.returned (.tuple #[.agg Z, .int .i64 12])) W) := Lib.hid fun h W hb => ⟨⟨ceZ, 12, by rw [HZ.out], Lib.hid (.inr (.inl ⟨hnw, h, rfl, rfl⟩))⟩, hb⟩
      have FOK : Hid (¬ overL L → ∀ W, Below w.heap.size w W → MrOut L w (.returned (.tuple #[.agg (allC L).A, .int .i64 0])) W) := Lib.hid fun h W hb => ⟨⟨allC L, 0, rfl, Lib.hid (.inr (.inr ⟨hnw, h, rfl, rfl⟩))⟩, hb⟩
      have hE := e77_zero
      have M0 : Hid (Mr w wr.heap.size Z ceZ 0 0 0 0 0 ((wr.alloc (.cells Z 29)).alloc (.cells #[.int .i64 0, .int .i64 0, .int .i64 0, .int .i64 0, .int .i64 0] 77))) := Lib.hid ⟨(H0.out.1.alloc _).alloc _, by rw [HZ.out]; exact (Kept.new rfl).alloc _, Kept.new (by simp), ((H0.out.2.alloc H0.out.2.size _).alloc (by have := H0.out.2.size; simp; omega) _), H0.out.1.lt⟩
      have HQ0 : Hid (ceZ.H.length = 65) := Lib.hid rfl
      unfold TotOut at CT1 CT2 CT3
      unfold SmOut at CS
      obtain ⟨e0, he0⟩ : ∃ x, eI (isum (L.map Ce.n)) = x := ⟨_, rfl⟩
      obtain ⟨e1, he1⟩ : ∃ x, eI (isum (L.map Ce.ce)) = x := ⟨_, rfl⟩
      obtain ⟨e2, he2⟩ : ∃ x, eI (isum (L.map Ce.po)) = x := ⟨_, rfl⟩
      obtain ⟨e3, he3⟩ : ∃ x, eW (zS L) = x := ⟨_, rfl⟩
      obtain ⟨v0, hv0⟩ : ∃ x, vI (isum (L.map Ce.n)) = x := ⟨_, rfl⟩
      obtain ⟨v1, hv1⟩ : ∃ x, vI (isum (L.map Ce.ce)) = x := ⟨_, rfl⟩
      obtain ⟨v2, hv2⟩ : ∃ x, vI (isum (L.map Ce.po)) = x := ⟨_, rfl⟩
      obtain ⟨v3, hv3⟩ : ∃ x, vW (zS L) = x := ⟨_, rfl⟩
      obtain ⟨lo, hlo⟩ : ∃ x, (ends2 L).1 = x := ⟨_, rfl⟩
      obtain ⟨up, hup⟩ : ∃ x, (ends2 L).2.1 = x := ⟨_, rfl⟩
      rw [he0, hv0] at CT1
      rw [he1, hv1] at CT2
      rw [he2, hv2] at CT3
      rw [he3, hv3] at CS
      rw [hlo, hup] at CE
      have HEQ := Lib.hid (⟨he0, he1, he2, he3, hv0, hv1, hv2, hv3, hlo, hup⟩ : eI (isum (L.map Ce.n)) = e0 ∧ eI (isum (L.map Ce.ce)) = e1 ∧ eI (isum (L.map Ce.po)) = e2 ∧ eW (zS L) = e3 ∧ vI (isum (L.map Ce.n)) = v0 ∧ vI (isum (L.map Ce.ce)) = v1 ∧ vI (isum (L.map Ce.po)) = v2 ∧ vW (zS L) = v3 ∧ (ends2 L).1 = lo ∧ (ends2 L).2.1 = up)
      have HNN := Lib.hid hnn
      obtain ⟨g, hg⟩ : ∃ g, wr.heap.size = g := ⟨_, rfl⟩
      unfold wI at CS
      clear he0 he1 he2 he3 hv0 hv1 hv2 hv3 hlo hup hnn hnw hall hmem h72 hzi HV HR HIN FNO hlt hk
      go_upto_region 9 with fail
      rw [hg] at M0
      clear hg
      generalize (wr.alloc (.cells Z 29)).alloc (.cells #[.int .i64 0, .int .i64 0, .int .i64 0, .int .i64 0, .int .i64 0] 77) = W0 at *
      go_wp2_with fail
      refine (CE.out _ M0.out.2.2.2.1).mono ?_
      rintro _ w1 ⟨rfl, b1⟩
      have N1 := Lib.hid (M0.out.next b1)
      obtain ⟨⟨p0, p1, p2, p3, p4, p5, p6⟩, ⟨f0, f1, f2, f3, f4, f5, f6⟩, ⟨c0, c1, c2, c3, c4⟩, ⟨d0, d1, d2, d3, d4⟩⟩ := N1.out.cells
      go_upto_region 10 with fail
      have M1 : Hid (Mr w g Z { ceZ with mn := lo, mx := up } 0 0 0 0 0 _) := Lib.hid ((N1.out.setQ 3 (.int .i64 lo) { ceZ with mn := lo } (ceA_set3 _ _)).setQ 4 (.int .i64 up) { ceZ with mn := lo, mx := up } (ceA_set4 _ _))
      clear p0 p1 p2 p3 p4 p5 p6 f0 f1 f2 f3 f4 f5 f6 c0 c1 c2 c3 c4 d0 d1 d2 d3 d4 b1 N1 M0 CE
      generalize (w1.setCell ⟨g, 3, none⟩ (.int .i64 lo)).setCell ⟨g, 4, none⟩ (.int .i64 up) = W1 at *
      go_wp2_with fail
      refine (CT1.out _ M1.out.2.2.2.1).mono ?_
      rintro _ w2 ⟨rfl, b2⟩
      have N2 := Lib.hid (M1.out.next b2)
      obtain ⟨⟨p0, p1, p2, p3, p4, p5, p6⟩, ⟨f0, f1, f2, f3, f4, f5, f6⟩, ⟨c0, c1, c2, c3, c4⟩, ⟨d0, d1, d2, d3, d4⟩⟩ := N2.out.cells
      go_upto_region 11 with fail
      have M2 : Hid (Mr w g Z { ceZ with mn := lo, mx := up, n := v0 } e0 0 0 0 0 _) := Lib.hid ((N2.out.setQ 0 (.int .i64 v0) { ceZ with mn := lo, mx := up, n := v0 } (ceA_set0 _ _)).setE 0 (.int .i64 e0) rfl)
      clear p0 p1 p2 p3 p4 p5 p6 f0 f1 f2 f3 f4 f5 f6 c0 c1 c2 c3 c4 d0 d1 d2 d3 d4 b2 N2 M1 CT1
      generalize (w2.setCell ⟨g, 0, none⟩ (.int .i64 v0)).setCell ⟨g + 1, 0, none⟩ (.int .i64 e0) = W2 at *
      go_wp2_with fail
      refine (CT2.out _ M2.out.2.2.2.1).mono ?_
      rintro _ w3 ⟨rfl, b3⟩
      have N3 := Lib.hid (M2.out.next b3)
      obtain ⟨⟨p0, p1, p2, p3, p4, p5, p6⟩, ⟨f0, f1, f2, f3, f4, f5, f6⟩, ⟨c0, c1, c2, c3, c4⟩, ⟨d0, d1, d2, d3, d4⟩⟩ := N3.out.cells
      go_upto_region 12 with fail
      have M3 : Hid (Mr w g Z { ceZ with mn := lo, mx := up, n := v0, ce := v1 } e0 e1 0 0 0 _) := Lib.hid ((N3.out.setQ 5 (.int .i64 v1) { ceZ with mn := lo, mx := up, n := v0, ce := v1 } (ceA_set5 _ _)).setE 1 (.int .i64 e1) rfl)
      clear p0 p1 p2 p3 p4 p5 p6 f0 f1 f2 f3 f4 f5 f6 c0 c1 c2 c3 c4 d0 d1 d2 d3 d4 b3 N3 M2 CT2
      generalize (w3.setCell ⟨g, 5, none⟩ (.int .i64 v1)).setCell ⟨g + 1, 1, none⟩ (.int .i64 e1) = W3 at *
      go_wp2_with fail
      refine (CT3.out _ M3.out.2.2.2.1).mono ?_
      rintro _ w4 ⟨rfl, b4⟩
      have N4 := Lib.hid (M3.out.next b4)
      obtain ⟨⟨p0, p1, p2, p3, p4, p5, p6⟩, ⟨f0, f1, f2, f3, f4, f5, f6⟩, ⟨c0, c1, c2, c3, c4⟩, ⟨d0, d1, d2, d3, d4⟩⟩ := N4.out.cells
      go_upto_region 13 with fail
      have M4 : Hid (Mr w g Z { ceZ with mn := lo, mx := up, n := v0, ce := v1, po := v2 } e0 e1 e2 0 0 _) := Lib.hid ((N4.out.setQ 6 (.int .i64 v2) { ceZ with mn := lo, mx := up, n := v0, ce := v1, po := v2 } (ceA_set6 _ _)).setE 2 (.int .i64 e2) rfl)
      clear p0 p1 p2 p3 p4 p5 p6 f0 f1 f2 f3 f4 f5 f6 c0 c1 c2 c3 c4 d0 d1 d2 d3 d4 b4 N4 M3 CT3
      generalize (w4.setCell ⟨g, 6, none⟩ (.int .i64 v2)).setCell ⟨g + 1, 2, none⟩ (.int .i64 e2) = W4 at *
      go_wp2_with fail
      refine (CS.out _ M4.out.2.2.2.1).mono ?_
      rintro _ w5 ⟨rfl, b5⟩
      have N5 := Lib.hid (M4.out.next b5)
      obtain ⟨⟨p0, p1, p2, p3, p4, p5, p6⟩, ⟨f0, f1, f2, f3, f4, f5, f6⟩, ⟨c0, c1, c2, c3, c4⟩, ⟨d0, d1, d2, d3, d4⟩⟩ := N5.out.cells
      go_upto_region 14 with fail
      have M5 : Hid (Mr w g Z { ceZ with mn := lo, mx := up, n := v0, ce := v1, po := v2, z := v3 } e0 e1 e2 e3 0 (((w5.setCell ⟨g, 1, none⟩ (.int .i64 (hiW v3))).setCell ⟨g, 2, none⟩ (.int .u64 (loW v3))).setCell ⟨g + 1, 3, none⟩ (.int .i64 e3))) := Lib.hid ((N5.out.setZ v3).setE 3 (.int .i64 e3) rfl)
      clear p0 p1 p2 p3 p4 p5 p6 f0 f1 f2 f3 f4 f5 f6 c0 c1 c2 c3 c4 d0 d1 d2 d3 d4 b5 N5 M4 CS
      generalize ((w5.setCell ⟨g, 1, none⟩ (.int .i64 (hiW v3))).setCell ⟨g, 2, none⟩ (.int .u64 (loW v3))).setCell ⟨g + 1, 3, none⟩ (.int .i64 e3) = W5 at *
      go_wp2_with fail
      refine (CH.out _ M5.out.2.2.2.1).mono ?_
      rintro _ w6 ⟨⟨l, E, rfl, hm⟩, b6⟩
      have N6 := Lib.hid (M5.out.next b6)
      have HM := Lib.hid hm
      clear hm b6 M5 CH
      have l65 : l.length = 65 := mgOut_len HM.out
      have hE2 : E = 0 ∨ E = 12 := by rcases HM.out with ⟨h, _⟩ | ⟨_, _, _, h⟩ | ⟨_, _, _, h⟩; exact absurd h HNN.out; exact .inr h; exact .inl h
      have hov : overL L ↔ ¬ (e0 = 0 ∧ e1 = 0 ∧ e2 = 0 ∧ e3 = 0 ∧ E = 0) := by
        obtain ⟨q0, q1, q2, q3, -⟩ := HEQ.out
        have hEE : E = 0 ↔ ¬ overP (L.map Ce.H) := by
          rcases HM.out with ⟨h, _⟩ | ⟨_, h, _, h2⟩ | ⟨_, h, _, h2⟩
          · exact absurd h HNN.out
          · rw [h2]; simp [h]
          · rw [h2]; simp [h]
        unfold overL
        rw [← eI_zero, ← eI_zero, ← eI_zero, ← eW_zero, q0, q1, q2, q3, hEE]
        by_cases a0 : e0 = 0 <;> by_cases a1 : e1 = 0 <;> by_cases a2 : e2 = 0 <;> by_cases a3 : e3 = 0 <;> by_cases a4 : overP (L.map Ce.H) <;> simp [a0, a1, a2, a3, a4]
      have hne := errs_neq e0 e1 e2 e3 E (by rw [← HEQ.out.1]; exact eI_two _) (by rw [← HEQ.out.2.1]; exact eI_two _) (by rw [← HEQ.out.2.2.1]; exact eI_two _) (by rw [← HEQ.out.2.2.2.1]; exact eW_two _) hE2
      have FOK2 : Hid (¬ overL L → (allC L) = { ceZ with mn := lo, mx := up, n := v0, ce := v1, po := v2, z := v3, H := l }) := Lib.hid fun h => by
        obtain ⟨q0, q1, q2, q3, r0, r1, r2, r3, r4, r5⟩ := HEQ.out
        rcases HM.out with ⟨h1, _⟩ | ⟨_, h1, _⟩ | ⟨_, _, h1, _⟩
        · exact absurd h1 HNN.out
        · exact absurd (Or.inr (Or.inr (Or.inr (Or.inr h1)))) h
        · unfold overL at h
          simp only [not_or, Decidable.not_not] at h
          obtain ⟨i0, i1, i2, i3, -⟩ := h
          rw [vI_in i0] at r0
          rw [vI_in i1] at r1
          rw [vI_in i2] at r2
          rw [vW_in i3] at r3
          unfold allC
          rw [r0, r1, r2, r3, r4, r5, h1]
      obtain ⟨q, hq⟩ : ∃ q : Ce, { ceZ with mn := lo, mx := up, n := v0, ce := v1, po := v2, z := v3 } = q := ⟨_, rfl⟩
      have hqH : q.H.length = 65 := by rw [← hq]; rfl
      rw [hq] at N6
      have hq2 : { ceZ with mn := lo, mx := up, n := v0, ce := v1, po := v2, z := v3, H := l } = { q with H := l } := by rw [← hq]
      rw [hq2] at FOK2
      have TH := N6.out.2.1.thereH hqH
      have N7 : Hid (Mr w g Z { q with H := l } e0 e1 e2 e3 E ((w6.setCells g 7 (hC l).toList).setCell ⟨g + 1, 4, none⟩ (.int .i64 E))) := Lib.hid ((N6.out.setH hqH l65).setE 4 (.int .i64 E) rfl)
      have L65 := Lib.hid l65
      obtain ⟨-, -, ⟨-, -, -, -, c4⟩, ⟨-, -, -, -, d4⟩⟩ := (N6.out.setH hqH l65).cells
      obtain ⟨D, hD⟩ : ∃ D, hC l = D := ⟨_, rfl⟩
      have dsz : D.size = 65 := by rw [← hD, hC_size]; exact l65
      have di : (Try.prog.info? 27).map (·.size) = some D.size := by rw [dsz]; exact h_info
      have da : D.all (·.oneCell') = true := by rw [← hD]; exact hC_cells l
      have TT := TH D.size dsz
      rw [hD] at N7 c4 d4
      rw [hD]
      clear hq hq2 N6 TH hD HM l65 hE2 hqH
      go_upto_region 15 with (refine wpList_store_mid rfl 27 _ _ rfl g 7 D rfl rfl TT di da ?_)
      generalize (w6.setCells g 7 D.toList).setCell ⟨g + 1, 4, none⟩ (.int .i64 E) = W7 at *
      clear TT c4 d4
      obtain ⟨q2, hq2⟩ : ∃ q2 : Ce, { q with H := l } = q2 := ⟨_, rfl⟩
      rw [hq2] at N7 FOK2
      have n65 : q2.H.length = 65 := by rw [← hq2]; exact L65.out
      clear hq2
      have K1 := Lib.hid N7.out.1
      have K2 := Lib.hid N7.out.2.1
      have K3 := Lib.hid N7.out.2.2.1
      have KB := Lib.hid N7.out.2.2.2.1
      by_cases ho : overL L
      · have FF := Lib.hid (FOVER.out ho)
        rw [show decide (e0 = 0 ∧ e1 = 0 ∧ e2 = 0 ∧ e3 = 0 ∧ E = 0) = false from decide_eq_false (hov.1 ho)] at hne
        have RF : Hid (Kept (W7.setRow w.heap.size Z) w.heap.size Z 29) := Lib.hid (Kept.setRow K1.out _)
        have BF := Lib.hid (below_setRow KB.out (g := w.heap.size) (Nat.le_refl _) Z)
        have hld := run_loadVar_row (P := Try.prog) (W7.setRow w.heap.size Z) w.heap.size 29 29 Z (0, 0) _ RF.out Try.underlying29 rfl zs
        clear FOVER FOK FOK2 hov ho
        go_wp2_with (first
          | refine wpList_cz rfl rfl Z HZ.out ?_
          | refine wpList_load_row rfl 77 _ rfl (g + 1) rfl 77 #[.int .i64 e0, .int .i64 e1, .int .i64 e2, .int .i64 e3, .int .i64 E] (0, 0) _ K3.out Try.underlying77 rfl e77_info ?_
          | refine wpList_store_row rfl 29 _ _ rfl w.heap.size Z rfl rfl 29 Z K1.out zs rfl za ?_)
        refine bodyPost_ret (v := .tuple #[.agg Z, .int .i64 12]) (by simp [results, Try.results18, asAddr, Result.andThen, hld]) rfl ?_
        exact FF.out _ BF.out
      · have FF := Lib.hid (FOK.out ho)
        rw [FOK2.out ho] at FF
        rw [show decide (e0 = 0 ∧ e1 = 0 ∧ e2 = 0 ∧ e3 = 0 ∧ E = 0) = true from decide_eq_true (Classical.byContradiction fun h => ho (hov.2 h))] at hne
        have q72 : q2.A.size = 72 := ce_size _ n65
        have qa := ce_cells q2
        generalize q2.A = C at *
        have ci : (Try.prog.info? 29).map (·.size) = some C.size := by rw [q72]; exact c_info
        have zc : Z.size = C.size := by rw [z72, q72]
        have RF : Hid (Kept (W7.setRow w.heap.size C) w.heap.size C 29) := Lib.hid (Kept.setRow K1.out _)
        have BF := Lib.hid (below_setRow KB.out (g := w.heap.size) (Nat.le_refl _) C)
        have hld := run_loadVar_row (P := Try.prog) (W7.setRow w.heap.size C) w.heap.size 29 29 C (0, 0) _ RF.out Try.underlying29 rfl ci
        clear FOVER FOK FOK2 hov ho q72
        go_wp2_with (first
          | refine wpList_load_row rfl 77 _ rfl (g + 1) rfl 77 #[.int .i64 e0, .int .i64 e1, .int .i64 e2, .int .i64 e3, .int .i64 E] (0, 0) _ K3.out Try.underlying77 rfl e77_info ?_
          | refine wpList_load_row rfl 29 _ rfl g rfl 29 C (0, 0) _ K2.out Try.underlying29 rfl ci ?_
          | refine wpList_store_row rfl 29 _ _ rfl w.heap.size C rfl rfl 29 Z K1.out ci zc qa ?_)
        refine bodyPost_ret (v := .tuple #[.agg C, .int .i64 0]) (by simp [results, Try.results18, asAddr, Result.andThen, hld]) rfl ?_
        exact FF.out _ BF.out
end Go.Proofs.Ytpmoidpncpfnlaa
