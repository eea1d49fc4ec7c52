/- cell.ends, for every row of cells. -/
import Derived.Test.YtpmoidpncpfnlaaCelB
import Derived.Deep.QuietTactic
import Derived.BigQuiet
namespace Go.Proofs.Ytpmoidpncpfnlaa
open Go.RowKit
set_option linter.unusedVariables false
set_option linter.unusedSimpArgs false

def ends1 (s : Int × Int × Bool) (c : Ce) : Int × Int × Bool := if c.n = 0 then s else if s.2.2 then (min s.1 c.mn, max s.2.1 c.mx, true) else (c.mn, c.mx, true)
def ends2 (L : List Ce) : Int × Int × Bool := L.foldl ends1 (0, 0, false)
theorem ends2_snoc (L : List Ce) (k : Nat) (hk : k < L.length) : ends2 (L.take (k + 1)) = ends1 (ends2 (L.take k)) (L.getD k ceZ) := by
  unfold ends2
  rw [List.take_add_one, List.getElem?_eq_getElem hk, Option.toList_some, List.foldl_append]
  simp [List.getD, List.getElem?_eq_getElem hk]
def EnRel (L : List Ce) (w : World) (x y f i : Value) (wr : World) : Prop := ∃ k : Nat, k ≤ L.length ∧ i = .int .i64 k ∧ x = .int .i64 (ends2 (L.take k)).1 ∧ y = .int .i64 (ends2 (L.take k)).2.1 ∧ f = .bool (ends2 (L.take k)).2.2 ∧ Hid (Below w.heap.size w wr)
set_option maxHeartbeats 4000000 in
set_option maxRecDepth 1000000 in
theorem ends_any (a : Option Addr) (c : Nat) (L : List Ce) (w : World) (hr : CsAt w a L) (h65 : All72 L) (hl : L.length ≤ 1000000) :
    Calls Try.prog 39 #[.slice a L.length c] w (Gives (.tuple #[.int .i64 (ends2 L).1, .int .i64 (ends2 L).2.1]) w) := by
  have hz := c_zero
  obtain ⟨Z, hZ⟩ : ∃ Z, ceZ.A = Z := ⟨_, rfl⟩
  have z72 : Z.size = 72 := by rw [← hZ]; exact ce_size _ rfl
  have zs : (Try.prog.info? 29).map (·.size) = some Z.size := by rw [z72]; exact c_info
  rw [hZ] at hz
  have HR := Lib.hid hr
  have H65 := Lib.hid h65
  have HS : Hid (EnRel L w (.int .i64 0) (.int .i64 0) (.bool false) (.int .i64 0) w) := Lib.hid ⟨0, Nat.zero_le _, rfl, rfl, rfl, rfl, Lib.hid (Below.refl _ _)⟩
  clear hr h65 hZ
  go_enter Try.func39, Try.ntmps39
  go_wp2
  go_loopw [2, 3, 4, 9] (fun x y f i wr => EnRel L w x y f i wr) (fun _ _ _ i _ => L.length - (intOf i).toNat)
  case atStart => exact HS.out
  case round =>
    obtain ⟨k, hk, rfl, rfl, rfl, rfl, B0⟩ := hrel
    clear HS
    by_cases hlt : k < L.length
    · obtain ⟨b, off, rfl, h1⟩ := HR.out k hlt
      have hlen := H65.out k hlt
      have c1 : wr.rangeAt b (off + k * 72) (L.getD k ceZ).A.toList := fun i v hv => (B0.out.cell (World.block_lt_of_cell? w _ (h1 i v hv))).trans (h1 i v hv)
      have hsn := ends2_snoc L k hlt
      have HLT := Lib.hid hlt
      obtain ⟨q, hq⟩ : ∃ q, L.getD k ceZ = q := ⟨_, rfl⟩
      rw [hq] at hlen c1 hsn
      have K0 : Kept ((wr.alloc (.cells Z 29)).setRow wr.heap.size q.A) wr.heap.size q.A 29 := Kept.setRow (Kept.new rfl) _
      obtain ⟨g0, -, -, g3, g4, -, -⟩ := K0.cell7
      have G1 : Hid ((wr.alloc (.cells Z 29)).heap[wr.heap.size]? = some (.cells Z 29 (0, 0))) := Lib.hid (heap_alloc_new wr _)
      have B1 := Lib.hid (below_setRow (B0.out.alloc B0.out.size (.cells Z 29)) (g := wr.heap.size) B0.out.size q.A)
      have q72 : q.A.size = 72 := ce_size _ hlen
      have qa := ce_cells q
      obtain ⟨⟨lo, up, fd⟩, hS⟩ : ∃ s, ends2 (L.take k) = s := ⟨_, rfl⟩
      rw [hS] at hsn
      rw [hS]
      have hsn' : ends2 (L.take (k + 1)) = if q.n = 0 then (lo, up, fd) else if fd then (min lo q.mn, max up q.mx, true) else (q.mn, q.mx, true) := hsn
      obtain ⟨n, hn⟩ : ∃ n, q.n = n := ⟨_, rfl⟩
      obtain ⟨mn, hmn⟩ : ∃ n, q.mn = n := ⟨_, rfl⟩
      obtain ⟨mx, hmx⟩ : ∃ n, q.mx = n := ⟨_, rfl⟩
      rw [hn, hmn, hmx] at hsn'
      rw [hn] at g0
      rw [hmn] at g3
      rw [hmx] at g4
      generalize q.A = C at *
      have ci : (Try.prog.info? 29).map (·.size) = some C.size := by rw [q72]; exact c_info
      have cl : (Try.prog.info? 29).map (·.size) = some C.toList.length := by rw [Array.length_toList, q72]; exact c_info
      have zc : Z.size = C.size := by rw [z72, q72]
      have F : Hid (∀ s, ends2 (L.take (k + 1)) = s → ∀ W, Below w.heap.size w W → EnRel L w (.int .i64 s.1) (.int .i64 s.2.1) (.bool s.2.2) (.int .i64 ((k : Int) + 1)) W) := Lib.hid fun s hs W hb => ⟨k + 1, HLT.out, rfl, by rw [hs], by rw [hs], by rw [hs], Lib.hid hb⟩
      have hkk : (k : Int) < (L.length : Int) := by omega
      have hk0 : (0 : Int) ≤ (k : Int) := by omega
      clear hn hmn hmx hq hsn hS hlen h1 K0 q72 hlt hk
      by_cases h0 : n = 0
      · rw [if_pos h0] at hsn'
        have FF := Lib.hid (F.out _ hsn' _ B1.out)
        have hd : (n == 0) = true := by simp [h0]
        clear F hsn' h0
        go_wp2_with (first
          | refine wpList_load_mid rfl 29 _ rfl b (off + k * 72) rfl C.toList _ c1 Try.underlying29 rfl cl ?_
          | refine wpList_store_row rfl 29 _ _ rfl wr.heap.size C rfl rfl 29 Z G1.out ci zc qa ?_)
        go_roundw
        case rel => exact FF.out
        case measure => have := HLT.out; simp [intOf]; omega
      · rw [if_neg h0] at hsn'
        have hd : (n == 0) = false := by simp [h0]
        cases fd
        · rw [if_neg (by simp)] at hsn'
          have FF := Lib.hid (F.out _ hsn')
          clear F hsn' h0
          go_wp2_with (first
            | refine wpList_load_mid rfl 29 _ rfl b (off + k * 72) rfl C.toList _ c1 Try.underlying29 rfl cl ?_
            | refine wpList_store_row rfl 29 _ _ rfl wr.heap.size C rfl rfl 29 Z G1.out ci zc qa ?_)
          go_quiet (fail)
          go_wp2
          go_roundw
          case rel => exact FF.out _ (below_drewN B1.out _)
          case measure => have := HLT.out; simp [intOf]; omega
        · rw [if_pos rfl] at hsn'
          have FF := Lib.hid (F.out _ hsn')
          clear F hsn' h0
          go_wp2_with (first
            | refine wpList_load_mid rfl 29 _ rfl b (off + k * 72) rfl C.toList _ c1 Try.underlying29 rfl cl ?_
            | refine wpList_store_row rfl 29 _ _ rfl wr.heap.size C rfl rfl 29 Z G1.out ci zc qa ?_)
          go_region
          go_wp2
          go_roundw
          case rel => exact FF.out _ (below_drewN B1.out _)
          case measure => have := HLT.out; simp [intOf]; omega
    · obtain rfl : k = L.length := by omega
      rw [List.take_length]
      clear hlt hk
      go_wp2
      go_ret2
      exact ⟨rfl, B0.out⟩
end Go.Proofs.Ytpmoidpncpfnlaa
