/- noonmarklaw07.alive returns true. -/
import Derived.Test.YtgkgcbhlodohdaaCrcD
import Derived.Lib.SlBytesConst
import Derived.Lib.SmallJoins
namespace Go.Proofs.Ytgkgcbhlodohdaa
open Go.RowKit
set_option linter.unusedVariables false

/-- block g holds just these cells -/
def Cel (W : World) (g : Nat) (cs : Array Value) : Prop := g < W.heap.size ∧ ∀ i, W.cell? ⟨g, i, none⟩ = cs[i]?
theorem Cel.new {w : World} {g : Nat} {cs : Array Value} {t : TypeId} {fr : Nat × Nat} (hg : g = w.heap.size) : Cel (w.alloc (.cells cs t fr)) g cs := by
  subst hg
  exact ⟨by simp, fun i => World.cell?_alloc_mark w cs t fr i⟩
theorem Cel.next {w w' : World} {g : Nat} {cs : Array Value} (h : Cel w g cs) (hb : Below w.heap.size w w') : Cel w' g cs := ⟨Nat.lt_of_lt_of_le h.1 hb.size, fun i => (hb.cell (p := ⟨g, i, none⟩) h.1).trans (h.2 i)⟩
theorem Cel.alloc {w : World} {g : Nat} {cs : Array Value} (h : Cel w g cs) (o : Obj) : Cel (w.alloc o) g cs := h.next (one_alloc w o)
theorem kept_bytes {W : World} {g : Nat} (l : List Int) (h : Cel W g (l.map (Value.int .u8)).toArray) : IntRow W (some ⟨g, 0, none⟩) .u8 l := fun j hj => by
  refine ⟨g, 0, rfl, ?_⟩
  rw [Nat.zero_add, h.2 j]
  simp [List.getD_eq_getElem?_getD, List.getElem?_eq_getElem hj]
theorem owns_at {w : World} {base e n : Nat} {v : Value} {l : List Int} (h : w.ownsRow base e 1 v n (l.map (Value.int .u8))) (hn : 0 < n) :
    ∃ g cap, v = .slice (some ⟨g, 0, none⟩) n cap ∧ base ≤ g ∧ n ≤ cap ∧ cap ≤ 9223372036854775807 ∧ IntRow w (some ⟨g, 0, none⟩) .u8 l ∧ (∀ j, w.frozen? ⟨g, j, none⟩ = false) ∧ l.length = n := by
  obtain ⟨a, cap0, e1, e2, e3, e4, e5, e6⟩ := IntRow.ownK h
  rcases h.2 with ⟨rfl, h0⟩ | ⟨g, cap, cur, rfl, hb, hh, h1, h2, h3, h4⟩
  · omega
  · injection e1 with e1 e1' e1''
    subst e1 e1''
    exact ⟨g, cap, rfl, hb, h1, h2, e6, fun j => by simp [World.frozen?, hh], e2⟩
theorem IntRow.upd {w : World} {g : Nat} {k : IntKind} {l : List Int} (h : IntRow w (some ⟨g, 0, none⟩) k l) (i : Nat) (x : Int) : IntRow (w.setCell ⟨g, i, none⟩ (.int k x)) (some ⟨g, 0, none⟩) k (l.set i x) := fun j hj => by
  rw [List.length_set] at hj
  obtain ⟨b, off, e, hc⟩ := h j hj
  injection e with e; injection e with e1 e2; subst e1 e2
  refine ⟨g, 0, rfl, ?_⟩
  rw [Nat.zero_add] at hc ⊢
  by_cases hji : j = i
  · subst hji
    rw [World.cell?_setCell_same _ _ _ hc]
    simp [List.getD_eq_getElem?_getD, hj]
  · rw [World.cell?_setCell_other _ _ _ _ (fun e => hji (by injection e with _ e; exact e.symm)), hc]
    simp [List.getD_eq_getElem?_getD, Ne.symm hji]
theorem IntRow.first {w : World} {g : Nat} {k : IntKind} {x : Int} {l : List Int} (h : IntRow w (some ⟨g, 0, none⟩) k (x :: l)) : w.cell? ⟨g, 0, none⟩ = some (.int k x) := by
  obtain ⟨b, off, e, hc⟩ := h 0 (by simp)
  injection e with e; injection e with e1 e2; subst e1 e2
  simpa using hc
theorem crc9 : crcN [49, 50, 51, 52, 53, 54, 55, 56, 57] = 3421780262 := by decide +kernel
theorem crc9b : crcN [50, 50, 51, 52, 53, 54, 55, 56, 57] ≠ 3421780262 := by decide +kernel
theorem bytes9 (x : Int) (h : 0 ≤ x ∧ x ≤ 255) : ByteL [x, 50, 51, 52, 53, 54, 55, 56, 57] := fun y hy => by
  simp only [List.mem_cons, List.not_mem_nil, or_false] at hy
  omega
set_option maxHeartbeats 4000000 in
set_option maxRecDepth 100000 in
theorem alive_any (w : World) : Calls Try.prog 6 #[] w fun e w' => e = .returned (.bool true) ∧ Below w.heap.size w w' := by
  have CS : Hid (∀ W g, Cel W g #[.int .u8 49, .int .u8 50, .int .u8 51, .int .u8 52] → Cel W (g + 1) #[.int .u8 53, .int .u8 54, .int .u8 55, .int .u8 56, .int .u8 57] → Cel W (g + 2) #[.slice (some ⟨g, 0, none⟩) 4 4, .slice (some ⟨g + 1, 0, none⟩) 5 5] →
      Calls Try.prog 15 #[.slice (some ⟨g + 2, 0, none⟩) 2 2] W (NewBytes [49, 50, 51, 52, 53, 54, 55, 56, 57, 38, 57, 244, 203] W)) := Lib.hid fun W g k1 k2 k3 => by
    have h := seal_any (some ⟨g + 2, 0, none⟩) 2 [[49, 50, 51, 52], [53, 54, 55, 56, 57]] W (fun j hj => by
      have : j = 0 ∨ j = 1 := by simp at hj; omega
      rcases this with rfl | rfl
      · exact ⟨_, 0, rfl, _, _, (k3.2 0), fun e => by simp at e, kept_bytes _ k1⟩
      · exact ⟨_, 0, rfl, _, _, (k3.2 1), fun e => by simp at e, kept_bytes _ k2⟩) (fun p hp => by
        simp only [List.mem_cons, List.not_mem_nil, or_false] at hp
        rcases hp with rfl | rfl <;> (intro y hy; simp only [List.mem_cons, List.not_mem_nil, or_false] at hy; omega)) (by simp) (by decide)
    have e : sealL [[49, 50, 51, 52], [53, 54, 55, 56, 57]].flatten = [49, 50, 51, 52, 53, 54, 55, 56, 57, 38, 57, 244, 203] := by
      show [49, 50, 51, 52, 53, 54, 55, 56, 57] ++ le32 (crcN [49, 50, 51, 52, 53, 54, 55, 56, 57]) = _
      rw [crc9]; decide
    rw [e] at h
    exact h
  have CO : Hid (∀ W g cap, 13 ≤ cap → cap ≤ 9223372036854775807 → IntRow W (some ⟨g, 0, none⟩) .u8 [49, 50, 51, 52, 53, 54, 55, 56, 57, 38, 57, 244, 203] → Calls Try.prog 10 #[.slice (some ⟨g, 0, none⟩) 13 cap] W (OpenOut [49, 50, 51, 52, 53, 54, 55, 56, 57] 0 W)) := Lib.hid fun W g cap h1 h2 h3 =>
    open_ok g 0 cap [49, 50, 51, 52, 53, 54, 55, 56, 57] 38 57 244 203 W h3 h1 h2 (by simp) (bytes9 49 (by omega)) (by omega) (by omega) (by omega) (by omega) (by rw [crc9]; decide)
  have CB : Hid (∀ W g cap, 13 ≤ cap → cap ≤ 9223372036854775807 → IntRow W (some ⟨g, 0, none⟩) .u8 [50, 50, 51, 52, 53, 54, 55, 56, 57, 38, 57, 244, 203] → Calls Try.prog 10 #[.slice (some ⟨g, 0, none⟩) 13 cap] W (OpenOut [] 14 W)) := Lib.hid fun W g cap h1 h2 h3 =>
    open_bad g 0 cap [50, 50, 51, 52, 53, 54, 55, 56, 57] 38 57 244 203 W h3 h1 h2 (by simp) (bytes9 50 (by omega)) (by omega) (by omega) (by omega) (by omega) (by have := crc9b; simp; omega)
  have CU : Hid (∀ W g, Cel W g #[.int .u8 49, .int .u8 50, .int .u8 51, .int .u8 52, .int .u8 53, .int .u8 54, .int .u8 55, .int .u8 56, .int .u8 57] → Cel W (g + 1) #[.slice (some ⟨g, 0, none⟩) 9 9] →
      Calls Try.prog 12 #[.slice (some ⟨g + 1, 0, none⟩) 1 1] W (SumRes 3421780262 W)) := Lib.hid fun W g k1 k2 => by
    have h := sum_any (some ⟨g + 1, 0, none⟩) 1 [[49, 50, 51, 52, 53, 54, 55, 56, 57]] W (fun j hj => by
      have : j = 0 := by simp at hj; omega
      subst this
      exact ⟨_, 0, rfl, _, _, (k2.2 0), fun e => by simp at e, kept_bytes _ k1⟩) (by simpa using bytes9 49 (by omega)) (by simp) (by simp)
    have e : crcN [[49, 50, 51, 52, 53, 54, 55, 56, 57]].flatten = 3421780262 := crc9
    rw [e] at h
    exact h
  have CN : Hid (∀ W, Calls Try.prog 12 #[.slice none 0 0] W (SumRes 0 W)) := Lib.hid fun W => by
    have h := sum_any none 0 [] W (fun j hj => by simp at hj) (by simp) (by simp) (by simp)
    have e : crcN ([] : List (List Int)).flatten = 0 := by decide
    rw [e] at h
    exact h
  have CT : Hid (∀ W g, Cel W g #[.int .u8 1, .int .u8 2, .int .u8 3] → Calls Try.prog 10 #[.slice (some ⟨g, 0, none⟩) 3 3] W (OpenOut [] 15 W)) := Lib.hid fun W g k1 =>
    open_short _ [1, 2, 3] W ⟨_, 3, rfl, fun e => by simp at e, by simp, by omega, kept_bytes _ k1⟩ (by simp)
  have B0 := Lib.hid (Below.refl w.heap.size w)
  have kc := fun (W : World) (C : Array Value) (n c : Nat) => Lib.run_convert_bytes_const (P := Try.prog) W 23 5 C n c Try.underlying23 Try.underlying5
  have kc2 := fun (C : Array Value) (n c : Nat) => Go.Joins.run_convert_bytes_const_at (P := Try.prog) (w.alloc (.cells #[.int .u8 49, .int .u8 50, .int .u8 51, .int .u8 52] 5 (4, 5))) 23 5 C n c (w.heap.size + 1) (by simp) Try.underlying23 Try.underlying5
  go_enter Try.func6, Try.ntmps6
  go_wp2_with fail
  refine (CS.out _ w.heap.size (((Cel.new rfl).alloc _).alloc _) ((Cel.new (by simp)).alloc _) (Cel.new (by simp))).mono ?_
  rintro e w1 ⟨v, rfl, hown, hbel⟩
  obtain ⟨g, cap, rfl, hg, hcap1, hcap2, hrow, hfz, -⟩ := owns_at hown (by simp)
  have R1 := Lib.hid hrow
  have Z1 := Lib.hid (hfz 0)
  have gl := World.block_lt_of_cell? w1 _ (IntRow.first hrow)
  have B1 : Hid (Below w.heap.size w w1) := Lib.hid (bnext (((one_alloc w _).alloc (by simp) _).alloc (by simp; omega) _) (by simp; omega) hbel)
  have HG : w.heap.size ≤ g := by simp at hg; omega
  simp at hcap1
  clear hown hbel hrow hfz hg
  go_wp2_with fail
  refine (CO.out _ _ _ hcap1 hcap2 R1.out).mono ?_
  rintro e w2 ⟨v2, rfl, hown, hbel⟩
  obtain ⟨a2, c2, rfl, -, -, -, -, -⟩ := IntRow.ownK hown
  have R2 := Lib.hid (R1.out.below hbel)
  have Z2 := Lib.hid ((hbel.frozen (p := ⟨g, 0, none⟩) gl).trans Z1.out)
  have B2 : Hid (Below w.heap.size w w2) := Lib.hid (bnext B1.out B1.out.size hbel)
  have gl2 := World.block_lt_of_cell? w2 _ (IntRow.first R2.out)
  clear hown hbel gl
  go_wp2_with fail
  refine (CT.out _ _ (Cel.new rfl)).mono ?_
  rintro e w3 ⟨v3, rfl, hown, hbel⟩
  have hbel' : Below w2.heap.size w2 w3 := (one_alloc w2 _).trans (hbel.mono (by simp))
  have R3 := Lib.hid (R2.out.below hbel')
  have z3 := (hbel'.frozen (p := ⟨g, 0, none⟩) gl2).trans Z2.out
  have B3 : Hid (Below w.heap.size w w3) := Lib.hid (bnext B2.out B2.out.size hbel')
  have c3 := IntRow.first R3.out
  clear hown hbel gl2 hbel'
  go_wp2_with fail
  refine (CB.out _ _ _ hcap1 hcap2 (by have := R3.out.upd 0 50; simpa using this)).mono ?_
  rintro e w4 ⟨v4, rfl, hown, hbel⟩
  have B4 : Hid (Below w.heap.size w w4) := Lib.hid (bnext (B3.out.setCell HG _) (by have := B3.out.size; simp; omega) hbel)
  clear hown hbel c3 z3
  go_wp2_with fail
  refine (CU.out _ _ ((Cel.new rfl).alloc _) (Cel.new (by simp))).mono ?_
  rintro e w5 ⟨rfl, rfl⟩
  go_wp2_with fail
  refine (CN.out _).mono ?_
  rintro e w5 ⟨rfl, rfl⟩
  go_wp2
  go_ret
  exact ⟨rfl, (B4.out.alloc B4.out.size _).alloc (by have := B4.out.size; simp; omega) _⟩
end Go.Proofs.Ytgkgcbhlodohdaa
