/- noonmarklaw06.alive returns true: its calls. -/
import Derived.Test.YtojahaimelkhlaaCodeD
namespace Go.Proofs.Ytojahaimelkhlaa
open Go.RowKit
set_option linter.unusedVariables false

/-- block g holds just these cells -/
def Cel (W : World) (g : Nat) (cs : Array Value) : Prop := g < W.heap.size ∧ ∀ i, W.cell? ⟨g, i, none⟩ = cs[i]?
theorem Cel.new {w : World} {g : Nat} {cs : Array Value} {t : TypeId} {fr : Nat × Nat} (hg : g = w.heap.size) : Cel (w.alloc (.cells cs t fr)) g cs := by
  subst hg
  exact ⟨by simp, fun i => World.cell?_alloc_mark w cs t fr i⟩
theorem kept_ints {W : World} {g : Nat} (k : IntKind) (l : List Int) (h : Cel W g (l.map (Value.int k)).toArray) : IntRow W (some ⟨g, 0, none⟩) k l := fun j hj => by
  refine ⟨g, 0, rfl, ?_⟩
  rw [Nat.zero_add, h.2 j]
  simp [List.getD_eq_getElem?_getD, List.getElem?_eq_getElem hj]
theorem bytes_lit {l : List Int} (h : l.all (fun x => decide (0 ≤ x ∧ x ≤ 255)) = true) : ByteL l := fun x hx => by
  have := List.all_eq_true.1 h x hx
  simpa using this
def Yes (W : World) (e : Ending) (w' : World) : Prop := e = .returned (.bool true) ∧ ∃ n, w' = W.drewN n
theorem same_lit (l : List Int) (hl : l.length ≤ 1000) (W : World) (a : Option Addr) (c g : Nat) (ha : IntRow W a .u8 l) (h : Cel W g (l.map (Value.int .u8)).toArray) :
    Calls Try.prog 15 #[.slice a l.length c, .slice (some ⟨g, 0, none⟩) l.length l.length] W (Yes W) := by
  refine (sameBytes_any a (some ⟨g, 0, none⟩) c l.length l l W ha (kept_ints .u8 l h) (by omega) (by omega)).mono ?_
  rintro e w' ⟨rfl, h⟩
  exact ⟨by simp, h⟩
theorem al_CN : Hid (∀ W g, Cel W g #[.int .u8 172, .int .u8 2, .int .u8 5, .int .u8 1, .int .u8 97, .int .u8 9] → Calls Try.prog 20 #[.slice (some ⟨g, 0, none⟩) 6 6] W (NewOut [172, 2, 5, 1, 97, 9] W)) := Lib.hid fun W g k =>
  new_any _ [172, 2, 5, 1, 97, 9] W ⟨_, 6, rfl, fun e => by simp at e, by simp, by omega, kept_ints .u8 _ k⟩ (by simp)
theorem al_C1 : Hid (∀ W g, Rd W g [172, 2, 5, 1, 97, 9] 0 → Calls Try.prog 23 #[.pointer (some ⟨g, 0, none⟩)] W (RdOut W g [5, 1, 97, 9] 0 (.int .u64 300))) := Lib.hid fun W g k => by
  have h := uint_any g [172, 2, 5, 1, 97, 9] 0 W k (bytes_lit (by decide)) (by simp)
  rw [show uintS [172, 2, 5, 1, 97, 9] 0 = (300, [5, 1, 97, 9], 0) by decide +kernel] at h
  exact h
theorem al_C2 : Hid (∀ W g, Rd W g [5, 1, 97, 9] 0 → Calls Try.prog 25 #[.pointer (some ⟨g, 0, none⟩)] W (RdOut W g [1, 97, 9] 0 (.int .i64 (-3)))) := Lib.hid fun W g k => by
  have h := int_any g [5, 1, 97, 9] 0 W k (bytes_lit (by decide)) (by simp)
  rw [show uintS [5, 1, 97, 9] 0 = (5, [1, 97, 9], 0) by decide +kernel, show unzig (5, [1, 97, 9], 0).1 = -3 by decide +kernel] at h
  exact h
theorem al_C3 : Hid (∀ W g, Rd W g [1, 97, 9] 0 → Calls Try.prog 26 #[.pointer (some ⟨g, 0, none⟩), .int .i64 1] W (RdOut W g [9] 0 (.string ⟨#[97]⟩))) := Lib.hid fun W g k => by
  have h := text_any g [1, 97, 9] 0 1 W k (bytes_lit (by decide)) (by simp) (by omega)
  rw [show textS [1, 97, 9] 0 1 = (⟨#[97]⟩, [9], 0) by
    unfold textS
    rw [show countS [1, 97, 9] 0 1 = (1, [97, 9], 0) by decide +kernel]
    rfl] at h
  exact h
theorem al_C4 : Hid (∀ W g, Rd W g [9] 0 → Calls Try.prog 27 #[.pointer (some ⟨g, 0, none⟩)] W fun en w' => en = .returned (.int .i64 1) ∧ W = w') := Lib.hid fun W g k => left_any g [9] 0 W k
theorem al_C5 : Hid (∀ W g, Rd W g [9] 0 → Calls Try.prog 22 #[.pointer (some ⟨g, 0, none⟩)] W fun en w' => en = .returned (.int .i64 0) ∧ W = w') := Lib.hid fun W g k => err_any g [9] 0 W k
theorem al_C6 : Hid (∀ W g, Rd W g [9] 0 → Calls Try.prog 28 #[.pointer (some ⟨g, 0, none⟩), .int .i64 8] W (RdOut W g [9] 17 (.int .i64 0))) := Lib.hid fun W g k => by
  have h := count_any g [9] 0 8 W k (bytes_lit (by decide)) (by simp) (by omega)
  rw [show countS [9] 0 8 = (0, [9], 17) by decide +kernel] at h
  exact h
theorem al_C7 : Hid (∀ W g, Rd W g [9] 17 → Calls Try.prog 22 #[.pointer (some ⟨g, 0, none⟩)] W fun en w' => en = .returned (.int .i64 17) ∧ W = w') := Lib.hid fun W g k => err_any g [9] 17 W k
theorem al_C8 : Hid (∀ W g, Rd W g [9] 17 → Calls Try.prog 24 #[.pointer (some ⟨g, 0, none⟩)] W (RdOut W g [9] 17 (.int .i64 17))) := Lib.hid fun W g k => end_any g [9] 17 W k
theorem al_D1 : Hid (∀ W g, Cel W g #[.int .u64 300, .int .u64 0] → Calls Try.prog 16 #[.slice (some ⟨g, 0, none⟩) 2 2] W (NewBytes [172, 2, 0] W)) := Lib.hid fun W g k => by
  have h := uints_any (some ⟨g, 0, none⟩) 2 [300, 0] W (kept_ints .u64 _ k) (by simp) (by simp)
  rw [show encs [300, 0] = [172, 2, 0] by decide +kernel] at h
  exact h
theorem al_D2 : Hid (∀ W g, Cel W g #[.int .i64 (-3)] → Calls Try.prog 17 #[.slice (some ⟨g, 0, none⟩) 1 1] W (NewBytes [5] W)) := Lib.hid fun W g k => by
  have h := ints_any (some ⟨g, 0, none⟩) 1 [-3] W (kept_ints .i64 _ k) (by simp [InI]) (by simp)
  rw [show encs ([-3].map zig) = [5] by decide +kernel] at h
  exact h
theorem al_D3 : Hid (∀ W g, Cel W g #[.string ⟨#[97, 98]⟩, .string ⟨#[]⟩] → Calls Try.prog 18 #[.slice (some ⟨g, 0, none⟩) 2 2] W (NewBytes [2, 97, 98, 0] W)) := Lib.hid fun W g k => by
  have e : txts [⟨#[97, 98]⟩, ⟨#[]⟩] = [2, 97, 98, 0] := by decide +kernel
  have h := texts_any (some ⟨g, 0, none⟩) 2 [⟨#[97, 98]⟩, ⟨#[]⟩] W (fun j hj => by
    have : j = 0 ∨ j = 1 := by simp at hj; omega
    rcases this with rfl | rfl
    · exact ⟨g, 0, rfl, k.2 0⟩
    · exact ⟨g, 0, rfl, k.2 1⟩) (by simp) (by rw [e]; simp)
  rw [e] at h
  exact h
theorem al_E1 : Hid (∀ W a c g, IntRow W a .u8 [172, 2, 0] → Cel W g #[.int .u8 172, .int .u8 2, .int .u8 0] → Calls Try.prog 15 #[.slice a 3 c, .slice (some ⟨g, 0, none⟩) 3 3] W (Yes W)) := Lib.hid fun W a c g h k => same_lit [172, 2, 0] (by simp) W a c g h k
theorem al_E2 : Hid (∀ W a c g, IntRow W a .u8 [5] → Cel W g #[.int .u8 5] → Calls Try.prog 15 #[.slice a 1 c, .slice (some ⟨g, 0, none⟩) 1 1] W (Yes W)) := Lib.hid fun W a c g h k => same_lit [5] (by simp) W a c g h k
theorem al_E3 : Hid (∀ W a c g, IntRow W a .u8 [2, 97, 98, 0] → Cel W g #[.int .u8 2, .int .u8 97, .int .u8 98, .int .u8 0] → Calls Try.prog 15 #[.slice a 4 c, .slice (some ⟨g, 0, none⟩) 4 4] W (Yes W)) := Lib.hid fun W a c g h k => same_lit [2, 97, 98, 0] (by simp) W a c g h k
theorem al_T1 : Hid (∀ W, Calls Try.prog 11 #[.int .i64 (-3)] W fun e w' => e = .returned (.int .u64 5) ∧ W = w') := Lib.hid fun W => by
  have h := turn_any (-3) W (by simp [InI])
  rw [show zig (-3) = 5 by decide +kernel] at h
  exact h
theorem al_T2 : Hid (∀ W, Calls Try.prog 9 #[.int .u64 5] W fun e w' => e = .returned (.int .i64 (-3)) ∧ W = w') := Lib.hid fun W => by
  have h := unturn_any 5 W (by omega)
  rw [show unzig ((5 : Nat) : Int) = -3 by decide +kernel] at h
  exact h
end Go.Proofs.Ytojahaimelkhlaa
