/- CodeOne, walked. -/
import Derived.Test.YtojahaimelkhlaaAlive
namespace Go.Proofs.Ytojahaimelkhlaa
open Go.RowKit
set_option linter.unusedVariables false

theorem uint1 (a : Nat) (ha : a < 18446744073709551616) : Hid (∀ W g, Cel W g #[.int .u64 a] → Calls Try.prog 16 #[.slice (some ⟨g, 0, none⟩) 1 1] W (NewBytes (enc a) W)) := Lib.hid fun W g k => by
  have h := uints_any (some ⟨g, 0, none⟩) 1 [(a : Int)] W (kept_ints .u64 _ k) (by simp; omega) (by simp)
  rw [show encs [(a : Int)] = enc a by simp [encs]] at h
  exact h
def OnePost (w : World) (e : Ending) (w' : World) : Prop := e = .returned (.bool true) ∧ Below w.heap.size w w'
theorem one_far (a : Option Addr) (n c : Nat) (w : World) (h : 100 < n) (hn : n ≤ 9223372036854775807) :
    Calls Try.prog 5 #[.slice a n c] w (OnePost w) := by
  have h1 : (100 : Int) < (n : Int) := by omega
  clear h
  go_enter Try.func5, Try.ntmps5
  go_wp2_with fail
  refine (alive_any _).mono ?_
  rintro _ w1 ⟨rfl, b1⟩
  have B1 := Lib.hid b1
  clear b1
  go_wp2
  go_ret
  exact ⟨rfl, B1.out⟩
def Ask (l l2 : List Int) (u e2 e3 : Int) : Prop := (∀ W g, Rd W g l 0 → Calls Try.prog 23 #[.pointer (some ⟨g, 0, none⟩)] W (RdOut W g l2 e2 (.int .u64 u))) ∧ (∀ W g, Rd W g l2 e2 → Calls Try.prog 24 #[.pointer (some ⟨g, 0, none⟩)] W (RdOut W g l2 e3 (.int .i64 e3)))
theorem ask_of (l : List Int) (hb : ByteL l) (hl : l.length ≤ 100) (l2 : List Int) (u e2 e3 : Int) (h1 : uintS l 0 = (u, l2, e2)) (h2 : endS l2 e2 = e3) : Ask l l2 u e2 e3 := by
  refine ⟨fun W g R => ?_, fun W g R => ?_⟩
  · have h := uint_any g l 0 W R hb (by omega)
    rw [h1] at h
    exact h
  · have h := end_any g l2 e2 W R
    rw [h2] at h
    exact h
set_option maxHeartbeats 4000000 in
set_option maxRecDepth 10000 in
theorem one_bad (a : Option Addr) (c : Nat) (l l2 : List Int) (u e2 e3 : Int) (w : World) (hr : IntRow w a .u8 l) (ha : a = none → c = 0) (hl : l.length ≤ 100) (q : Ask l l2 u e2 e3) (he : (l ≠ [] ∧ e3 = 10) ∨ (l ≠ [] ∧ e3 = 15) ∨ (l = [] ∧ e3 = 15)) :
    Calls Try.prog 5 #[.slice a l.length c] w (OnePost w) := by
  have HR := Lib.hid hr
  have HA := Lib.hid ha
  have U := Lib.hid q.1
  have E := Lib.hid q.2
  have HL := Lib.hid hl
  have CN : Hid (∀ v W, BytesAt W v l → Calls Try.prog 20 #[v] W (NewOut l W)) := Lib.hid fun v W h => new_any v l W h (by omega)
  have h100 : ¬ (100 : Int) < (l.length : Int) := by omega
  have fact : ∀ P : Prop, (((l.length : Int) == 0) = false → e3 = 10 → P) → (((l.length : Int) == 0) = false → e3 = 15 → P) → (((l.length : Int) == 0) = true → e3 = 15 → P) → P := fun P p1 p2 p3 => by
    rcases he with ⟨h, e⟩ | ⟨h, e⟩ | ⟨h, e⟩
    · exact p1 (by have := List.length_pos_iff.2 h; rw [beq_eq_false_iff_ne]; omega) e
    · exact p2 (by have := List.length_pos_iff.2 h; rw [beq_eq_false_iff_ne]; omega) e
    · exact p3 (by rw [h]; rfl) e
  clear hr ha q hl he
  apply fact <;> rintro h0 rfl
  all_goals
    clear fact
    go_enter Try.func5, Try.ntmps5
    go_wp2_with fail
    refine (alive_any _).mono ?_
    rintro _ w1 ⟨rfl, b1⟩
    have B1 := Lib.hid b1
    clear b1
    go_wp2_with fail
    refine (copyBytes_any a c l _ (HR.out.below B1.out) HA.out (by have := HL.out; omega)).mono ?_
    rintro _ w2 ⟨v2, rfl, o2, b2⟩
    have B2 : Hid (Below w.heap.size w w2) := Lib.hid (bnext B1.out B1.out.size b2)
    have V2 := Lib.hid (BytesAt.own o2)
    clear o2 b2
    go_wp2_with fail
    refine (CN.out _ _ V2.out).mono ?_
    rintro _ w3 ⟨g, rfl, hg, R3, b3⟩
    have B3 : Hid (Below w.heap.size w w3) := Lib.hid (bnext B2.out B2.out.size b3.out)
    have hg2 : Hid (w.heap.size ≤ g) := Lib.hid (Nat.le_trans B2.out.size hg)
    clear hg b3
    go_wp2_with fail
    refine (U.out _ _ R3.out).mono ?_
    rintro _ w4 ⟨rfl, R4, b4⟩
    have B4 : Hid (Below w.heap.size w w4) := Lib.hid (B3.out.trans (b4.out.mono hg2.out))
    clear R3 b4
    go_wp2_with fail
    refine (E.out _ _ R4.out).mono ?_
    rintro _ w5 ⟨rfl, R5, b5⟩
    have B5 : Hid (Below w.heap.size w w5) := Lib.hid (B4.out.trans (b5.out.mono hg2.out))
    clear R4 b5
    go_wp2_with fail
    try refine (err_any _ _ _ _ R5.out).mono ?_
    try rintro _ _ ⟨rfl, rfl⟩
    try go_wp2_with fail
    try refine (err_any _ _ _ _ R5.out).mono ?_
    try rintro _ _ ⟨rfl, rfl⟩
    try go_wp2
    go_ret
    exact ⟨rfl, B5.out⟩
set_option maxHeartbeats 4000000 in
set_option maxRecDepth 10000 in
theorem one_good (a : Option Addr) (c : Nat) (l : List Int) (u : Nat) (w : World) (hr : IntRow w a .u8 l) (ha : a = none → c = 0) (q : Ask l [] u 0 0) (he : enc u = l) (hu : u < 18446744073709551616) :
    Calls Try.prog 5 #[.slice a l.length c] w (OnePost w) := by
  have hlen := enc_len u
  have C1 := uint1 u hu
  rw [he] at hlen C1
  have HR := Lib.hid hr
  have HA := Lib.hid ha
  have U := Lib.hid q.1
  have E := Lib.hid q.2
  have CN : Hid (∀ v W, BytesAt W v l → Calls Try.prog 20 #[v] W (NewOut l W)) := Lib.hid fun v W h => new_any v l W h (by omega)
  have CC : Hid (∀ W, IntRow W a .u8 l → Calls Try.prog 21 #[.slice a l.length c] W fun e w' => IntsOut .u8 l W e w') := Lib.hid fun W h => copyBytes_any a c l W h ha (by omega)
  have CS : Hid (∀ W a' c', IntRow W a' .u8 l → IntRow W a .u8 l → Calls Try.prog 15 #[.slice a' l.length c', .slice a l.length c] W (SamePost l l W)) := Lib.hid fun W a' c' h1 h2 => sameBytes_any a' a c' c l l W h1 h2 (by omega) (by omega)
  have h10 : (l.length : Int) ≤ 10 := by omega
  have h100 : ¬ (100 : Int) < (l.length : Int) := by omega
  clear hr ha q he hlen hu
  go_enter Try.func5, Try.ntmps5
  go_wp2_with fail
  refine (alive_any _).mono ?_
  rintro _ w1 ⟨rfl, b1⟩
  have B1 := Lib.hid b1
  clear b1
  go_wp2_with fail
  refine (CC.out _ (HR.out.below B1.out)).mono ?_
  rintro _ w2 ⟨v2, rfl, o2, b2⟩
  have B2 : Hid (Below w.heap.size w w2) := Lib.hid (bnext B1.out B1.out.size b2)
  have V2 := Lib.hid (BytesAt.own o2)
  clear o2 b2
  go_wp2_with fail
  refine (CN.out _ _ V2.out).mono ?_
  rintro _ w3 ⟨g, rfl, hg, R3, b3⟩
  have B3 : Hid (Below w.heap.size w w3) := Lib.hid (bnext B2.out B2.out.size b3.out)
  have hg2 : Hid (w.heap.size ≤ g) := Lib.hid (Nat.le_trans B2.out.size hg)
  clear hg b3
  go_wp2_with fail
  refine (U.out _ _ R3.out).mono ?_
  rintro _ w4 ⟨rfl, R4, b4⟩
  have B4 : Hid (Below w.heap.size w w4) := Lib.hid (B3.out.trans (b4.out.mono hg2.out))
  clear R3 b4
  go_wp2_with fail
  refine (E.out _ _ R4.out).mono ?_
  rintro _ w5 ⟨rfl, R5, b5⟩
  have B5 : Hid (Below w.heap.size w w5) := Lib.hid (B4.out.trans (b5.out.mono hg2.out))
  clear R4 R5 b5
  go_wp2_with fail
  refine (C1.out _ _ (Cel.new rfl)).mono ?_
  rintro _ w6 ⟨v6, rfl, o6, b6⟩
  obtain ⟨a6, c6, rfl, -, -, -, -, r6⟩ := IntRow.ownK o6
  have R6 := Lib.hid r6
  have B6 : Hid (Below w.heap.size w w6) := Lib.hid (bnext (B5.out.alloc B5.out.size _) (by have := B5.out.size; simp; omega) b6)
  clear o6 b6 r6
  go_wp2_with fail
  refine (CS.out _ _ _ R6.out (HR.out.below B6.out)).mono ?_
  rintro _ _ ⟨rfl, n, rfl⟩
  have B7 : Hid (Below w.heap.size w _) := Lib.hid (below_drewN B6.out n)
  simp only [decide_true]
  go_wp2
  go_ret
  exact ⟨rfl, B7.out⟩
theorem one_any (a : Option Addr) (n c : Nat) (l : List Int) (w : World) (hl : l.length = n) (hr : IntRow w a .u8 l) (ha : a = none → c = 0) (hn : n ≤ 9223372036854775807) (hb : ByteL l) :
    Calls Try.prog 5 #[.slice a n c] w (OnePost w) := by
  subst hl
  by_cases h : 100 < l.length
  · exact one_far a l.length c w h hn
  · rcases fst_case l hb with ⟨v, n, ef, n1, n2, n3, v1, he⟩ | ef | ef
    · by_cases hd : l.drop n = []
      · have hln : l.length ≤ n := List.drop_eq_nil_iff.1 hd
        rw [List.take_of_length_le hln] at he
        exact one_good a c l v w hr ha (ask_of l hb (by omega) [] v 0 0 (by simp [uintS, ef, hd]) (by simp [endS])) he.symm v1
      · exact one_bad a c l (l.drop n) v 0 10 w hr ha (by omega) (ask_of l hb (by omega) _ v 0 10 (by simp [uintS, ef]) (by unfold endS; rw [if_pos ⟨rfl, hd⟩])) (.inl ⟨fun h => by rw [h] at n2; simp at n2; omega, rfl⟩)
    · refine one_bad a c l l 0 10 10 w hr ha (by omega) (ask_of l hb (by omega) _ 0 10 10 (by simp [uintS, ef]) (by simp [endS])) (.inl ⟨fun h => ?_, rfl⟩)
      rw [h] at ef
      simp [fstF] at ef
    · refine one_bad a c l l 0 15 15 w hr ha (by omega) (ask_of l hb (by omega) _ 0 15 15 (by simp [uintS, ef]) (by simp [endS])) ?_
      by_cases h : l = []
      · exact .inr (.inr ⟨h, rfl⟩)
      · exact .inr (.inl ⟨h, rfl⟩)
theorem bd8 {a : Int} (h : (Lit.int .u8 a).wf = true) : 0 ≤ a ∧ a ≤ 255 := by simp [Lit.wf, IntKind.min, IntKind.max, IntKind.signed, IntKind.bits] at h; exact h
theorem RowOf.bytes {w : World} {a : Option Addr} {len cap : Nat} {zs : List Int} (h : RowOf .u8 w a len cap zs) : (zs.take len).length = len ∧ IntRow w a .u8 (zs.take len) ∧ (a = none → cap = 0) ∧ len ≤ cap ∧ cap ≤ 9223372036854775807 ∧ ByteL (zs.take len) := by
  rcases h with ⟨rfl, rfl, rfl, rfl⟩ | ⟨x, rfl, h1, h2, h3, h4, h5⟩
  · exact ⟨rfl, fun j hj => by simp at hj, fun _ => rfl, Nat.le_refl _, by omega, fun x hx => by simp at hx⟩
  · simp only [maxLen] at h2
    have hlen : (zs.take len).length = len := by rw [List.length_take]; omega
    refine ⟨hlen, ?_, fun e => by simp at e, h1, h2, fun n hn => bd8 (h5 n (List.mem_of_mem_take hn))⟩
    by_cases h0 : len = 0
    · subst h0; exact fun j hj => by simp at hj
    · obtain ⟨b, off, rfl, hc⟩ := ints_at h4 (by omega)
      refine fun j hj => ⟨b, off, rfl, ?_⟩
      rw [hlen] at hj
      rw [hc j (by omega), getD_take, if_pos hj]
end Go.Proofs.Ytojahaimelkhlaa
