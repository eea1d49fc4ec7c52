/- crc.Open: for every input. -/
import Derived.Test.YtgkgcbhlodohdaaCrcC
import Derived.Lib.EndianBits
namespace Go.Proofs.Ytgkgcbhlodohdaa
open Go.RowKit
set_option linter.unusedVariables false

/-- what a call leaves that answers bytes and an error number -/
def OpenOut (l : List Int) (er : Int) (w : World) (e : Ending) (w' : World) : Prop := ∃ v, e = .returned (.tuple #[v, .int .i64 er]) ∧ w'.ownsRow w.heap.size 5 1 v l.length (l.map (Value.int .u8)) ∧ Below w.heap.size w w'
theorem open_short (v : Value) (l : List Int) (w : World) (h : BytesAt w v l) (hl : l.length < 4) : Calls Try.prog 10 #[v] w (OpenOut [] 15 w) := by
  obtain ⟨a, c, rfl, ha, hlc, hc, hr⟩ := h
  have hlt : (l.length : Int) < 4 := by omega
  have fin : OpenOut [] 15 w (.returned (.tuple #[.slice none 0 0, .int .i64 15])) w := ⟨_, rfl, World.ownsRow_nil _ _ _ _, Below.refl _ _⟩
  have Fin := Lib.hid fin
  clear fin ha hr
  go_enter Try.func10, Try.ntmps10
  go_wp2
  go_ret2
  exact Fin.out
def Open1 (c0 c1 c2 c3 : Int) (s i : Value) : Prop := ∃ k : Nat, k ≤ 4 ∧ i = .int .i64 k ∧ s = .int .u32 ((if 1 ≤ k then c0 else 0) + (if 2 ≤ k then 256 * c1 else 0) + (if 3 ≤ k then 65536 * c2 else 0) + (if 4 ≤ k then 16777216 * c3 else 0))
theorem owns_base {w : World} {base base' e size n : Nat} {v : Value} {xs : List Value} (h : w.ownsRow base e size v n xs) (hb : base' ≤ base) : w.ownsRow base' e size v n xs := by
  refine ⟨h.1, ?_⟩
  rcases h.2 with h | ⟨g, cap, cur, e1, e2, rest⟩
  · exact .inl h
  · exact .inr ⟨g, cap, cur, e1, Nat.le_trans hb e2, rest⟩
set_option maxHeartbeats 1000000 in
theorem open_bad (b off c : Nat) (d : List Int) (c0 c1 c2 c3 : Int) (w : World) (hr : IntRow w (some ⟨b, off, none⟩) .u8 (d ++ [c0, c1, c2, c3])) (hc : d.length + 4 ≤ c) (hc2 : c ≤ 9223372036854775807) (hl : d.length ≤ 900000000) (hd : ByteL d)
    (b0 : 0 ≤ c0 ∧ c0 ≤ 255) (b1 : 0 ≤ c1 ∧ c1 ≤ 255) (b2 : 0 ≤ c2 ∧ c2 ≤ 255) (b3 : 0 ≤ c3 ∧ c3 ≤ 255) (hne : ((crcN d : Int) != c0 + 256 * c1 + 65536 * c2 + 16777216 * c3) = true) :
    Calls Try.prog 10 #[.slice (some ⟨b, off, none⟩) (d.length + 4) c] w (OpenOut ([] : List Int) 14 w) := by
  have h0 := hr d.length (by simp)
  have h1 := hr (d.length + 1) (by simp)
  have h2 := hr (d.length + 2) (by simp)
  have h3 := hr (d.length + 3) (by simp)
  have HD : Hid (IntRow w (some ⟨b, off, none⟩) .u8 d) := Lib.hid fun j hj => by
    obtain ⟨x, y, e, h⟩ := hr j (by simp; omega)
    refine ⟨x, y, e, h.trans ?_⟩
    simp [List.getD_eq_getElem?_getD, List.getElem?_append_left hj]
  clear hr
  obtain ⟨_, _, e0, g0⟩ := h0
  obtain ⟨_, _, e1, g1⟩ := h1
  obtain ⟨_, _, e2, g2⟩ := h2
  obtain ⟨_, _, e3, g3⟩ := h3
  injection e0 with e0; injection e0 with e01 e02; subst e01 e02
  injection e1 with e1; injection e1 with e11 e12; subst e11 e12
  injection e2 with e2; injection e2 with e21 e22; subst e21 e22
  injection e3 with e3; injection e3 with e31 e32; subst e31 e32
  simp [List.getD] at g0 g1 g2 g3
  have HS : Hid (∀ W, Below w.heap.size w W → ∀ g, Kept W g #[.slice (some ⟨b, off, none⟩) d.length c] 23 → Calls Try.prog 12 #[.slice (some ⟨g, 0, none⟩) 1 1] W (SumRes (crcN d) W)) := Lib.hid fun W hB g hk => by
    have h := sum_any (some ⟨g, 0, none⟩) 1 [d] W (fun j hj => by
      have : j = 0 := by simp at hj; omega
      subst this
      exact ⟨g, 0, rfl, _, _, (hk.at_ 0).1, fun e => by simp at e, HD.out.below hB⟩) (by simpa using hd) (by simp) (by simp; omega)
    simpa using h
  have HC : Hid (∀ W, Below w.heap.size w W → Calls Try.prog 17 #[.slice (some ⟨b, off, none⟩) d.length c] W (NewBytes d W)) := Lib.hid fun W hB =>
    clone_any _ d W ⟨_, c, rfl, fun e => by simp at e, by omega, hc2, HD.out.below hB⟩ (by omega)
  have O0 : Hid (bits .or .u32 0 c0 = c0) := Lib.hid (by rw [u32_or 0 c0 (by omega) (by omega) (by omega) (by omega)]; simp; omega)
  have O1 : Hid (bits .or .u32 c0 (c1 * 256) = c0 + 256 * c1) := Lib.hid (by rw [Go.u32_or8 c0 (c1 * 256) (by omega) (by omega) (by omega) (by omega) (by omega)]; omega)
  have O2 : Hid (bits .or .u32 (c0 + 256 * c1) (c2 * 65536) = c0 + 256 * c1 + 65536 * c2) := Lib.hid (by rw [Go.u32_or16 (c0 + 256 * c1) (c2 * 65536) (by omega) (by omega) (by omega) (by omega) (by omega)]; omega)
  have O3 : Hid (bits .or .u32 (c0 + 256 * c1 + 65536 * c2) (c3 * 16777216) = c0 + 256 * c1 + 65536 * c2 + 16777216 * c3) := Lib.hid (by rw [Go.u32_or24 (c0 + 256 * c1 + 65536 * c2) (c3 * 16777216) (by omega) (by omega) (by omega) (by omega) (by omega)]; omega)
  have fin : ∀ v w', w'.ownsRow w.heap.size 5 1 v ([] : List Int).length (([] : List Int).map (Value.int .u8)) → Below w.heap.size w w' → OpenOut ([] : List Int) 14 w (.returned (.tuple #[v, .int .i64 14])) w' := fun v w' h1 h2 => ⟨v, rfl, h1, h2⟩
  have Fin := Lib.hid fin
  have hcr : 0 ≤ (crcN d : Int) ∧ (crcN d : Int) ≤ 4294967295 := by unfold crcN; omega
  obtain ⟨n, hn⟩ : ∃ n, d.length = n := ⟨_, rfl⟩
  have HN := Lib.hid hn
  rw [hn] at g0 g1 g2 g3 hc hl HS HC ⊢
  rw [← Nat.add_assoc] at g1 g2 g3
  clear hn fin HD
  have hge : ¬ ((n : Int) + 4 < 4) := by omega
  have HNE := Lib.hid hne
  clear hne
  go_enter Try.func10, Try.ntmps10
  go_wp2
  go_loop [5, 6, 7, 21] (fun s _ _ i => Open1 c0 c1 c2 c3 s i) (fun _ _ _ i => 4 - (intOf i).toNat)
  case atStart => exact ⟨0, by omega, rfl, by simp⟩
  case round =>
    obtain ⟨k, hk, rfl, rfl⟩ := hrel
    have hk5 : k = 0 ∨ k = 1 ∨ k = 2 ∨ k = 3 ∨ k = 4 := by omega
    rcases hk5 with rfl | rfl | rfl | rfl | rfl
    case inl =>
      simp only [Nat.reduceLeDiff, if_false]
      go_wp2
      rw [O0.out]
      exact ⟨⟨1, by omega, rfl, by simp⟩, by simp [intOf]⟩
    case inr.inl =>
      simp only [Nat.reduceLeDiff, if_true, if_false]
      go_wp2
      rw [O1.out]
      exact ⟨⟨2, by omega, rfl, by simp⟩, by simp [intOf]⟩
    case inr.inr.inl =>
      simp only [Nat.reduceLeDiff, if_true, if_false]
      go_wp2
      rw [O2.out]
      exact ⟨⟨3, by omega, rfl, by simp⟩, by simp [intOf]⟩
    case inr.inr.inr.inl =>
      simp only [Nat.reduceLeDiff, if_true, if_false]
      go_wp2
      rw [O3.out]
      exact ⟨⟨4, by omega, rfl, by simp⟩, by simp [intOf]⟩
    case inr.inr.inr.inr =>
      simp only [Nat.reduceLeDiff, if_true]
      generalize c0 + 256 * c1 + 65536 * c2 + 16777216 * c3 = s at *
      clear g0 g1 g2 g3
      go_wp2_with fail
      refine (HS.out _ (one_alloc _ _) _ (Kept.new rfl)).mono ?_
      rintro e w1 ⟨rfl, rfl⟩
      have hne := HNE.out
      go_wp2
      go_ret2
      exact Fin.out _ _ (World.ownsRow_nil _ _ _ _) (one_alloc _ _)
set_option maxHeartbeats 1000000 in
theorem open_ok (b off c : Nat) (d : List Int) (c0 c1 c2 c3 : Int) (w : World) (hr : IntRow w (some ⟨b, off, none⟩) .u8 (d ++ [c0, c1, c2, c3])) (hc : d.length + 4 ≤ c) (hc2 : c ≤ 9223372036854775807) (hl : d.length ≤ 900000000) (hd : ByteL d)
    (b0 : 0 ≤ c0 ∧ c0 ≤ 255) (b1 : 0 ≤ c1 ∧ c1 ≤ 255) (b2 : 0 ≤ c2 ∧ c2 ≤ 255) (b3 : 0 ≤ c3 ∧ c3 ≤ 255) (hne : ((crcN d : Int) != c0 + 256 * c1 + 65536 * c2 + 16777216 * c3) = false) :
    Calls Try.prog 10 #[.slice (some ⟨b, off, none⟩) (d.length + 4) c] w (OpenOut d 0 w) := by
  have h0 := hr d.length (by simp)
  have h1 := hr (d.length + 1) (by simp)
  have h2 := hr (d.length + 2) (by simp)
  have h3 := hr (d.length + 3) (by simp)
  have HD : Hid (IntRow w (some ⟨b, off, none⟩) .u8 d) := Lib.hid fun j hj => by
    obtain ⟨x, y, e, h⟩ := hr j (by simp; omega)
    refine ⟨x, y, e, h.trans ?_⟩
    simp [List.getD_eq_getElem?_getD, List.getElem?_append_left hj]
  clear hr
  obtain ⟨_, _, e0, g0⟩ := h0
  obtain ⟨_, _, e1, g1⟩ := h1
  obtain ⟨_, _, e2, g2⟩ := h2
  obtain ⟨_, _, e3, g3⟩ := h3
  injection e0 with e0; injection e0 with e01 e02; subst e01 e02
  injection e1 with e1; injection e1 with e11 e12; subst e11 e12
  injection e2 with e2; injection e2 with e21 e22; subst e21 e22
  injection e3 with e3; injection e3 with e31 e32; subst e31 e32
  simp [List.getD] at g0 g1 g2 g3
  have HS : Hid (∀ W, Below w.heap.size w W → ∀ g, Kept W g #[.slice (some ⟨b, off, none⟩) d.length c] 23 → Calls Try.prog 12 #[.slice (some ⟨g, 0, none⟩) 1 1] W (SumRes (crcN d) W)) := Lib.hid fun W hB g hk => by
    have h := sum_any (some ⟨g, 0, none⟩) 1 [d] W (fun j hj => by
      have : j = 0 := by simp at hj; omega
      subst this
      exact ⟨g, 0, rfl, _, _, (hk.at_ 0).1, fun e => by simp at e, HD.out.below hB⟩) (by simpa using hd) (by simp) (by simp; omega)
    simpa using h
  have HC : Hid (∀ W, Below w.heap.size w W → Calls Try.prog 17 #[.slice (some ⟨b, off, none⟩) d.length c] W (NewBytes d W)) := Lib.hid fun W hB =>
    clone_any _ d W ⟨_, c, rfl, fun e => by simp at e, by omega, hc2, HD.out.below hB⟩ (by omega)
  have O0 : Hid (bits .or .u32 0 c0 = c0) := Lib.hid (by rw [u32_or 0 c0 (by omega) (by omega) (by omega) (by omega)]; simp; omega)
  have O1 : Hid (bits .or .u32 c0 (c1 * 256) = c0 + 256 * c1) := Lib.hid (by rw [Go.u32_or8 c0 (c1 * 256) (by omega) (by omega) (by omega) (by omega) (by omega)]; omega)
  have O2 : Hid (bits .or .u32 (c0 + 256 * c1) (c2 * 65536) = c0 + 256 * c1 + 65536 * c2) := Lib.hid (by rw [Go.u32_or16 (c0 + 256 * c1) (c2 * 65536) (by omega) (by omega) (by omega) (by omega) (by omega)]; omega)
  have O3 : Hid (bits .or .u32 (c0 + 256 * c1 + 65536 * c2) (c3 * 16777216) = c0 + 256 * c1 + 65536 * c2 + 16777216 * c3) := Lib.hid (by rw [Go.u32_or24 (c0 + 256 * c1 + 65536 * c2) (c3 * 16777216) (by omega) (by omega) (by omega) (by omega) (by omega)]; omega)
  have fin : ∀ v w', w'.ownsRow w.heap.size 5 1 v d.length (d.map (Value.int .u8)) → Below w.heap.size w w' → OpenOut d 0 w (.returned (.tuple #[v, .int .i64 0])) w' := fun v w' h1 h2 => ⟨v, rfl, h1, h2⟩
  have Fin := Lib.hid fin
  have hcr : 0 ≤ (crcN d : Int) ∧ (crcN d : Int) ≤ 4294967295 := by unfold crcN; omega
  obtain ⟨n, hn⟩ : ∃ n, d.length = n := ⟨_, rfl⟩
  have HN := Lib.hid hn
  rw [hn] at g0 g1 g2 g3 hc hl HS HC ⊢
  rw [← Nat.add_assoc] at g1 g2 g3
  clear hn fin HD
  have hge : ¬ ((n : Int) + 4 < 4) := by omega
  have HNE := Lib.hid hne
  clear hne
  go_enter Try.func10, Try.ntmps10
  go_wp2
  go_loop [5, 6, 7, 21] (fun s _ _ i => Open1 c0 c1 c2 c3 s i) (fun _ _ _ i => 4 - (intOf i).toNat)
  case atStart => exact ⟨0, by omega, rfl, by simp⟩
  case round =>
    obtain ⟨k, hk, rfl, rfl⟩ := hrel
    have hk5 : k = 0 ∨ k = 1 ∨ k = 2 ∨ k = 3 ∨ k = 4 := by omega
    rcases hk5 with rfl | rfl | rfl | rfl | rfl
    case inl =>
      simp only [Nat.reduceLeDiff, if_false]
      go_wp2
      rw [O0.out]
      exact ⟨⟨1, by omega, rfl, by simp⟩, by simp [intOf]⟩
    case inr.inl =>
      simp only [Nat.reduceLeDiff, if_true, if_false]
      go_wp2
      rw [O1.out]
      exact ⟨⟨2, by omega, rfl, by simp⟩, by simp [intOf]⟩
    case inr.inr.inl =>
      simp only [Nat.reduceLeDiff, if_true, if_false]
      go_wp2
      rw [O2.out]
      exact ⟨⟨3, by omega, rfl, by simp⟩, by simp [intOf]⟩
    case inr.inr.inr.inl =>
      simp only [Nat.reduceLeDiff, if_true, if_false]
      go_wp2
      rw [O3.out]
      exact ⟨⟨4, by omega, rfl, by simp⟩, by simp [intOf]⟩
    case inr.inr.inr.inr =>
      simp only [Nat.reduceLeDiff, if_true]
      generalize c0 + 256 * c1 + 65536 * c2 + 16777216 * c3 = s at *
      clear g0 g1 g2 g3
      go_wp2_with fail
      refine (HS.out _ (one_alloc _ _) _ (Kept.new rfl)).mono ?_
      rintro e w1 ⟨rfl, rfl⟩
      have hne := HNE.out
      go_wp2_with fail
      refine (HC.out _ (one_alloc _ _)).mono ?_
      rintro e w2 ⟨v, rfl, hown, hbel⟩
      have Hown : Hid (w2.ownsRow w.heap.size 5 1 v d.length (d.map (Value.int .u8))) := Lib.hid (owns_base hown (by simp))
      have Hbel : Hid (Below w.heap.size w w2) := Lib.hid (bnext (one_alloc w _) (by simp) hbel)
      clear hown hbel hne
      go_wp2
      go_ret2
      exact Fin.out _ _ Hown.out Hbel.out
end Go.Proofs.Ytgkgcbhlodohdaa
