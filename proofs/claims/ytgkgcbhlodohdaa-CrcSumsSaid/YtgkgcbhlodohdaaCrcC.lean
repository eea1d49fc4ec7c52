/- slices.Clone over bytes, crc.Seal: for every input. -/
import Derived.Test.YtgkgcbhlodohdaaCrcB
namespace Go.Proofs.Ytgkgcbhlodohdaa
open Go.RowKit
set_option linter.unusedVariables false

set_option maxHeartbeats 400000 in
theorem clone_any (v : Value) (l : List Int) (w : World) (h : BytesAt w v l) (hl : l.length ≤ 1000000000) :
    Calls Try.prog 17 #[v] w (NewBytes l w) := by
  obtain ⟨i0, hi, hz0, hz1, hz2⟩ := info_parts info_uint8
  obtain ⟨a, c, rfl, ha, hlc, hc, hr⟩ := h
  have hnil := fun (w : World) (a : Option Addr) (n c : Nat) => Lib.run_eql_slice_nil (P := Try.prog) w 23 5 a n c 0 0 Try.underlying23
  rcases a with _ | ad
  · have hc0 := ha rfl
    have hl0 : l = [] := by cases l with
      | nil => rfl
      | cons y ys => rw [hc0] at hlc; simp at hlc
    subst hc0 hl0
    go_enter Try.func17, Try.ntmps17
    go_wp2
    go_ret
    exact ⟨_, rfl, World.ownsRow_nil _ _ _ _, Below.refl _ _⟩
  · have HR := Lib.hid (hr.alloc (Obj.cells #[] 5))
    have hc1 : 0 + l.length ≤ maxLen := by unfold maxLen; omega
    have hc2 : (0 + l.length) * 1 ≤ 140737488355328 := by omega
    have hown : Hid ((w.alloc (Obj.cells #[] 5)).ownsRow w.heap.size 5 1 (.slice (some ⟨w.heap.size, 0, none⟩) 0 0) 0 []) := Lib.hid (World.ownsRow_made _ #[] 0 (Nat.le_refl _) (by unfold maxLen; omega) rfl)
    have hbel : Hid (Below w.heap.size w (w.alloc (Obj.cells #[] 5))) := Lib.hid ((Below.refl _ _).alloc (Nat.le_refl _) _)
    have HA := Lib.hid ha
    clear hr ha hlc hc
    go_enter Try.func17, Try.ntmps17
    go_wp2_with (at_builtin; refine wpList_appendInts rfl _ _ 23 rfl w 5 i0 (.int .u8 0) 1 Try.underlying23 hi hz0 hz1 hz2 rfl _ 0 [] rfl hown.out .u8 (some ad) c l rfl HA.out HR.out hc1 hc2 hbel.out ?_)
    intro v' w1 hown' hbel'
    have Hown' := Lib.hid hown'
    have Hbel' := Lib.hid hbel'
    clear hown' hbel'
    go_wp2
    go_ret
    exact ⟨_, rfl, by simpa using Hown'.out, Hbel'.out⟩
def le32 (s : Nat) : List Int := [(s : Int) % 256, (s : Int) / 256 % 256, (s : Int) / 65536 % 256, (s : Int) / 16777216]
def sealL (l : List Int) : List Int := l ++ le32 (crcN l)
def Seal1 (l : List Int) (s : Nat) (w : World) (v i : Value) (wr : World) : Prop := ∃ k : Nat, k ≤ 4 ∧ i = .int .i64 k ∧ Hid (wr.ownsRow w.heap.size 5 1 v (l.length + k) ((l ++ (le32 s).take k).map (Value.int .u8))) ∧ Hid (Below w.heap.size w wr)
set_option maxHeartbeats 1000000 in
theorem seal_any (a : Option Addr) (cap : Nat) (l : List (List Int)) (w : World) (hr : PartsRow w a l) (hb : ∀ p ∈ l, ByteL p) (hl : l.length ≤ 1000000) (hp : lenP l ≤ 900000000) :
    Calls Try.prog 15 #[.slice a l.length cap] w (NewBytes (sealL l.flatten) w) := by
  obtain ⟨i0, hi, hz0, hz1, hz2⟩ := info_parts info_uint8
  have hbl : ByteL l.flatten := fun x hx => by
    obtain ⟨p, hp, hx⟩ := List.mem_flatten.1 hx
    exact hb p hp x hx
  have hq : ∀ p ∈ l, p.length ≤ 1000000000 := fun p hp' => by
    have : p.length ≤ lenP l := by
      rw [← lenP_flat]
      obtain ⟨s, t, rfl⟩ := List.append_of_mem hp'
      simp
      omega
    omega
  have Cs := Lib.hid (sum_any a cap l w hr hb hl hq)
  have Cc := Lib.hid (concat_any a cap l w hr hl (by omega))
  have hL : l.flatten.length ≤ 900000000 := by rw [lenP_flat]; exact hp
  have fin : ∀ v w', w'.ownsRow w.heap.size 5 1 v (l.flatten.length + 4) ((l.flatten ++ (le32 (crcN l.flatten)).take 4).map (Value.int .u8)) → Below w.heap.size w w' → NewBytes (sealL l.flatten) w (.returned v) w' := fun v w' h1 h2 => ⟨v, rfl, by unfold sealL; simpa [le32] using h1, h2⟩
  have Fin := Lib.hid fin
  clear hr hq hp hb fin
  obtain ⟨s, hs⟩ : ∃ s, crcN l.flatten = s := ⟨_, rfl⟩
  have s1 : s < 4294967296 := by rw [← hs]; unfold crcN; omega
  rw [hs] at Cs Fin
  clear hs hbl
  go_enter Try.func15, Try.ntmps15
  go_wp2_with fail
  refine Cs.out.mono ?_
  rintro e w1 ⟨rfl, rfl⟩
  go_wp2_with fail
  refine Cc.out.mono ?_
  rintro e w1 ⟨v, rfl, hown, hbel⟩
  have Hown := Lib.hid hown
  have Hbel := Lib.hid hbel
  clear hown hbel Cs Cc
  generalize l.flatten = m at *
  go_wp2
  go_loopw [4, 5, 10] (fun v _ i wr => Seal1 m s w v i wr) (fun _ _ i _ => 4 - (intOf i).toNat)
  case atStart => exact ⟨0, by omega, rfl, Lib.hid (by simpa using Hown.out), Hbel⟩
  case round =>
    obtain ⟨k, hk, rfl, Hown, Hbel⟩ := hrel
    have hk5 : k = 0 ∨ k = 1 ∨ k = 2 ∨ k = 3 ∨ k = 4 := by omega
    rcases hk5 with rfl | rfl | rfl | rfl | rfl
    case inl =>
      have hc1 : m.length + 0 + 1 ≤ maxLen := by unfold maxLen; omega
      have hc2 : (m.length + 0 + 1) * 1 ≤ 140737488355328 := by omega
      go_wp2_with (at_builtin; refine wpList_append1 rfl _ _ 23 rfl w 5 i0 (.int .u8 0) 1 Try.underlying23 hi hz0 hz1 hz2 rfl _ _ _ _ rfl Hown.out _ rfl rfl hc1 hc2 Hbel.out ?_)
      intro v' w2 hown' hbel'
      have Hown' : Hid (w2.ownsRow w.heap.size 5 1 v' (m.length + 1) ((m ++ (le32 s).take 1).map (Value.int .u8))) := Lib.hid (by simpa [le32] using hown')
      have Hbel' := Lib.hid hbel'
      clear hown' hbel'
      go_wp2
      go_roundw
      case rel => exact ⟨1, by omega, rfl, Hown', Hbel'⟩
      case measure => simp [intOf]
    case inr.inl =>
      have hc1 : m.length + 1 + 1 ≤ maxLen := by unfold maxLen; omega
      have hc2 : (m.length + 1 + 1) * 1 ≤ 140737488355328 := by omega
      go_wp2_with (at_builtin; refine wpList_append1 rfl _ _ 23 rfl w 5 i0 (.int .u8 0) 1 Try.underlying23 hi hz0 hz1 hz2 rfl _ _ _ _ rfl Hown.out _ rfl rfl hc1 hc2 Hbel.out ?_)
      intro v' w2 hown' hbel'
      have Hown' : Hid (w2.ownsRow w.heap.size 5 1 v' (m.length + 2) ((m ++ (le32 s).take 2).map (Value.int .u8))) := Lib.hid (by simpa [le32] using hown')
      have Hbel' := Lib.hid hbel'
      clear hown' hbel'
      go_wp2
      go_roundw
      case rel => exact ⟨2, by omega, rfl, Hown', Hbel'⟩
      case measure => simp [intOf]
    case inr.inr.inl =>
      have hc1 : m.length + 2 + 1 ≤ maxLen := by unfold maxLen; omega
      have hc2 : (m.length + 2 + 1) * 1 ≤ 140737488355328 := by omega
      go_wp2_with (at_builtin; refine wpList_append1 rfl _ _ 23 rfl w 5 i0 (.int .u8 0) 1 Try.underlying23 hi hz0 hz1 hz2 rfl _ _ _ _ rfl Hown.out _ rfl rfl hc1 hc2 Hbel.out ?_)
      intro v' w2 hown' hbel'
      have Hown' : Hid (w2.ownsRow w.heap.size 5 1 v' (m.length + 3) ((m ++ (le32 s).take 3).map (Value.int .u8))) := Lib.hid (by simpa [le32] using hown')
      have Hbel' := Lib.hid hbel'
      clear hown' hbel'
      go_wp2
      go_roundw
      case rel => exact ⟨3, by omega, rfl, Hown', Hbel'⟩
      case measure => simp [intOf]
    case inr.inr.inr.inl =>
      have hc1 : m.length + 3 + 1 ≤ maxLen := by unfold maxLen; omega
      have hc2 : (m.length + 3 + 1) * 1 ≤ 140737488355328 := by omega
      go_wp2_with (at_builtin; refine wpList_append1 rfl _ _ 23 rfl w 5 i0 (.int .u8 0) 1 Try.underlying23 hi hz0 hz1 hz2 rfl _ _ _ _ rfl Hown.out _ rfl rfl hc1 hc2 Hbel.out ?_)
      intro v' w2 hown' hbel'
      have Hown' : Hid (w2.ownsRow w.heap.size 5 1 v' (m.length + 4) ((m ++ (le32 s).take 4).map (Value.int .u8))) := Lib.hid (by simpa [le32] using hown')
      have Hbel' := Lib.hid hbel'
      clear hown' hbel'
      go_wp2
      go_roundw
      case rel => exact ⟨4, by omega, rfl, Hown', Hbel'⟩
      case measure => simp [intOf]
    case inr.inr.inr.inr =>
      go_wp2
      go_ret
      exact Fin.out _ _ Hown.out Hbel.out
end Go.Proofs.Ytgkgcbhlodohdaa
