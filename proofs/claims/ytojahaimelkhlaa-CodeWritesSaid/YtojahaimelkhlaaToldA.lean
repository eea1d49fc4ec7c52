/- noonmarklaw06.told, one thing read: for every reader. -/
import Derived.Test.YtojahaimelkhlaaBackM
namespace Go.Proofs.Ytojahaimelkhlaa
open Go.RowKit
set_option linter.unusedVariables false

theorem take_bytes {l : List Int} (h : ByteL l) (n : Nat) : ByteL (l.take n) := fun x hx => h x (List.mem_of_mem_take hx)
def AtOut (v : Value) (w : World) (g : Nat) (T : List Int) (n p : Nat) (ok : Bool) (e : Ending) (w' : World) : Prop := e = .returned v ∧ Hid (At w' g T n p ok) ∧ Hid (Below g w w')
theorem at_uint (w : World) (g : Nat) (T S : List Int) (n p u : Nat) (ok : Bool) (hA : At w g T n p ok) (hT : T.drop p = enc u ++ S) (hu : u < 18446744073709551616) (hb : ByteL T) (hl : T.length ≤ 1000000) :
    ∃ z : Int, Calls Try.prog 23 #[.pointer (some ⟨g, 0, none⟩)] w (AtOut (.int .u64 z) w g T n (p + (enc u).length) (ok && (z == (u : Int)))) := by
  rcases hA with ⟨hp, rfl, R⟩ | ⟨hp, l, lb, ll, R⟩
  · have h := uint_any g _ 0 w R (drop_bytes (take_bytes hb n) p) (by simp; omega)
    rcases uint_cut u S (n - p) hu _ (take_at T _ S n p hT hp) with ⟨h1, e⟩ | ⟨h1, e⟩
    · rw [e] at h
      refine ⟨u, h.mono ?_⟩
      rintro _ w' ⟨rfl, R', B⟩
      refine ⟨rfl, Lib.hid (.inl ⟨by omega, by simp, ?_⟩), B⟩
      have := R'.out
      rw [List.drop_drop] at this
      exact this
    · rw [e] at h
      refine ⟨0, h.mono ?_⟩
      rintro _ w' ⟨rfl, R', B⟩
      exact ⟨rfl, Lib.hid (.inr ⟨by omega, _, drop_bytes (take_bytes hb n) p, by simp; omega, R'.out⟩), B⟩
  · have h := uint_any g l 15 w R lb (by omega)
    rw [uint_bad] at h
    refine ⟨0, h.mono ?_⟩
    rintro _ w' ⟨rfl, R', B⟩
    exact ⟨rfl, Lib.hid (.inr ⟨by omega, l, lb, ll, R'.out⟩), B⟩
theorem at_int (w : World) (g : Nat) (T S : List Int) (n p : Nat) (v : Int) (ok : Bool) (hA : At w g T n p ok) (hv : InI v) (hT : T.drop p = enc (zig v).toNat ++ S) (hb : ByteL T) (hl : T.length ≤ 1000000) :
    ∃ z : Int, Calls Try.prog 25 #[.pointer (some ⟨g, 0, none⟩)] w (AtOut (.int .i64 z) w g T n (p + (enc (zig v).toNat).length) (ok && (z == v))) := by
  have hz := zig_bd hv
  rcases hA with ⟨hp, rfl, R⟩ | ⟨hp, l, lb, ll, R⟩
  · have h := int_any g _ 0 w R (drop_bytes (take_bytes hb n) p) (by simp; omega)
    rcases uint_cut (zig v).toNat S (n - p) (by omega) _ (take_at T _ S n p hT hp) with ⟨h1, e⟩ | ⟨h1, e⟩
    · rw [e] at h
      refine ⟨v, h.mono ?_⟩
      rintro _ w' ⟨rfl, R', B⟩
      refine ⟨?_, Lib.hid (.inl ⟨by omega, by simp, ?_⟩), B⟩
      · show Ending.returned (.int .i64 (unzig ((zig v).toNat : Int))) = _
        rw [Int.toNat_of_nonneg hz.1, unzig_zig]
      · have := R'.out
        rw [List.drop_drop] at this
        exact this
    · rw [e] at h
      refine ⟨unzig 0, h.mono ?_⟩
      rintro _ w' ⟨rfl, R', B⟩
      exact ⟨rfl, Lib.hid (.inr ⟨by omega, _, drop_bytes (take_bytes hb n) p, by simp; omega, R'.out⟩), B⟩
  · have h := int_any g l 15 w R lb (by omega)
    rw [uint_bad] at h
    refine ⟨unzig 0, h.mono ?_⟩
    rintro _ w' ⟨rfl, R', B⟩
    exact ⟨rfl, Lib.hid (.inr ⟨by omega, l, lb, ll, R'.out⟩), B⟩
theorem at_text (w : World) (g : Nat) (T S : List Int) (n p : Nat) (s : ByteArray) (ok : Bool) (hA : At w g T n p ok) (hs : s.size ≤ 300) (hT : T.drop p = txt s ++ S) (hb : ByteL T) (hl : T.length ≤ 1000000) :
    ∃ z : ByteArray, Calls Try.prog 26 #[.pointer (some ⟨g, 0, none⟩), .int .i64 300] w (AtOut (.string z) w g T n (p + (txt s).length) (ok && decide (z = s))) := by
  rcases hA with ⟨hp, rfl, R⟩ | ⟨hp, l, lb, ll, R⟩
  · have h := text_any g _ 0 300 w R (drop_bytes (take_bytes hb n) p) (by simp; omega) (by omega)
    rcases text_cut s S (n - p) hs _ (take_at T _ S n p hT hp) with ⟨h1, e⟩ | ⟨h1, e⟩
    · rw [e] at h
      refine ⟨s, h.mono ?_⟩
      rintro _ w' ⟨rfl, R', B⟩
      refine ⟨rfl, Lib.hid (.inl ⟨by omega, by simp, ?_⟩), B⟩
      have := R'.out
      rw [List.drop_drop] at this
      exact this
    · rw [e] at h
      refine ⟨ByteArray.empty, h.mono ?_⟩
      rintro _ w' ⟨rfl, R', B⟩
      exact ⟨rfl, Lib.hid (.inr ⟨by omega, _, drop_bytes (take_bytes hb n) p, by simp; omega, R'.out⟩), B⟩
  · have h := text_any g l 15 300 w R lb (by omega) (by omega)
    rw [text_bad] at h
    refine ⟨ByteArray.empty, h.mono ?_⟩
    rintro _ w' ⟨rfl, R', B⟩
    exact ⟨rfl, Lib.hid (.inr ⟨by omega, l, lb, ll, R'.out⟩), B⟩
theorem encs_cut (l : List Int) (k : Nat) (hk : k < l.length) : encs l = encs (l.take k) ++ (enc (l.getD k 0).toNat ++ encs (l.drop (k + 1))) := by
  have h : l = l.take k ++ (l.getD k 0 :: l.drop (k + 1)) := by
    conv => lhs; rw [← List.take_append_drop k l, List.drop_eq_getElem_cons hk]
    simp [List.getD_eq_getElem?_getD, List.getElem?_eq_getElem hk]
  conv => lhs; rw [h]
  simp [encs]
theorem txts_cut (l : List ByteArray) (k : Nat) (hk : k < l.length) : txts l = txts (l.take k) ++ (txt (l.getD k ByteArray.empty) ++ txts (l.drop (k + 1))) := by
  have h : l = l.take k ++ (l.getD k ByteArray.empty :: l.drop (k + 1)) := by
    conv => lhs; rw [← List.take_append_drop k l, List.drop_eq_getElem_cons hk]
    simp [List.getD_eq_getElem?_getD, List.getElem?_eq_getElem hk]
  conv => lhs; rw [h]
  simp [txts]
theorem txts_snoc2 (l : List ByteArray) (k : Nat) (hk : k < l.length) : txts (l.take (k + 1)) = txts (l.take k) ++ txt (l.getD k ByteArray.empty) := txts_snoc l k hk
end Go.Proofs.Ytojahaimelkhlaa
