/- noonmarkref01: Neg; where Cmp, Total and Mul are wanting (Div stands on this one). -/
import Derived.Test.YthipeefhkaanbaaLimE
namespace Go.Proofs.Ythipeefhkaanbaa
open Go.RowKit
set_option linter.unusedVariables false

theorem hund_of {z : Int} (h : -(18446744073709551616 * 65536) < z ∧ z < 18446744073709551616 * 65536) : Hund z := by
  have := pw_le 5 100 (by omega)
  have e : pw 5 = 18446744073709551616 * 65536 := by decide
  unfold Hund
  omega
theorem numat_nil (w : World) : NumAt w (.agg #[.bool false, .slice none 0 0]) 0 :=
  ⟨false, _, [], rfl, ⟨none, 0, rfl, fun j hj => by simp at hj, by simp, by omega, fun _ => rfl, dig_nil⟩, .inl rfl, by simp, rfl⟩
set_option maxHeartbeats 2000000 in
theorem num_neg (x : Value) (a : Int) (w : World) (hx : NumAt w x a) :
    Calls Try.prog 47 #[x] w fun e w' => NumOut (-a) w e w' := by
  obtain ⟨na, la, da, rfl, ⟨xa, xc, rfl, hrx, hx1, hx2, hx3, hdx⟩, htx, hnx, rfl⟩ := hx
  have hz : sg (nv da) (!na) = -(sg (nv da) na) := by unfold sg; cases na <;> simp
  have Cm : Hid (∀ W, Below w.heap.size w W → Calls Try.prog 42 #[.bool (!na), .slice xa da.length xc] W (NumOut (-(sg (nv da) na)) W)) := Lib.hid (fun W hW => by
    rw [← hz]
    exact made_any (!na) xa xc da W (hrx.below hW) hdx hx1 hx2 hx3)
  have K0 : Hid (Kept ((w.alloc (.cells #[.bool na, .slice xa da.length xc] 57)).alloc (.cells #[.bool false, .slice none 0 0] 57)) (w.heap.size + 1) #[.bool false, .slice none 0 0] 57) := Lib.hid (Kept.new (by simp))
  have B0 : Hid (Below w.heap.size w ((w.alloc (.cells #[.bool na, .slice xa da.length xc] 57)).alloc (.cells #[.bool false, .slice none 0 0] 57))) := Lib.hid ((one_alloc w _).alloc (by simp) _)
  clear hrx hx1 hx2 hx3 hdx htx hnx hz
  go_enter Try.func47, Try.ntmps47
  go_wp2_with fail
  refine (Cm.out _ B0.out).mono ?_
  rintro _ w2 ⟨v2, rfl, hn2, hb2⟩
  have Hn := Lib.hid hn2
  obtain ⟨ng, l', d', rfl, ⟨la', lc', rfl, -⟩, -⟩ := hn2
  have R2 := Lib.hid (K0.out.next hb2)
  have B2 := Lib.hid (B0.out.trans (hb2.mono B0.out.size))
  obtain ⟨t1, t2, t3, t4, t5⟩ := R2.out.two
  clear hb2
  go_wp2
  obtain ⟨s1, s2⟩ := R2.out.read2 (.bool ng) (.slice la' d'.length lc')
  refine bodyPost_ret (v := .agg #[.bool ng, .slice la' d'.length lc']) (by simp [results, Try.results47, go_sem, s1, s2]) rfl ?_
  exact num_stored_at B2.out Hn.out R2.out.two.1 R2.out.two.2.1 (by simp) (by simp) (by omega)
theorem hund_neg {a : Int} (h : Hund a) : Hund (-a) := by unfold Hund at *; omega
end Go.Proofs.Ythipeefhkaanbaa
