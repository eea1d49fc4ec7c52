/- noonmarklaw02.num, same: for all numbers. -/
import Derived.Test.YtngjefoipdcldaaRefV
namespace Go.Proofs.Ytngjefoipdcldaa
open Go.RowKit
set_option linter.unusedVariables false

set_option maxHeartbeats 2000000 in
theorem lnum_any (z : Int) (w : World) (hz : InW z) : Calls Try.prog 13 #[wI z] w fun e w' => NumOut z w e w' := by
  obtain ⟨h, l, e, hh, hl, eh, el⟩ := wI_letters z
  have ez : wz h l = z := by rw [eh, el]; exact wz_in hz
  have Cn := Lib.hid (fun W => refnum_any h l W hh hl)
  rw [ez] at Cn
  rw [e]
  have K0 : Hid (Kept ((w.alloc (.cells #[.int .i64 h, .int .u64 l] 24)).alloc (.cells #[.bool false, .slice none 0 0] 34)) (w.heap.size + 1) #[.bool false, .slice none 0 0] 34) := Lib.hid (Kept.new (by simp))
  have B0 : Hid (Below w.heap.size w ((w.alloc (.cells #[.int .i64 h, .int .u64 l] 24)).alloc (.cells #[.bool false, .slice none 0 0] 34))) := Lib.hid ((one_alloc w _).alloc (by simp) _)
  clear hz e hh hl eh el ez
  go_enter Try.func13, Try.ntmps13
  go_wp2_with fail
  refine (Cn.out _).mono ?_
  rintro _ w2 ⟨v2, rfl, hn2, hb2⟩
  have Hn := Lib.hid hn2
  obtain ⟨ng, l', d', rfl, ⟨la', lc', rfl, -⟩, -⟩ := hn2
  have R2 := Lib.hid (K0.out.next hb2)
  have B2 := Lib.hid (B0.out.trans (hb2.mono B0.out.size))
  obtain ⟨t1, t2, t3, t4, t5⟩ := R2.out.two
  clear hb2
  go_wp2
  obtain ⟨s1, s2⟩ := R2.out.read2 (.bool ng) (.slice la' d'.length lc')
  refine bodyPost_ret (v := .agg #[.bool ng, .slice la' d'.length lc']) (by simp [results, Try.results13, go_sem, s1, s2]) rfl ?_
  exact num_stored_at B2.out Hn.out R2.out.two.1 R2.out.two.2.1 (by simp) (by simp) (by omega)
theorem inw_iff (z : Int) : InW z ↔ InI (z / 18446744073709551616) := by unfold InW InI; omega
set_option maxHeartbeats 2000000 in
theorem same_any (z : Int) (v : Value) (w : World) (hn : NumAt w v z) (hz : -(18446744073709551616 * 18446744073709551616 * 65536) < z ∧ z < 18446744073709551616 * 18446744073709551616 * 65536) :
    Calls Try.prog 14 #[wI (vW z), .int .i64 (eW z), v] w (Gives (.bool true) w) := by
  have Cw : Hid (∀ W, Below w.heap.size w W → Calls Try.prog 29 #[v] W (WordsOut z W)) := Lib.hid (fun W h => words_any v z W (hn.below h) hz)
  obtain ⟨neg, lx, dx, rfl, ⟨xa, xc, rfl, -⟩, -⟩ := hn
  by_cases hw : InW z
  · rw [vW_in hw, eW_in hw]
    obtain ⟨h, l, e, hh, hl, eh, el⟩ := wI_letters z
    rw [e]
    have Cw2 : Hid (∀ W, Below w.heap.size w W → Calls Try.prog 29 #[.agg #[.bool neg, .slice xa dx.length xc]] W (Gives (.tuple #[.int .i64 h, .int .u64 l, .bool true]) W)) := Lib.hid (fun W hW => (Cw.out W hW).mono fun e w' ⟨h1, h2⟩ => by
      rw [if_pos ((inw_iff z).1 hw)] at h1
      refine ⟨?_, h2⟩
      rw [h1, show z / 18446744073709551616 = h by rw [eh]; have hw' := hw; unfold InW at hw'; unfold hiW wrap64; omega, show z % 18446744073709551616 = l from el.symm])
    have B0 : Hid (Below w.heap.size w ((w.alloc (.cells #[.int .i64 h, .int .u64 l] 24)).alloc (.cells #[.bool neg, .slice xa dx.length xc] 34))) := Lib.hid ((one_alloc w _).alloc (by simp) _)
    have K0 : Hid (Kept ((w.alloc (.cells #[.int .i64 h, .int .u64 l] 24)).alloc (.cells #[.bool neg, .slice xa dx.length xc] 34)) w.heap.size #[.int .i64 h, .int .u64 l] 24) := Lib.hid ((Kept.new rfl).alloc _)
    clear Cw hw e hh hl eh el hz
    go_enter Try.func14, Try.ntmps14
    go_wp2_with fail
    refine (Cw2.out _ B0.out).mono ?_
    rintro _ w2 ⟨rfl, hb2⟩
    have B2 := Lib.hid (B0.out.trans (hb2.mono B0.out.size))
    have K2 := Lib.hid (K0.out.next hb2)
    obtain ⟨k1, k2, -, -, k5⟩ := K2.out.two
    clear hb2
    go_wp2
    go_ret
    exact ⟨rfl, B2.out⟩
  · rw [vW_out hw, eW_out hw, wI_zero]
    have Cw2 : Hid (∀ W, Below w.heap.size w W → Calls Try.prog 29 #[.agg #[.bool neg, .slice xa dx.length xc]] W (Gives (.tuple #[.int .i64 0, .int .u64 0, .bool false]) W)) := Lib.hid (fun W hW => (Cw.out W hW).mono fun e w' ⟨h1, h2⟩ => by
      rw [if_neg (fun hh => hw ((inw_iff z).2 hh))] at h1
      exact ⟨h1, h2⟩)
    have B0 : Hid (Below w.heap.size w ((w.alloc (.cells #[.int .i64 0, .int .u64 0] 24)).alloc (.cells #[.bool neg, .slice xa dx.length xc] 34))) := Lib.hid ((one_alloc w _).alloc (by simp) _)
    have K0 : Hid (Kept ((w.alloc (.cells #[.int .i64 0, .int .u64 0] 24)).alloc (.cells #[.bool neg, .slice xa dx.length xc] 34)) w.heap.size #[.int .i64 0, .int .u64 0] 24) := Lib.hid ((Kept.new rfl).alloc _)
    clear Cw hw hz
    go_enter Try.func14, Try.ntmps14
    go_wp2_with fail
    refine (Cw2.out _ B0.out).mono ?_
    rintro _ w2 ⟨rfl, hb2⟩
    have B2 := Lib.hid (B0.out.trans (hb2.mono B0.out.size))
    have K2 := Lib.hid (K0.out.next hb2)
    obtain ⟨k1, k2, -, -, k5⟩ := K2.out.two
    clear hb2
    go_wp2
    go_ret
    exact ⟨rfl, B2.out⟩
end Go.Proofs.Ytngjefoipdcldaa
