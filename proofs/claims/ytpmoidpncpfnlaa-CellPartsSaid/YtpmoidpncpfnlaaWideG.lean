/- wide.Sum: for every list. -/
import Derived.Test.YtpmoidpncpfnlaaWideF
namespace Go.Proofs.Ytpmoidpncpfnlaa
open Go.RowKit
set_option linter.unusedVariables false

def WSumRel (l : List Int) (w : World) (i : Value) (wr : World) : Prop := ∃ k : Nat, k ≤ l.length ∧ i = .int .i64 k ∧ Hid (Kept wr w.heap.size #[.int .i64 0, .int .u64 0] 25) ∧ Hid (Kept wr (w.heap.size + 1) #[.int .i64 (hiW (isum (l.take k))), .int .u64 (loW (isum (l.take k)))] 25) ∧ Hid (Below w.heap.size w wr)
set_option maxHeartbeats 2000000 in
theorem wsum_any (a : Option Addr) (c : Nat) (l : List Int) (w : World) (hr : IntRow w a .i64 l) (hb : ∀ x ∈ l, InI x) (hl : l.length ≤ 9223372036854775807) :
    Calls Try.prog 23 #[.slice a l.length c] w (Gives (wI (isum l)) w) := by
  have HR := Lib.hid hr
  have HB := Lib.hid hb
  have hstart : WSumRel l w (.int .i64 0) ((w.alloc (.cells #[.int .i64 0, .int .u64 0] 25)).alloc (.cells #[.int .i64 0, .int .u64 0] 25)) := by
    refine ⟨0, Nat.zero_le _, rfl, Lib.hid ((Kept.new rfl).alloc _), Lib.hid ?_, Lib.hid (((Below.refl _ _).alloc (Nat.le_refl _) _).alloc (by simp) _)⟩
    have e0 : isum (l.take 0) = 0 := rfl
    have e1 : hiW 0 = 0 := by unfold hiW wrap64; omega
    have e2 : loW 0 = 0 := by unfold loW; omega
    rw [e0, e1, e2]
    exact Kept.new (by simp)
  have HS := Lib.hid hstart
  clear hr hb hstart
  go_enter Try.func23, Try.ntmps23
  go_wp2
  go_loopw [8] (fun i wr => WSumRel l w i wr) (fun i _ => l.length - (intOf i).toNat)
  case atStart => exact HS.out
  case round =>
    obtain ⟨k, hk, rfl, K0, K1, B⟩ := hrel
    by_cases hlt : k < l.length
    · obtain ⟨b, off, rfl, hc⟩ := (HR.out.below B.out) k hlt
      have hv := getD_of_all l HB.out k hlt
      have hs := isum_snoc l k hlt
      generalize l.getD k 0 = v at *
      have Co := Lib.hid (fun w => wof_any v w hv)
      have Cp := Lib.hid (fun w => wplus_any (isum (l.take k)) v w)
      rw [← hs] at Cp
      unfold wI at Co Cp
      have fin : ∀ wr', Below wr.heap.size wr wr' → WSumRel l w (.int .i64 ((k : Int) + 1)) ((wr'.setCell ⟨w.heap.size + 1, 0, none⟩ (.int .i64 (hiW (isum (l.take (k + 1)))))).setCell ⟨w.heap.size + 1, 1, none⟩ (.int .u64 (loW (isum (l.take (k + 1)))))) := fun wr' h =>
        ⟨k + 1, hlt, rfl, Lib.hid ((((K0.out.next h).far (by simp) _)).far (by simp) _), Lib.hid ((K1.out.next h).set2 _ _), Lib.hid (bset2 (B.out.trans (h.mono B.out.size)) (by omega) _ _)⟩
      have Fin := Lib.hid fin
      generalize hiW (isum (l.take k)) = h0 at *
      generalize loW (isum (l.take k)) = l0 at *
      generalize hiW (isum (l.take (k + 1))) = h1 at *
      generalize loW (isum (l.take (k + 1))) = l1 at *
      generalize hiW v = h2 at *
      generalize loW v = l2 at *
      obtain ⟨s1, s2, s3, s4, s5⟩ := K1.out.two
      have hi1 : (k : Int) < (l.length : Int) := by omega
      clear hs hv fin
      go_wp2
      go_region_with (first | (go_at_call 21; refine (Co.out _).mono ?_; rintro _ w2 ⟨rfl, hb2⟩; obtain ⟨q1, q2, q3, q4, q5⟩ := (K1.out.next ⟨hb2.os, hb2.tape, hb2.output, hb2.size, hb2.block⟩).two) | (go_at_call 58; refine (Cp.out _).mono ?_; rintro _ w3 ⟨rfl, hb3⟩; obtain ⟨p1, p2, p3, p4, p5⟩ := ((K1.out.next ⟨hb2.os, hb2.tape, hb2.output, hb2.size, hb2.block⟩).next hb3).two))
      all_goals
        have h23 : Hid (Below wr.heap.size wr w3) := Lib.hid ((Below.trans (a := wr) ⟨hb2.os, hb2.tape, hb2.output, hb2.size, hb2.block⟩ (hb3.mono hb2.size)))
        clear hb2 hb3
        go_wp2
        go_roundw
        case rel => exact Fin.out _ h23.out
        case measure => simp [intOf]; omega
    · obtain rfl : k = l.length := by omega
      have e : l.take l.length = l := List.take_length
      rw [e] at K1
      have Fin : Hid (∀ w', Below w.heap.size w w' → Gives (wI (isum l)) w (.returned (.agg #[.int .i64 (hiW (isum l)), .int .u64 (loW (isum l))])) w') := Lib.hid (fun w' h => ⟨rfl, h⟩)
      generalize hiW (isum l) = h1 at *
      generalize loW (isum l) = l1 at *
      obtain ⟨s1, s2, s3, s4, s5⟩ := K1.out.two
      obtain ⟨t1, t2, t3, t4, t5⟩ := K0.out.two
      clear e
      go_wp2
      obtain ⟨r1, r2⟩ := K0.out.read2 (.int .i64 h1) (.int .u64 l1)
      refine bodyPost_ret (v := .agg #[.int .i64 h1, .int .u64 l1]) (by simp [results, Try.results23, go_sem, r1, r2]) rfl ?_
      exact Fin.out _ (bset2 B.out (Nat.le_refl _) _ _)
end Go.Proofs.Ytpmoidpncpfnlaa
