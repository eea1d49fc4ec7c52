/- wide.Bytes: for every input. -/
import Derived.Test.YtpmoidpncpfnlaaWideL
import Derived.Laws.MakeOwn
namespace Go.Proofs.Ytpmoidpncpfnlaa
open Go.RowKit
set_option linter.unusedVariables false

def ByRel (b0 b1 b2 b3 b4 b5 b6 b7 c0 c1 c2 c3 c4 c5 c6 c7 : Int) (w : World) (i : Value) (wr : World) : Prop :=
  ((i = .int .i64 0 ∧ Hid (Kept wr (w.heap.size + 1) #[.int .u8 0, .int .u8 0, .int .u8 0, .int .u8 0, .int .u8 0, .int .u8 0, .int .u8 0, .int .u8 0, .int .u8 0, .int .u8 0, .int .u8 0, .int .u8 0, .int .u8 0, .int .u8 0, .int .u8 0, .int .u8 0] 5)) ∨
  (i = .int .i64 1 ∧ Hid (Kept wr (w.heap.size + 1) #[.int .u8 b0, .int .u8 0, .int .u8 0, .int .u8 0, .int .u8 0, .int .u8 0, .int .u8 0, .int .u8 0, .int .u8 c0, .int .u8 0, .int .u8 0, .int .u8 0, .int .u8 0, .int .u8 0, .int .u8 0, .int .u8 0] 5)) ∨
  (i = .int .i64 2 ∧ Hid (Kept wr (w.heap.size + 1) #[.int .u8 b0, .int .u8 b1, .int .u8 0, .int .u8 0, .int .u8 0, .int .u8 0, .int .u8 0, .int .u8 0, .int .u8 c0, .int .u8 c1, .int .u8 0, .int .u8 0, .int .u8 0, .int .u8 0, .int .u8 0, .int .u8 0] 5)) ∨
  (i = .int .i64 3 ∧ Hid (Kept wr (w.heap.size + 1) #[.int .u8 b0, .int .u8 b1, .int .u8 b2, .int .u8 0, .int .u8 0, .int .u8 0, .int .u8 0, .int .u8 0, .int .u8 c0, .int .u8 c1, .int .u8 c2, .int .u8 0, .int .u8 0, .int .u8 0, .int .u8 0, .int .u8 0] 5)) ∨
  (i = .int .i64 4 ∧ Hid (Kept wr (w.heap.size + 1) #[.int .u8 b0, .int .u8 b1, .int .u8 b2, .int .u8 b3, .int .u8 0, .int .u8 0, .int .u8 0, .int .u8 0, .int .u8 c0, .int .u8 c1, .int .u8 c2, .int .u8 c3, .int .u8 0, .int .u8 0, .int .u8 0, .int .u8 0] 5)) ∨
  (i = .int .i64 5 ∧ Hid (Kept wr (w.heap.size + 1) #[.int .u8 b0, .int .u8 b1, .int .u8 b2, .int .u8 b3, .int .u8 b4, .int .u8 0, .int .u8 0, .int .u8 0, .int .u8 c0, .int .u8 c1, .int .u8 c2, .int .u8 c3, .int .u8 c4, .int .u8 0, .int .u8 0, .int .u8 0] 5)) ∨
  (i = .int .i64 6 ∧ Hid (Kept wr (w.heap.size + 1) #[.int .u8 b0, .int .u8 b1, .int .u8 b2, .int .u8 b3, .int .u8 b4, .int .u8 b5, .int .u8 0, .int .u8 0, .int .u8 c0, .int .u8 c1, .int .u8 c2, .int .u8 c3, .int .u8 c4, .int .u8 c5, .int .u8 0, .int .u8 0] 5)) ∨
  (i = .int .i64 7 ∧ Hid (Kept wr (w.heap.size + 1) #[.int .u8 b0, .int .u8 b1, .int .u8 b2, .int .u8 b3, .int .u8 b4, .int .u8 b5, .int .u8 b6, .int .u8 0, .int .u8 c0, .int .u8 c1, .int .u8 c2, .int .u8 c3, .int .u8 c4, .int .u8 c5, .int .u8 c6, .int .u8 0] 5)) ∨
  (i = .int .i64 8 ∧ Hid (Kept wr (w.heap.size + 1) #[.int .u8 b0, .int .u8 b1, .int .u8 b2, .int .u8 b3, .int .u8 b4, .int .u8 b5, .int .u8 b6, .int .u8 b7, .int .u8 c0, .int .u8 c1, .int .u8 c2, .int .u8 c3, .int .u8 c4, .int .u8 c5, .int .u8 c6, .int .u8 c7] 5)))
def ByRelK (b0 b1 b2 b3 b4 b5 b6 b7 c0 c1 c2 c3 c4 c5 c6 c7 h l : Int) (w : World) (i : Value) (wr : World) : Prop := ByRel b0 b1 b2 b3 b4 b5 b6 b7 c0 c1 c2 c3 c4 c5 c6 c7 w i wr ∧ Hid (Kept wr w.heap.size #[.int .i64 h, .int .u64 l] 25) ∧ Hid (Below w.heap.size w wr)
/-- what a call leaves that answers a number's bytes -/
def ByOut (L : List Int) (w : World) (e : Ending) (w' : World) : Prop := ∃ v, e = .returned v ∧ BytesAt w' v L ∧ Below w.heap.size w w'
theorem kept_bytes {w : World} {g : Nat} {L : List Int} {t : TypeId} (h : Kept w g (L.map (Value.int .u8)).toArray t) : BytesAt w (.slice (some ⟨g, 0, none⟩) L.length L.length) L ∨ 9223372036854775807 < L.length := by
  by_cases hl : L.length ≤ 9223372036854775807
  · refine .inl ⟨some ⟨g, 0, none⟩, L.length, rfl, fun e => by simp at e, Nat.le_refl _, hl, fun j hj => ⟨g, 0, rfl, ?_⟩⟩
    rw [(h.at_ (0 + j)).1]
    simp [List.getD_eq_getElem?_getD, hj]
  · exact .inr (by omega)
theorem make16 (W : World) : (Instr.makeSlice 53 (.int .i64 16) (.int .i64 16)).run Try.prog W = .ok (.slice (some ⟨W.heap.size, 0, none⟩) 16 16) (W.alloc (.cells #[.int .u8 0, .int .u8 0, .int .u8 0, .int .u8 0, .int .u8 0, .int .u8 0, .int .u8 0, .int .u8 0, .int .u8 0, .int .u8 0, .int .u8 0, .int .u8 0, .int .u8 0, .int .u8 0, .int .u8 0, .int .u8 0] 5)) := by
  obtain ⟨i0, hi, hz0, hz1, hz2⟩ := info_parts info_uint8
  have h := run_makeSlice (P := Try.prog) W 53 5 i0 (.int .u8 0) Try.underlying53 hi hz0 .i64 .i64 16 16 (by omega) (by omega) (by rw [hz1]; decide) (by rw [hz2]; omega) (by omega)
  rw [hz1] at h
  have e : madeCells (Value.int .u8 0).cells (Int.toNat 16 * 1) = #[.int .u8 0, .int .u8 0, .int .u8 0, .int .u8 0, .int .u8 0, .int .u8 0, .int .u8 0, .int .u8 0, .int .u8 0, .int .u8 0, .int .u8 0, .int .u8 0, .int .u8 0, .int .u8 0, .int .u8 0, .int .u8 0] := by kernel_rfl
  rw [e] at h
  exact h
set_option maxHeartbeats 8000000 in
theorem wbytes_any (z : Int) (w : World) : Calls Try.prog 57 #[wI z] w (ByOut (byL z) w) := by
  obtain ⟨h, l, e, hh, hl, eh, el⟩ := wI_letters z
  have eL : byL z = by8 h ++ by8 l := by rw [eh, el]; rfl
  rw [e, eL]
  obtain ⟨b0, eb0⟩ : ∃ b, h / 72057594037927936 % 256 = b := ⟨_, rfl⟩
  obtain ⟨b1, eb1⟩ : ∃ b, h / 281474976710656 % 256 = b := ⟨_, rfl⟩
  obtain ⟨b2, eb2⟩ : ∃ b, h / 1099511627776 % 256 = b := ⟨_, rfl⟩
  obtain ⟨b3, eb3⟩ : ∃ b, h / 4294967296 % 256 = b := ⟨_, rfl⟩
  obtain ⟨b4, eb4⟩ : ∃ b, h / 16777216 % 256 = b := ⟨_, rfl⟩
  obtain ⟨b5, eb5⟩ : ∃ b, h / 65536 % 256 = b := ⟨_, rfl⟩
  obtain ⟨b6, eb6⟩ : ∃ b, h / 256 % 256 = b := ⟨_, rfl⟩
  obtain ⟨b7, eb7⟩ : ∃ b, h / 1 % 256 = b := ⟨_, rfl⟩
  obtain ⟨c0, ec0⟩ : ∃ b, l / 72057594037927936 % 256 = b := ⟨_, rfl⟩
  obtain ⟨c1, ec1⟩ : ∃ b, l / 281474976710656 % 256 = b := ⟨_, rfl⟩
  obtain ⟨c2, ec2⟩ : ∃ b, l / 1099511627776 % 256 = b := ⟨_, rfl⟩
  obtain ⟨c3, ec3⟩ : ∃ b, l / 4294967296 % 256 = b := ⟨_, rfl⟩
  obtain ⟨c4, ec4⟩ : ∃ b, l / 16777216 % 256 = b := ⟨_, rfl⟩
  obtain ⟨c5, ec5⟩ : ∃ b, l / 65536 % 256 = b := ⟨_, rfl⟩
  obtain ⟨c6, ec6⟩ : ∃ b, l / 256 % 256 = b := ⟨_, rfl⟩
  obtain ⟨c7, ec7⟩ : ∃ b, l / 1 % 256 = b := ⟨_, rfl⟩
  have eR : by8 h ++ by8 l = [b0, b1, b2, b3, b4, b5, b6, b7, c0, c1, c2, c3, c4, c5, c6, c7] := by
    simp only [by8, eb0, ec0, eb1, ec1, eb2, ec2, eb3, ec3, eb4, ec4, eb5, ec5, eb6, ec6, eb7, ec7, List.cons_append, List.nil_append]
  rw [eR]
  have eb7' : h % 256 = b7 := by omega
  have ec7' : l % 256 = c7 := by omega
  have K0 : Hid (Kept (w.alloc (.cells #[.int .i64 h, .int .u64 l] 25)) w.heap.size #[.int .i64 h, .int .u64 l] 25) := Lib.hid (Kept.new rfl)
  have hstart : ByRelK b0 b1 b2 b3 b4 b5 b6 b7 c0 c1 c2 c3 c4 c5 c6 c7 h l w (.int .i64 0) ((w.alloc (.cells #[.int .i64 h, .int .u64 l] 25)).alloc (.cells #[.int .u8 0, .int .u8 0, .int .u8 0, .int .u8 0, .int .u8 0, .int .u8 0, .int .u8 0, .int .u8 0, .int .u8 0, .int .u8 0, .int .u8 0, .int .u8 0, .int .u8 0, .int .u8 0, .int .u8 0, .int .u8 0] 5)) :=
    ⟨.inl ⟨rfl, Lib.hid (Kept.new (by simp))⟩, Lib.hid (K0.out.alloc _), Lib.hid (((Below.refl _ _).alloc (Nat.le_refl _) _).alloc (by simp) _)⟩
  have HS := Lib.hid hstart
  have hmk := make16
  clear hstart eL e eh el hh hl eR K0
  go_enter Try.func57, Try.ntmps57
  go_wp2
  go_loopw [6] (fun i wr => ByRelK b0 b1 b2 b3 b4 b5 b6 b7 c0 c1 c2 c3 c4 c5 c6 c7 h l w i wr) (fun i _ => 8 - (intOf i).toNat)
  case atStart => exact HS.out
  case round =>
    obtain ⟨hr, K, B⟩ := hrel
    obtain ⟨k1, k2, -, -, k5⟩ := K.out.two
    rcases hr with ⟨rfl, D⟩ | ⟨rfl, D⟩ | ⟨rfl, D⟩ | ⟨rfl, D⟩ | ⟨rfl, D⟩ | ⟨rfl, D⟩ | ⟨rfl, D⟩ | ⟨rfl, D⟩ | ⟨rfl, D⟩
    · have D1 := Lib.hid (((D.out.set 0 (.int .u8 b0)).set 8 (.int .u8 c0)))
      have K1 := Lib.hid ((K.out.far (p := ⟨w.heap.size + 1, 0, none⟩) (by simp) (.int .u8 b0)).far (p := ⟨w.heap.size + 1, 8, none⟩) (by simp) (.int .u8 c0))
      have Bb := Lib.hid ((B.out.setCell (p := ⟨w.heap.size + 1, 0, none⟩) (by simp) (.int .u8 b0)).setCell (p := ⟨w.heap.size + 1, 8, none⟩) (by simp) (.int .u8 c0))
      obtain ⟨d1, d2⟩ := D.out.at_ 0
      obtain ⟨d3, d4⟩ := (D.out.set 0 (.int .u8 b0)).at_ 8
      obtain ⟨m1, m2, -, -, -⟩ := (K.out.far (p := ⟨w.heap.size + 1, 0, none⟩) (by simp) (.int .u8 b0)).two
      have d1' := d1.trans (show _ = some (Value.int .u8 0) from rfl)
      have d3' := d3.trans (show _ = some (Value.int .u8 0) from rfl)
      clear d1 d3
      go_wp2
      go_roundw
      case rel => exact ⟨.inr (.inl ⟨rfl, Lib.hid D1.out⟩), K1.out, Bb.out⟩
      case measure => simp [intOf]
    · have D1 := Lib.hid (((D.out.set 1 (.int .u8 b1)).set 9 (.int .u8 c1)))
      have K1 := Lib.hid ((K.out.far (p := ⟨w.heap.size + 1, 1, none⟩) (by simp) (.int .u8 b1)).far (p := ⟨w.heap.size + 1, 9, none⟩) (by simp) (.int .u8 c1))
      have Bb := Lib.hid ((B.out.setCell (p := ⟨w.heap.size + 1, 1, none⟩) (by simp) (.int .u8 b1)).setCell (p := ⟨w.heap.size + 1, 9, none⟩) (by simp) (.int .u8 c1))
      obtain ⟨d1, d2⟩ := D.out.at_ 1
      obtain ⟨d3, d4⟩ := (D.out.set 1 (.int .u8 b1)).at_ 9
      obtain ⟨m1, m2, -, -, -⟩ := (K.out.far (p := ⟨w.heap.size + 1, 1, none⟩) (by simp) (.int .u8 b1)).two
      have d1' := d1.trans (show _ = some (Value.int .u8 0) from rfl)
      have d3' := d3.trans (show _ = some (Value.int .u8 0) from rfl)
      clear d1 d3
      go_wp2
      go_roundw
      case rel => exact ⟨.inr (.inr (.inl ⟨rfl, Lib.hid D1.out⟩)), K1.out, Bb.out⟩
      case measure => simp [intOf]
    · have D1 := Lib.hid (((D.out.set 2 (.int .u8 b2)).set 10 (.int .u8 c2)))
      have K1 := Lib.hid ((K.out.far (p := ⟨w.heap.size + 1, 2, none⟩) (by simp) (.int .u8 b2)).far (p := ⟨w.heap.size + 1, 10, none⟩) (by simp) (.int .u8 c2))
      have Bb := Lib.hid ((B.out.setCell (p := ⟨w.heap.size + 1, 2, none⟩) (by simp) (.int .u8 b2)).setCell (p := ⟨w.heap.size + 1, 10, none⟩) (by simp) (.int .u8 c2))
      obtain ⟨d1, d2⟩ := D.out.at_ 2
      obtain ⟨d3, d4⟩ := (D.out.set 2 (.int .u8 b2)).at_ 10
      obtain ⟨m1, m2, -, -, -⟩ := (K.out.far (p := ⟨w.heap.size + 1, 2, none⟩) (by simp) (.int .u8 b2)).two
      have d1' := d1.trans (show _ = some (Value.int .u8 0) from rfl)
      have d3' := d3.trans (show _ = some (Value.int .u8 0) from rfl)
      clear d1 d3
      go_wp2
      go_roundw
      case rel => exact ⟨.inr (.inr (.inr (.inl ⟨rfl, Lib.hid D1.out⟩))), K1.out, Bb.out⟩
      case measure => simp [intOf]
    · have D1 := Lib.hid (((D.out.set 3 (.int .u8 b3)).set 11 (.int .u8 c3)))
      have K1 := Lib.hid ((K.out.far (p := ⟨w.heap.size + 1, 3, none⟩) (by simp) (.int .u8 b3)).far (p := ⟨w.heap.size + 1, 11, none⟩) (by simp) (.int .u8 c3))
      have Bb := Lib.hid ((B.out.setCell (p := ⟨w.heap.size + 1, 3, none⟩) (by simp) (.int .u8 b3)).setCell (p := ⟨w.heap.size + 1, 11, none⟩) (by simp) (.int .u8 c3))
      obtain ⟨d1, d2⟩ := D.out.at_ 3
      obtain ⟨d3, d4⟩ := (D.out.set 3 (.int .u8 b3)).at_ 11
      obtain ⟨m1, m2, -, -, -⟩ := (K.out.far (p := ⟨w.heap.size + 1, 3, none⟩) (by simp) (.int .u8 b3)).two
      have d1' := d1.trans (show _ = some (Value.int .u8 0) from rfl)
      have d3' := d3.trans (show _ = some (Value.int .u8 0) from rfl)
      clear d1 d3
      go_wp2
      go_roundw
      case rel => exact ⟨.inr (.inr (.inr (.inr (.inl ⟨rfl, Lib.hid D1.out⟩)))), K1.out, Bb.out⟩
      case measure => simp [intOf]
    · have D1 := Lib.hid (((D.out.set 4 (.int .u8 b4)).set 12 (.int .u8 c4)))
      have K1 := Lib.hid ((K.out.far (p := ⟨w.heap.size + 1, 4, none⟩) (by simp) (.int .u8 b4)).far (p := ⟨w.heap.size + 1, 12, none⟩) (by simp) (.int .u8 c4))
      have Bb := Lib.hid ((B.out.setCell (p := ⟨w.heap.size + 1, 4, none⟩) (by simp) (.int .u8 b4)).setCell (p := ⟨w.heap.size + 1, 12, none⟩) (by simp) (.int .u8 c4))
      obtain ⟨d1, d2⟩ := D.out.at_ 4
      obtain ⟨d3, d4⟩ := (D.out.set 4 (.int .u8 b4)).at_ 12
      obtain ⟨m1, m2, -, -, -⟩ := (K.out.far (p := ⟨w.heap.size + 1, 4, none⟩) (by simp) (.int .u8 b4)).two
      have d1' := d1.trans (show _ = some (Value.int .u8 0) from rfl)
      have d3' := d3.trans (show _ = some (Value.int .u8 0) from rfl)
      clear d1 d3
      go_wp2
      go_roundw
      case rel => exact ⟨.inr (.inr (.inr (.inr (.inr (.inl ⟨rfl, Lib.hid D1.out⟩))))), K1.out, Bb.out⟩
      case measure => simp [intOf]
    · have D1 := Lib.hid (((D.out.set 5 (.int .u8 b5)).set 13 (.int .u8 c5)))
      have K1 := Lib.hid ((K.out.far (p := ⟨w.heap.size + 1, 5, none⟩) (by simp) (.int .u8 b5)).far (p := ⟨w.heap.size + 1, 13, none⟩) (by simp) (.int .u8 c5))
      have Bb := Lib.hid ((B.out.setCell (p := ⟨w.heap.size + 1, 5, none⟩) (by simp) (.int .u8 b5)).setCell (p := ⟨w.heap.size + 1, 13, none⟩) (by simp) (.int .u8 c5))
      obtain ⟨d1, d2⟩ := D.out.at_ 5
      obtain ⟨d3, d4⟩ := (D.out.set 5 (.int .u8 b5)).at_ 13
      obtain ⟨m1, m2, -, -, -⟩ := (K.out.far (p := ⟨w.heap.size + 1, 5, none⟩) (by simp) (.int .u8 b5)).two
      have d1' := d1.trans (show _ = some (Value.int .u8 0) from rfl)
      have d3' := d3.trans (show _ = some (Value.int .u8 0) from rfl)
      clear d1 d3
      go_wp2
      go_roundw
      case rel => exact ⟨.inr (.inr (.inr (.inr (.inr (.inr (.inl ⟨rfl, Lib.hid D1.out⟩)))))), K1.out, Bb.out⟩
      case measure => simp [intOf]
    · have D1 := Lib.hid (((D.out.set 6 (.int .u8 b6)).set 14 (.int .u8 c6)))
      have K1 := Lib.hid ((K.out.far (p := ⟨w.heap.size + 1, 6, none⟩) (by simp) (.int .u8 b6)).far (p := ⟨w.heap.size + 1, 14, none⟩) (by simp) (.int .u8 c6))
      have Bb := Lib.hid ((B.out.setCell (p := ⟨w.heap.size + 1, 6, none⟩) (by simp) (.int .u8 b6)).setCell (p := ⟨w.heap.size + 1, 14, none⟩) (by simp) (.int .u8 c6))
      obtain ⟨d1, d2⟩ := D.out.at_ 6
      obtain ⟨d3, d4⟩ := (D.out.set 6 (.int .u8 b6)).at_ 14
      obtain ⟨m1, m2, -, -, -⟩ := (K.out.far (p := ⟨w.heap.size + 1, 6, none⟩) (by simp) (.int .u8 b6)).two
      have d1' := d1.trans (show _ = some (Value.int .u8 0) from rfl)
      have d3' := d3.trans (show _ = some (Value.int .u8 0) from rfl)
      clear d1 d3
      go_wp2
      go_roundw
      case rel => exact ⟨.inr (.inr (.inr (.inr (.inr (.inr (.inr (.inl ⟨rfl, Lib.hid D1.out⟩))))))), K1.out, Bb.out⟩
      case measure => simp [intOf]
    · have D1 := Lib.hid (((D.out.set 7 (.int .u8 b7)).set 15 (.int .u8 c7)))
      have K1 := Lib.hid ((K.out.far (p := ⟨w.heap.size + 1, 7, none⟩) (by simp) (.int .u8 b7)).far (p := ⟨w.heap.size + 1, 15, none⟩) (by simp) (.int .u8 c7))
      have Bb := Lib.hid ((B.out.setCell (p := ⟨w.heap.size + 1, 7, none⟩) (by simp) (.int .u8 b7)).setCell (p := ⟨w.heap.size + 1, 15, none⟩) (by simp) (.int .u8 c7))
      obtain ⟨d1, d2⟩ := D.out.at_ 7
      obtain ⟨d3, d4⟩ := (D.out.set 7 (.int .u8 b7)).at_ 15
      obtain ⟨m1, m2, -, -, -⟩ := (K.out.far (p := ⟨w.heap.size + 1, 7, none⟩) (by simp) (.int .u8 b7)).two
      have d1' := d1.trans (show _ = some (Value.int .u8 0) from rfl)
      have d3' := d3.trans (show _ = some (Value.int .u8 0) from rfl)
      clear d1 d3
      go_wp2
      go_roundw
      case rel => exact ⟨.inr (.inr (.inr (.inr (.inr (.inr (.inr (.inr (⟨rfl, Lib.hid D1.out⟩)))))))), K1.out, Bb.out⟩
      case measure => simp [intOf]
    · have F := Lib.hid (kept_bytes (L := [b0, b1, b2, b3, b4, b5, b6, b7, c0, c1, c2, c3, c4, c5, c6, c7]) D.out)
      go_wp2
      go_ret
      exact ⟨_, rfl, F.out.resolve_right (by simp), B.out⟩
end Go.Proofs.Ytpmoidpncpfnlaa
