/- noonmarklaw06.told: for every reader, whole or cut. -/
import Derived.Test.YtojahaimelkhlaaToldA
namespace Go.Proofs.Ytojahaimelkhlaa
open Go.RowKit
set_option linter.unusedVariables false

theorem str_beq (z x : ByteArray) : (z.toList == x.toList) = decide (z = x) := by
  rw [ByteArray.toList_eq, ByteArray.toList_eq]
  by_cases h : z = x
  · subst h; simp
  · have : z.data.toList ≠ x.data.toList := fun e => h (ByteArray.ext (Array.toList_inj.1 e))
    rw [decide_eq_false h]
    exact beq_eq_false_iff_ne.2 this
theorem mapz (b : List Int) (k : Nat) (hk : k < b.length) : (b.map zig).getD k 0 = zig (b.getD k 0) := by
  simp [List.getD_eq_getElem?_getD, List.getElem?_eq_getElem hk]
theorem StrRow.below0 {w w' : World} {a : Option Addr} {l : List ByteArray} (h : StrRow w a l) (hb : Below w.heap.size w w') : StrRow w' a l := h.below hb
def ToldOut (w : World) (g : Nat) (T : List Int) (n : Nat) (e : Ending) (w' : World) : Prop := e = .returned (.bool (decide (T.length ≤ n))) ∧ Hid (Below g w w') ∧ (n < T.length → ∃ l, Rd w' g l 15)
def TdRel (w : World) (g : Nat) (T : List Int) (n : Nat) (N : Nat) (q : Nat → Nat) (ok i : Value) (wr : World) : Prop := ∃ (k : Nat) (okb : Bool), k ≤ N ∧ i = .int .i64 k ∧ ok = .bool okb ∧ Hid (At wr g T n (q k) okb) ∧ Hid (Below g w wr)
set_option maxHeartbeats 4000000 in
set_option maxRecDepth 10000 in
theorem told_any (W0 w : World) (g n : Nat) (aa ab ac : Option Addr) (ca cb cc : Nat) (a b : List Int) (c : List ByteArray) (T : List Int) (hT : T = encs a ++ (encs (b.map zig) ++ txts c))
    (ra : IntRow W0 aa .u64 a) (rb : IntRow W0 ab .i64 b) (rc : StrRow W0 ac c) (ba : ∀ x ∈ a, 0 ≤ x ∧ x ≤ 18446744073709551615) (bb : ∀ x ∈ b, InI x) (bc : ∀ s ∈ c, s.size ≤ 300)
    (ha : a.length ≤ 1000) (hb : b.length ≤ 1000) (hc : c.length ≤ 1000) (hTb : ByteL T) (hTl : T.length ≤ 1000000) (hB : Below W0.heap.size W0 w) (hg : W0.heap.size ≤ g) (hR : Rd w g (T.take n) 0) :
    Calls Try.prog 19 #[.pointer (some ⟨g, 0, none⟩), .slice aa a.length ca, .slice ab b.length cb, .slice ac c.length cc] w (ToldOut w g T n) := by
  have RA := Lib.hid ra
  have RB := Lib.hid rb
  have RC := Lib.hid rc
  have BA := Lib.hid ba
  have BB := Lib.hid bb
  have BC := Lib.hid bc
  have TB := Lib.hid hTb
  have TL := Lib.hid hTl
  have TE := Lib.hid hT
  have HB := Lib.hid hB
  have HG := Lib.hid hg
  have HR := Lib.hid hR
  have keep : ∀ wr, Below g w wr → Below W0.heap.size W0 wr := fun wr h => hB.trans (h.mono hg)
  have Kp := Lib.hid keep
  have hmz : (b.map zig).length = b.length := by simp
  clear ra rb rc ba bb bc hTb hTl hT hB hg hR keep
  go_enter Try.func19, Try.ntmps19
  go_wp2
  go_loopw [9, 10, 11] (fun ok i _ wr => TdRel w g T n a.length (fun k => (encs (a.take k)).length) ok i wr) (fun _ i _ _ => a.length - (intOf i).toNat)
  case atStart => exact ⟨0, true, Nat.zero_le _, rfl, rfl, Lib.hid (.inl ⟨by simp [encs], rfl, by simpa [encs] using HR.out⟩), Lib.hid (Below.refl _ _)⟩
  case round =>
    obtain ⟨k, okb, hk, rfl, rfl, A, B⟩ := hrel
    by_cases hlt : k < a.length
    · obtain ⟨bl, off, rfl, c1⟩ := (RA.out.below (Kp.out _ B.out)) k hlt
      have hx := getD_of_all a BA.out k hlt
      have hcut := encs_cut a k hlt
      have hsn := encs_snoc a k hlt
      generalize hgx : a.getD k 0 = x at c1 hx hcut hsn
      obtain ⟨u, rfl⟩ := Int.eq_ofNat_of_zero_le hx.1
      rw [Int.toNat_natCast] at hcut hsn
      have hd : T.drop (encs (a.take k)).length = enc u ++ (encs (a.drop (k + 1)) ++ (encs (b.map zig) ++ txts c)) := by
        rw [TE.out, hcut, List.append_assoc, List.drop_left, List.append_assoc]
      obtain ⟨z, C⟩ := at_uint _ g T _ n _ u okb A.out hd (by omega) TB.out TL.out
      have CC := Lib.hid C
      have SN : Hid ((encs (a.take (k + 1))).length = (encs (a.take k)).length + (enc u).length) := Lib.hid (by rw [hsn, List.length_append])
      have RA2 := fun wr (h : Below g w wr) => (RA.out.below (Kp.out _ h)) k hlt
      have RA3 := Lib.hid RA2
      clear hcut hsn hd C hx RA2 A
      go_wp2_with fail
      refine CC.out.mono ?_
      rintro _ w1 ⟨rfl, A1, B1⟩
      have B2 : Hid (Below g w w1) := Lib.hid (B.out.trans B1.out)
      obtain ⟨b', off', e', c2⟩ := RA3.out w1 B2.out
      injection e' with e'; injection e' with e1 e2; subst e1 e2
      rw [hgx] at c2
      have A2 : Hid (At w1 g T n (encs (a.take (k + 1))).length (okb && (z == (u : Int)))) := Lib.hid (by rw [SN.out]; exact A1.out)
      clear c1 A1 B1 hgx
      cases okb
      · go_wp2
        go_roundw
        case rel => exact ⟨k + 1, false, hlt, by go_num, rfl, A2, B2⟩
        case measure => simp [intOf]; omega
      · go_wp2
        go_roundw
        case rel => exact ⟨k + 1, z == (u : Int), hlt, by go_num, rfl, by simpa using A2, B2⟩
        case measure => simp [intOf]; omega
    · obtain rfl : k = a.length := by omega
      have A1 : Hid (At wr g T n (encs a).length okb) := Lib.hid (by have := A.out; simp only [List.take_length] at this; exact this)
      clear A
      go_wp2
      go_loopw [9, 12, 13] (fun ok i _ wr => TdRel w g T n b.length (fun k => (encs a).length + (encs ((b.map zig).take k)).length) ok i wr) (fun _ i _ _ => b.length - (intOf i).toNat)
      case atStart => exact ⟨0, okb, Nat.zero_le _, rfl, rfl, Lib.hid (by have := A1.out; simpa [encs] using this), B⟩
      case round =>
        clear A1 B
        obtain ⟨k, okb, hk, rfl, rfl, A, B⟩ := hrel
        by_cases hlt : k < b.length
        · obtain ⟨bl, off, rfl, c1⟩ := (RB.out.below (Kp.out _ B.out)) k hlt
          have hx := getD_of_all b BB.out k hlt
          have hcut := encs_cut (b.map zig) k (by omega)
          have hsn := encs_snoc (b.map zig) k (by omega)
          rw [mapz b k hlt] at hcut hsn
          generalize hgx : b.getD k 0 = x at c1 hx hcut hsn
          have hd : T.drop ((encs a).length + (encs ((b.map zig).take k)).length) = enc (zig x).toNat ++ (encs ((b.map zig).drop (k + 1)) ++ txts c) := by
            rw [TE.out, hcut, ← List.drop_drop, List.drop_left, List.append_assoc, List.drop_left, List.append_assoc]
          obtain ⟨z, C⟩ := at_int _ g T _ n _ x okb A.out hx hd TB.out TL.out
          have CC := Lib.hid C
          have SN : Hid ((encs a).length + (encs ((b.map zig).take (k + 1))).length = (encs a).length + (encs ((b.map zig).take k)).length + (enc (zig x).toNat).length) := Lib.hid (by rw [hsn, List.length_append, Nat.add_assoc])
          have RB2 := fun wr (h : Below g w wr) => (RB.out.below (Kp.out _ h)) k hlt
          have RB3 := Lib.hid RB2
          clear hcut hsn hd C hx RB2 A
          go_wp2_with fail
          refine CC.out.mono ?_
          rintro _ w1 ⟨rfl, A1, B1⟩
          have B2 : Hid (Below g w w1) := Lib.hid (B.out.trans B1.out)
          obtain ⟨b', off', e', c2⟩ := RB3.out w1 B2.out
          injection e' with e'; injection e' with e1 e2; subst e1 e2
          rw [hgx] at c2
          have A2 : Hid (At w1 g T n ((encs a).length + (encs ((b.map zig).take (k + 1))).length) (okb && (z == x))) := Lib.hid (by rw [SN.out]; exact A1.out)
          clear c1 A1 B1 hgx
          cases okb
          · go_wp2
            go_roundw
            case rel => exact ⟨k + 1, false, hlt, by go_num, rfl, A2, B2⟩
            case measure => simp [intOf]; omega
          · go_wp2
            go_roundw
            case rel => exact ⟨k + 1, z == x, hlt, by go_num, rfl, by simpa using A2, B2⟩
            case measure => simp [intOf]; omega
        · obtain rfl : k = b.length := by omega
          have A1 : Hid (At wr g T n ((encs a).length + (encs (b.map zig)).length) okb) := Lib.hid (by have := A.out; simp only [← hmz, List.take_length] at this; exact this)
          clear A
          go_wp2
          go_loopw [9, 14, 15] (fun ok i _ wr => TdRel w g T n c.length (fun k => (encs a).length + (encs (b.map zig)).length + (txts (c.take k)).length) ok i wr) (fun _ i _ _ => c.length - (intOf i).toNat)
          case atStart => exact ⟨0, okb, Nat.zero_le _, rfl, rfl, Lib.hid (by have := A1.out; simpa [txts] using this), B⟩
          case round =>
            clear A1 B
            obtain ⟨k, okb, hk, rfl, rfl, A, B⟩ := hrel
            by_cases hlt : k < c.length
            · obtain ⟨bl, off, rfl, c1⟩ := (RC.out.below (Kp.out _ B.out)) k hlt
              have hx : (c.getD k ByteArray.empty).size ≤ 300 := BC.out _ (by rw [List.getD_eq_getElem?_getD, List.getElem?_eq_getElem hlt]; exact List.getElem_mem hlt)
              have hcut := txts_cut c k hlt
              have hsn := txts_snoc2 c k hlt
              generalize hgx : c.getD k ByteArray.empty = x at c1 hx hcut hsn
              have hd : T.drop ((encs a).length + (encs (b.map zig)).length + (txts (c.take k)).length) = txt x ++ txts (c.drop (k + 1)) := by
                rw [TE.out, hcut, ← List.drop_drop, ← List.drop_drop, List.drop_left, List.drop_left, List.drop_left]
              obtain ⟨z, C⟩ := at_text _ g T _ n _ x okb A.out hx hd TB.out TL.out
              have CC := Lib.hid C
              have SN : Hid ((encs a).length + (encs (b.map zig)).length + (txts (c.take (k + 1))).length = (encs a).length + (encs (b.map zig)).length + (txts (c.take k)).length + (txt x).length) := Lib.hid (by rw [hsn, List.length_append, Nat.add_assoc _ _ (txt x).length])
              have RC2 := fun wr (h : Below g w wr) => (RC.out.below (Kp.out _ h)) k hlt
              have RC3 := Lib.hid RC2
              clear hcut hsn hd C hx RC2 A
              go_wp2_with fail
              refine CC.out.mono ?_
              rintro _ w1 ⟨rfl, A1, B1⟩
              have B2 : Hid (Below g w w1) := Lib.hid (B.out.trans B1.out)
              obtain ⟨b', off', e', c2⟩ := RC3.out w1 B2.out
              injection e' with e'; injection e' with e1 e2; subst e1 e2
              rw [hgx] at c2
              have A2 : Hid (At w1 g T n ((encs a).length + (encs (b.map zig)).length + (txts (c.take (k + 1))).length) (okb && decide (z = x))) := Lib.hid (by rw [SN.out]; exact A1.out)
              clear c1 A1 B1 hgx
              cases okb
              · go_wp2
                go_roundw
                case rel => exact ⟨k + 1, false, hlt, by go_num, rfl, A2, B2⟩
                case measure => simp [intOf]; omega
              · go_wp2
                go_roundw
                case rel => exact ⟨k + 1, decide (z = x), hlt, by go_num, by rw [str_beq], by simpa using A2, B2⟩
                case measure => simp [intOf]; omega
            · obtain rfl : k = c.length := by omega
              have A1 : Hid (At wr g T n T.length okb) := Lib.hid (by
                have h1 := A.out
                have e : T.length = (encs a).length + (encs (b.map zig)).length + (txts c).length := by rw [TE.out, List.length_append, List.length_append, ← Nat.add_assoc]
                simp only [List.take_length] at h1
                rw [e]
                exact h1)
              clear A
              rcases A1.out with ⟨hp, rfl, R⟩ | ⟨hp, l, lb, ll, R⟩
              · rw [List.drop_of_length_le (by rw [List.length_take]; omega)] at R
                have CE := Lib.hid (end_any g [] 0 wr R)
                have D : Hid (decide (T.length ≤ n) = true) := Lib.hid (by simp [hp])
                clear R A1 hp
                go_wp2_with fail
                refine CE.out.mono ?_
                rintro _ w1 ⟨rfl, R1, B1⟩
                have B2 : Hid (Below g w w1) := Lib.hid (B.out.trans B1.out)
                rw [show endS [] 0 = 0 by simp [endS]] at *
                go_wp2_with fail
                refine (left_any g [] 0 w1 R1.out).mono ?_
                rintro _ _ ⟨rfl, rfl⟩
                go_wp2
                go_ret
                exact ⟨by rw [D.out]; rfl, B2, fun h => by have := of_decide_eq_true D.out; omega⟩
              · have CE := Lib.hid (end_any g l 15 wr R)
                have D : Hid (decide (T.length ≤ n) = false) := Lib.hid (by simp; omega)
                clear R A1 hp
                rw [show endS l 15 = 15 by simp [endS]] at CE
                go_wp2_with fail
                refine CE.out.mono ?_
                rintro _ w1 ⟨rfl, R1, B1⟩
                have B2 : Hid (Below g w w1) := Lib.hid (B.out.trans B1.out)
                go_wp2
                go_ret
                exact ⟨by rw [D.out]; rfl, B2, fun _ => ⟨l, R1.out⟩⟩
end Go.Proofs.Ytojahaimelkhlaa
