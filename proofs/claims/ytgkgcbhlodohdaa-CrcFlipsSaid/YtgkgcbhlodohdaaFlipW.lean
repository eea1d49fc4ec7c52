/- CrcFlips, walked. -/
import Derived.Test.YtgkgcbhlodohdaaBackW
import Derived.Test.YtgkgcbhlodohdaaFlipM
namespace Go.Proofs.Ytgkgcbhlodohdaa
open Go.RowKit
set_option linter.unusedVariables false

theorem owns_below {w w' : World} {base e size n : Nat} {v : Value} {xs : List Value} (h : w.ownsRow base e size v n xs) (hb : Below w.heap.size w w') : w'.ownsRow base e size v n xs :=
  ⟨h.1, h.2.elim .inl fun ⟨g, cap, cur, e1, e2, e3, rest⟩ => .inr ⟨g, cap, cur, e1, e2, (hb.block g (Array.getElem?_eq_some_iff.1 e3).1).trans e3, rest⟩⟩
theorem owns_far {w : World} {base e size n : Nat} {v : Value} {xs : List Value} (h : w.ownsRow base e size v n xs) {p : Addr} (hp : ∀ g, v.ownBlock = some g → g ≠ p.block) (u : Value) : (w.setCell p u).ownsRow base e size v n xs :=
  ⟨h.1, h.2.elim .inl fun ⟨g, cap, cur, e1, e2, e3, rest⟩ => .inr ⟨g, cap, cur, e1, e2, (Below.heap_setCell w p u g (hp g (by rw [e1]; rfl))).trans e3, rest⟩⟩
theorem owns_set {w : World} {base e n g cap k : Nat} {l : List Int} (h : w.ownsRow base e 1 (.slice (some ⟨g, 0, none⟩) n cap) n (l.map (Value.int .u8))) (hk : k < n) (x : Int) :
    (w.setCell ⟨g, k, none⟩ (.int .u8 x)).ownsRow base e 1 (.slice (some ⟨g, 0, none⟩) n cap) n ((l.set k x).map (Value.int .u8)) := by
  refine ⟨by have := h.1; simpa using this, ?_⟩
  rcases h.2 with ⟨e1, _⟩ | ⟨g', cap', cur, e1, e2, e3, e4, e5, e6, e7⟩
  · cases e1
  · injection e1 with e1 _ e1'
    injection e1 with e1
    injection e1 with e1
    subst e1 e1'
    refine .inr ⟨g, cap, cur.setIfInBounds k (.int .u8 x), rfl, e2, ?_, e4, e5, by simpa using e6, ?_⟩
    · simp [World.setCell, Array.getElem?_modify, e3]
    · rw [Array.toList_setIfInBounds, List.take_set, e7, List.map_set]
def FlRel (l q : List Int) (a f : Nat) (tv uv : Value) (B2 : Nat) (w : World) (i : Value) (wr : World) : Prop := ∃ (k : Nat) (m : List Int), k ≤ 32 ∧ i = .int .i64 k ∧ m.length = l.length ∧ Hid (ByteL m) ∧ Hid (valN m = valN l ^^^ (f % 2 ^ k) * 2 ^ a) ∧
  Hid (wr.ownsRow w.heap.size 5 1 tv l.length (m.map (Value.int .u8))) ∧ Hid (wr.ownsRow B2 5 1 uv (l.length + 4) ((m ++ q).map (Value.int .u8))) ∧ Hid (Below w.heap.size w wr) ∧ Hid (B2 ≤ wr.heap.size)
set_option maxHeartbeats 4000000 in
theorem flips_near (x : Option Addr) (c : Nat) (l : List Int) (a f : Nat) (w : World) (hr : IntRow w x .u8 l) (hx : x = none → c = 0) (hl : l.length ≤ 2000) (hlc : l.length ≤ c) (hc : c ≤ 9223372036854775807) (hb : ByteL l) (ha : a ≤ 16000) (hf : f < 4294967296) (h0 : f ≠ 0) :
    Calls Try.prog 5 #[.slice x l.length c, .int .i64 a, .int .u32 f] w (BkPost w) := by
  have HR := Lib.hid hr
  have HX := Lib.hid hx
  have HB := Lib.hid hb
  have h1 : ¬ (2000 : Int) < (l.length : Int) := by omega
  have h2 : ((f : Int) == 0) = false := by rw [beq_eq_false_iff_ne]; omega
  have h3 : ¬ (a : Int) < 0 := by omega
  have h4 : ¬ (16000 : Int) < (a : Int) := by omega
  clear hr hx hb
  go_enter Try.func5, Try.ntmps5
  go_wp2_with fail
  refine (alive_any _).mono ?_
  rintro e w1 ⟨rfl, hb⟩
  have B1 := Lib.hid hb
  clear hb
  go_wp2_with fail
  refine (seal_one _ _ _ l ⟨x, c, rfl, HX.out, hlc, hc, HR.out.below (bstep B1.out (one_alloc _ _))⟩ HB.out (by omega) (Cel.new rfl)).mono ?_
  rintro e w2 ⟨v, rfl, hown, hbel⟩
  have B2 : Hid (Below w.heap.size w w2) := Lib.hid (bnext (bstep B1.out (one_alloc _ _)) (by have := B1.out.size; simp; omega) hbel)
  obtain ⟨s, cs, rfl, -, -, -, es, rs⟩ := IntRow.ownK hown
  have RS := Lib.hid rs
  have ES := Lib.hid es
  clear hown hbel B1 rs es
  go_wp2_with fail
  refine (copyBytes_any x c l w2 (HR.out.below B2.out) HX.out (by omega)).mono ?_
  rintro e w3 ⟨tv, rfl, hown, hbel⟩
  have B3 : Hid (Below w.heap.size w w3) := Lib.hid (bnext B2.out B2.out.size hbel)
  have RS3 := Lib.hid (RS.out.below hbel)
  have T3 := Lib.hid (owns_base hown B2.out.size)
  obtain ⟨t, ct, rfl, -, -, -, -, -⟩ := IntRow.ownK hown
  clear hown hbel RS B2
  go_wp2_with fail
  refine (copyBytes_any s cs (sealL l) w3 RS3.out ES.out (by rw [sealL_len]; omega)).mono ?_
  rintro e w4 ⟨uv, rfl, hown, hbel⟩
  have B4 : Hid (Below w.heap.size w w4) := Lib.hid (bnext B3.out B3.out.size hbel)
  simp only [sealL_len] at hown
  have U4 := Lib.hid hown
  obtain ⟨u, cu, rfl, -, -, -, -, -⟩ := IntRow.ownK hown
  have T4 : Hid (w4.ownsRow w.heap.size 5 1 (.slice t l.length ct) l.length (l.map (Value.int .u8))) := Lib.hid (owns_below T3.out hbel)
  have HT : Hid (∀ g, t = some ⟨g, 0, none⟩ → g < w3.heap.size) := Lib.hid (fun g e => (World.ownsRow.lt T3.out g (by rw [e]; rfl)).2)
  have HS4 : Hid (w3.heap.size ≤ w4.heap.size) := Lib.hid hbel.size
  clear hown hbel B3 RS3 T3
  go_wp2
  go_loopw [10, 11, 12] (fun i _ _ wr => FlRel l (le32 (crcN l)) a f (.slice t l.length ct) (.slice u (l.length + 4) cu) w3.heap.size w i wr) (fun i _ _ _ => 32 - (intOf i).toNat)
  case atStart => exact ⟨0, l, by omega, rfl, rfl, HB, Lib.hid (by simp [Nat.mod_one]), T4, U4, B4, HS4⟩
  case round =>
    obtain ⟨k, m, hk, rfl, hm, HM, HV, T, U, B, HW3⟩ := hrel
    by_cases hlt : k < 32
    · have hak : a + k ≤ 20000 := by omega
      obtain ⟨K, hK⟩ : ∃ K, (a + k) / 8 = K := ⟨_, rfl⟩
      have e8 : ((a : Int) + (k : Int)) / 8 = (K : Int) := by omega
      by_cases hbit : f / 2 ^ k % 2 = 0
      · have ht := tbit f k 0 hbit
        have ht' : (((f : Int) / 2 ^ k).tmod 2 == 0) = true := by rw [ht]; decide
        have HV2 : Hid (valN m = valN l ^^^ (f % 2 ^ (k + 1)) * 2 ^ a) := Lib.hid (by rw [mod_zero' f k hbit]; exact HV.out)
        clear ht hbit HV hK e8
        go_wp2
        refine ⟨⟨k + 1, m, by omega, rfl, hm, HM, HV2, T, U, B, HW3⟩, by simp [intOf]; omega⟩
      · have hb1 : f / 2 ^ k % 2 = 1 := by omega
        have ht := tbit f k 1 hb1
        have ht' : (((f : Int) / 2 ^ k).tmod 2 == 0) = false := by rw [ht]; decide
        by_cases hrange : l.length ≤ K
        · have hr' : (l.length : Int) ≤ (K : Int) := by omega
          clear ht hbit HV hK
          go_wp2
          go_ret
          exact ⟨rfl, B.out⟩
        · have hr' : ¬ (l.length : Int) ≤ (K : Int) := by omega
          have i0 : (0 : Int) ≤ (K : Int) := by omega
          have i1 : (K : Int) < (l.length : Int) := by omega
          have i2 : (K : Int) < (l.length : Int) + 4 := by omega
          have HS := Lib.hid (flip_step l m a f k HM.out HV.out hb1 (by rw [hK]; omega))
          rw [hK] at HS
          obtain ⟨gt, cap, et, hgt, -, -, rt, ft, -⟩ := owns_at T.out (by omega)
          obtain ⟨gu, capu, eu, hgu, -, -, ru, fu, -⟩ := owns_at U.out (by omega)
          injection et with et _ et'
          injection eu with eu _ eu'
          subst et et' eu eu'
          have hne : gt ≠ gu := by have := HT.out gt rfl; omega
          obtain ⟨_, _, e1, c1⟩ := rt K (by omega)
          injection e1 with e1; injection e1 with e11 e12; subst e11 e12
          obtain ⟨_, _, e2, c2⟩ := ru K (by simp; omega)
          injection e2 with e2; injection e2 with e21 e22; subst e21 e22
          have hz := getD_of_all m HM.out K (by omega)
          have ezu : (m ++ le32 (crcN l)).getD K 0 = m.getD K 0 := by simp [List.getD_eq_getElem?_getD, List.getElem?_append_left (show K < m.length by omega)]
          rw [ezu] at c2
          generalize hzz : m.getD K 0 = z at *
          have f1 := ft K
          have f2 := fu K
          rw [Nat.zero_add] at c1 c2
          have XE : Hid (bits .xor .u8 z (2 ^ ((a + k) % 8) % 256) = ((z.toNat ^^^ 2 ^ ((a + k) % 8) : Nat) : Int)) := Lib.hid (xor_bit z _ hz (Nat.mod_lt _ (by omega)))
          have hx8 : z.toNat ^^^ 2 ^ ((a + k) % 8) < 256 := xor_bit_lt z _ hz (Nat.mod_lt _ (by omega))
          generalize hX : ((z.toNat ^^^ 2 ^ ((a + k) % 8) : Nat) : Int) = X at *
          have hXb : 0 ≤ X ∧ X ≤ 255 := by omega
          have HM2 : Hid (ByteL (m.set K X)) := Lib.hid (fun y hy => by
            rcases List.mem_or_eq_of_mem_set hy with h | rfl
            · exact HM.out y h
            · exact hXb)
          have hKl : K < l.length := by omega
          have T2 : Hid (((wr.setCell ⟨gt, K, none⟩ (.int .u8 X)).setCell ⟨gu, K, none⟩ (.int .u8 X)).ownsRow w.heap.size 5 1 (.slice (some ⟨gt, 0, none⟩) l.length ct) l.length ((m.set K X).map (Value.int .u8))) :=
            Lib.hid (owns_far (owns_set T.out hKl X) (fun g e => by simp [Value.ownBlock] at e; show g ≠ gu; omega) _)
          have U2 : Hid (((wr.setCell ⟨gt, K, none⟩ (.int .u8 X)).setCell ⟨gu, K, none⟩ (.int .u8 X)).ownsRow w3.heap.size 5 1 (.slice (some ⟨gu, 0, none⟩) (l.length + 4) cu) (l.length + 4) ((m.set K X ++ le32 (crcN l)).map (Value.int .u8))) := Lib.hid (by
            have h := owns_set (owns_far U.out (p := ⟨gt, K, none⟩) (fun g e => by simp [Value.ownBlock] at e; show g ≠ gt; omega) (.int .u8 X)) (show K < l.length + 4 by omega) X
            rwa [List.set_append_left _ _ (by omega)] at h)
          have B2 : Hid (Below w.heap.size w ((wr.setCell ⟨gt, K, none⟩ (.int .u8 X)).setCell ⟨gu, K, none⟩ (.int .u8 X))) := Lib.hid ((B.out.setCell hgt _).setCell (by have := HT.out gt rfl; show w.heap.size ≤ gu; omega) _)
          have W2 : Hid (w3.heap.size ≤ ((wr.setCell ⟨gt, K, none⟩ (.int .u8 X)).setCell ⟨gu, K, none⟩ (.int .u8 X)).heap.size) := Lib.hid (by simpa using HW3.out)
          have hm2 : (m.set K X).length = l.length := by simpa using hm
          clear ht hbit HV rt ru ft fu hX hXb hx8
          go_wp2
          rw [XE.out]
          exact ⟨⟨k + 1, m.set K X, by omega, rfl, hm2, HM2, HS, T2, U2, B2, W2⟩, by simp [intOf]; omega⟩
    · obtain rfl : k = 32 := by omega
      have hv := HV.out
      rw [show (2 : Nat) ^ 32 = 4294967296 from rfl, Nat.mod_eq_of_lt hf] at hv
      have NE := Lib.hid (burst l m HB.out HM.out hm a f hf h0 hv)
      obtain ⟨gu, capu, eu, hgu, hc1, hc2, ru, -, -⟩ := owns_at U.out (by omega)
      injection eu with eu _ eu'
      subst eu eu'
      have hs := crcN_lt l
      have CB : Hid (Calls Try.prog 10 #[.slice (some ⟨gu, 0, none⟩) (l.length + 4) cu] wr (OpenOut [] 14 wr)) := Lib.hid (by
        have h := open_bad gu 0 cu m _ _ _ _ wr ru (by omega) hc2 (by omega) HM.out (by omega) (by omega) (by omega) (by omega) (by have := NE.out; simp; omega)
        rw [hm] at h
        exact h)
      obtain ⟨t', ct', et, -, -, -, ta, tr⟩ := IntRow.ownK T.out
      injection et with et _ et'
      subst et et'
      have TR := Lib.hid tr
      have TA := Lib.hid ta
      clear hv HV U T ru hc1 hc2 hs tr ta
      go_wp2_with fail
      refine CB.out.mono ?_
      rintro e w5 ⟨v5, rfl, hown, hbel⟩
      have B5 : Hid (Below w.heap.size w w5) := Lib.hid (bnext B.out B.out.size hbel)
      have TR5 := Lib.hid (TR.out.below hbel)
      obtain ⟨a5, c5, rfl, -, -, -, -, -⟩ := IntRow.ownK hown
      clear hown hbel TR CB
      have SU : Hid (∀ W, Below w5.heap.size w5 W → ∀ g, Cel W g #[.slice t l.length ct] → Calls Try.prog 12 #[.slice (some ⟨g, 0, none⟩) 1 1] W (SumRes (crcN m) W)) := Lib.hid fun W hB g hk => by
        have h := sum_any (some ⟨g, 0, none⟩) 1 [m] W (fun j hj => by
          have : j = 0 := by simp at hj; omega
          subst this
          exact ⟨g, 0, rfl, t, ct, by rw [← hm] at hk; exact hk.2 0, TA.out, TR5.out.below hB⟩) (by simpa using HM.out) (by simp) (by simp; omega)
        simpa using h
      have SL : Hid (∀ W, Below w.heap.size w W → ∀ g, Cel W g #[.slice x l.length c] → Calls Try.prog 12 #[.slice (some ⟨g, 0, none⟩) 1 1] W (SumRes (crcN l) W)) := Lib.hid fun W hB g hk => by
        have h := sum_any (some ⟨g, 0, none⟩) 1 [l] W (fun j hj => by
          have : j = 0 := by simp at hj; omega
          subst this
          exact ⟨g, 0, rfl, x, c, hk.2 0, HX.out, HR.out.below hB⟩) (by simpa using HB.out) (by simp) (by simp; omega)
        simpa using h
      have hne : (((crcN m : Nat) : Int) != ((crcN l : Nat) : Int)) = true := by have := NE.out; simp; omega
      generalize crcN m = cm at *
      generalize crcN l = cl at *
      go_wp2_with fail
      refine (SU.out _ (one_alloc _ _) _ (Cel.new rfl)).mono ?_
      rintro e w6 ⟨rfl, rfl⟩
      go_wp2_with fail
      refine (SL.out _ (bstep (bstep B5.out (one_alloc _ _)) (one_alloc _ _)) _ (Cel.new (by simp))).mono ?_
      rintro e w6 ⟨rfl, rfl⟩
      go_wp2
      go_ret
      exact ⟨rfl, bstep (bstep B5.out (one_alloc _ _)) (one_alloc _ _)⟩
end Go.Proofs.Ytgkgcbhlodohdaa
