/- CrcBack, walked. -/
import Derived.Test.YtgkgcbhlodohdaaAlive
namespace Go.Proofs.Ytgkgcbhlodohdaa
open Go.RowKit
set_option linter.unusedVariables false

theorem crcN_lt (l : List Int) : crcN l < 4294967296 := by unfold crcN; omega
theorem le32_bytes (s : Nat) (h : s < 4294967296) : ByteL (le32 s) := fun x hx => by
  simp only [le32, List.mem_cons, List.not_mem_nil, or_false] at hx
  omega
theorem sealL_bytes {l : List Int} (h : ByteL l) : ByteL (sealL l) := fun x hx => by
  unfold sealL at hx
  rcases List.mem_append.1 hx with hx | hx
  · exact h x hx
  · exact le32_bytes _ (crcN_lt l) x hx
theorem sealL_len (l : List Int) : (sealL l).length = l.length + 4 := by simp [sealL, le32]
/-- sealed so many times -/
def sealIt (l : List Int) : Nat → List Int
  | 0 => l
  | k + 1 => sealL (sealIt l k)
theorem sealIt_len (l : List Int) : ∀ k, (sealIt l k).length = l.length + 4 * k
  | 0 => rfl
  | k + 1 => by show (sealL (sealIt l k)).length = _; rw [sealL_len, sealIt_len l k]; omega
theorem sealIt_bytes {l : List Int} (h : ByteL l) : ∀ k, ByteL (sealIt l k)
  | 0 => h
  | k + 1 => sealL_bytes (sealIt_bytes h k)
theorem open_seal (v : Value) (m : List Int) (w : World) (h : BytesAt w v (sealL m)) (hm : ByteL m) (hl : m.length ≤ 900000000) : Calls Try.prog 10 #[v] w (OpenOut m 0 w) := by
  obtain ⟨a, c, rfl, ha, hlc, hc, hr⟩ := h
  obtain ⟨b, off, rfl, -⟩ := hr 0 (by rw [sealL_len]; omega)
  rw [sealL_len] at hlc ⊢
  have hs := crcN_lt m
  exact open_ok b off c m _ _ _ _ w hr hlc hc hl hm (by omega) (by omega) (by omega) (by omega) (by simp; omega)
theorem seal_one (W : World) (g : Nat) (v : Value) (m : List Int) (h : BytesAt W v m) (hm : ByteL m) (hl : m.length ≤ 900000000) (hk : Cel W g #[v]) : Calls Try.prog 15 #[.slice (some ⟨g, 0, none⟩) 1 1] W (NewBytes (sealL m) W) := by
  obtain ⟨a, c, rfl, ha, hlc, hc, hr⟩ := h
  have h := seal_any (some ⟨g, 0, none⟩) 1 [m] W (fun j hj => by
    have : j = 0 := by simp at hj; omega
    subst this
    exact ⟨g, 0, rfl, _, _, hk.2 0, ha, hr⟩) (by simpa using hm) (by simp) (by simpa [lenP] using hl)
  simpa using h
def Bk1 (l : List Int) (t : Nat) (w : World) (v i : Value) (wr : World) : Prop := ∃ k : Nat, k ≤ t ∧ i = .int .i64 k ∧ Hid (BytesAt wr v (sealIt l k)) ∧ Hid (Below w.heap.size w wr)
def Bk2 (l : List Int) (t : Nat) (w : World) (v i : Value) (wr : World) : Prop := ∃ k : Nat, k ≤ t ∧ i = .int .i64 k ∧ Hid (BytesAt wr v (sealIt l (t - k))) ∧ Hid (Below w.heap.size w wr)
def BkPost (w : World) (e : Ending) (w' : World) : Prop := e = .returned (.bool true) ∧ Below w.heap.size w w'
theorem back_far (a : Option Addr) (n c : Nat) (t : Int) (w : World) (hn : n ≤ 9223372036854775807) (h : 2000 < n ∨ t < 0 ∨ 10 < t) :
    Calls Try.prog 4 #[.slice a n c, .int .i64 t] w (BkPost w) := by
  by_cases h1 : 2000 < n
  · have h1' : (2000 : Int) < (n : Int) := by omega
    go_enter Try.func4, Try.ntmps4
    go_wp2_with fail
    refine (alive_any _).mono ?_
    rintro e w1 ⟨rfl, hb⟩
    have B1 := Lib.hid hb
    clear hb
    go_wp2
    go_ret
    exact ⟨rfl, B1.out⟩
  · have h1' : ¬ (2000 : Int) < (n : Int) := by omega
    by_cases h2 : t < 0
    · go_enter Try.func4, Try.ntmps4
      go_wp2_with fail
      refine (alive_any _).mono ?_
      rintro e w1 ⟨rfl, hb⟩
      have B1 := Lib.hid hb
      clear hb
      go_wp2
      go_ret
      exact ⟨rfl, B1.out⟩
    · have h3 : 10 < t := by omega
      go_enter Try.func4, Try.ntmps4
      go_wp2_with fail
      refine (alive_any _).mono ?_
      rintro e w1 ⟨rfl, hb⟩
      have B1 := Lib.hid hb
      clear hb
      go_wp2
      go_ret
      exact ⟨rfl, B1.out⟩
set_option maxHeartbeats 4000000 in
theorem back_near (a : Option Addr) (c : Nat) (l : List Int) (t : Nat) (w : World) (hr : IntRow w a .u8 l) (ha : a = none → c = 0) (hl : l.length ≤ 2000) (hb : ByteL l) (ht : t ≤ 10) :
    Calls Try.prog 4 #[.slice a l.length c, .int .i64 t] w (BkPost w) := by
  have HR := Lib.hid hr
  have HA := Lib.hid ha
  have HB := Lib.hid hb
  have h1 : ¬ (2000 : Int) < (l.length : Int) := by omega
  have h2 : ¬ (t : Int) < 0 := by omega
  have h3 : ¬ (10 : Int) < (t : Int) := by omega
  clear hr ha hb
  go_enter Try.func4, Try.ntmps4
  go_wp2_with fail
  refine (alive_any _).mono ?_
  rintro e w1 ⟨rfl, hb⟩
  have B1 := Lib.hid hb
  clear hb
  go_wp2_with fail
  refine (copyBytes_any a c l w1 (HR.out.below B1.out) HA.out (by omega)).mono ?_
  rintro e w2 ⟨v, rfl, hown, hbel⟩
  have B2 : Hid (Below w.heap.size w w2) := Lib.hid (bnext B1.out B1.out.size hbel)
  have V2 : Hid (BytesAt w2 v l) := Lib.hid (BytesAt.own hown)
  clear hown hbel B1
  go_wp2
  go_loopw [5, 6] (fun v i wr => Bk1 l t w v i wr) (fun _ i _ => t - (intOf i).toNat)
  case atStart => exact ⟨0, Nat.zero_le _, rfl, V2, B2⟩
  case round =>
    obtain ⟨k, hk, rfl, V, B⟩ := hrel
    by_cases hlt : k < t
    · obtain ⟨a1, c1, e1, -⟩ := V.out
      have hlen := sealIt_len l k
      have HS := Lib.hid (sealIt_bytes HB.out k)
      have hle : (sealIt l k).length ≤ 900000000 := by omega
      clear hlen
      obtain ⟨W1, hW1⟩ : ∃ W, wr.alloc (.cells #[.slice a1 (sealIt l k).length c1] 23) = W := ⟨_, rfl⟩
      rw [e1] at V
      have VV : Hid (BytesAt W1 (.slice a1 (sealIt l k).length c1) (sealIt l k)) := Lib.hid (by rw [← hW1]; exact V.out.below (one_alloc _ _))
      have BB : Hid (Below w.heap.size w W1) := Lib.hid (by rw [← hW1]; exact B.out.alloc B.out.size _)
      have KK : Hid (Cel W1 wr.heap.size #[.slice a1 (sealIt l k).length c1]) := Lib.hid (by rw [← hW1]; exact Cel.new rfl)
      have HW1 := Lib.hid hW1
      clear hW1 B V V2
      subst e1
      have CS := Lib.hid (seal_one W1 wr.heap.size _ _ VV.out HS.out hle KK.out)
      generalize (sealIt l k).length = n at *
      go_wp2_with fail
      rw [HW1.out]
      refine CS.out.mono ?_
      rintro e w3 ⟨v3, rfl, hown, hbel⟩
      have B3 : Hid (Below w.heap.size w w3) := Lib.hid (bnext BB.out BB.out.size hbel)
      have V3 : Hid (BytesAt w3 v3 (sealIt l (k + 1))) := Lib.hid (BytesAt.own hown)
      clear hown hbel
      go_wp2
      go_roundw
      case rel => exact ⟨k + 1, hlt, by go_num, V3, B3⟩
      case measure => simp [intOf]; omega
    · obtain rfl : k = t := by omega
      go_wp2
      go_loopw [5, 7, 8, 9] (fun v i _ _ wr => Bk2 l k w v i wr) (fun _ i _ _ _ => k - (intOf i).toNat)
      case atStart => exact ⟨0, Nat.zero_le _, rfl, V, B⟩
      case round =>
        obtain ⟨j, hj, rfl, V, B⟩ := hrel
        by_cases hlt : j < k
        · obtain ⟨n, hn⟩ : ∃ n, k - j = n + 1 := ⟨k - j - 1, by omega⟩
          have hn2 : k - (j + 1) = n := by omega
          rw [hn] at V
          have hlen := sealIt_len l n
          have CO := Lib.hid (open_seal _ _ _ V.out (sealIt_bytes HB.out n) (by omega))
          have HN := Lib.hid hn2
          clear hlen hn hn2 V
          go_wp2_with fail
          refine CO.out.mono ?_
          rintro e w3 ⟨v3, rfl, hown, hbel⟩
          have B3 : Hid (Below w.heap.size w w3) := Lib.hid (bnext B.out B.out.size hbel)
          have V3 : Hid (BytesAt w3 v3 (sealIt l (k - (j + 1)))) := Lib.hid (by rw [HN.out]; exact BytesAt.own hown)
          clear hown hbel
          go_wp2
          go_roundw
          case rel => exact ⟨j + 1, hlt, by go_num, V3, B3⟩
          case measure => simp [intOf]; omega
        · obtain rfl : j = k := by omega
          rw [Nat.sub_self] at V
          obtain ⟨a1, c1, e1, -, -, -, r1⟩ := V.out
          have hl0 : (sealIt l 0) = l := rfl
          rw [hl0] at e1 r1
          subst e1
          have CC := Lib.hid (sameBytes_any a1 a c1 c l l _ r1 (HR.out.below B.out) (by omega) (by omega))
          clear r1 V
          go_wp2_with fail
          refine CC.out.mono ?_
          rintro e w3 ⟨rfl, n, rfl⟩
          have B3 : Hid (Below w.heap.size w _) := Lib.hid (below_drewN B.out n)
          go_wp2
          go_ret
          exact ⟨ret_bool (by simp), B3.out⟩
theorem back_any (a : Option Addr) (n c : Nat) (l : List Int) (t : Int) (w : World) (hl : l.length = n) (hr : IntRow w a .u8 l) (ha : a = none → c = 0) (hn : n ≤ 9223372036854775807) (hb : ByteL l) :
    Calls Try.prog 4 #[.slice a n c, .int .i64 t] w (BkPost w) := by
  subst hl
  by_cases h : 2000 < l.length ∨ t < 0 ∨ 10 < t
  · exact back_far a l.length c t w hn h
  · obtain ⟨m, rfl⟩ := Int.eq_ofNat_of_zero_le (show 0 ≤ t by omega)
    exact back_near a c l m w hr ha (by omega) hb (by omega)
theorem bd8 {a : Int} (h : (Lit.int .u8 a).wf = true) : 0 ≤ a ∧ a ≤ 255 := by simp [Lit.wf, IntKind.min, IntKind.max, IntKind.signed, IntKind.bits] at h; exact h
theorem RowOf.bytes {w : World} {a : Option Addr} {len cap : Nat} {zs : List Int} (h : RowOf .u8 w a len cap zs) : (zs.take len).length = len ∧ IntRow w a .u8 (zs.take len) ∧ (a = none → cap = 0) ∧ len ≤ cap ∧ cap ≤ 9223372036854775807 ∧ ByteL (zs.take len) := by
  rcases h with ⟨rfl, rfl, rfl, rfl⟩ | ⟨x, rfl, h1, h2, h3, h4, h5⟩
  · exact ⟨rfl, fun j hj => by simp at hj, fun _ => rfl, Nat.le_refl _, by omega, fun x hx => by simp at hx⟩
  · simp only [maxLen] at h2
    have hlen : (zs.take len).length = len := by rw [List.length_take]; omega
    refine ⟨hlen, ?_, fun e => by simp at e, h1, h2, fun n hn => bd8 (h5 n (List.mem_of_mem_take hn))⟩
    by_cases h0 : len = 0
    · subst h0; exact fun j hj => by simp at hj
    · obtain ⟨b, off, rfl, hc⟩ := ints_at h4 (by omega)
      refine fun j hj => ⟨b, off, rfl, ?_⟩
      rw [hlen] at hj
      rw [hc j (by omega), getD_take, if_pos hj]
end Go.Proofs.Ytgkgcbhlodohdaa
