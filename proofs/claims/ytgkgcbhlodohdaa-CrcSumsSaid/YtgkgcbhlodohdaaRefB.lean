/- noonmarkref07.Open, crc.Open in one form: for every input. -/
import Derived.Test.YtgkgcbhlodohdaaRefA
namespace Go.Proofs.Ytgkgcbhlodohdaa
open Go.RowKit
set_option linter.unusedVariables false

/-- what a call leaves that answers bytes and an error number -/
def ROut (l : List Int) (er : Int) (w : World) (e : Ending) (w' : World) : Prop := ∃ v, e = .returned (.tuple #[v, .int .i64 er]) ∧ BytesAt w' v l ∧ Below w.heap.size w w'
def opL (d q : List Int) : List Int := if q = le32 (crcN d) then d else []
def opE (d q : List Int) : Int := if q = le32 (crcN d) then 0 else 14
theorem dec_iff (s : Nat) (hs : s < 4294967296) (c0 c1 c2 c3 : Int) (b0 : 0 ≤ c0 ∧ c0 ≤ 255) (b1 : 0 ≤ c1 ∧ c1 ≤ 255) (b2 : 0 ≤ c2 ∧ c2 ≤ 255) (b3 : 0 ≤ c3 ∧ c3 ≤ 255) : [c0, c1, c2, c3] = le32 s ↔ (s : Int) = c0 + 256 * c1 + 65536 * c2 + 16777216 * c3 := by
  unfold le32
  constructor
  · intro h
    injection h with h0 h; injection h with h1 h; injection h with h2 h; injection h with h3 _
    omega
  · intro h
    have e0 : c0 = (s : Int) % 256 := by omega
    have e1 : c1 = (s : Int) / 256 % 256 := by omega
    have e2 : c2 = (s : Int) / 65536 % 256 := by omega
    have e3 : c3 = (s : Int) / 16777216 := by omega
    rw [← e0, ← e1, ← e2, ← e3]
theorem copen_any (b off c : Nat) (d : List Int) (c0 c1 c2 c3 : Int) (w : World) (hr : IntRow w (some ⟨b, off, none⟩) .u8 (d ++ [c0, c1, c2, c3])) (hc : d.length + 4 ≤ c) (hc2 : c ≤ 9223372036854775807) (hl : d.length ≤ 900000000) (hd : ByteL d)
    (b0 : 0 ≤ c0 ∧ c0 ≤ 255) (b1 : 0 ≤ c1 ∧ c1 ≤ 255) (b2 : 0 ≤ c2 ∧ c2 ≤ 255) (b3 : 0 ≤ c3 ∧ c3 ≤ 255) :
    Calls Try.prog 10 #[.slice (some ⟨b, off, none⟩) (d.length + 4) c] w (ROut (opL d [c0, c1, c2, c3]) (opE d [c0, c1, c2, c3]) w) := by
  have key := dec_iff (crcN d) (crcN_lt d) c0 c1 c2 c3 b0 b1 b2 b3
  unfold opL opE
  by_cases h : [c0, c1, c2, c3] = le32 (crcN d)
  · rw [if_pos h, if_pos h]
    refine (open_ok b off c d c0 c1 c2 c3 w hr hc hc2 hl hd b0 b1 b2 b3 (by have := key.1 h; simp; omega)).mono ?_
    rintro e w' ⟨v, rfl, h1, h2⟩
    exact ⟨v, rfl, BytesAt.own h1, h2⟩
  · rw [if_neg h, if_neg h]
    refine (open_bad b off c d c0 c1 c2 c3 w hr hc hc2 hl hd b0 b1 b2 b3 (by have := mt key.2 h; simp; omega)).mono ?_
    rintro e w' ⟨v, rfl, h1, h2⟩
    exact ⟨v, rfl, BytesAt.own h1, h2⟩
theorem ropen_short (v : Value) (l : List Int) (w : World) (h : BytesAt w v l) (hl : l.length < 4) : Calls Try.prog 11 #[v] w (ROut [] 15 w) := by
  obtain ⟨a, c, rfl, ha, hlc, hc, hr⟩ := h
  have hlt : (l.length : Int) - 4 < 0 := by omega
  have fin : ROut [] 15 w (.returned (.tuple #[.slice none 0 0, .int .i64 15])) w := ⟨_, rfl, BytesAt.nil w, Below.refl _ _⟩
  have Fin := Lib.hid fin
  clear fin ha hr
  go_enter Try.func11, Try.ntmps11
  go_wp2
  go_ret2
  exact Fin.out
def ROp (d q : List Int) (w1 : World) (i : Value) (wr : World) : Prop := ∃ k nd : Nat, k ≤ 4 ∧ i = .int .i64 ((d.length : Int) + (k : Int)) ∧ Hid (∀ j, j < k → (le32 (crcN d)).getD j 0 = q.getD j 0) ∧ wr = w1.drewN nd
set_option maxHeartbeats 2000000 in
theorem ropen_any (b off c : Nat) (d q : List Int) (w : World) (hq : q.length = 4) (hr : IntRow w (some ⟨b, off, none⟩) .u8 (d ++ q)) (hc : d.length + 4 ≤ c) (hc2 : c ≤ 9223372036854775807) (hl : d.length ≤ 900000000) (hd : ByteL d) :
    Calls Try.prog 11 #[.slice (some ⟨b, off, none⟩) (d.length + 4) c] w (ROut (opL d q) (opE d q) w) := by
  have HD : Hid (IntRow w (some ⟨b, off, none⟩) .u8 d) := Lib.hid fun j hj => by
    obtain ⟨x, y, e, h⟩ := hr j (by simp; omega)
    refine ⟨x, y, e, h.trans ?_⟩
    simp [List.getD_eq_getElem?_getD, List.getElem?_append_left hj]
  have HQ : Hid (∀ j, j < 4 → w.cell? ⟨b, off + (d.length + j), none⟩ = some (.int .u8 (q.getD j 0))) := Lib.hid fun j hj => by
    obtain ⟨x, y, e, h⟩ := hr (d.length + j) (by simp; omega)
    injection e with e; injection e with e1 e2; subst e1 e2
    rw [h]
    simp [List.getD_eq_getElem?_getD, List.getElem?_append_right]
  have CS := Lib.hid (rseal_any (some ⟨b, off, none⟩) c d w HD.out (fun e => by cases e) hd hl)
  have F14 : Hid (∀ W, Below w.heap.size w W → q ≠ le32 (crcN d) → ROut (opL d q) (opE d q) w (.returned (.tuple #[.slice none 0 0, .int .i64 14])) W) := Lib.hid fun W hB hne => by
    unfold opL opE
    rw [if_neg hne, if_neg hne]
    exact ⟨_, rfl, BytesAt.nil W, hB⟩
  have F0 : Hid (∀ W v, Below w.heap.size w W → q = le32 (crcN d) → BytesAt W v d → ROut (opL d q) (opE d q) w (.returned (.tuple #[v, .int .i64 0])) W) := Lib.hid fun W v hB he h => by
    unfold opL opE
    rw [if_pos he, if_pos he]
    exact ⟨_, rfl, h, hB⟩
  have HN := Lib.hid hq
  clear hr hq
  have h0 : ¬ (d.length : Int) < 0 := by omega
  go_enter Try.func11, Try.ntmps11
  go_wp2_with fail
  refine CS.out.mono ?_
  rintro e w1 ⟨v, rfl, hown, hbel⟩
  obtain ⟨g, cap, rfl, hg, hcap1, hcap2, rs, -, -⟩ := owns_at hown (by rw [sealL_len]; omega)
  have RS := Lib.hid rs
  have B1 := Lib.hid hbel
  rw [sealL_len] at hcap1
  clear hown hbel rs hg
  simp only [sealL_len]
  go_wp2
  go_loopw [6] (fun i wr => ROp d q w1 i wr) (fun i _ => d.length + 4 - (intOf i).toNat)
  case atStart => exact ⟨0, 0, by omega, by simp, Lib.hid (fun j hj => by omega), rfl⟩
  case round =>
    obtain ⟨k, nd, hk, rfl, HK, rfl⟩ := hrel
    by_cases hlt : k < 4
    · have c1 := RS.out (d.length + k) (by rw [sealL_len]; omega)
      obtain ⟨_, _, e1, c1⟩ := c1
      injection e1 with e1; injection e1 with e11 e12; subst e11 e12
      have c2 := (B1.out.cell (World.block_lt_of_cell? w _ (HQ.out k hlt))).trans (HQ.out k hlt)
      have es : (sealL d).getD (d.length + k) 0 = (le32 (crcN d)).getD k 0 := by unfold sealL; simp [List.getD_eq_getElem?_getD, List.getElem?_append_right]
      rw [es, Nat.zero_add] at c1
      obtain ⟨x, hx⟩ : ∃ x, (le32 (crcN d)).getD k 0 = x := ⟨_, rfl⟩
      obtain ⟨y, hy⟩ : ∃ y, q.getD k 0 = y := ⟨_, rfl⟩
      rw [hx] at c1
      rw [hy] at c2
      have hi0 : (0 : Int) ≤ (d.length : Int) + (k : Int) := by omega
      have hi1 : (d.length : Int) + (k : Int) < (d.length : Int) + 4 := by omega
      have htn : ((d.length : Int) + (k : Int)).toNat = d.length + k := by omega
      have fin1 : ∀ n, (x != y) = false → ROp d q w1 (.int .i64 ((d.length : Int) + (k : Int) + 1)) (w1.drewN n) := fun n h =>
        ⟨k + 1, n, by omega, by rw [Int.add_assoc]; rfl, Lib.hid (fun j hj => by
          by_cases e : j = k
          · rw [e, hx, hy]; exact WalkArith.int_eq' h
          · exact HK.out j (by omega)), rfl⟩
      have fin2 : ∀ n, (x != y) = true → ROut (opL d q) (opE d q) w (.returned (.tuple #[.slice none 0 0, .int .i64 14])) (w1.drewN n) := fun n h =>
        F14.out _ (below_drewN B1.out n) (fun e => by rw [e, hx] at hy; exact WalkArith.int_ne' h hy)
      have F1 := Lib.hid fin1
      have F2 := Lib.hid fin2
      clear fin1 fin2 hx hy es
      go_wp2
      go_quiet (fail)
      go_wp2
      · have h : (x != y) = true := by assumption
        go_ret2
        first | exact F2.out _ h | (rw [World.drewN_drewN]; exact F2.out _ h)
      · have h : (x != y) = false := by assumption
        go_roundw
        case rel => first | exact F1.out _ h | (rw [World.drewN_drewN]; exact F1.out _ h)
        case measure => simp [intOf]; omega
    · obtain rfl : k = 4 := by omega
      have he : q = le32 (crcN d) := (eq_of_getD (show (le32 (crcN d)).length = q.length by rw [HN.out]; rfl) (fun j hj => HK.out j hj)).symm
      have RD : Hid (IntRow w1 (some ⟨g, 0, none⟩) .u8 d) := Lib.hid (by
        intro j hj
        obtain ⟨x, y, e, h⟩ := RS.out j (by rw [sealL_len]; omega)
        refine ⟨x, y, e, h.trans ?_⟩
        unfold sealL
        simp [List.getD_eq_getElem?_getD, List.getElem?_append_left hj])
      have G : Hid (ROut (opL d q) (opE d q) w (.returned (.tuple #[.slice (some ⟨g, 0, none⟩) d.length cap, .int .i64 0])) (w1.drewN nd)) := Lib.hid (F0.out _ _ (below_drewN B1.out nd) he ⟨_, cap, rfl, (fun e => by cases e), by omega, hcap2, RD.out⟩)
      have hge : ¬ ((d.length : Int) + ((4 : Nat) : Int) < (d.length : Int) + 4) := by omega
      clear he
      go_wp2
      go_ret2
      exact G.out
end Go.Proofs.Ytgkgcbhlodohdaa
