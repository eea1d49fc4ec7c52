/- crc.Sum for every input. -/
import Derived.Test.YtgkgcbhlodohdaaCrcM
import Derived.Deep.LoopGhost
import Derived.Outline
namespace Go.Proofs.Ytgkgcbhlodohdaa
open Go.RowKit
set_option linter.unusedVariables false

/-- the parts' headers lie one beside another behind an address; each part's bytes lie behind its own -/
def PartsRow (w : World) (a : Option Addr) (l : List (List Int)) : Prop := ∀ j, j < l.length → ∃ b off, a = some ⟨b, off, none⟩ ∧ ∃ x c, w.cell? ⟨b, off + j, none⟩ = some (.slice x (l.getD j []).length c) ∧ (x = none → c = 0) ∧ IntRow w x .u8 (l.getD j [])
theorem getD_memL {l : List (List Int)} {j : Nat} (h : j < l.length) : l.getD j [] ∈ l := by
  rw [List.getD_eq_getElem?_getD, List.getElem?_eq_getElem h]
  exact List.getElem_mem h
def foldP (r : Nat) (l : List (List Int)) : Nat := l.foldl foldN r
theorem foldP_snoc (r : Nat) (l : List (List Int)) (k : Nat) (hk : k < l.length) : foldP r (l.take (k + 1)) = foldN (foldP r (l.take k)) (l.getD k []) := by
  unfold foldP
  rw [List.take_add_one, List.foldl_append]
  simp [List.getD, List.getElem?_eq_getElem hk]
theorem foldP_flat : ∀ (l : List (List Int)) (r : Nat), foldP r l = foldN r l.flatten
  | [], r => rfl
  | p :: l, r => by rw [List.flatten_cons, foldN_append]; exact foldP_flat l _
theorem foldP_lt : ∀ (l : List (List Int)) (r : Nat), (∀ p ∈ l, ByteL p) → r < 4294967296 → foldP r l < 4294967296
  | [], r, _, h => h
  | p :: l, r, hb, h => foldP_lt l (foldN r p) (fun q hq => hb q (by simp [hq])) (foldN_lt p r (hb p (by simp)) h)
def Sum1 (l : List (List Int)) (r i : Value) : Prop := ∃ k : Nat, k ≤ l.length ∧ i = .int .i64 k ∧ ∃ x : Nat, x < 4294967296 ∧ Hid (foldP 4294967295 (l.take k) = x) ∧ r = .int .u32 (x : Int)
def Sum2 (p : List Int) (s : Nat) (r i : Value) : Prop := ∃ k : Nat, k ≤ p.length ∧ i = .int .i64 k ∧ ∃ x : Nat, x < 4294967296 ∧ Hid (foldN s (p.take k) = x) ∧ r = .int .u32 (x : Int)
def Sum3 (s : Nat) (r i : Value) : Prop := ∃ k : Nat, k ≤ 8 ∧ i = .int .i64 k ∧ ∃ x : Nat, x < 4294967296 ∧ Hid (itN s k = x) ∧ r = .int .u32 (x : Int)
def SumRes (v : Nat) (w : World) (e : Ending) (w' : World) : Prop := e = .returned (.int .u32 (v : Int)) ∧ w = w'
set_option maxHeartbeats 1000000 in
theorem sum_any (a : Option Addr) (cap : Nat) (l : List (List Int)) (w : World) (hr : PartsRow w a l) (hb : ∀ p ∈ l, ByteL p) (hl : l.length ≤ 1000000) (hp : ∀ p ∈ l, p.length ≤ 1000000000) :
    Calls Try.prog 12 #[.slice a l.length cap] w (SumRes (crcN l.flatten) w) := by
  have HR := Lib.hid hr
  have HB := Lib.hid hb
  have HP := Lib.hid hp
  have fin : ∀ (k : Nat) (x : Nat) (v : Int) w', k = l.length → foldP 4294967295 (l.take k) = x → v = 4294967295 - (x : Int) → w = w' → SumRes (crcN l.flatten) w (.returned (.int .u32 v)) w' := fun k x v w' h1 h2 h3 h4 => by
    rw [h1, List.take_length] at h2
    have hlt := foldP_lt l 4294967295 hb (by omega)
    refine ⟨ret_int ?_, h4⟩
    rw [h3, ← h2]
    unfold crcN
    rw [← foldP_flat]
    omega
  have Fin := Lib.hid fin
  clear hr hb hp fin
  go_enter Try.func12, Try.ntmps12
  go_wp2
  go_loop [3, 10] (fun r i => Sum1 l r i) (fun _ i => l.length - (intOf i).toNat)
  case atStart => exact ⟨0, Nat.zero_le _, rfl, 4294967295, by omega, Lib.hid rfl, rfl⟩
  case round =>
    obtain ⟨k, hk, rfl, x, hx, HX, rfl⟩ := hrel
    by_cases hlt : k < l.length
    · obtain ⟨b, off, rfl, y, c, h1, -, h2⟩ := HR.out k hlt
      have h4 := HB.out _ (getD_memL hlt)
      have hpl := HP.out _ (getD_memL hlt)
      have h5 := foldP_snoc 4294967295 l k hlt
      rw [HX.out] at h5
      generalize l.getD k [] = p at h1 h2 h4 hpl h5
      have H2 := Lib.hid h2
      have H4 := Lib.hid h4
      have H5 := Lib.hid h5
      clear h2 h4 h5
      go_wp2
      go_loop [3, 16] (fun r i => Sum2 p x r i) (fun _ i => p.length - (intOf i).toNat)
      case atStart => exact ⟨0, Nat.zero_le _, rfl, x, hx, Lib.hid rfl, rfl⟩
      case round =>
        obtain ⟨j, hj, rfl, z, hz, HZ, rfl⟩ := hrel
        by_cases hlt2 : j < p.length
        · obtain ⟨b2, off2, rfl, h3⟩ := H2.out j hlt2
          have hv := getD_of_all p H4.out j hlt2
          have h6 := foldN_snoc x p j hlt2
          rw [HZ.out] at h6
          generalize p.getD j 0 = v at h3 hv h6
          obtain ⟨u, rfl⟩ := Int.eq_ofNat_of_zero_le hv.1
          have hu : u < 256 := by omega
          have H6 : Hid (foldN x (p.take (j + 1)) = byteN z u) := Lib.hid h6
          have hx2 := xor32 hz (show u < 4294967296 by omega)
          have H7 : Hid (bits .xor .u32 (z : Int) (u : Int) = ((z ^^^ u : Nat) : Int)) := Lib.hid (u32_xor_nat z u hz (by omega))
          clear h6 hv
          go_wp2
          rw [H7.out]
          go_loop [3, 24] (fun r i => Sum3 (z ^^^ u) r i) (fun _ i => 8 - (intOf i).toNat)
          case atStart => exact ⟨0, Nat.zero_le _, rfl, _, hx2, Lib.hid rfl, rfl⟩
          case round =>
            obtain ⟨n, hn, rfl, q, hq, HQ, rfl⟩ := hrel
            by_cases hlt3 : n < 8
            · have S1 := Lib.hid (step_walk q hq)
              have S2 := stepN_lt hq
              have S3 : Hid (itN (z ^^^ u) (n + 1) = stepN q) := Lib.hid (by show stepN (itN (z ^^^ u) n) = _; rw [HQ.out])
              go_wp2
              rw [S1.out]
              go_round
              case rel => exact ⟨n + 1, hlt3, by go_num, stepN q, S2, S3, rfl⟩
              case measure => simp [intOf]; omega
            · obtain rfl : n = 8 := by omega
              have S3 : Hid (foldN x (p.take (j + 1)) = q) := Lib.hid (by rw [H6.out]; exact HQ.out)
              go_wp2
              go_round
              case rel => exact ⟨j + 1, hlt2, by go_num, q, hq, S3, rfl⟩
              case measure => simp [intOf]; omega
        · obtain rfl : j = p.length := by omega
          have S3 : Hid (foldP 4294967295 (l.take (k + 1)) = z) := Lib.hid (by rw [H5.out, ← HZ.out, List.take_length])
          go_wp2
          go_round
          case rel => exact ⟨k + 1, hlt, by go_num, z, hz, S3, rfl⟩
          case measure => simp [intOf]; omega
    · obtain rfl : k = l.length := by omega
      go_wp2
      go_ret
      exact Fin.out _ _ _ _ rfl HX.out (not_walk x hx) rfl
end Go.Proofs.Ytgkgcbhlodohdaa
