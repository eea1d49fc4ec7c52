/- noonmarkref02: Parse, one case. -/
import Derived.Test.YtngjefoipdcldaaRParA
import Derived.Test.YtngjefoipdcldaaRParB
import Derived.Test.YtngjefoipdcldaaRParC
namespace Go.Proofs.Ytngjefoipdcldaa
open Go.RowKit
set_option linter.unusedVariables false

set_option maxHeartbeats 16000000 in
theorem rparse_some (s d : ByteArray) (neg : Bool) (w : World) (hs : s.size ≤ 200) (h0 : 1 ≤ s.size) (hn : (bl s).getD 0 0 = 45 ↔ neg = true) (hd : d = if neg then s.extract 1 s.size else s) :
    Calls Try.prog 28 #[.string s] w (RPOut s w) := by
  have hL : bl s = if neg then 45 :: bl d else bl d := by
    cases neg
    · simp at hd; rw [hd]; rfl
    · simp at hd
      rw [hd, bl_extract s h0]
      have h45 := hn.2 rfl
      rcases hb : bl s with _ | ⟨c, t⟩
      · rw [hb] at h45; simp at h45
      · rw [hb] at h45; simp at h45; simp [h45]
  have hN45 : neg = false → (bl d).getD 0 0 ≠ 45 := fun h => by
    subst h
    simp at hd
    rw [hd]
    intro e
    have := hn.1 e
    cases this
  have hdl : (bl d).length = d.size := bl_length d
  have hds : d.size ≤ s.size := by
    have h1 := bl_length s
    rw [hL] at h1
    cases neg <;> simp at h1 <;> omega
  obtain ⟨L, hLd⟩ : ∃ L, bl d = L := ⟨_, rfl⟩
  have hix := fun (W : World) => idx_str s 0 0 rfl (by omega) W
  obtain ⟨b0, hb0⟩ : ∃ b, (bl s).getD 0 0 = b := ⟨_, rfl⟩
  rw [hb0] at hix hn
  have hneg : (b0 == 45) = neg := by
    cases neg
    · rw [beq_eq_false_iff_ne]; intro e; have := hn.1 e; cases this
    · rw [beq_iff_eq]; exact hn.2 rfl
  obtain ⟨SN, hSN⟩ : ∃ n : Int, (s.size : Int) = n := ⟨_, rfl⟩
  have hpos : decide (0 < SN) = true := decide_eq_true (by omega)
  obtain ⟨DN, hDN⟩ : ∃ n : Int, (d.size : Int) = n := ⟨_, rfl⟩
  have hemp : d.toList.isEmpty = decide (L.length = 0) := by
    rw [ByteArray.toList_eq, ← hLd]
    unfold bl
    rw [List.length_map]
    rcases d.data.toList with _ | ⟨a, t⟩ <;> simp
  have hidx : ∀ k : Nat, ∀ I : Int, I = (k : Int) → k < L.length → ∀ W : World, (Instr.index 9 (.string d) (.int .i64 I)).run Try.prog W = .ok (.int .u8 (L.getD k 0)) W := fun k I hI hk W => by
    have hll : (bl d).length = L.length := by rw [hLd]
    rw [← hLd]
    exact idx_str d I k hI (by omega) W
  have hbyte : ∀ j, 0 ≤ L.getD j 0 ∧ L.getD j 0 ≤ 255 := fun j => by rw [← hLd]; exact bl_byte d j
  rw [hLd] at hL hN45 hdl
  have hno : (L.length = 0 ∨ 40 < L.length ∨ (L.getD 0 0 = 48 ∧ (1 < L.length ∨ neg = true)) ∨ ∃ j, j < L.length ∧ ¬ (48 ≤ L.getD j 0 ∧ L.getD j 0 ≤ 57)) → PR (bl s) 0 false := fun hbad => .inr ⟨rfl, rfl, fun y hy => by
    obtain ⟨g1, g2, g3, g4⟩ := good_split hL hN45 hy
    rcases hbad with h | h | ⟨h, h2⟩ | ⟨j, hj, h⟩
    · omega
    · omega
    · have := g4 h
      rcases h2 with h2 | h2
      · omega
      · rw [this.2] at h2; cases h2
    · exact h (g1 _ (by rw [List.getD_eq_getElem?_getD, List.getElem?_eq_getElem hj]; exact List.getElem_mem _))⟩
  have hgood : (∀ j, j < L.length → 48 ≤ L.getD j 0 ∧ L.getD j 0 ≤ 57) → 1 ≤ L.length → L.length ≤ 40 → (L.getD 0 0 = 48 → L.length = 1 ∧ neg = false) → PR (bl s) (sg (unsN L) neg) true := fun h1 h2 h3 h4 => .inl ⟨rfl, neg, L, hL, digl_of h1, h2, h3, h4, rfl⟩
  have HNO := Lib.hid hno
  have HGD := Lib.hid hgood
  have HIX := Lib.hid hidx
  have HBY := Lib.hid hbyte
  have HDL := Lib.hid hdl
  have HDN := Lib.hid hDN
  have hsl : neg = true → ∀ W : World, (Instr.slice 9 (.string s) (some (.int .i64 1)) none none).run Try.prog W = .ok (.string d) W := fun h W => by
    rw [run_slice_string_l W 9 s Try.underlying9 .i64 1 (by omega) (by omega), hd, if_pos h]
    rfl
  have hsd : neg = false → d = s := fun h => by rw [hd, if_neg (by rw [h]; simp)]
  have hcase : (d.toList.isEmpty = true ∧ Hid (PR (bl s) 0 false)) ∨ (d.toList.isEmpty = false ∧ decide (40 < DN) = true ∧ Hid (PR (bl s) 0 false)) ∨
      (∃ c0, (∀ W : World, (Instr.index 9 (.string d) (.int .i64 0)).run Try.prog W = .ok (.int .u8 c0) W) ∧ d.toList.isEmpty = false ∧ decide (40 < DN) = false ∧
        (((c0 == 48) = true ∧ decide (1 < DN) = true ∧ Hid (PR (bl s) 0 false)) ∨ ((c0 == 48) = true ∧ decide (1 < DN) = false ∧ neg = true ∧ Hid (PR (bl s) 0 false)) ∨
         ((c0 == 48) = true ∧ decide (1 < DN) = false ∧ neg = false ∧ Hid (1 ≤ L.length ∧ L.length ≤ 40 ∧ (L.getD 0 0 = 48 → L.length = 1 ∧ neg = false))) ∨ ((c0 == 48) = false ∧ Hid (1 ≤ L.length ∧ L.length ≤ 40 ∧ (L.getD 0 0 = 48 → L.length = 1 ∧ neg = false))))) := by
    by_cases h1 : L.length = 0
    · exact .inl ⟨by rw [hemp, decide_eq_true h1], Lib.hid (hno (.inl h1))⟩
    · have e1 : d.toList.isEmpty = false := by rw [hemp, decide_eq_false h1]
      by_cases h2 : 40 < L.length
      · exact .inr (.inl ⟨e1, decide_eq_true (by omega), Lib.hid (hno (.inr (.inl h2)))⟩)
      · refine .inr (.inr ⟨L.getD 0 0, hidx 0 0 rfl (by omega), e1, decide_eq_false (by omega), ?_⟩)
        by_cases h3 : L.getD 0 0 = 48
        · have e3 : (L.getD 0 0 == 48) = true := by rw [h3]; rfl
          by_cases h4 : 1 < L.length
          · exact .inl ⟨e3, decide_eq_true (by omega), Lib.hid (hno (.inr (.inr (.inl ⟨h3, .inl h4⟩))))⟩
          · have e4 : decide (1 < DN) = false := decide_eq_false (by omega)
            cases hng : neg
            · exact .inr (.inr (.inl ⟨e3, e4, rfl, Lib.hid ⟨by omega, by omega, fun _ => ⟨by omega, rfl⟩⟩⟩))
            · exact .inr (.inl ⟨e3, e4, rfl, Lib.hid (hno (.inr (.inr (.inl ⟨h3, .inr hng⟩))))⟩)
        · have e3 : (L.getD 0 0 == 48) = false := by rw [beq_eq_false_iff_ne]; exact h3
          exact .inr (.inr (.inr ⟨e3, Lib.hid ⟨by omega, by omega, fun e => absurd e h3⟩⟩))
  have C10 := Lib.hid (fun W => of_any 10 W (by decide))
  have HLE := Lib.hid (show (L.length : Int) = DN by omega)
  have HNJ : Hid ((∃ j, j < L.length ∧ ¬ (48 ≤ L.getD j 0 ∧ L.getD j 0 ≤ 57)) → PR (bl s) 0 false) := Lib.hid (fun hj => hno (.inr (.inr (.inr hj))))
  clear hemp hidx hbyte hno hgood hd hL hN45 hds hLd hn hs h0
  have hb0' : Hid ((bl s).getD 0 0 = b0) := Lib.hid hb0
  clear hb0
  cases neg
  · obtain rfl := hsd rfl
    have hDS : DN = SN := by rw [← hDN, ← hSN]
    subst hDS
    clear hsl hsd hDN
    rcases hcase with ⟨e1, hp⟩ | ⟨e1, e2, hp⟩ | ⟨c0, hi0, e1, e2, ⟨e3, e4, hp⟩ | ⟨e3, e4, e5, hp⟩ | ⟨e3, e4, e5, hp⟩ | ⟨e3, hp⟩⟩
    · clear hdl
      go_enter Try.func28, Try.ntmps28
      go_wp2
      refine bodyPost_ret (v := .tuple #[.agg #[.bool false, .slice none 0 0], .bool false]) (by simp [results, Try.results28, go_sem]) rfl ?_
      exact ⟨_, 0, false, rfl, numat_nil _, hp.out, (one_alloc w _).alloc (by simp) _⟩
    · clear hdl
      go_enter Try.func28, Try.ntmps28
      go_wp2
      refine bodyPost_ret (v := .tuple #[.agg #[.bool false, .slice none 0 0], .bool false]) (by simp [results, Try.results28, go_sem]) rfl ?_
      exact ⟨_, 0, false, rfl, numat_nil _, hp.out, (one_alloc w _).alloc (by simp) _⟩
    · have hbc : b0 = c0 := by
        have h9 := (hix w).symm.trans (hi0 w)
        injection h9 with h9 _
        injection h9
      subst hbc
      clear hi0
      clear hdl
      go_enter Try.func28, Try.ntmps28
      go_wp2
      refine bodyPost_ret (v := .tuple #[.agg #[.bool false, .slice none 0 0], .bool false]) (by simp [results, Try.results28, go_sem]) rfl ?_
      exact ⟨_, 0, false, rfl, numat_nil _, hp.out, (one_alloc w _).alloc (by simp) _⟩
    · cases e5
    · have hbc : b0 = c0 := by
        have h9 := (hix w).symm.trans (hi0 w)
        injection h9 with h9 _
        injection h9
      subst hbc
      have hi0' := hi0
      exact rpar_ft d L DN b0 w hSN hpos hneg hi0' e1 e2 e3 e4 HLE HIX HBY (Lib.hid ⟨hp.out.1, hp.out.2.1⟩) HNJ (Lib.hid (fun h1 => HGD.out h1 hp.out.1 hp.out.2.1 hp.out.2.2)) C10
    · have hbc : b0 = c0 := by
        have h9 := (hix w).symm.trans (hi0 w)
        injection h9 with h9 _
        injection h9
      subst hbc
      have hi0' := hi0
      exact rpar_ff d L DN b0 w hSN hpos hneg hi0' e1 e2 e3 HLE HIX HBY (Lib.hid ⟨hp.out.1, hp.out.2.1⟩) HNJ (Lib.hid (fun h1 => HGD.out h1 hp.out.1 hp.out.2.1 hp.out.2.2)) C10
  · have hsl := hsl rfl
    clear hsd
    rcases hcase with ⟨e1, hp⟩ | ⟨e1, e2, hp⟩ | ⟨c0, hi0, e1, e2, ⟨e3, e4, hp⟩ | ⟨e3, e4, e5, hp⟩ | ⟨e3, e4, e5, hp⟩ | ⟨e3, hp⟩⟩
    · clear hdl
      go_enter Try.func28, Try.ntmps28
      go_wp2
      refine bodyPost_ret (v := .tuple #[.agg #[.bool false, .slice none 0 0], .bool false]) (by simp [results, Try.results28, go_sem]) rfl ?_
      exact ⟨_, 0, false, rfl, numat_nil _, hp.out, (one_alloc w _).alloc (by simp) _⟩
    · clear hdl
      go_enter Try.func28, Try.ntmps28
      go_wp2
      refine bodyPost_ret (v := .tuple #[.agg #[.bool false, .slice none 0 0], .bool false]) (by simp [results, Try.results28, go_sem]) rfl ?_
      exact ⟨_, 0, false, rfl, numat_nil _, hp.out, (one_alloc w _).alloc (by simp) _⟩
    · clear hdl
      go_enter Try.func28, Try.ntmps28
      go_wp2
      refine bodyPost_ret (v := .tuple #[.agg #[.bool false, .slice none 0 0], .bool false]) (by simp [results, Try.results28, go_sem]) rfl ?_
      exact ⟨_, 0, false, rfl, numat_nil _, hp.out, (one_alloc w _).alloc (by simp) _⟩
    · clear hdl
      go_enter Try.func28, Try.ntmps28
      go_wp2
      refine bodyPost_ret (v := .tuple #[.agg #[.bool false, .slice none 0 0], .bool false]) (by simp [results, Try.results28, go_sem]) rfl ?_
      exact ⟨_, 0, false, rfl, numat_nil _, hp.out, (one_alloc w _).alloc (by simp) _⟩
    · cases e5
    · exact rpar_tf s d L SN DN b0 c0 w hSN hpos hDN hix hneg hsl hi0 e1 e2 e3 HLE HIX HBY (Lib.hid ⟨hp.out.1, hp.out.2.1⟩) HNJ (Lib.hid (fun h1 => HGD.out h1 hp.out.1 hp.out.2.1 hp.out.2.2)) C10
theorem rparse_any (s : ByteArray) (w : World) (hs : s.size ≤ 200) : Calls Try.prog 28 #[.string s] w (RPOut s w) := by
  by_cases h0 : s.size = 0
  · have hb : bl s = [] := List.eq_nil_of_length_eq_zero (by rw [bl_length, h0])
    have hp : Hid (PR (bl s) 0 false) := Lib.hid (.inr ⟨rfl, rfl, fun y hy => by
      obtain ⟨n, d, e, g1, g2, _⟩ := hy
      rw [hb] at e
      cases n <;> simp at e
      rw [e] at g2; simp at g2⟩)
    have he : s.toList.isEmpty = true := by
      have h1 : s.data.toList = [] := List.eq_nil_of_length_eq_zero (by rw [Array.length_toList]; exact h0)
      rw [ByteArray.toList_eq, h1]; rfl
    obtain ⟨SN, hSN⟩ : ∃ n : Int, (s.size : Int) = n := ⟨_, rfl⟩
    have hpos : decide (0 < SN) = false := decide_eq_false (by omega)
    clear h0 hb hs
    go_enter Try.func28, Try.ntmps28
    go_wp2
    refine bodyPost_ret (v := .tuple #[.agg #[.bool false, .slice none 0 0], .bool false]) (by simp [results, Try.results28, go_sem]) rfl ?_
    exact ⟨_, 0, false, rfl, numat_nil _, hp.out, (one_alloc w _).alloc (by simp) _⟩
  · by_cases h45 : (bl s).getD 0 0 = 45
    · exact rparse_some s (s.extract 1 s.size) true w hs (by omega) ⟨fun _ => rfl, fun _ => h45⟩ rfl
    · exact rparse_some s s false w hs (by omega) ⟨fun e => absurd e h45, fun e => by cases e⟩ rfl
end Go.Proofs.Ytngjefoipdcldaa
