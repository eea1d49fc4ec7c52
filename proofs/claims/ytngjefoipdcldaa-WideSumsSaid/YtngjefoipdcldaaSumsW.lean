/- noonmarklaw02.WideSums, walked: for every list of at most a hundred. -/
import Derived.Test.YtngjefoipdcldaaRefU
import Derived.Test.YtngjefoipdcldaaAlive
namespace Go.Proofs.Ytngjefoipdcldaa
open Go.RowKit
set_option linter.unusedVariables false

theorem isum_in (L : List Int) (hb : ∀ x ∈ L, InI x) (hl : L.length ≤ 100) : InW (isum L) := by
  have h := isum_bound L hb L.length (Nat.le_refl _)
  rw [List.take_length] at h
  unfold InW
  omega
theorem same_in (z : Int) (v : Value) (w : World) (hn : NumAt w v z) (hz : InW z) : Calls Try.prog 14 #[wI z, .int .i64 0, v] w (Gives (.bool true) w) := by
  have h := same_any z v w hn (by unfold InW at hz; omega)
  rwa [vW_in hz, eW_in hz] at h
theorem mulW_in {x y : Int} (hx : InI x) (hy : InI y) : InW (x * y) := by
  unfold InI at hx hy
  have h : (x * y).natAbs ≤ 9223372036854775808 * 9223372036854775808 := by
    rw [Int.natAbs_mul]
    exact Nat.mul_le_mul (by omega) (by omega)
  unfold InW
  omega
theorem info_i64 : (Try.prog.info? 2).map (fun i => (i.zero, i.size, i.bytes)) = some (some (.int .i64 0), 1, 8) := by kernel_rfl
set_option maxHeartbeats 400000 in
theorem copyLongs_any (a : Option Addr) (c : Nat) (l : List Int) (w : World) (hr : IntRow w a .i64 l) (ha : a = none → c = 0) (hl : l.length ≤ 1000000) :
    Calls Try.prog 24 #[.slice a l.length c] w fun e w' => ∃ v, e = .returned v ∧ w'.ownsRow w.heap.size 2 1 v l.length (l.map (Value.int .i64)) ∧ Below w.heap.size w w' := by
  obtain ⟨i0, hi, hz0, hz1, hz2⟩ := info_parts info_i64
  have HR := Lib.hid (hr.alloc (Obj.cells #[] 2))
  have HA := Lib.hid ha
  have hc1 : 0 + l.length ≤ maxLen := by unfold maxLen; omega
  have hc2 : (0 + l.length) * 8 ≤ 140737488355328 := by omega
  have hown : Hid ((w.alloc (Obj.cells #[] 2)).ownsRow w.heap.size 2 1 (.slice (some ⟨w.heap.size, 0, none⟩) 0 0) 0 []) := Lib.hid (World.ownsRow_made _ #[] 0 (Nat.le_refl _) (by unfold maxLen; omega) rfl)
  have hbel : Hid (Below w.heap.size w (w.alloc (Obj.cells #[] 2))) := Lib.hid ((Below.refl _ _).alloc (Nat.le_refl _) _)
  clear hr ha
  go_enter Try.func24, Try.ntmps24
  go_wp2_with (at_builtin; refine wpList_appendInts rfl _ _ 42 rfl w 2 i0 (.int .i64 0) 8 Try.underlying42 hi hz0 hz1 hz2 rfl _ 0 [] rfl hown.out .i64 a c l rfl HA.out HR.out hc1 hc2 hbel.out ?_)
  intro v' w1 hown' hbel'
  have Hown' := Lib.hid hown'
  have Hbel' := Lib.hid hbel'
  clear hown' hbel'
  go_wp2
  go_ret
  exact ⟨_, rfl, by simpa using Hown'.out, Hbel'.out⟩
def WSum3 (L : List Int) (w : World) (e : Ending) (w' : World) : Prop := ∃ a c, e = .returned (.slice a L.length c) ∧ IntRow w' a .i64 L ∧ Below w.heap.size w w'
theorem copyL (a : Option Addr) (c : Nat) (l : List Int) (w : World) (hr : IntRow w a .i64 l) (ha : a = none → c = 0) (hl : l.length ≤ 100) : Calls Try.prog 24 #[.slice a l.length c] w (WSum3 l w) := by
  refine (copyLongs_any a c l w hr ha (by omega)).mono ?_
  rintro e w' ⟨v, rfl, hown, hb⟩
  obtain ⟨a', cap, rfl, e2, -, -, -, e6⟩ := IntRow.ownK hown
  exact ⟨a', cap, rfl, e6, hb⟩
set_option maxHeartbeats 16000000 in
theorem sums_walk (x y : Int) (ra : Option Addr) (rc : Nat) (L : List Int) (w : World) (hx : InI x) (hy : InI y) (hr : IntRow w ra .i64 L) (hb : ∀ x ∈ L, InI x) (hl : L.length ≤ 100) (hn : ra = none → rc = 0) :
    Calls Try.prog 4 #[.int .i64 x, .int .i64 y, .slice ra L.length rc] w fun e w' => e = .returned (.bool true) ∧ Below w.heap.size w w' := by
  have COX := Lib.hid (fun W => of_any x W hx)
  have COY := Lib.hid (fun W => of_any y W hy)
  have hux : Hund x := hund_small (by unfold InI at hx; omega)
  have huy : Hund y := hund_small (by unfold InI at hy; omega)
  have CM : Hid (∀ W u v, NumAt W u x → NumAt W v y → Calls Try.prog 19 #[u, v] W (NumOut (x * y) W)) := Lib.hid (fun W u v h1 h2 => num_mul u v _ _ W h1 h2 hux huy)
  have CWX := Lib.hid (fun W => wof_any x W hx)
  have CWT := Lib.hid (fun W => wtimes_any x y W hx hy)
  have hxW : InW x := by unfold InI at hx; unfold InW; omega
  have S1 : Hid (∀ W v, NumAt W v x → Calls Try.prog 14 #[wI x, .int .i64 0, v] W (Gives (.bool true) W)) := Lib.hid (fun W v h => same_in _ v W h hxW)
  have S2 : Hid (∀ W v, NumAt W v (x * y) → Calls Try.prog 14 #[wI (x * y), .int .i64 0, v] W (Gives (.bool true) W)) := Lib.hid (fun W v h => same_in _ v W h (mulW_in hx hy))
  have S3 : Hid (∀ W v, NumAt W v (isum L) → Calls Try.prog 14 #[wI (isum L), .int .i64 0, v] W (Gives (.bool true) W)) := Lib.hid (fun W v h => same_in _ v W h (isum_in L hb hl))
  have CCP : Hid (∀ W, IntRow W ra .i64 L → Calls Try.prog 24 #[.slice ra L.length rc] W (WSum3 L W)) := Lib.hid (fun W h => copyL ra rc L W h hn hl)
  have CWS : Hid (∀ W a c, IntRow W a .i64 L → Calls Try.prog 23 #[.slice a L.length c] W (Gives (wI (isum L)) W)) := Lib.hid (fun W a c h => wsum_any a c L W h hb (by omega))
  have CTT : Hid (∀ W, IntRow W ra .i64 L → Calls Try.prog 25 #[.slice ra L.length rc] W (NumOut (isum L) W)) := Lib.hid (fun W h => total_any ra rc L W h hb hl)
  have hd100 : decide ((100 : Int) < (L.length : Int)) = false := decide_eq_false (by omega)
  obtain ⟨ll, hll⟩ : ∃ l : Int, (L.length : Int) = l := ⟨_, rfl⟩
  rw [hll] at hd100
  obtain ⟨x1, x2, e1, -, -, -, -⟩ := wI_letters x
  obtain ⟨t1, t2, e2, -, -, -, -⟩ := wI_letters (x * y)
  obtain ⟨u1, u2, e3, -, -, -, -⟩ := wI_letters (isum L)
  rw [e1] at CWX S1
  rw [e2] at CWT S2
  rw [e3] at CWS S3
  have HR := Lib.hid hr
  clear hx hy hux huy hxW hr hb hl hn e1 e2 e3
  go_enter Try.func4, Try.ntmps4
  have B0 : Hid (Below w.heap.size w w) := Lib.hid (Below.refl w.heap.size w)
  go_wp2_with fail
  refine (alive_any _).mono ?_
  rintro e1 w1 ⟨rfl, hb1⟩
  have HR : Hid (IntRow w1 _ _ _) := Lib.hid (HR.out.below hb1)
  have B1 : Hid (Below w.heap.size w w1) := Lib.hid (bnext (B0.out) (by have := B0.out.size; first | omega | (simp <;> omega)) hb1)
  clear hb1
  go_wp2_with fail
  refine (COX.out _).mono ?_
  rintro e2 w2 ⟨vx, rfl, hvx, hb2⟩
  have HR : Hid (IntRow w2 _ _ _) := Lib.hid (HR.out.below hb2)
  have B2 : Hid (Below w.heap.size w w2) := Lib.hid (bnext (B1.out) (by have := B1.out.size; first | omega | (simp <;> omega)) hb2)
  clear hb2
  have HX1 := Lib.hid hvx
  clear hvx
  go_wp2_with fail
  refine (COY.out _).mono ?_
  rintro e3 w3 ⟨vy, rfl, hvy, hb3⟩
  have HX1 := Lib.hid (NumAt.below HX1.out hb3)
  have HR : Hid (IntRow w3 _ _ _) := Lib.hid (HR.out.below hb3)
  have B3 : Hid (Below w.heap.size w w3) := Lib.hid (bnext (B2.out) (by have := B2.out.size; first | omega | (simp <;> omega)) hb3)
  clear hb3
  have HY1 := Lib.hid hvy
  clear hvy
  go_wp2_with fail
  refine (CM.out _ vx vy HX1.out HY1.out).mono ?_
  rintro _ w4 ⟨vm, rfl, hm4, hb4⟩
  have HMx := Lib.hid hm4
  obtain ⟨ng, l', d', rfl, ⟨la', lc', rfl, -⟩, -⟩ := hm4
  have HR := Lib.hid (HR.out.below hb4)
  have B4 := Lib.hid (B3.out.trans (hb4.mono B3.out.size))
  clear hb4
  go_wp2
  obtain ⟨V, hV⟩ : ∃ V, w4.alloc (.cells #[.bool ng, .slice la' d'.length lc'] 34) = V := ⟨_, rfl⟩
  have KV : Hid (Kept V.drew w4.heap.size #[.bool ng, .slice la' d'.length lc'] 34) := Lib.hid (by
    have h : Kept V w4.heap.size #[.bool ng, .slice la' d'.length lc'] 34 := by rw [← hV]; exact Kept.new rfl
    exact h)
  have B0 : Hid (Below w.heap.size w V.drew) := Lib.hid (by
    have h : Below w.heap.size w V := by rw [← hV]; exact B4.out.alloc B4.out.size _
    exact below_drewN h 1)
  have HMx : Hid (NumAt V.drew (.agg #[.bool ng, .slice la' d'.length lc']) (x * y)) := Lib.hid (by
    have h : NumAt V (.agg #[.bool ng, .slice la' d'.length lc']) (x * y) := by rw [← hV]; exact HMx.out.below (one_alloc _ _)
    exact h)
  have HR : Hid (IntRow V.drew ra .i64 L) := Lib.hid (by
    have h : IntRow V ra .i64 L := by rw [← hV]; exact HR.out.alloc _
    exact h)
  rw [hV]
  have SS : Hid (Below w.heap.size w V.drew) ∧ V.drew.cell? ⟨w4.heap.size, 0, none⟩ = some (.bool ng) ∧ V.drew.cell? ⟨w4.heap.size, 1, none⟩ = some (.slice la' d'.length lc') := ⟨B0, KV.out.two.1, KV.out.two.2.1⟩
  obtain ⟨q0, q1, q2⟩ := SS
  have SH := Lib.hid (show Hid (Below w.heap.size w V.drew) ∧ _ ∧ _ from ⟨q0, q1, q2⟩)
  have SS := SH.out
  go_region_held3 (fun w' => Hid (Below w.heap.size w w') ∧ w'.cell? ⟨w4.heap.size, 0, none⟩ = some (.bool ng) ∧ w'.cell? ⟨w4.heap.size, 1, none⟩ = some (.slice la' d'.length lc'))
    (first | exact SS | go_keep)
    (first | (go_at_call 21; refine (CWX.out _).mono ?_; rintro _ w21 ⟨rfl, hb21⟩; have SS := keepB2 (a := w) hb21 SS; have HMx := Lib.hid (NumAt.below HMx.out hb21); have HR := Lib.hid (IntRow.below HR.out hb21); (try have hnX := NumAt.below hnX hb21); (try have hnT := NumAt.below hnT hb21)) | (go_at_call 20; refine (COX.out _).mono ?_; rintro _ w22 ⟨vX, rfl, hnX, hb22⟩; have SS := keepB2 (a := w) hb22 SS; have HMx := Lib.hid (NumAt.below HMx.out hb22); have HR := Lib.hid (IntRow.below HR.out hb22); (try have hnT := NumAt.below hnT hb22)) | (go_at_call_of 14 (Value.agg #[Value.int IntKind.i64 u1, Value.int IntKind.u64 u2]); refine (S3.out _ vT hnT).mono ?_; rintro _ w23 ⟨rfl, hb23⟩; have SS := keepB2 (a := w) hb23 SS; have HMx := Lib.hid (NumAt.below HMx.out hb23); have HR := Lib.hid (IntRow.below HR.out hb23); (try have hnX := NumAt.below hnX hb23); (try have hnT := NumAt.below hnT hb23)) | (go_at_call_of 14 (Value.agg #[Value.int IntKind.i64 t1, Value.int IntKind.u64 t2]); refine (S2.out _ _ HMx.out).mono ?_; rintro _ w24 ⟨rfl, hb24⟩; have SS := keepB2 (a := w) hb24 SS; have HMx := Lib.hid (NumAt.below HMx.out hb24); have HR := Lib.hid (IntRow.below HR.out hb24); (try have hnX := NumAt.below hnX hb24); (try have hnT := NumAt.below hnT hb24)) | (go_at_call_of 14 (Value.agg #[Value.int IntKind.i64 x1, Value.int IntKind.u64 x2]); refine (S1.out _ vX hnX).mono ?_; rintro _ w25 ⟨rfl, hb25⟩; have SS := keepB2 (a := w) hb25 SS; have HMx := Lib.hid (NumAt.below HMx.out hb25); have HR := Lib.hid (IntRow.below HR.out hb25); (try have hnX := NumAt.below hnX hb25); (try have hnT := NumAt.below hnT hb25)) | (go_at_call 22; refine (CWT.out _).mono ?_; rintro _ w26 ⟨rfl, hb26⟩; have SS := keepB2 (a := w) hb26 SS; have HMx := Lib.hid (NumAt.below HMx.out hb26); have HR := Lib.hid (IntRow.below HR.out hb26); (try have hnX := NumAt.below hnX hb26); (try have hnT := NumAt.below hnT hb26)) | (go_at_call 24; refine (CCP.out _ HR.out).mono ?_; rintro _ w27 ⟨ca, cc, rfl, hcr, hb27⟩; have SS := keepB2 (a := w) hb27 SS; have HMx := Lib.hid (NumAt.below HMx.out hb27); have HR := Lib.hid (IntRow.below HR.out hb27); (try have hnX := NumAt.below hnX hb27); (try have hnT := NumAt.below hnT hb27)) | (go_at_call 23; refine (CWS.out _ ca cc hcr).mono ?_; rintro _ w28 ⟨rfl, hb28⟩; have SS := keepB2 (a := w) hb28 SS; have HMx := Lib.hid (NumAt.below HMx.out hb28); have HR := Lib.hid (IntRow.below HR.out hb28); (try have hnX := NumAt.below hnX hb28); (try have hnT := NumAt.below hnT hb28)) | (go_at_call 25; refine (CTT.out _ HR.out).mono ?_; rintro _ w29 ⟨vT, rfl, hnT, hb29⟩; have SS := keepB2 (a := w) hb29 SS; have HMx := Lib.hid (NumAt.below HMx.out hb29); have HR := Lib.hid (IntRow.below HR.out hb29); (try have hnX := NumAt.below hnX hb29)))
  all_goals
    go_wp2
    go_ret
    exact ⟨rfl, SS.1.out⟩
end Go.Proofs.Ytngjefoipdcldaa
