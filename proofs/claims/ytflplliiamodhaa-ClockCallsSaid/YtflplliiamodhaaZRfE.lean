import Derived.Test.YtflplliiamodhaaZRfEm
import Derived.StillTailTactics
/- noonmarkref18.Clock.Add: for every clock of up to eight samples. Of gen_rfe.py. -/
namespace Go.Proofs.Ytflplliiamodhaa
open Go.RowKit
set_option linter.unusedVariables false
set_option linter.unusedSimpArgs false

def RdCut (g : Nat) (c : Ck) (L : List Sm) (sa sg ss sc : Int) (w : World) (u : Value) (wx : World) : Prop :=
  ∃ b cap', Hid (RkO wx g (some ⟨b, 0, none⟩) cap' { c with L := L } ∧ KpC g noV w wx ∧ w.heap.size ≤ b ∧ Kept wx w.heap.size #[.int .i64 sa, .int .i64 sg, .int .i64 ss, .int .i64 sc] 35 ∧ L.length ≤ cap')
def R13 (v0 : World) (er : Int) (p e : Value) (wx : World) : Prop := ∃ k, p = .pointer (some ⟨k, 0, none⟩) ∧ e = .int .i64 er ∧ Hid (Below v0.heap.size v0 wx)
theorem slice_tl3 (b n c : Nat) (hn : 1 ≤ n) (hc : 2 ≤ c) (W : World) : (Instr.slice 79 (.slice (some ⟨b, 0, none⟩) n c) (some (.int .i64 1)) none none).run Try.prog W = .ok (.slice (some ⟨b, 4, none⟩) (n - 1) (c - 1)) W := by
  have h2 : (1 : Int) ≤ (n : Int) := by omega
  have h3 : ¬ c = 1 := by omega
  simp [go_sem, h2, h3, sliced, Try.sizeOf35, Addr.add]
set_option maxHeartbeats 8000000 in
set_option maxRecDepth 100000 in
theorem rkadd_any (g : Nat) (a : Option Addr) (cap : Nat) (c : Ck) (sa sg ss sc : Int) (w : World) (h : RkO w g a cap c) (hl : c.L.length ≤ 8) (hs : 0 ≤ c.streak ∧ c.streak ≤ 1000) (hag : ∀ b o, a = some ⟨b, o, none⟩ → b ≠ g) : Calls Try.prog 13 #[.pointer (some ⟨g, 0, none⟩), .agg #[.int .i64 sa, .int .i64 sg, .int .i64 ss, .int .i64 sc]] w (RkAddOut g a c (sa, sg, ss, sc) w) := by
  obtain ⟨i0, hi, hz0, hz1, hz2⟩ := info_parts2 info_sm3
  have CR := Lib.hid (rrgt_any sa sg ss sc)
  obtain ⟨W, hW⟩ : ∃ W, w.alloc (.cells #[.int .i64 sa, .int .i64 sg, .int .i64 ss, .int .i64 sc] 35) = W := ⟨_, rfl⟩
  have K0 : Hid (Kept W w.heap.size #[.int .i64 sa, .int .i64 sg, .int .i64 ss, .int .i64 sc] 35) := Lib.hid (by rw [← hW]; exact Kept.new rfl)
  have B0 : Hid (Below w.heap.size w W) := Lib.hid (by rw [← hW]; exact one_alloc _ _)
  have HW := Lib.hid hW
  have HGL : Hid (g < w.heap.size) := Lib.hid h.1.lt
  have HO := Lib.hid h
  have HAG := Lib.hid hag
  obtain ⟨x1, x2, x3, x4, -⟩ := K0.out.four
  have HS := Lib.hid hs
  have HLL := Lib.hid hl
  clear hW h hl hs hag
  cases hr : rgtS (sa, sg, ss, sc)
  · have HNR := hr
    have F : Hid (∀ W', Below w.heap.size w W' → RkAddOut g a c (sa, sg, ss, sc) w (.returned (.int .i64 10)) W') := Lib.hid fun W' hb => ⟨a, cap, by rw [addC_no hr], by rw [addC_no hr]; exact HO.out.below hb, KpC.below hb, (.inl ⟨hr, rfl⟩), HAG.out⟩
    rw [hr] at CR
    clear hr
    go_enter Try.func13, Try.ntmps13
    go_wp2_with fail
    rw [HW.out]
    refine (CR.out _).mono ?_
    rintro _ w1 ⟨rfl, b1⟩
    have B1 := Lib.hid (bnext B0.out B0.out.size b1)
    clear b1
    go_wp2
    go_ret
    exact F.out _ B1.out
  · have HR := Lib.hid hr
    rw [hr] at CR
    clear hr
    go_enter Try.func13, Try.ntmps13
    go_wp2_with fail
    rw [HW.out]
    refine (CR.out _).mono ?_
    rintro _ w1 ⟨rfl, b1⟩
    have B1 := Lib.hid (bnext B0.out B0.out.size b1)
    have K1 := Lib.hid (K0.out.next b1)
    have H1 := Lib.hid (HO.out.below B1.out)
    clear b1 x1 x2 x3 x4 K0 B0 HW CR
    go_upto_region 3 with fail
    go_cut [19] from 10 to 21 (fun u wx => RdCut g c (c.L ++ [(sa, sg, ss, sc)]) sa sg ss sc w u wx)
    case first =>
      have hb1 : 0 + c.L.length ≤ maxLen := by have := HLL.out; unfold maxLen; omega
      have hb2 : (0 + c.L.length) * 32 ≤ 140737488355328 := by have := HLL.out; omega
      have hb3 : 0 + c.L.length + 1 ≤ maxLen := by have := HLL.out; unfold maxLen; omega
      have hb4 : (0 + c.L.length + 1) * 32 ≤ 140737488355328 := by have := HLL.out; omega
      have B1d : Hid (Below w.heap.size w w1.drew) := Lib.hid B1.out.drew
      have K1d : Hid (Kept w1.drew w.heap.size #[.int .i64 sa, .int .i64 sg, .int .i64 ss, .int .i64 sc] 35) := Lib.hid K1.out
      have H1d : Hid (RkO w1.drew g a cap c) := Lib.hid H1.out
      obtain ⟨k1, k2, k3, k4, -⟩ := K1d.out.four
      refine wp_region_held_drew (S := fun w' => w'.cell? ⟨w.heap.size, 0, none⟩ = some (.int .i64 sa) ∧ w'.cell? ⟨w.heap.size, 1, none⟩ = some (.int .i64 sg) ∧ w'.cell? ⟨w.heap.size, 2, none⟩ = some (.int .i64 ss) ∧ w'.cell? ⟨w.heap.size, 3, none⟩ = some (.int .i64 sc)) (by kernel_rfl) ⟨k1, k2, k3, k4⟩ (fun hHeld => ?_)
      clear k1 k2 k3 k4
      generalize w1.drew = v2 at *
      have GV : Hid (w.heap.size < v2.heap.size) := Lib.hid K1d.out.lt
      have FIN : Hid (∀ b n cap' W, W.ownsRow v2.heap.size 35 4 (.slice (some ⟨b, 0, none⟩) n cap') (0 + c.L.length + 1) (cells4 c.L ++ (#[.int .i64 sa, .int .i64 sg, .int .i64 ss, .int .i64 sc] : Array Value).toList) → Below v2.heap.size v2 W → ∀ u, RdCut g c (c.L ++ [(sa, sg, ss, sc)]) sa sg ss sc w u (W.setCell ⟨g, 4, none⟩ (.slice (some ⟨b, 0, none⟩) n cap'))) := Lib.hid (by
        intro b n cap' W ho hb u
        have ho2 : W.ownsRow v2.heap.size 35 4 (.slice (some ⟨b, 0, none⟩) n cap') (c.L.length + 1) (cells4 (c.L ++ [(sa, sg, ss, sc)])) := by
          rw [Nat.zero_add] at ho
          rw [cells4_append, cells4_one]
          exact ho
        obtain ⟨a', c', e, hlen, hle, -, -, hq⟩ := QuadRow.own (L := c.L ++ [(sa, sg, ss, sc)]) ho2
        cases e
        have hbb : v2.heap.size ≤ b := (ho.lt b rfl).1
        have nb : ∀ b' o, (some (⟨b, 0, none⟩ : Addr)) = some ⟨b', o, none⟩ → b' ≠ g := fun b' o e => by
          cases e
          have := HGL.out; have := GV.out; omega
        refine ⟨b, cap', Lib.hid ⟨RkO.setRow ((H1d.out.below hb).1) hlen hq (fun e => by cases e) nb, ?_, by have := GV.out; omega, (K1d.out.next hb).far (by have := HGL.out; simp; omega) _, by simp; omega⟩⟩
        exact ((KpC.below B1d.out).step hb).set 4 _)
      have Bz : Hid (Below v2.heap.size v2 v2) := Lib.hid (Below.refl _ _)
      refine wpAnyH_take (i := 0) (oi := ({ dst := some 10, op := Op.move (Operand.tmp 0), type := 28, pos := "ref.go:97", after := #[], guard := none } : Oper)) (v := ?_) rfl (by kernel_rfl) (by kernel_rfl) (by kernel_rfl) (fun _ _ _ h => h) (Or.inl ⟨by rfl, ?_⟩) hHeld ?_
      rotate_left
      · ((intro w hSw; obtain ⟨s1, s2, s3, s4⟩ := hSw; go_simp); (try with_reducible rfl))
      (try simp only [Act.put, List.setIfInBounds_toArray, List.set_cons_zero, List.set_cons_succ])
      refine wpAnyH_take (i := 2) (oi := ({ dst := some 12, op := Op.move (Operand.tmp 0), type := 28, pos := "ref.go:97", after := #[], guard := none } : Oper)) (v := ?_) rfl (by kernel_rfl) (by kernel_rfl) (by kernel_rfl) (fun _ _ _ h => h) (Or.inl ⟨by rfl, ?_⟩) hHeld ?_
      rotate_left
      · ((intro w hSw; obtain ⟨s1, s2, s3, s4⟩ := hSw; go_simp); (try with_reducible rfl))
      (try simp only [Act.put, List.setIfInBounds_toArray, List.set_cons_zero, List.set_cons_succ])
      refine wpAnyH_take (i := 3) (oi := ({ dst := some 13, op := Op.nilCheck (Operand.tmp 12), type := 0, pos := "ref.go:97", after := #[{ on := 2, ground := Ground.data }], guard := none } : Oper)) (v := ?_) rfl (by kernel_rfl) (by kernel_rfl) (by kernel_rfl) (fun _ _ _ h => h) (Or.inl ⟨by rfl, ?_⟩) hHeld ?_
      rotate_left
      · ((intro w hSw; obtain ⟨s1, s2, s3, s4⟩ := hSw; go_simp); (try with_reducible rfl))
      (try simp only [Act.put, List.setIfInBounds_toArray, List.set_cons_zero, List.set_cons_succ])
      refine wpAnyH_take (i := 4) (oi := ({ dst := some 14, op := Op.fieldAddr 81 (Operand.tmp 13) 4, type := 0, pos := "ref.go:97", after := #[{ on := 3, ground := Ground.data }], guard := none } : Oper)) (v := ?_) rfl (by kernel_rfl) (by kernel_rfl) (by kernel_rfl) (fun _ _ _ h => h) (Or.inl ⟨by rfl, ?_⟩) hHeld ?_
      rotate_left
      · ((intro w hSw; obtain ⟨s1, s2, s3, s4⟩ := hSw; go_simp); (try with_reducible rfl))
      (try simp only [Act.put, List.setIfInBounds_toArray, List.set_cons_zero, List.set_cons_succ])
      refine wpAnyH_take (i := 7) (oi := ({ dst := some 17, op := Op.load 35 (Operand.tmp 3), type := 35, pos := "ref.go:97", after := #[], guard := none } : Oper)) (v := ?_) rfl (by kernel_rfl) (by kernel_rfl) (by kernel_rfl) (fun _ _ _ h => h) (Or.inl ⟨by rfl, ?_⟩) hHeld ?_
      rotate_left
      · ((intro w hSw; obtain ⟨s1, s2, s3, s4⟩ := hSw; go_simp); (try with_reducible rfl))
      (try simp only [Act.put, List.setIfInBounds_toArray, List.set_cons_zero, List.set_cons_succ])
      refine wpAnyH_ready (rs := [1, 5, 8]) (by kernel_rfl) (by simp) ?_
      refine AllReadyH.cons (o := ({ dst := some 11, op := Op.buildSlice 79 0 #[], type := 79, pos := "ref.go:97", after := #[], guard := none } : Oper)) rfl (fun K hK => ?_) (AllReadyH.cons (o := ({ dst := some 15, op := Op.load 79 (Operand.tmp 14), type := 79, pos := "ref.go:97", after := #[{ on := 4, ground := Ground.data }], guard := none } : Oper)) rfl (fun K hK => ?_) (AllReadyH.cons (o := ({ dst := some 18, op := Op.buildSlice 79 1 #[(0, Operand.tmp 17)], type := 79, pos := "ref.go:97", after := #[{ on := 7, ground := Ground.data }], guard := none } : Oper)) rfl (fun K hK => ?_) (AllReadyH.nil)))
      · go_simp
        have B1 := Lib.hid (Bz.out.alloc Bz.out.size (.cells #[] 35))
        have O1 : Hid ((v2.alloc (.cells #[] 35)).ownsRow v2.heap.size 35 4 (.slice (some ⟨v2.heap.size, 0, none⟩) 0 0) 0 []) := Lib.hid (by
          have h := World.ownsRow_made (base := v2.heap.size) (e := 35) (size := 4) v2 #[] 0 (Bz.out.size) (by unfold maxLen; omega) rfl
          (try simp only [World.heap_alloc_size] at h)
          first | exact h | simpa using h)
        have S1 := Lib.hid (K1d.out.next B1.out)
        refine hK.out _ _ ?_ (fun hHeld => ?_)
        · exact ⟨S1.out.four.1, S1.out.four.2.1, S1.out.four.2.2.1, S1.out.four.2.2.2.1⟩
        clear hK K
        (try simp only [Act.put, List.setIfInBounds_toArray, List.set_cons_zero, List.set_cons_succ])
        refine wpAnyH_ready (rs := [5, 8]) (by kernel_rfl) (by simp) ?_
        refine AllReadyH.cons (o := ({ dst := some 15, op := Op.load 79 (Operand.tmp 14), type := 79, pos := "ref.go:97", after := #[{ on := 4, ground := Ground.data }], guard := none } : Oper)) rfl (fun K hK => ?_) (AllReadyH.cons (o := ({ dst := some 18, op := Op.buildSlice 79 1 #[(0, Operand.tmp 17)], type := 79, pos := "ref.go:97", after := #[{ on := 7, ground := Ground.data }], guard := none } : Oper)) rfl (fun K hK => ?_) (AllReadyH.nil))
        · have q2 := (H1d.out.below B1.out).1.five
          obtain ⟨-, -, -, -, x5, -⟩ := q2
          go_simp
          clear x5
          refine hK.out _ _ ?_ (fun hHeld => ?_)
          · exact ⟨S1.out.four.1, S1.out.four.2.1, S1.out.four.2.2.1, S1.out.four.2.2.2.1⟩
          clear hK K
          (try simp only [Act.put, List.setIfInBounds_toArray, List.set_cons_zero, List.set_cons_succ])
          refine wpAnyH_ready (rs := [6, 8]) (by kernel_rfl) (by simp) ?_
          refine AllReadyH.cons (o := ({ dst := some 16, op := Op.call { callee := Callee.builtin Builtin.append, args := #[Operand.tmp 11, Operand.tmp 15], argTypes := #[79, 79] }, type := 79, pos := "ref.go:97", after := #[{ on := 1, ground := Ground.data }, { on := 5, ground := Ground.data }], guard := none } : Oper)) rfl (fun K hK => ?_) (AllReadyH.cons (o := ({ dst := some 18, op := Op.buildSlice 79 1 #[(0, Operand.tmp 17)], type := 79, pos := "ref.go:97", after := #[{ on := 7, ground := Ground.data }], guard := none } : Oper)) rfl (fun K hK => ?_) (AllReadyH.nil))
          · rw [if_pos (by rfl)]
            refine wp_appendQuads _ _ 79 rfl v2 35 i0 (.agg #[.int .i64 0, .int .i64 0, .int .i64 0, .int .i64 0]) 32 Try.underlying79 hi hz0 hz1 hz2 rfl _ 0 [] rfl O1.out a cap c.L rfl HO.out.2.2 (H1d.out.below B1.out).2.1 hb1 hb2 B1.out ?_
            intro v3x u3 o3 b3 _ gr3
            have O3 := Lib.hid o3
            have B3 := Lib.hid b3
            have S3 := Lib.hid (K1d.out.next B3.out)
            clear o3 b3 gr3
            refine hK.out _ _ ?_ (fun hHeld => ?_)
            · exact ⟨S3.out.four.1, S3.out.four.2.1, S3.out.four.2.2.1, S3.out.four.2.2.2.1⟩
            clear hK K
            (try simp only [Act.put, List.setIfInBounds_toArray, List.set_cons_zero, List.set_cons_succ])
            refine wpAnyH_ready (rs := [8]) (by kernel_rfl) (by simp) ?_
            refine AllReadyH.cons (o := ({ dst := some 18, op := Op.buildSlice 79 1 #[(0, Operand.tmp 17)], type := 79, pos := "ref.go:97", after := #[{ on := 7, ground := Ground.data }], guard := none } : Oper)) rfl (fun K hK => ?_) (AllReadyH.nil)
            go_simp
            have B4 := Lib.hid (B3.out.alloc B3.out.size (.cells #[.int .i64 sa, .int .i64 sg, .int .i64 ss, .int .i64 sc] 35))
            have X4 : Hid (Kept (u3.alloc (.cells #[.int .i64 sa, .int .i64 sg, .int .i64 ss, .int .i64 sc] 35)) (u3.heap.size) #[.int .i64 sa, .int .i64 sg, .int .i64 ss, .int .i64 sc] 35) := Lib.hid (Kept.new (by simp))
            have S4 := Lib.hid (K1d.out.next B4.out)
            have D4 : Hid (∀ k, (Value.ownBlock v3x) = some k → k ≠ u3.heap.size) := Lib.hid fun k hk => by
              have h1 := (O3.out.lt k hk).2
              (try simp at h1)
              omega
            have O4 := Lib.hid (O3.out.alloc (.cells #[.int .i64 sa, .int .i64 sg, .int .i64 ss, .int .i64 sc] 35))
            refine hK.out _ _ ?_ (fun hHeld => ?_)
            · exact ⟨S4.out.four.1, S4.out.four.2.1, S4.out.four.2.2.1, S4.out.four.2.2.2.1⟩
            clear hK K
            (try simp only [Act.put, List.setIfInBounds_toArray, List.set_cons_zero, List.set_cons_succ])
            refine wpAnyH_ready (rs := [9]) (by kernel_rfl) (by simp) ?_
            refine AllReadyH.cons (o := ({ dst := some 19, op := Op.call { callee := Callee.builtin Builtin.append, args := #[Operand.tmp 16, Operand.tmp 18], argTypes := #[79, 79] }, type := 79, pos := "ref.go:97", after := #[{ on := 6, ground := Ground.data }, { on := 8, ground := Ground.data }, { on := 6, ground := Ground.chain }], guard := none } : Oper)) rfl (fun K hK => ?_) (AllReadyH.nil)
            rw [if_pos (by rfl)]
            refine wp_appendBlk _ _ 79 rfl v2.heap.size 35 i0 (.agg #[.int .i64 0, .int .i64 0, .int .i64 0, .int .i64 0]) 4 32 Try.underlying79 hi hz0 hz1 hz2 rfl (by decide) _ (0 + c.L.length) ([] ++ cells4 c.L) rfl O4.out _ 1 #[.int .i64 sa, .int .i64 sg, .int .i64 ss, .int .i64 sc] 35 rfl X4.out rfl four_cells hb3 hb4 B4.out.size ?_
            intro v9x u5 o5 gr5
            have B5 := Lib.hid (B4.out.grown gr5 B4.out.size (fun k hk => (O4.out.lt k hk).1))
            have S5 := Lib.hid (K1d.out.next B5.out)
            obtain ⟨b9, c9, rfl⟩ : ∃ b cc, v9x = .slice (some ⟨b, 0, none⟩) (0 + c.L.length + 1) cc := by
              rcases o5.2 with h0 | ⟨b, cc, cur, e, _⟩
              · exact absurd h0.2 (by omega)
              · exact ⟨b, cc, e⟩
            have FF := Lib.hid (FIN.out b9 _ c9 u5 (by simpa using o5) B5.out)
            have HK := Lib.hid (H1d.out.below B5.out).1
            clear o5 gr5
            refine hK.out _ _ ?_ (fun hHeld => ?_)
            · exact ⟨S5.out.four.1, S5.out.four.2.1, S5.out.four.2.2.1, S5.out.four.2.2.2.1⟩
            clear hK K
            (try simp only [Act.put, List.setIfInBounds_toArray, List.set_cons_zero, List.set_cons_succ])
            refine wpAnyH_take (i := 10) (oi := ({ dst := some 20, op := Op.nilCheck (Operand.tmp 10), type := 0, pos := "ref.go:97", after := #[{ on := 0, ground := Ground.data }, { on := 0, ground := Ground.phase }, { on := 1, ground := Ground.phase }, { on := 2, ground := Ground.phase }, { on := 3, ground := Ground.phase }, { on := 4, ground := Ground.phase }, { on := 5, ground := Ground.phase }, { on := 6, ground := Ground.phase }, { on := 7, ground := Ground.phase }, { on := 8, ground := Ground.phase }, { on := 9, ground := Ground.phase }], guard := none } : Oper)) (v := ?_) rfl (by kernel_rfl) (by kernel_rfl) (by kernel_rfl) (fun _ _ _ h => h) (Or.inl ⟨by rfl, ?_⟩) hHeld ?_
            rotate_left
            · ((intro w hSw; obtain ⟨s1, s2, s3, s4⟩ := hSw; go_simp); (try with_reducible rfl))
            (try simp only [Act.put, List.setIfInBounds_toArray, List.set_cons_zero, List.set_cons_succ])
            refine wpAnyH_take (i := 11) (oi := ({ dst := some 21, op := Op.fieldAddr 81 (Operand.tmp 20) 4, type := 0, pos := "ref.go:97", after := #[{ on := 10, ground := Ground.data }, { on := 0, ground := Ground.phase }, { on := 1, ground := Ground.phase }, { on := 2, ground := Ground.phase }, { on := 3, ground := Ground.phase }, { on := 4, ground := Ground.phase }, { on := 5, ground := Ground.phase }, { on := 6, ground := Ground.phase }, { on := 7, ground := Ground.phase }, { on := 8, ground := Ground.phase }, { on := 9, ground := Ground.phase }], guard := none } : Oper)) (v := ?_) rfl (by kernel_rfl) (by kernel_rfl) (by kernel_rfl) (fun _ _ _ h => h) (Or.inl ⟨by rfl, ?_⟩) hHeld ?_
            rotate_left
            · ((intro w hSw; obtain ⟨s1, s2, s3, s4⟩ := hSw; go_simp); (try with_reducible rfl))
            (try simp only [Act.put, List.setIfInBounds_toArray, List.set_cons_zero, List.set_cons_succ])
            refine wpAnyH_ready (rs := [12]) (by kernel_rfl) (by simp) ?_
            refine AllReadyH.cons (o := ({ dst := none, op := Op.store 79 (Operand.tmp 21) (Operand.tmp 19), type := 0, pos := "ref.go:97", after := #[{ on := 11, ground := Ground.data }, { on := 9, ground := Ground.data }, { on := 9, ground := Ground.chain }, { on := 0, ground := Ground.phase }, { on := 1, ground := Ground.phase }, { on := 2, ground := Ground.phase }, { on := 3, ground := Ground.phase }, { on := 4, ground := Ground.phase }, { on := 5, ground := Ground.phase }, { on := 6, ground := Ground.phase }, { on := 7, ground := Ground.phase }, { on := 8, ground := Ground.phase }, { on := 9, ground := Ground.phase }], guard := none } : Oper)) rfl (fun K hK => ?_) (AllReadyH.nil)
            obtain ⟨x1, x2, x3, x4, x5, f1, f2, f3, f4, f5, -⟩ := HK.out.five
            go_simp
            clear x1 x2 x3 x4 x5 f1 f2 f3 f4 f5
            refine hK.out _ _ ?_ (fun hHeld => ?_)
            · exact ⟨(S5.out.far (p := ⟨g, 4, none⟩) (by have := HGL.out; simp; omega) _).four.1, (S5.out.far (p := ⟨g, 4, none⟩) (by have := HGL.out; simp; omega) _).four.2.1, (S5.out.far (p := ⟨g, 4, none⟩) (by have := HGL.out; simp; omega) _).four.2.2.1, (S5.out.far (p := ⟨g, 4, none⟩) (by have := HGL.out; simp; omega) _).four.2.2.2.1⟩
            clear hK K
            (try simp only [Act.put, List.setIfInBounds_toArray, List.set_cons_zero, List.set_cons_succ])
            refine wpAnyH_done (by kernel_rfl) ?_ _
            clear hHeld
            go_wp2_with fail
            go_meet
            case rel => exact FF.out _
          · go_simp
            have B3 := Lib.hid (B1.out.alloc B1.out.size (.cells #[.int .i64 sa, .int .i64 sg, .int .i64 ss, .int .i64 sc] 35))
            have X3 : Hid (Kept ((v2.alloc (.cells #[] 35)).alloc (.cells #[.int .i64 sa, .int .i64 sg, .int .i64 ss, .int .i64 sc] 35)) (v2.heap.size + 1) #[.int .i64 sa, .int .i64 sg, .int .i64 ss, .int .i64 sc] 35) := Lib.hid (Kept.new (by simp))
            have S3 := Lib.hid (K1d.out.next B3.out)
            have D3 : Hid (∀ k, (Value.ownBlock (.slice (some ⟨v2.heap.size, 0, none⟩) 0 0)) = some k → k ≠ v2.heap.size + 1) := Lib.hid fun k hk => by
              have h1 := (O1.out.lt k hk).2
              (try simp at h1)
              omega
            have O3 := Lib.hid (O1.out.alloc (.cells #[.int .i64 sa, .int .i64 sg, .int .i64 ss, .int .i64 sc] 35))
            refine hK.out _ _ ?_ (fun hHeld => ?_)
            · exact ⟨S3.out.four.1, S3.out.four.2.1, S3.out.four.2.2.1, S3.out.four.2.2.2.1⟩
            clear hK K
            (try simp only [Act.put, List.setIfInBounds_toArray, List.set_cons_zero, List.set_cons_succ])
            refine wpAnyH_ready (rs := [6]) (by kernel_rfl) (by simp) ?_
            refine AllReadyH.cons (o := ({ dst := some 16, op := Op.call { callee := Callee.builtin Builtin.append, args := #[Operand.tmp 11, Operand.tmp 15], argTypes := #[79, 79] }, type := 79, pos := "ref.go:97", after := #[{ on := 1, ground := Ground.data }, { on := 5, ground := Ground.data }], guard := none } : Oper)) rfl (fun K hK => ?_) (AllReadyH.nil)
            rw [if_pos (by rfl)]
            refine wp_appendQuads _ _ 79 rfl v2 35 i0 (.agg #[.int .i64 0, .int .i64 0, .int .i64 0, .int .i64 0]) 32 Try.underlying79 hi hz0 hz1 hz2 rfl _ 0 [] rfl O3.out a cap c.L rfl HO.out.2.2 (H1d.out.below B3.out).2.1 hb1 hb2 B3.out ?_
            intro v4x u4 o4 b4 _ gr4
            have O4 := Lib.hid o4
            have B4 := Lib.hid b4
            have S4 := Lib.hid (K1d.out.next B4.out)
            have X4 := Lib.hid (kept_grown X3.out gr4 (fun e => D3.out _ (show Value.ownBlock (.slice (some ⟨v2.heap.size, 0, none⟩) 0 0) = some (v2.heap.size + 1) from e) rfl))
            clear o4 b4 gr4
            refine hK.out _ _ ?_ (fun hHeld => ?_)
            · exact ⟨S4.out.four.1, S4.out.four.2.1, S4.out.four.2.2.1, S4.out.four.2.2.2.1⟩
            clear hK K
            (try simp only [Act.put, List.setIfInBounds_toArray, List.set_cons_zero, List.set_cons_succ])
            refine wpAnyH_ready (rs := [9]) (by kernel_rfl) (by simp) ?_
            refine AllReadyH.cons (o := ({ dst := some 19, op := Op.call { callee := Callee.builtin Builtin.append, args := #[Operand.tmp 16, Operand.tmp 18], argTypes := #[79, 79] }, type := 79, pos := "ref.go:97", after := #[{ on := 6, ground := Ground.data }, { on := 8, ground := Ground.data }, { on := 6, ground := Ground.chain }], guard := none } : Oper)) rfl (fun K hK => ?_) (AllReadyH.nil)
            rw [if_pos (by rfl)]
            refine wp_appendBlk _ _ 79 rfl v2.heap.size 35 i0 (.agg #[.int .i64 0, .int .i64 0, .int .i64 0, .int .i64 0]) 4 32 Try.underlying79 hi hz0 hz1 hz2 rfl (by decide) _ (0 + c.L.length) ([] ++ cells4 c.L) rfl O4.out _ 1 #[.int .i64 sa, .int .i64 sg, .int .i64 ss, .int .i64 sc] 35 rfl X4.out rfl four_cells hb3 hb4 B4.out.size ?_
            intro v9x u5 o5 gr5
            have B5 := Lib.hid (B4.out.grown gr5 B4.out.size (fun k hk => (O4.out.lt k hk).1))
            have S5 := Lib.hid (K1d.out.next B5.out)
            obtain ⟨b9, c9, rfl⟩ : ∃ b cc, v9x = .slice (some ⟨b, 0, none⟩) (0 + c.L.length + 1) cc := by
              rcases o5.2 with h0 | ⟨b, cc, cur, e, _⟩
              · exact absurd h0.2 (by omega)
              · exact ⟨b, cc, e⟩
            have FF := Lib.hid (FIN.out b9 _ c9 u5 (by simpa using o5) B5.out)
            have HK := Lib.hid (H1d.out.below B5.out).1
            clear o5 gr5
            refine hK.out _ _ ?_ (fun hHeld => ?_)
            · exact ⟨S5.out.four.1, S5.out.four.2.1, S5.out.four.2.2.1, S5.out.four.2.2.2.1⟩
            clear hK K
            (try simp only [Act.put, List.setIfInBounds_toArray, List.set_cons_zero, List.set_cons_succ])
            refine wpAnyH_take (i := 10) (oi := ({ dst := some 20, op := Op.nilCheck (Operand.tmp 10), type := 0, pos := "ref.go:97", after := #[{ on := 0, ground := Ground.data }, { on := 0, ground := Ground.phase }, { on := 1, ground := Ground.phase }, { on := 2, ground := Ground.phase }, { on := 3, ground := Ground.phase }, { on := 4, ground := Ground.phase }, { on := 5, ground := Ground.phase }, { on := 6, ground := Ground.phase }, { on := 7, ground := Ground.phase }, { on := 8, ground := Ground.phase }, { on := 9, ground := Ground.phase }], guard := none } : Oper)) (v := ?_) rfl (by kernel_rfl) (by kernel_rfl) (by kernel_rfl) (fun _ _ _ h => h) (Or.inl ⟨by rfl, ?_⟩) hHeld ?_
            rotate_left
            · ((intro w hSw; obtain ⟨s1, s2, s3, s4⟩ := hSw; go_simp); (try with_reducible rfl))
            (try simp only [Act.put, List.setIfInBounds_toArray, List.set_cons_zero, List.set_cons_succ])
            refine wpAnyH_take (i := 11) (oi := ({ dst := some 21, op := Op.fieldAddr 81 (Operand.tmp 20) 4, type := 0, pos := "ref.go:97", after := #[{ on := 10, ground := Ground.data }, { on := 0, ground := Ground.phase }, { on := 1, ground := Ground.phase }, { on := 2, ground := Ground.phase }, { on := 3, ground := Ground.phase }, { on := 4, ground := Ground.phase }, { on := 5, ground := Ground.phase }, { on := 6, ground := Ground.phase }, { on := 7, ground := Ground.phase }, { on := 8, ground := Ground.phase }, { on := 9, ground := Ground.phase }], guard := none } : Oper)) (v := ?_) rfl (by kernel_rfl) (by kernel_rfl) (by kernel_rfl) (fun _ _ _ h => h) (Or.inl ⟨by rfl, ?_⟩) hHeld ?_
            rotate_left
            · ((intro w hSw; obtain ⟨s1, s2, s3, s4⟩ := hSw; go_simp); (try with_reducible rfl))
            (try simp only [Act.put, List.setIfInBounds_toArray, List.set_cons_zero, List.set_cons_succ])
            refine wpAnyH_ready (rs := [12]) (by kernel_rfl) (by simp) ?_
            refine AllReadyH.cons (o := ({ dst := none, op := Op.store 79 (Operand.tmp 21) (Operand.tmp 19), type := 0, pos := "ref.go:97", after := #[{ on := 11, ground := Ground.data }, { on := 9, ground := Ground.data }, { on := 9, ground := Ground.chain }, { on := 0, ground := Ground.phase }, { on := 1, ground := Ground.phase }, { on := 2, ground := Ground.phase }, { on := 3, ground := Ground.phase }, { on := 4, ground := Ground.phase }, { on := 5, ground := Ground.phase }, { on := 6, ground := Ground.phase }, { on := 7, ground := Ground.phase }, { on := 8, ground := Ground.phase }, { on := 9, ground := Ground.phase }], guard := none } : Oper)) rfl (fun K hK => ?_) (AllReadyH.nil)
            obtain ⟨x1, x2, x3, x4, x5, f1, f2, f3, f4, f5, -⟩ := HK.out.five
            go_simp
            clear x1 x2 x3 x4 x5 f1 f2 f3 f4 f5
            refine hK.out _ _ ?_ (fun hHeld => ?_)
            · exact ⟨(S5.out.far (p := ⟨g, 4, none⟩) (by have := HGL.out; simp; omega) _).four.1, (S5.out.far (p := ⟨g, 4, none⟩) (by have := HGL.out; simp; omega) _).four.2.1, (S5.out.far (p := ⟨g, 4, none⟩) (by have := HGL.out; simp; omega) _).four.2.2.1, (S5.out.far (p := ⟨g, 4, none⟩) (by have := HGL.out; simp; omega) _).four.2.2.2.1⟩
            clear hK K
            (try simp only [Act.put, List.setIfInBounds_toArray, List.set_cons_zero, List.set_cons_succ])
            refine wpAnyH_done (by kernel_rfl) ?_ _
            clear hHeld
            go_wp2_with fail
            go_meet
            case rel => exact FF.out _
        · go_simp
          have B2 := Lib.hid (B1.out.alloc B1.out.size (.cells #[.int .i64 sa, .int .i64 sg, .int .i64 ss, .int .i64 sc] 35))
          have X2 : Hid (Kept ((v2.alloc (.cells #[] 35)).alloc (.cells #[.int .i64 sa, .int .i64 sg, .int .i64 ss, .int .i64 sc] 35)) (v2.heap.size + 1) #[.int .i64 sa, .int .i64 sg, .int .i64 ss, .int .i64 sc] 35) := Lib.hid (Kept.new (by simp))
          have S2 := Lib.hid (K1d.out.next B2.out)
          have D2 : Hid (∀ k, (Value.ownBlock (.slice (some ⟨v2.heap.size, 0, none⟩) 0 0)) = some k → k ≠ v2.heap.size + 1) := Lib.hid fun k hk => by
            have h1 := (O1.out.lt k hk).2
            (try simp at h1)
            omega
          have O2 := Lib.hid (O1.out.alloc (.cells #[.int .i64 sa, .int .i64 sg, .int .i64 ss, .int .i64 sc] 35))
          refine hK.out _ _ ?_ (fun hHeld => ?_)
          · exact ⟨S2.out.four.1, S2.out.four.2.1, S2.out.four.2.2.1, S2.out.four.2.2.2.1⟩
          clear hK K
          (try simp only [Act.put, List.setIfInBounds_toArray, List.set_cons_zero, List.set_cons_succ])
          refine wpAnyH_ready (rs := [5]) (by kernel_rfl) (by simp) ?_
          refine AllReadyH.cons (o := ({ dst := some 15, op := Op.load 79 (Operand.tmp 14), type := 79, pos := "ref.go:97", after := #[{ on := 4, ground := Ground.data }], guard := none } : Oper)) rfl (fun K hK => ?_) (AllReadyH.nil)
          have q3 := (H1d.out.below B2.out).1.five
          obtain ⟨-, -, -, -, x5, -⟩ := q3
          go_simp
          clear x5
          refine hK.out _ _ ?_ (fun hHeld => ?_)
          · exact ⟨S2.out.four.1, S2.out.four.2.1, S2.out.four.2.2.1, S2.out.four.2.2.2.1⟩
          clear hK K
          (try simp only [Act.put, List.setIfInBounds_toArray, List.set_cons_zero, List.set_cons_succ])
          refine wpAnyH_ready (rs := [6]) (by kernel_rfl) (by simp) ?_
          refine AllReadyH.cons (o := ({ dst := some 16, op := Op.call { callee := Callee.builtin Builtin.append, args := #[Operand.tmp 11, Operand.tmp 15], argTypes := #[79, 79] }, type := 79, pos := "ref.go:97", after := #[{ on := 1, ground := Ground.data }, { on := 5, ground := Ground.data }], guard := none } : Oper)) rfl (fun K hK => ?_) (AllReadyH.nil)
          rw [if_pos (by rfl)]
          refine wp_appendQuads _ _ 79 rfl v2 35 i0 (.agg #[.int .i64 0, .int .i64 0, .int .i64 0, .int .i64 0]) 32 Try.underlying79 hi hz0 hz1 hz2 rfl _ 0 [] rfl O2.out a cap c.L rfl HO.out.2.2 (H1d.out.below B2.out).2.1 hb1 hb2 B2.out ?_
          intro v4x u4 o4 b4 _ gr4
          have O4 := Lib.hid o4
          have B4 := Lib.hid b4
          have S4 := Lib.hid (K1d.out.next B4.out)
          have X4 := Lib.hid (kept_grown X2.out gr4 (fun e => D2.out _ (show Value.ownBlock (.slice (some ⟨v2.heap.size, 0, none⟩) 0 0) = some (v2.heap.size + 1) from e) rfl))
          clear o4 b4 gr4
          refine hK.out _ _ ?_ (fun hHeld => ?_)
          · exact ⟨S4.out.four.1, S4.out.four.2.1, S4.out.four.2.2.1, S4.out.four.2.2.2.1⟩
          clear hK K
          (try simp only [Act.put, List.setIfInBounds_toArray, List.set_cons_zero, List.set_cons_succ])
          refine wpAnyH_ready (rs := [9]) (by kernel_rfl) (by simp) ?_
          refine AllReadyH.cons (o := ({ dst := some 19, op := Op.call { callee := Callee.builtin Builtin.append, args := #[Operand.tmp 16, Operand.tmp 18], argTypes := #[79, 79] }, type := 79, pos := "ref.go:97", after := #[{ on := 6, ground := Ground.data }, { on := 8, ground := Ground.data }, { on := 6, ground := Ground.chain }], guard := none } : Oper)) rfl (fun K hK => ?_) (AllReadyH.nil)
          rw [if_pos (by rfl)]
          refine wp_appendBlk _ _ 79 rfl v2.heap.size 35 i0 (.agg #[.int .i64 0, .int .i64 0, .int .i64 0, .int .i64 0]) 4 32 Try.underlying79 hi hz0 hz1 hz2 rfl (by decide) _ (0 + c.L.length) ([] ++ cells4 c.L) rfl O4.out _ 1 #[.int .i64 sa, .int .i64 sg, .int .i64 ss, .int .i64 sc] 35 rfl X4.out rfl four_cells hb3 hb4 B4.out.size ?_
          intro v9x u5 o5 gr5
          have B5 := Lib.hid (B4.out.grown gr5 B4.out.size (fun k hk => (O4.out.lt k hk).1))
          have S5 := Lib.hid (K1d.out.next B5.out)
          obtain ⟨b9, c9, rfl⟩ : ∃ b cc, v9x = .slice (some ⟨b, 0, none⟩) (0 + c.L.length + 1) cc := by
            rcases o5.2 with h0 | ⟨b, cc, cur, e, _⟩
            · exact absurd h0.2 (by omega)
            · exact ⟨b, cc, e⟩
          have FF := Lib.hid (FIN.out b9 _ c9 u5 (by simpa using o5) B5.out)
          have HK := Lib.hid (H1d.out.below B5.out).1
          clear o5 gr5
          refine hK.out _ _ ?_ (fun hHeld => ?_)
          · exact ⟨S5.out.four.1, S5.out.four.2.1, S5.out.four.2.2.1, S5.out.four.2.2.2.1⟩
          clear hK K
          (try simp only [Act.put, List.setIfInBounds_toArray, List.set_cons_zero, List.set_cons_succ])
          refine wpAnyH_take (i := 10) (oi := ({ dst := some 20, op := Op.nilCheck (Operand.tmp 10), type := 0, pos := "ref.go:97", after := #[{ on := 0, ground := Ground.data }, { on := 0, ground := Ground.phase }, { on := 1, ground := Ground.phase }, { on := 2, ground := Ground.phase }, { on := 3, ground := Ground.phase }, { on := 4, ground := Ground.phase }, { on := 5, ground := Ground.phase }, { on := 6, ground := Ground.phase }, { on := 7, ground := Ground.phase }, { on := 8, ground := Ground.phase }, { on := 9, ground := Ground.phase }], guard := none } : Oper)) (v := ?_) rfl (by kernel_rfl) (by kernel_rfl) (by kernel_rfl) (fun _ _ _ h => h) (Or.inl ⟨by rfl, ?_⟩) hHeld ?_
          rotate_left
          · ((intro w hSw; obtain ⟨s1, s2, s3, s4⟩ := hSw; go_simp); (try with_reducible rfl))
          (try simp only [Act.put, List.setIfInBounds_toArray, List.set_cons_zero, List.set_cons_succ])
          refine wpAnyH_take (i := 11) (oi := ({ dst := some 21, op := Op.fieldAddr 81 (Operand.tmp 20) 4, type := 0, pos := "ref.go:97", after := #[{ on := 10, ground := Ground.data }, { on := 0, ground := Ground.phase }, { on := 1, ground := Ground.phase }, { on := 2, ground := Ground.phase }, { on := 3, ground := Ground.phase }, { on := 4, ground := Ground.phase }, { on := 5, ground := Ground.phase }, { on := 6, ground := Ground.phase }, { on := 7, ground := Ground.phase }, { on := 8, ground := Ground.phase }, { on := 9, ground := Ground.phase }], guard := none } : Oper)) (v := ?_) rfl (by kernel_rfl) (by kernel_rfl) (by kernel_rfl) (fun _ _ _ h => h) (Or.inl ⟨by rfl, ?_⟩) hHeld ?_
          rotate_left
          · ((intro w hSw; obtain ⟨s1, s2, s3, s4⟩ := hSw; go_simp); (try with_reducible rfl))
          (try simp only [Act.put, List.setIfInBounds_toArray, List.set_cons_zero, List.set_cons_succ])
          refine wpAnyH_ready (rs := [12]) (by kernel_rfl) (by simp) ?_
          refine AllReadyH.cons (o := ({ dst := none, op := Op.store 79 (Operand.tmp 21) (Operand.tmp 19), type := 0, pos := "ref.go:97", after := #[{ on := 11, ground := Ground.data }, { on := 9, ground := Ground.data }, { on := 9, ground := Ground.chain }, { on := 0, ground := Ground.phase }, { on := 1, ground := Ground.phase }, { on := 2, ground := Ground.phase }, { on := 3, ground := Ground.phase }, { on := 4, ground := Ground.phase }, { on := 5, ground := Ground.phase }, { on := 6, ground := Ground.phase }, { on := 7, ground := Ground.phase }, { on := 8, ground := Ground.phase }, { on := 9, ground := Ground.phase }], guard := none } : Oper)) rfl (fun K hK => ?_) (AllReadyH.nil)
          obtain ⟨x1, x2, x3, x4, x5, f1, f2, f3, f4, f5, -⟩ := HK.out.five
          go_simp
          clear x1 x2 x3 x4 x5 f1 f2 f3 f4 f5
          refine hK.out _ _ ?_ (fun hHeld => ?_)
          · exact ⟨(S5.out.far (p := ⟨g, 4, none⟩) (by have := HGL.out; simp; omega) _).four.1, (S5.out.far (p := ⟨g, 4, none⟩) (by have := HGL.out; simp; omega) _).four.2.1, (S5.out.far (p := ⟨g, 4, none⟩) (by have := HGL.out; simp; omega) _).four.2.2.1, (S5.out.far (p := ⟨g, 4, none⟩) (by have := HGL.out; simp; omega) _).four.2.2.2.1⟩
          clear hK K
          (try simp only [Act.put, List.setIfInBounds_toArray, List.set_cons_zero, List.set_cons_succ])
          refine wpAnyH_done (by kernel_rfl) ?_ _
          clear hHeld
          go_wp2_with fail
          go_meet
          case rel => exact FF.out _
      · have q1 := (H1d.out.below Bz.out).1.five
        obtain ⟨-, -, -, -, x5, -⟩ := q1
        go_simp
        clear x5
        refine hK.out _ _ ?_ (fun hHeld => ?_)
        · exact ⟨K1d.out.four.1, K1d.out.four.2.1, K1d.out.four.2.2.1, K1d.out.four.2.2.2.1⟩
        clear hK K
        (try simp only [Act.put, List.setIfInBounds_toArray, List.set_cons_zero, List.set_cons_succ])
        refine wpAnyH_ready (rs := [1, 8]) (by kernel_rfl) (by simp) ?_
        refine AllReadyH.cons (o := ({ dst := some 11, op := Op.buildSlice 79 0 #[], type := 79, pos := "ref.go:97", after := #[], guard := none } : Oper)) rfl (fun K hK => ?_) (AllReadyH.cons (o := ({ dst := some 18, op := Op.buildSlice 79 1 #[(0, Operand.tmp 17)], type := 79, pos := "ref.go:97", after := #[{ on := 7, ground := Ground.data }], guard := none } : Oper)) rfl (fun K hK => ?_) (AllReadyH.nil))
        · go_simp
          have B2 := Lib.hid (Bz.out.alloc Bz.out.size (.cells #[] 35))
          have O2 : Hid ((v2.alloc (.cells #[] 35)).ownsRow v2.heap.size 35 4 (.slice (some ⟨v2.heap.size, 0, none⟩) 0 0) 0 []) := Lib.hid (by
            have h := World.ownsRow_made (base := v2.heap.size) (e := 35) (size := 4) v2 #[] 0 (Bz.out.size) (by unfold maxLen; omega) rfl
            (try simp only [World.heap_alloc_size] at h)
            first | exact h | simpa using h)
          have S2 := Lib.hid (K1d.out.next B2.out)
          refine hK.out _ _ ?_ (fun hHeld => ?_)
          · exact ⟨S2.out.four.1, S2.out.four.2.1, S2.out.four.2.2.1, S2.out.four.2.2.2.1⟩
          clear hK K
          (try simp only [Act.put, List.setIfInBounds_toArray, List.set_cons_zero, List.set_cons_succ])
          refine wpAnyH_ready (rs := [6, 8]) (by kernel_rfl) (by simp) ?_
          refine AllReadyH.cons (o := ({ dst := some 16, op := Op.call { callee := Callee.builtin Builtin.append, args := #[Operand.tmp 11, Operand.tmp 15], argTypes := #[79, 79] }, type := 79, pos := "ref.go:97", after := #[{ on := 1, ground := Ground.data }, { on := 5, ground := Ground.data }], guard := none } : Oper)) rfl (fun K hK => ?_) (AllReadyH.cons (o := ({ dst := some 18, op := Op.buildSlice 79 1 #[(0, Operand.tmp 17)], type := 79, pos := "ref.go:97", after := #[{ on := 7, ground := Ground.data }], guard := none } : Oper)) rfl (fun K hK => ?_) (AllReadyH.nil))
          · rw [if_pos (by rfl)]
            refine wp_appendQuads _ _ 79 rfl v2 35 i0 (.agg #[.int .i64 0, .int .i64 0, .int .i64 0, .int .i64 0]) 32 Try.underlying79 hi hz0 hz1 hz2 rfl _ 0 [] rfl O2.out a cap c.L rfl HO.out.2.2 (H1d.out.below B2.out).2.1 hb1 hb2 B2.out ?_
            intro v3x u3 o3 b3 _ gr3
            have O3 := Lib.hid o3
            have B3 := Lib.hid b3
            have S3 := Lib.hid (K1d.out.next B3.out)
            clear o3 b3 gr3
            refine hK.out _ _ ?_ (fun hHeld => ?_)
            · exact ⟨S3.out.four.1, S3.out.four.2.1, S3.out.four.2.2.1, S3.out.four.2.2.2.1⟩
            clear hK K
            (try simp only [Act.put, List.setIfInBounds_toArray, List.set_cons_zero, List.set_cons_succ])
            refine wpAnyH_ready (rs := [8]) (by kernel_rfl) (by simp) ?_
            refine AllReadyH.cons (o := ({ dst := some 18, op := Op.buildSlice 79 1 #[(0, Operand.tmp 17)], type := 79, pos := "ref.go:97", after := #[{ on := 7, ground := Ground.data }], guard := none } : Oper)) rfl (fun K hK => ?_) (AllReadyH.nil)
            go_simp
            have B4 := Lib.hid (B3.out.alloc B3.out.size (.cells #[.int .i64 sa, .int .i64 sg, .int .i64 ss, .int .i64 sc] 35))
            have X4 : Hid (Kept (u3.alloc (.cells #[.int .i64 sa, .int .i64 sg, .int .i64 ss, .int .i64 sc] 35)) (u3.heap.size) #[.int .i64 sa, .int .i64 sg, .int .i64 ss, .int .i64 sc] 35) := Lib.hid (Kept.new (by simp))
            have S4 := Lib.hid (K1d.out.next B4.out)
            have D4 : Hid (∀ k, (Value.ownBlock v3x) = some k → k ≠ u3.heap.size) := Lib.hid fun k hk => by
              have h1 := (O3.out.lt k hk).2
              (try simp at h1)
              omega
            have O4 := Lib.hid (O3.out.alloc (.cells #[.int .i64 sa, .int .i64 sg, .int .i64 ss, .int .i64 sc] 35))
            refine hK.out _ _ ?_ (fun hHeld => ?_)
            · exact ⟨S4.out.four.1, S4.out.four.2.1, S4.out.four.2.2.1, S4.out.four.2.2.2.1⟩
            clear hK K
            (try simp only [Act.put, List.setIfInBounds_toArray, List.set_cons_zero, List.set_cons_succ])
            refine wpAnyH_ready (rs := [9]) (by kernel_rfl) (by simp) ?_
            refine AllReadyH.cons (o := ({ dst := some 19, op := Op.call { callee := Callee.builtin Builtin.append, args := #[Operand.tmp 16, Operand.tmp 18], argTypes := #[79, 79] }, type := 79, pos := "ref.go:97", after := #[{ on := 6, ground := Ground.data }, { on := 8, ground := Ground.data }, { on := 6, ground := Ground.chain }], guard := none } : Oper)) rfl (fun K hK => ?_) (AllReadyH.nil)
            rw [if_pos (by rfl)]
            refine wp_appendBlk _ _ 79 rfl v2.heap.size 35 i0 (.agg #[.int .i64 0, .int .i64 0, .int .i64 0, .int .i64 0]) 4 32 Try.underlying79 hi hz0 hz1 hz2 rfl (by decide) _ (0 + c.L.length) ([] ++ cells4 c.L) rfl O4.out _ 1 #[.int .i64 sa, .int .i64 sg, .int .i64 ss, .int .i64 sc] 35 rfl X4.out rfl four_cells hb3 hb4 B4.out.size ?_
            intro v9x u5 o5 gr5
            have B5 := Lib.hid (B4.out.grown gr5 B4.out.size (fun k hk => (O4.out.lt k hk).1))
            have S5 := Lib.hid (K1d.out.next B5.out)
            obtain ⟨b9, c9, rfl⟩ : ∃ b cc, v9x = .slice (some ⟨b, 0, none⟩) (0 + c.L.length + 1) cc := by
              rcases o5.2 with h0 | ⟨b, cc, cur, e, _⟩
              · exact absurd h0.2 (by omega)
              · exact ⟨b, cc, e⟩
            have FF := Lib.hid (FIN.out b9 _ c9 u5 (by simpa using o5) B5.out)
            have HK := Lib.hid (H1d.out.below B5.out).1
            clear o5 gr5
            refine hK.out _ _ ?_ (fun hHeld => ?_)
            · exact ⟨S5.out.four.1, S5.out.four.2.1, S5.out.four.2.2.1, S5.out.four.2.2.2.1⟩
            clear hK K
            (try simp only [Act.put, List.setIfInBounds_toArray, List.set_cons_zero, List.set_cons_succ])
            refine wpAnyH_take (i := 10) (oi := ({ dst := some 20, op := Op.nilCheck (Operand.tmp 10), type := 0, pos := "ref.go:97", after := #[{ on := 0, ground := Ground.data }, { on := 0, ground := Ground.phase }, { on := 1, ground := Ground.phase }, { on := 2, ground := Ground.phase }, { on := 3, ground := Ground.phase }, { on := 4, ground := Ground.phase }, { on := 5, ground := Ground.phase }, { on := 6, ground := Ground.phase }, { on := 7, ground := Ground.phase }, { on := 8, ground := Ground.phase }, { on := 9, ground := Ground.phase }], guard := none } : Oper)) (v := ?_) rfl (by kernel_rfl) (by kernel_rfl) (by kernel_rfl) (fun _ _ _ h => h) (Or.inl ⟨by rfl, ?_⟩) hHeld ?_
            rotate_left
            · ((intro w hSw; obtain ⟨s1, s2, s3, s4⟩ := hSw; go_simp); (try with_reducible rfl))
            (try simp only [Act.put, List.setIfInBounds_toArray, List.set_cons_zero, List.set_cons_succ])
            refine wpAnyH_take (i := 11) (oi := ({ dst := some 21, op := Op.fieldAddr 81 (Operand.tmp 20) 4, type := 0, pos := "ref.go:97", after := #[{ on := 10, ground := Ground.data }, { on := 0, ground := Ground.phase }, { on := 1, ground := Ground.phase }, { on := 2, ground := Ground.phase }, { on := 3, ground := Ground.phase }, { on := 4, ground := Ground.phase }, { on := 5, ground := Ground.phase }, { on := 6, ground := Ground.phase }, { on := 7, ground := Ground.phase }, { on := 8, ground := Ground.phase }, { on := 9, ground := Ground.phase }], guard := none } : Oper)) (v := ?_) rfl (by kernel_rfl) (by kernel_rfl) (by kernel_rfl) (fun _ _ _ h => h) (Or.inl ⟨by rfl, ?_⟩) hHeld ?_
            rotate_left
            · ((intro w hSw; obtain ⟨s1, s2, s3, s4⟩ := hSw; go_simp); (try with_reducible rfl))
            (try simp only [Act.put, List.setIfInBounds_toArray, List.set_cons_zero, List.set_cons_succ])
            refine wpAnyH_ready (rs := [12]) (by kernel_rfl) (by simp) ?_
            refine AllReadyH.cons (o := ({ dst := none, op := Op.store 79 (Operand.tmp 21) (Operand.tmp 19), type := 0, pos := "ref.go:97", after := #[{ on := 11, ground := Ground.data }, { on := 9, ground := Ground.data }, { on := 9, ground := Ground.chain }, { on := 0, ground := Ground.phase }, { on := 1, ground := Ground.phase }, { on := 2, ground := Ground.phase }, { on := 3, ground := Ground.phase }, { on := 4, ground := Ground.phase }, { on := 5, ground := Ground.phase }, { on := 6, ground := Ground.phase }, { on := 7, ground := Ground.phase }, { on := 8, ground := Ground.phase }, { on := 9, ground := Ground.phase }], guard := none } : Oper)) rfl (fun K hK => ?_) (AllReadyH.nil)
            obtain ⟨x1, x2, x3, x4, x5, f1, f2, f3, f4, f5, -⟩ := HK.out.five
            go_simp
            clear x1 x2 x3 x4 x5 f1 f2 f3 f4 f5
            refine hK.out _ _ ?_ (fun hHeld => ?_)
            · exact ⟨(S5.out.far (p := ⟨g, 4, none⟩) (by have := HGL.out; simp; omega) _).four.1, (S5.out.far (p := ⟨g, 4, none⟩) (by have := HGL.out; simp; omega) _).four.2.1, (S5.out.far (p := ⟨g, 4, none⟩) (by have := HGL.out; simp; omega) _).four.2.2.1, (S5.out.far (p := ⟨g, 4, none⟩) (by have := HGL.out; simp; omega) _).four.2.2.2.1⟩
            clear hK K
            (try simp only [Act.put, List.setIfInBounds_toArray, List.set_cons_zero, List.set_cons_succ])
            refine wpAnyH_done (by kernel_rfl) ?_ _
            clear hHeld
            go_wp2_with fail
            go_meet
            case rel => exact FF.out _
          · go_simp
            have B3 := Lib.hid (B2.out.alloc B2.out.size (.cells #[.int .i64 sa, .int .i64 sg, .int .i64 ss, .int .i64 sc] 35))
            have X3 : Hid (Kept ((v2.alloc (.cells #[] 35)).alloc (.cells #[.int .i64 sa, .int .i64 sg, .int .i64 ss, .int .i64 sc] 35)) (v2.heap.size + 1) #[.int .i64 sa, .int .i64 sg, .int .i64 ss, .int .i64 sc] 35) := Lib.hid (Kept.new (by simp))
            have S3 := Lib.hid (K1d.out.next B3.out)
            have D3 : Hid (∀ k, (Value.ownBlock (.slice (some ⟨v2.heap.size, 0, none⟩) 0 0)) = some k → k ≠ v2.heap.size + 1) := Lib.hid fun k hk => by
              have h1 := (O2.out.lt k hk).2
              (try simp at h1)
              omega
            have O3 := Lib.hid (O2.out.alloc (.cells #[.int .i64 sa, .int .i64 sg, .int .i64 ss, .int .i64 sc] 35))
            refine hK.out _ _ ?_ (fun hHeld => ?_)
            · exact ⟨S3.out.four.1, S3.out.four.2.1, S3.out.four.2.2.1, S3.out.four.2.2.2.1⟩
            clear hK K
            (try simp only [Act.put, List.setIfInBounds_toArray, List.set_cons_zero, List.set_cons_succ])
            refine wpAnyH_ready (rs := [6]) (by kernel_rfl) (by simp) ?_
            refine AllReadyH.cons (o := ({ dst := some 16, op := Op.call { callee := Callee.builtin Builtin.append, args := #[Operand.tmp 11, Operand.tmp 15], argTypes := #[79, 79] }, type := 79, pos := "ref.go:97", after := #[{ on := 1, ground := Ground.data }, { on := 5, ground := Ground.data }], guard := none } : Oper)) rfl (fun K hK => ?_) (AllReadyH.nil)
            rw [if_pos (by rfl)]
            refine wp_appendQuads _ _ 79 rfl v2 35 i0 (.agg #[.int .i64 0, .int .i64 0, .int .i64 0, .int .i64 0]) 32 Try.underlying79 hi hz0 hz1 hz2 rfl _ 0 [] rfl O3.out a cap c.L rfl HO.out.2.2 (H1d.out.below B3.out).2.1 hb1 hb2 B3.out ?_
            intro v4x u4 o4 b4 _ gr4
            have O4 := Lib.hid o4
            have B4 := Lib.hid b4
            have S4 := Lib.hid (K1d.out.next B4.out)
            have X4 := Lib.hid (kept_grown X3.out gr4 (fun e => D3.out _ (show Value.ownBlock (.slice (some ⟨v2.heap.size, 0, none⟩) 0 0) = some (v2.heap.size + 1) from e) rfl))
            clear o4 b4 gr4
            refine hK.out _ _ ?_ (fun hHeld => ?_)
            · exact ⟨S4.out.four.1, S4.out.four.2.1, S4.out.four.2.2.1, S4.out.four.2.2.2.1⟩
            clear hK K
            (try simp only [Act.put, List.setIfInBounds_toArray, List.set_cons_zero, List.set_cons_succ])
            refine wpAnyH_ready (rs := [9]) (by kernel_rfl) (by simp) ?_
            refine AllReadyH.cons (o := ({ dst := some 19, op := Op.call { callee := Callee.builtin Builtin.append, args := #[Operand.tmp 16, Operand.tmp 18], argTypes := #[79, 79] }, type := 79, pos := "ref.go:97", after := #[{ on := 6, ground := Ground.data }, { on := 8, ground := Ground.data }, { on := 6, ground := Ground.chain }], guard := none } : Oper)) rfl (fun K hK => ?_) (AllReadyH.nil)
            rw [if_pos (by rfl)]
            refine wp_appendBlk _ _ 79 rfl v2.heap.size 35 i0 (.agg #[.int .i64 0, .int .i64 0, .int .i64 0, .int .i64 0]) 4 32 Try.underlying79 hi hz0 hz1 hz2 rfl (by decide) _ (0 + c.L.length) ([] ++ cells4 c.L) rfl O4.out _ 1 #[.int .i64 sa, .int .i64 sg, .int .i64 ss, .int .i64 sc] 35 rfl X4.out rfl four_cells hb3 hb4 B4.out.size ?_
            intro v9x u5 o5 gr5
            have B5 := Lib.hid (B4.out.grown gr5 B4.out.size (fun k hk => (O4.out.lt k hk).1))
            have S5 := Lib.hid (K1d.out.next B5.out)
            obtain ⟨b9, c9, rfl⟩ : ∃ b cc, v9x = .slice (some ⟨b, 0, none⟩) (0 + c.L.length + 1) cc := by
              rcases o5.2 with h0 | ⟨b, cc, cur, e, _⟩
              · exact absurd h0.2 (by omega)
              · exact ⟨b, cc, e⟩
            have FF := Lib.hid (FIN.out b9 _ c9 u5 (by simpa using o5) B5.out)
            have HK := Lib.hid (H1d.out.below B5.out).1
            clear o5 gr5
            refine hK.out _ _ ?_ (fun hHeld => ?_)
            · exact ⟨S5.out.four.1, S5.out.four.2.1, S5.out.four.2.2.1, S5.out.four.2.2.2.1⟩
            clear hK K
            (try simp only [Act.put, List.setIfInBounds_toArray, List.set_cons_zero, List.set_cons_succ])
            refine wpAnyH_take (i := 10) (oi := ({ dst := some 20, op := Op.nilCheck (Operand.tmp 10), type := 0, pos := "ref.go:97", after := #[{ on := 0, ground := Ground.data }, { on := 0, ground := Ground.phase }, { on := 1, ground := Ground.phase }, { on := 2, ground := Ground.phase }, { on := 3, ground := Ground.phase }, { on := 4, ground := Ground.phase }, { on := 5, ground := Ground.phase }, { on := 6, ground := Ground.phase }, { on := 7, ground := Ground.phase }, { on := 8, ground := Ground.phase }, { on := 9, ground := Ground.phase }], guard := none } : Oper)) (v := ?_) rfl (by kernel_rfl) (by kernel_rfl) (by kernel_rfl) (fun _ _ _ h => h) (Or.inl ⟨by rfl, ?_⟩) hHeld ?_
            rotate_left
            · ((intro w hSw; obtain ⟨s1, s2, s3, s4⟩ := hSw; go_simp); (try with_reducible rfl))
            (try simp only [Act.put, List.setIfInBounds_toArray, List.set_cons_zero, List.set_cons_succ])
            refine wpAnyH_take (i := 11) (oi := ({ dst := some 21, op := Op.fieldAddr 81 (Operand.tmp 20) 4, type := 0, pos := "ref.go:97", after := #[{ on := 10, ground := Ground.data }, { on := 0, ground := Ground.phase }, { on := 1, ground := Ground.phase }, { on := 2, ground := Ground.phase }, { on := 3, ground := Ground.phase }, { on := 4, ground := Ground.phase }, { on := 5, ground := Ground.phase }, { on := 6, ground := Ground.phase }, { on := 7, ground := Ground.phase }, { on := 8, ground := Ground.phase }, { on := 9, ground := Ground.phase }], guard := none } : Oper)) (v := ?_) rfl (by kernel_rfl) (by kernel_rfl) (by kernel_rfl) (fun _ _ _ h => h) (Or.inl ⟨by rfl, ?_⟩) hHeld ?_
            rotate_left
            · ((intro w hSw; obtain ⟨s1, s2, s3, s4⟩ := hSw; go_simp); (try with_reducible rfl))
            (try simp only [Act.put, List.setIfInBounds_toArray, List.set_cons_zero, List.set_cons_succ])
            refine wpAnyH_ready (rs := [12]) (by kernel_rfl) (by simp) ?_
            refine AllReadyH.cons (o := ({ dst := none, op := Op.store 79 (Operand.tmp 21) (Operand.tmp 19), type := 0, pos := "ref.go:97", after := #[{ on := 11, ground := Ground.data }, { on := 9, ground := Ground.data }, { on := 9, ground := Ground.chain }, { on := 0, ground := Ground.phase }, { on := 1, ground := Ground.phase }, { on := 2, ground := Ground.phase }, { on := 3, ground := Ground.phase }, { on := 4, ground := Ground.phase }, { on := 5, ground := Ground.phase }, { on := 6, ground := Ground.phase }, { on := 7, ground := Ground.phase }, { on := 8, ground := Ground.phase }, { on := 9, ground := Ground.phase }], guard := none } : Oper)) rfl (fun K hK => ?_) (AllReadyH.nil)
            obtain ⟨x1, x2, x3, x4, x5, f1, f2, f3, f4, f5, -⟩ := HK.out.five
            go_simp
            clear x1 x2 x3 x4 x5 f1 f2 f3 f4 f5
            refine hK.out _ _ ?_ (fun hHeld => ?_)
            · exact ⟨(S5.out.far (p := ⟨g, 4, none⟩) (by have := HGL.out; simp; omega) _).four.1, (S5.out.far (p := ⟨g, 4, none⟩) (by have := HGL.out; simp; omega) _).four.2.1, (S5.out.far (p := ⟨g, 4, none⟩) (by have := HGL.out; simp; omega) _).four.2.2.1, (S5.out.far (p := ⟨g, 4, none⟩) (by have := HGL.out; simp; omega) _).four.2.2.2.1⟩
            clear hK K
            (try simp only [Act.put, List.setIfInBounds_toArray, List.set_cons_zero, List.set_cons_succ])
            refine wpAnyH_done (by kernel_rfl) ?_ _
            clear hHeld
            go_wp2_with fail
            go_meet
            case rel => exact FF.out _
        · go_simp
          have B2 := Lib.hid (Bz.out.alloc Bz.out.size (.cells #[.int .i64 sa, .int .i64 sg, .int .i64 ss, .int .i64 sc] 35))
          have X2 : Hid (Kept (v2.alloc (.cells #[.int .i64 sa, .int .i64 sg, .int .i64 ss, .int .i64 sc] 35)) (v2.heap.size) #[.int .i64 sa, .int .i64 sg, .int .i64 ss, .int .i64 sc] 35) := Lib.hid (Kept.new (by simp))
          have S2 := Lib.hid (K1d.out.next B2.out)
          refine hK.out _ _ ?_ (fun hHeld => ?_)
          · exact ⟨S2.out.four.1, S2.out.four.2.1, S2.out.four.2.2.1, S2.out.four.2.2.2.1⟩
          clear hK K
          (try simp only [Act.put, List.setIfInBounds_toArray, List.set_cons_zero, List.set_cons_succ])
          refine wpAnyH_ready (rs := [1]) (by kernel_rfl) (by simp) ?_
          refine AllReadyH.cons (o := ({ dst := some 11, op := Op.buildSlice 79 0 #[], type := 79, pos := "ref.go:97", after := #[], guard := none } : Oper)) rfl (fun K hK => ?_) (AllReadyH.nil)
          go_simp
          have B3 := Lib.hid (B2.out.alloc B2.out.size (.cells #[] 35))
          have O3 : Hid (((v2.alloc (.cells #[.int .i64 sa, .int .i64 sg, .int .i64 ss, .int .i64 sc] 35)).alloc (.cells #[] 35)).ownsRow v2.heap.size 35 4 (.slice (some ⟨v2.heap.size + 1, 0, none⟩) 0 0) 0 []) := Lib.hid (by
            have h := World.ownsRow_made (base := v2.heap.size) (e := 35) (size := 4) (v2.alloc (.cells #[.int .i64 sa, .int .i64 sg, .int .i64 ss, .int .i64 sc] 35)) #[] 0 (B2.out.size) (by unfold maxLen; omega) rfl
            (try simp only [World.heap_alloc_size] at h)
            first | exact h | simpa using h)
          have S3 := Lib.hid (K1d.out.next B3.out)
          have D3 : Hid (∀ k, (Value.slice (some ⟨v2.heap.size + 1, 0, none⟩) 0 0).ownBlock = some k → k ≠ v2.heap.size) := Lib.hid fun k hk => by
            have h1 : v2.heap.size + 1 = k := by simpa [Value.ownBlock] using hk
            have h2 := X2.out.lt
            (try simp at h2)
            omega
          have X3 := Lib.hid (X2.out.alloc (.cells #[] 35))
          refine hK.out _ _ ?_ (fun hHeld => ?_)
          · exact ⟨S3.out.four.1, S3.out.four.2.1, S3.out.four.2.2.1, S3.out.four.2.2.2.1⟩
          clear hK K
          (try simp only [Act.put, List.setIfInBounds_toArray, List.set_cons_zero, List.set_cons_succ])
          refine wpAnyH_ready (rs := [6]) (by kernel_rfl) (by simp) ?_
          refine AllReadyH.cons (o := ({ dst := some 16, op := Op.call { callee := Callee.builtin Builtin.append, args := #[Operand.tmp 11, Operand.tmp 15], argTypes := #[79, 79] }, type := 79, pos := "ref.go:97", after := #[{ on := 1, ground := Ground.data }, { on := 5, ground := Ground.data }], guard := none } : Oper)) rfl (fun K hK => ?_) (AllReadyH.nil)
          rw [if_pos (by rfl)]
          refine wp_appendQuads _ _ 79 rfl v2 35 i0 (.agg #[.int .i64 0, .int .i64 0, .int .i64 0, .int .i64 0]) 32 Try.underlying79 hi hz0 hz1 hz2 rfl _ 0 [] rfl O3.out a cap c.L rfl HO.out.2.2 (H1d.out.below B3.out).2.1 hb1 hb2 B3.out ?_
          intro v4x u4 o4 b4 _ gr4
          have O4 := Lib.hid o4
          have B4 := Lib.hid b4
          have S4 := Lib.hid (K1d.out.next B4.out)
          have X4 := Lib.hid (kept_grown X3.out gr4 (fun e => D3.out _ (show Value.ownBlock (.slice (some ⟨v2.heap.size + 1, 0, none⟩) 0 0) = some (v2.heap.size) from e) rfl))
          clear o4 b4 gr4
          refine hK.out _ _ ?_ (fun hHeld => ?_)
          · exact ⟨S4.out.four.1, S4.out.four.2.1, S4.out.four.2.2.1, S4.out.four.2.2.2.1⟩
          clear hK K
          (try simp only [Act.put, List.setIfInBounds_toArray, List.set_cons_zero, List.set_cons_succ])
          refine wpAnyH_ready (rs := [9]) (by kernel_rfl) (by simp) ?_
          refine AllReadyH.cons (o := ({ dst := some 19, op := Op.call { callee := Callee.builtin Builtin.append, args := #[Operand.tmp 16, Operand.tmp 18], argTypes := #[79, 79] }, type := 79, pos := "ref.go:97", after := #[{ on := 6, ground := Ground.data }, { on := 8, ground := Ground.data }, { on := 6, ground := Ground.chain }], guard := none } : Oper)) rfl (fun K hK => ?_) (AllReadyH.nil)
          rw [if_pos (by rfl)]
          refine wp_appendBlk _ _ 79 rfl v2.heap.size 35 i0 (.agg #[.int .i64 0, .int .i64 0, .int .i64 0, .int .i64 0]) 4 32 Try.underlying79 hi hz0 hz1 hz2 rfl (by decide) _ (0 + c.L.length) ([] ++ cells4 c.L) rfl O4.out _ 1 #[.int .i64 sa, .int .i64 sg, .int .i64 ss, .int .i64 sc] 35 rfl X4.out rfl four_cells hb3 hb4 B4.out.size ?_
          intro v9x u5 o5 gr5
          have B5 := Lib.hid (B4.out.grown gr5 B4.out.size (fun k hk => (O4.out.lt k hk).1))
          have S5 := Lib.hid (K1d.out.next B5.out)
          obtain ⟨b9, c9, rfl⟩ : ∃ b cc, v9x = .slice (some ⟨b, 0, none⟩) (0 + c.L.length + 1) cc := by
            rcases o5.2 with h0 | ⟨b, cc, cur, e, _⟩
            · exact absurd h0.2 (by omega)
            · exact ⟨b, cc, e⟩
          have FF := Lib.hid (FIN.out b9 _ c9 u5 (by simpa using o5) B5.out)
          have HK := Lib.hid (H1d.out.below B5.out).1
          clear o5 gr5
          refine hK.out _ _ ?_ (fun hHeld => ?_)
          · exact ⟨S5.out.four.1, S5.out.four.2.1, S5.out.four.2.2.1, S5.out.four.2.2.2.1⟩
          clear hK K
          (try simp only [Act.put, List.setIfInBounds_toArray, List.set_cons_zero, List.set_cons_succ])
          refine wpAnyH_take (i := 10) (oi := ({ dst := some 20, op := Op.nilCheck (Operand.tmp 10), type := 0, pos := "ref.go:97", after := #[{ on := 0, ground := Ground.data }, { on := 0, ground := Ground.phase }, { on := 1, ground := Ground.phase }, { on := 2, ground := Ground.phase }, { on := 3, ground := Ground.phase }, { on := 4, ground := Ground.phase }, { on := 5, ground := Ground.phase }, { on := 6, ground := Ground.phase }, { on := 7, ground := Ground.phase }, { on := 8, ground := Ground.phase }, { on := 9, ground := Ground.phase }], guard := none } : Oper)) (v := ?_) rfl (by kernel_rfl) (by kernel_rfl) (by kernel_rfl) (fun _ _ _ h => h) (Or.inl ⟨by rfl, ?_⟩) hHeld ?_
          rotate_left
          · ((intro w hSw; obtain ⟨s1, s2, s3, s4⟩ := hSw; go_simp); (try with_reducible rfl))
          (try simp only [Act.put, List.setIfInBounds_toArray, List.set_cons_zero, List.set_cons_succ])
          refine wpAnyH_take (i := 11) (oi := ({ dst := some 21, op := Op.fieldAddr 81 (Operand.tmp 20) 4, type := 0, pos := "ref.go:97", after := #[{ on := 10, ground := Ground.data }, { on := 0, ground := Ground.phase }, { on := 1, ground := Ground.phase }, { on := 2, ground := Ground.phase }, { on := 3, ground := Ground.phase }, { on := 4, ground := Ground.phase }, { on := 5, ground := Ground.phase }, { on := 6, ground := Ground.phase }, { on := 7, ground := Ground.phase }, { on := 8, ground := Ground.phase }, { on := 9, ground := Ground.phase }], guard := none } : Oper)) (v := ?_) rfl (by kernel_rfl) (by kernel_rfl) (by kernel_rfl) (fun _ _ _ h => h) (Or.inl ⟨by rfl, ?_⟩) hHeld ?_
          rotate_left
          · ((intro w hSw; obtain ⟨s1, s2, s3, s4⟩ := hSw; go_simp); (try with_reducible rfl))
          (try simp only [Act.put, List.setIfInBounds_toArray, List.set_cons_zero, List.set_cons_succ])
          refine wpAnyH_ready (rs := [12]) (by kernel_rfl) (by simp) ?_
          refine AllReadyH.cons (o := ({ dst := none, op := Op.store 79 (Operand.tmp 21) (Operand.tmp 19), type := 0, pos := "ref.go:97", after := #[{ on := 11, ground := Ground.data }, { on := 9, ground := Ground.data }, { on := 9, ground := Ground.chain }, { on := 0, ground := Ground.phase }, { on := 1, ground := Ground.phase }, { on := 2, ground := Ground.phase }, { on := 3, ground := Ground.phase }, { on := 4, ground := Ground.phase }, { on := 5, ground := Ground.phase }, { on := 6, ground := Ground.phase }, { on := 7, ground := Ground.phase }, { on := 8, ground := Ground.phase }, { on := 9, ground := Ground.phase }], guard := none } : Oper)) rfl (fun K hK => ?_) (AllReadyH.nil)
          obtain ⟨x1, x2, x3, x4, x5, f1, f2, f3, f4, f5, -⟩ := HK.out.five
          go_simp
          clear x1 x2 x3 x4 x5 f1 f2 f3 f4 f5
          refine hK.out _ _ ?_ (fun hHeld => ?_)
          · exact ⟨(S5.out.far (p := ⟨g, 4, none⟩) (by have := HGL.out; simp; omega) _).four.1, (S5.out.far (p := ⟨g, 4, none⟩) (by have := HGL.out; simp; omega) _).four.2.1, (S5.out.far (p := ⟨g, 4, none⟩) (by have := HGL.out; simp; omega) _).four.2.2.1, (S5.out.far (p := ⟨g, 4, none⟩) (by have := HGL.out; simp; omega) _).four.2.2.2.1⟩
          clear hK K
          (try simp only [Act.put, List.setIfInBounds_toArray, List.set_cons_zero, List.set_cons_succ])
          refine wpAnyH_done (by kernel_rfl) ?_ _
          clear hHeld
          go_wp2_with fail
          go_meet
          case rel => exact FF.out _
      · go_simp
        have B1 := Lib.hid (Bz.out.alloc Bz.out.size (.cells #[.int .i64 sa, .int .i64 sg, .int .i64 ss, .int .i64 sc] 35))
        have X1 : Hid (Kept (v2.alloc (.cells #[.int .i64 sa, .int .i64 sg, .int .i64 ss, .int .i64 sc] 35)) (v2.heap.size) #[.int .i64 sa, .int .i64 sg, .int .i64 ss, .int .i64 sc] 35) := Lib.hid (Kept.new (by simp))
        have S1 := Lib.hid (K1d.out.next B1.out)
        refine hK.out _ _ ?_ (fun hHeld => ?_)
        · exact ⟨S1.out.four.1, S1.out.four.2.1, S1.out.four.2.2.1, S1.out.four.2.2.2.1⟩
        clear hK K
        (try simp only [Act.put, List.setIfInBounds_toArray, List.set_cons_zero, List.set_cons_succ])
        refine wpAnyH_ready (rs := [1, 5]) (by kernel_rfl) (by simp) ?_
        refine AllReadyH.cons (o := ({ dst := some 11, op := Op.buildSlice 79 0 #[], type := 79, pos := "ref.go:97", after := #[], guard := none } : Oper)) rfl (fun K hK => ?_) (AllReadyH.cons (o := ({ dst := some 15, op := Op.load 79 (Operand.tmp 14), type := 79, pos := "ref.go:97", after := #[{ on := 4, ground := Ground.data }], guard := none } : Oper)) rfl (fun K hK => ?_) (AllReadyH.nil))
        · go_simp
          have B2 := Lib.hid (B1.out.alloc B1.out.size (.cells #[] 35))
          have O2 : Hid (((v2.alloc (.cells #[.int .i64 sa, .int .i64 sg, .int .i64 ss, .int .i64 sc] 35)).alloc (.cells #[] 35)).ownsRow v2.heap.size 35 4 (.slice (some ⟨v2.heap.size + 1, 0, none⟩) 0 0) 0 []) := Lib.hid (by
            have h := World.ownsRow_made (base := v2.heap.size) (e := 35) (size := 4) (v2.alloc (.cells #[.int .i64 sa, .int .i64 sg, .int .i64 ss, .int .i64 sc] 35)) #[] 0 (B1.out.size) (by unfold maxLen; omega) rfl
            (try simp only [World.heap_alloc_size] at h)
            first | exact h | simpa using h)
          have S2 := Lib.hid (K1d.out.next B2.out)
          have D2 : Hid (∀ k, (Value.slice (some ⟨v2.heap.size + 1, 0, none⟩) 0 0).ownBlock = some k → k ≠ v2.heap.size) := Lib.hid fun k hk => by
            have h1 : v2.heap.size + 1 = k := by simpa [Value.ownBlock] using hk
            have h2 := X1.out.lt
            (try simp at h2)
            omega
          have X2 := Lib.hid (X1.out.alloc (.cells #[] 35))
          refine hK.out _ _ ?_ (fun hHeld => ?_)
          · exact ⟨S2.out.four.1, S2.out.four.2.1, S2.out.four.2.2.1, S2.out.four.2.2.2.1⟩
          clear hK K
          (try simp only [Act.put, List.setIfInBounds_toArray, List.set_cons_zero, List.set_cons_succ])
          refine wpAnyH_ready (rs := [5]) (by kernel_rfl) (by simp) ?_
          refine AllReadyH.cons (o := ({ dst := some 15, op := Op.load 79 (Operand.tmp 14), type := 79, pos := "ref.go:97", after := #[{ on := 4, ground := Ground.data }], guard := none } : Oper)) rfl (fun K hK => ?_) (AllReadyH.nil)
          have q3 := (H1d.out.below B2.out).1.five
          obtain ⟨-, -, -, -, x5, -⟩ := q3
          go_simp
          clear x5
          refine hK.out _ _ ?_ (fun hHeld => ?_)
          · exact ⟨S2.out.four.1, S2.out.four.2.1, S2.out.four.2.2.1, S2.out.four.2.2.2.1⟩
          clear hK K
          (try simp only [Act.put, List.setIfInBounds_toArray, List.set_cons_zero, List.set_cons_succ])
          refine wpAnyH_ready (rs := [6]) (by kernel_rfl) (by simp) ?_
          refine AllReadyH.cons (o := ({ dst := some 16, op := Op.call { callee := Callee.builtin Builtin.append, args := #[Operand.tmp 11, Operand.tmp 15], argTypes := #[79, 79] }, type := 79, pos := "ref.go:97", after := #[{ on := 1, ground := Ground.data }, { on := 5, ground := Ground.data }], guard := none } : Oper)) rfl (fun K hK => ?_) (AllReadyH.nil)
          rw [if_pos (by rfl)]
          refine wp_appendQuads _ _ 79 rfl v2 35 i0 (.agg #[.int .i64 0, .int .i64 0, .int .i64 0, .int .i64 0]) 32 Try.underlying79 hi hz0 hz1 hz2 rfl _ 0 [] rfl O2.out a cap c.L rfl HO.out.2.2 (H1d.out.below B2.out).2.1 hb1 hb2 B2.out ?_
          intro v4x u4 o4 b4 _ gr4
          have O4 := Lib.hid o4
          have B4 := Lib.hid b4
          have S4 := Lib.hid (K1d.out.next B4.out)
          have X4 := Lib.hid (kept_grown X2.out gr4 (fun e => D2.out _ (show Value.ownBlock (.slice (some ⟨v2.heap.size + 1, 0, none⟩) 0 0) = some (v2.heap.size) from e) rfl))
          clear o4 b4 gr4
          refine hK.out _ _ ?_ (fun hHeld => ?_)
          · exact ⟨S4.out.four.1, S4.out.four.2.1, S4.out.four.2.2.1, S4.out.four.2.2.2.1⟩
          clear hK K
          (try simp only [Act.put, List.setIfInBounds_toArray, List.set_cons_zero, List.set_cons_succ])
          refine wpAnyH_ready (rs := [9]) (by kernel_rfl) (by simp) ?_
          refine AllReadyH.cons (o := ({ dst := some 19, op := Op.call { callee := Callee.builtin Builtin.append, args := #[Operand.tmp 16, Operand.tmp 18], argTypes := #[79, 79] }, type := 79, pos := "ref.go:97", after := #[{ on := 6, ground := Ground.data }, { on := 8, ground := Ground.data }, { on := 6, ground := Ground.chain }], guard := none } : Oper)) rfl (fun K hK => ?_) (AllReadyH.nil)
          rw [if_pos (by rfl)]
          refine wp_appendBlk _ _ 79 rfl v2.heap.size 35 i0 (.agg #[.int .i64 0, .int .i64 0, .int .i64 0, .int .i64 0]) 4 32 Try.underlying79 hi hz0 hz1 hz2 rfl (by decide) _ (0 + c.L.length) ([] ++ cells4 c.L) rfl O4.out _ 1 #[.int .i64 sa, .int .i64 sg, .int .i64 ss, .int .i64 sc] 35 rfl X4.out rfl four_cells hb3 hb4 B4.out.size ?_
          intro v9x u5 o5 gr5
          have B5 := Lib.hid (B4.out.grown gr5 B4.out.size (fun k hk => (O4.out.lt k hk).1))
          have S5 := Lib.hid (K1d.out.next B5.out)
          obtain ⟨b9, c9, rfl⟩ : ∃ b cc, v9x = .slice (some ⟨b, 0, none⟩) (0 + c.L.length + 1) cc := by
            rcases o5.2 with h0 | ⟨b, cc, cur, e, _⟩
            · exact absurd h0.2 (by omega)
            · exact ⟨b, cc, e⟩
          have FF := Lib.hid (FIN.out b9 _ c9 u5 (by simpa using o5) B5.out)
          have HK := Lib.hid (H1d.out.below B5.out).1
          clear o5 gr5
          refine hK.out _ _ ?_ (fun hHeld => ?_)
          · exact ⟨S5.out.four.1, S5.out.four.2.1, S5.out.four.2.2.1, S5.out.four.2.2.2.1⟩
          clear hK K
          (try simp only [Act.put, List.setIfInBounds_toArray, List.set_cons_zero, List.set_cons_succ])
          refine wpAnyH_take (i := 10) (oi := ({ dst := some 20, op := Op.nilCheck (Operand.tmp 10), type := 0, pos := "ref.go:97", after := #[{ on := 0, ground := Ground.data }, { on := 0, ground := Ground.phase }, { on := 1, ground := Ground.phase }, { on := 2, ground := Ground.phase }, { on := 3, ground := Ground.phase }, { on := 4, ground := Ground.phase }, { on := 5, ground := Ground.phase }, { on := 6, ground := Ground.phase }, { on := 7, ground := Ground.phase }, { on := 8, ground := Ground.phase }, { on := 9, ground := Ground.phase }], guard := none } : Oper)) (v := ?_) rfl (by kernel_rfl) (by kernel_rfl) (by kernel_rfl) (fun _ _ _ h => h) (Or.inl ⟨by rfl, ?_⟩) hHeld ?_
          rotate_left
          · ((intro w hSw; obtain ⟨s1, s2, s3, s4⟩ := hSw; go_simp); (try with_reducible rfl))
          (try simp only [Act.put, List.setIfInBounds_toArray, List.set_cons_zero, List.set_cons_succ])
          refine wpAnyH_take (i := 11) (oi := ({ dst := some 21, op := Op.fieldAddr 81 (Operand.tmp 20) 4, type := 0, pos := "ref.go:97", after := #[{ on := 10, ground := Ground.data }, { on := 0, ground := Ground.phase }, { on := 1, ground := Ground.phase }, { on := 2, ground := Ground.phase }, { on := 3, ground := Ground.phase }, { on := 4, ground := Ground.phase }, { on := 5, ground := Ground.phase }, { on := 6, ground := Ground.phase }, { on := 7, ground := Ground.phase }, { on := 8, ground := Ground.phase }, { on := 9, ground := Ground.phase }], guard := none } : Oper)) (v := ?_) rfl (by kernel_rfl) (by kernel_rfl) (by kernel_rfl) (fun _ _ _ h => h) (Or.inl ⟨by rfl, ?_⟩) hHeld ?_
          rotate_left
          · ((intro w hSw; obtain ⟨s1, s2, s3, s4⟩ := hSw; go_simp); (try with_reducible rfl))
          (try simp only [Act.put, List.setIfInBounds_toArray, List.set_cons_zero, List.set_cons_succ])
          refine wpAnyH_ready (rs := [12]) (by kernel_rfl) (by simp) ?_
          refine AllReadyH.cons (o := ({ dst := none, op := Op.store 79 (Operand.tmp 21) (Operand.tmp 19), type := 0, pos := "ref.go:97", after := #[{ on := 11, ground := Ground.data }, { on := 9, ground := Ground.data }, { on := 9, ground := Ground.chain }, { on := 0, ground := Ground.phase }, { on := 1, ground := Ground.phase }, { on := 2, ground := Ground.phase }, { on := 3, ground := Ground.phase }, { on := 4, ground := Ground.phase }, { on := 5, ground := Ground.phase }, { on := 6, ground := Ground.phase }, { on := 7, ground := Ground.phase }, { on := 8, ground := Ground.phase }, { on := 9, ground := Ground.phase }], guard := none } : Oper)) rfl (fun K hK => ?_) (AllReadyH.nil)
          obtain ⟨x1, x2, x3, x4, x5, f1, f2, f3, f4, f5, -⟩ := HK.out.five
          go_simp
          clear x1 x2 x3 x4 x5 f1 f2 f3 f4 f5
          refine hK.out _ _ ?_ (fun hHeld => ?_)
          · exact ⟨(S5.out.far (p := ⟨g, 4, none⟩) (by have := HGL.out; simp; omega) _).four.1, (S5.out.far (p := ⟨g, 4, none⟩) (by have := HGL.out; simp; omega) _).four.2.1, (S5.out.far (p := ⟨g, 4, none⟩) (by have := HGL.out; simp; omega) _).four.2.2.1, (S5.out.far (p := ⟨g, 4, none⟩) (by have := HGL.out; simp; omega) _).four.2.2.2.1⟩
          clear hK K
          (try simp only [Act.put, List.setIfInBounds_toArray, List.set_cons_zero, List.set_cons_succ])
          refine wpAnyH_done (by kernel_rfl) ?_ _
          clear hHeld
          go_wp2_with fail
          go_meet
          case rel => exact FF.out _
        · have q2 := (H1d.out.below B1.out).1.five
          obtain ⟨-, -, -, -, x5, -⟩ := q2
          go_simp
          clear x5
          refine hK.out _ _ ?_ (fun hHeld => ?_)
          · exact ⟨S1.out.four.1, S1.out.four.2.1, S1.out.four.2.2.1, S1.out.four.2.2.2.1⟩
          clear hK K
          (try simp only [Act.put, List.setIfInBounds_toArray, List.set_cons_zero, List.set_cons_succ])
          refine wpAnyH_ready (rs := [1]) (by kernel_rfl) (by simp) ?_
          refine AllReadyH.cons (o := ({ dst := some 11, op := Op.buildSlice 79 0 #[], type := 79, pos := "ref.go:97", after := #[], guard := none } : Oper)) rfl (fun K hK => ?_) (AllReadyH.nil)
          go_simp
          have B3 := Lib.hid (B1.out.alloc B1.out.size (.cells #[] 35))
          have O3 : Hid (((v2.alloc (.cells #[.int .i64 sa, .int .i64 sg, .int .i64 ss, .int .i64 sc] 35)).alloc (.cells #[] 35)).ownsRow v2.heap.size 35 4 (.slice (some ⟨v2.heap.size + 1, 0, none⟩) 0 0) 0 []) := Lib.hid (by
            have h := World.ownsRow_made (base := v2.heap.size) (e := 35) (size := 4) (v2.alloc (.cells #[.int .i64 sa, .int .i64 sg, .int .i64 ss, .int .i64 sc] 35)) #[] 0 (B1.out.size) (by unfold maxLen; omega) rfl
            (try simp only [World.heap_alloc_size] at h)
            first | exact h | simpa using h)
          have S3 := Lib.hid (K1d.out.next B3.out)
          have D3 : Hid (∀ k, (Value.slice (some ⟨v2.heap.size + 1, 0, none⟩) 0 0).ownBlock = some k → k ≠ v2.heap.size) := Lib.hid fun k hk => by
            have h1 : v2.heap.size + 1 = k := by simpa [Value.ownBlock] using hk
            have h2 := X1.out.lt
            (try simp at h2)
            omega
          have X3 := Lib.hid (X1.out.alloc (.cells #[] 35))
          refine hK.out _ _ ?_ (fun hHeld => ?_)
          · exact ⟨S3.out.four.1, S3.out.four.2.1, S3.out.four.2.2.1, S3.out.four.2.2.2.1⟩
          clear hK K
          (try simp only [Act.put, List.setIfInBounds_toArray, List.set_cons_zero, List.set_cons_succ])
          refine wpAnyH_ready (rs := [6]) (by kernel_rfl) (by simp) ?_
          refine AllReadyH.cons (o := ({ dst := some 16, op := Op.call { callee := Callee.builtin Builtin.append, args := #[Operand.tmp 11, Operand.tmp 15], argTypes := #[79, 79] }, type := 79, pos := "ref.go:97", after := #[{ on := 1, ground := Ground.data }, { on := 5, ground := Ground.data }], guard := none } : Oper)) rfl (fun K hK => ?_) (AllReadyH.nil)
          rw [if_pos (by rfl)]
          refine wp_appendQuads _ _ 79 rfl v2 35 i0 (.agg #[.int .i64 0, .int .i64 0, .int .i64 0, .int .i64 0]) 32 Try.underlying79 hi hz0 hz1 hz2 rfl _ 0 [] rfl O3.out a cap c.L rfl HO.out.2.2 (H1d.out.below B3.out).2.1 hb1 hb2 B3.out ?_
          intro v4x u4 o4 b4 _ gr4
          have O4 := Lib.hid o4
          have B4 := Lib.hid b4
          have S4 := Lib.hid (K1d.out.next B4.out)
          have X4 := Lib.hid (kept_grown X3.out gr4 (fun e => D3.out _ (show Value.ownBlock (.slice (some ⟨v2.heap.size + 1, 0, none⟩) 0 0) = some (v2.heap.size) from e) rfl))
          clear o4 b4 gr4
          refine hK.out _ _ ?_ (fun hHeld => ?_)
          · exact ⟨S4.out.four.1, S4.out.four.2.1, S4.out.four.2.2.1, S4.out.four.2.2.2.1⟩
          clear hK K
          (try simp only [Act.put, List.setIfInBounds_toArray, List.set_cons_zero, List.set_cons_succ])
          refine wpAnyH_ready (rs := [9]) (by kernel_rfl) (by simp) ?_
          refine AllReadyH.cons (o := ({ dst := some 19, op := Op.call { callee := Callee.builtin Builtin.append, args := #[Operand.tmp 16, Operand.tmp 18], argTypes := #[79, 79] }, type := 79, pos := "ref.go:97", after := #[{ on := 6, ground := Ground.data }, { on := 8, ground := Ground.data }, { on := 6, ground := Ground.chain }], guard := none } : Oper)) rfl (fun K hK => ?_) (AllReadyH.nil)
          rw [if_pos (by rfl)]
          refine wp_appendBlk _ _ 79 rfl v2.heap.size 35 i0 (.agg #[.int .i64 0, .int .i64 0, .int .i64 0, .int .i64 0]) 4 32 Try.underlying79 hi hz0 hz1 hz2 rfl (by decide) _ (0 + c.L.length) ([] ++ cells4 c.L) rfl O4.out _ 1 #[.int .i64 sa, .int .i64 sg, .int .i64 ss, .int .i64 sc] 35 rfl X4.out rfl four_cells hb3 hb4 B4.out.size ?_
          intro v9x u5 o5 gr5
          have B5 := Lib.hid (B4.out.grown gr5 B4.out.size (fun k hk => (O4.out.lt k hk).1))
          have S5 := Lib.hid (K1d.out.next B5.out)
          obtain ⟨b9, c9, rfl⟩ : ∃ b cc, v9x = .slice (some ⟨b, 0, none⟩) (0 + c.L.length + 1) cc := by
            rcases o5.2 with h0 | ⟨b, cc, cur, e, _⟩
            · exact absurd h0.2 (by omega)
            · exact ⟨b, cc, e⟩
          have FF := Lib.hid (FIN.out b9 _ c9 u5 (by simpa using o5) B5.out)
          have HK := Lib.hid (H1d.out.below B5.out).1
          clear o5 gr5
          refine hK.out _ _ ?_ (fun hHeld => ?_)
          · exact ⟨S5.out.four.1, S5.out.four.2.1, S5.out.four.2.2.1, S5.out.four.2.2.2.1⟩
          clear hK K
          (try simp only [Act.put, List.setIfInBounds_toArray, List.set_cons_zero, List.set_cons_succ])
          refine wpAnyH_take (i := 10) (oi := ({ dst := some 20, op := Op.nilCheck (Operand.tmp 10), type := 0, pos := "ref.go:97", after := #[{ on := 0, ground := Ground.data }, { on := 0, ground := Ground.phase }, { on := 1, ground := Ground.phase }, { on := 2, ground := Ground.phase }, { on := 3, ground := Ground.phase }, { on := 4, ground := Ground.phase }, { on := 5, ground := Ground.phase }, { on := 6, ground := Ground.phase }, { on := 7, ground := Ground.phase }, { on := 8, ground := Ground.phase }, { on := 9, ground := Ground.phase }], guard := none } : Oper)) (v := ?_) rfl (by kernel_rfl) (by kernel_rfl) (by kernel_rfl) (fun _ _ _ h => h) (Or.inl ⟨by rfl, ?_⟩) hHeld ?_
          rotate_left
          · ((intro w hSw; obtain ⟨s1, s2, s3, s4⟩ := hSw; go_simp); (try with_reducible rfl))
          (try simp only [Act.put, List.setIfInBounds_toArray, List.set_cons_zero, List.set_cons_succ])
          refine wpAnyH_take (i := 11) (oi := ({ dst := some 21, op := Op.fieldAddr 81 (Operand.tmp 20) 4, type := 0, pos := "ref.go:97", after := #[{ on := 10, ground := Ground.data }, { on := 0, ground := Ground.phase }, { on := 1, ground := Ground.phase }, { on := 2, ground := Ground.phase }, { on := 3, ground := Ground.phase }, { on := 4, ground := Ground.phase }, { on := 5, ground := Ground.phase }, { on := 6, ground := Ground.phase }, { on := 7, ground := Ground.phase }, { on := 8, ground := Ground.phase }, { on := 9, ground := Ground.phase }], guard := none } : Oper)) (v := ?_) rfl (by kernel_rfl) (by kernel_rfl) (by kernel_rfl) (fun _ _ _ h => h) (Or.inl ⟨by rfl, ?_⟩) hHeld ?_
          rotate_left
          · ((intro w hSw; obtain ⟨s1, s2, s3, s4⟩ := hSw; go_simp); (try with_reducible rfl))
          (try simp only [Act.put, List.setIfInBounds_toArray, List.set_cons_zero, List.set_cons_succ])
          refine wpAnyH_ready (rs := [12]) (by kernel_rfl) (by simp) ?_
          refine AllReadyH.cons (o := ({ dst := none, op := Op.store 79 (Operand.tmp 21) (Operand.tmp 19), type := 0, pos := "ref.go:97", after := #[{ on := 11, ground := Ground.data }, { on := 9, ground := Ground.data }, { on := 9, ground := Ground.chain }, { on := 0, ground := Ground.phase }, { on := 1, ground := Ground.phase }, { on := 2, ground := Ground.phase }, { on := 3, ground := Ground.phase }, { on := 4, ground := Ground.phase }, { on := 5, ground := Ground.phase }, { on := 6, ground := Ground.phase }, { on := 7, ground := Ground.phase }, { on := 8, ground := Ground.phase }, { on := 9, ground := Ground.phase }], guard := none } : Oper)) rfl (fun K hK => ?_) (AllReadyH.nil)
          obtain ⟨x1, x2, x3, x4, x5, f1, f2, f3, f4, f5, -⟩ := HK.out.five
          go_simp
          clear x1 x2 x3 x4 x5 f1 f2 f3 f4 f5
          refine hK.out _ _ ?_ (fun hHeld => ?_)
          · exact ⟨(S5.out.far (p := ⟨g, 4, none⟩) (by have := HGL.out; simp; omega) _).four.1, (S5.out.far (p := ⟨g, 4, none⟩) (by have := HGL.out; simp; omega) _).four.2.1, (S5.out.far (p := ⟨g, 4, none⟩) (by have := HGL.out; simp; omega) _).four.2.2.1, (S5.out.far (p := ⟨g, 4, none⟩) (by have := HGL.out; simp; omega) _).four.2.2.2.1⟩
          clear hK K
          (try simp only [Act.put, List.setIfInBounds_toArray, List.set_cons_zero, List.set_cons_succ])
          refine wpAnyH_done (by kernel_rfl) ?_ _
          clear hHeld
          go_wp2_with fail
          go_meet
          case rel => exact FF.out _
    case rest =>
      obtain ⟨b, cap', hh⟩ := hcut
      obtain ⟨w4, hw4⟩ : ∃ x, x = wc := ⟨_, rfl⟩
      subst hw4
      by_cases h8 : c.L.length = 8
      · have hpush : pushL c.L (sa, sg, ss, sc) = (c.L ++ [(sa, sg, ss, sc)]).drop 1 := by
          unfold pushL
          rw [if_pos (by omega)]
        have hn9 : (c.L ++ [(sa, sg, ss, sc)]).length = 9 := by simp; omega
        have hcap : 9 ≤ cap' := by have := hh.out.2.2.2.2; omega
        have hsl : ∀ W, (Instr.slice 79 (.slice (some ⟨b, 0, none⟩) 9 cap') (some (.int .i64 1)) none none).run Try.prog W = .ok (.slice (some ⟨b, 4, none⟩) 8 (cap' - 1)) W := fun W => slice_tl3 b 9 cap' (by decide) (by omega) W
        obtain ⟨x1, x2, x3, x4, x5, f1, f2, f3, f4, f5, -⟩ := hh.out.1.1.five
        dsimp only at x5
        rw [hn9] at x5
        have nb : ∀ b' o, (some (⟨b, 4, none⟩ : Addr)) = some ⟨b', o, none⟩ → b' ≠ g := fun b' o e => by
          cases e
          have := HGL.out; have := hh.out.2.2.1; omega
        have P5x : Hid (RkO (w4.setCell ⟨g, 4, none⟩ (.slice (some ⟨b, 4, none⟩) 8 (cap' - 1))) g (some ⟨b, 4, none⟩) (cap' - 1) { c with L := pushL c.L (sa, sg, ss, sc) } ∧ KpC g noV w (w4.setCell ⟨g, 4, none⟩ (.slice (some ⟨b, 4, none⟩) 8 (cap' - 1))) ∧ w.heap.size ≤ b ∧ Kept (w4.setCell ⟨g, 4, none⟩ (.slice (some ⟨b, 4, none⟩) 8 (cap' - 1))) w.heap.size #[.int .i64 sa, .int .i64 sg, .int .i64 ss, .int .i64 sc] 35) := Lib.hid ⟨by
          rw [hpush]
          exact RkO.setRow hh.out.1.1 (by rw [List.length_drop, hn9]) hh.out.1.2.1.drop1 (fun e => by cases e) nb, hh.out.2.1.set 4 _, hh.out.2.2.1, hh.out.2.2.2.1.far (by have := HGL.out; simp; omega) _⟩
        clear hh hpush hn9 hcap h8 nb B1 K1 H1
        go_upto_region 6 with fail
        generalize hW5 : w4.setCell ⟨g, 4, none⟩ (.slice (some ⟨b, 4, none⟩) 8 (cap' - 1)) = W5 at *
        have P5 := P5x
        obtain ⟨o5, ho5⟩ : ∃ o5, o5 = 4 := ⟨_, rfl⟩
        rw [← ho5] at P5
        clear P5x hW5 ho5 hsl x1 x2 x3 x4 x5 f1 f2 f3 f4 f5
        generalize cap' - 1 = cap5 at *
        obtain ⟨z1, z2, z3, z4, -⟩ := P5.out.2.2.2.four
        obtain ⟨hL1, hL8⟩ := pushL_len (s := (sa, sg, ss, sc)) HLL.out
        have hu : upS c.streak = c.streak + 1 := if_pos (by have := HS.out; omega)
        have RES : Hid ((agreeB (gapsS (pushL c.L (sa, sg, ss, sc)) ss c.rho) = true → addC c (sa, sg, ss, sc) = (0, { c with L := pushL c.L (sa, sg, ss, sc), held := upH c, streak := upS c.streak })) ∧ (agreeB (gapsS (pushL c.L (sa, sg, ss, sc)) ss c.rho) = false → addC c (sa, sg, ss, sc) = (21, { c with held := true, streak := 0, L := if atE (sa, sg, ss, sc) ss c.rho = 0 then [(sa, sg, ss, sc)] else [] }))) := Lib.hid ⟨fun h => addC_yes HR.out h, fun h => addC_un HR.out h⟩
        generalize pushL c.L (sa, sg, ss, sc) = L1 at *
        have NG : Hid (∀ b' o, (some (⟨b, o5, none⟩ : Addr)) = some ⟨b', o, none⟩ → b' ≠ g) := Lib.hid fun b' o e => by
          cases e
          have := HGL.out; have := P5.out.2.2.1; omega
        have CI := Lib.hid (gv_any g (some ⟨b, o5, none⟩) cap5 { c with L := L1 } ss W5 P5.out.1 (by show L1.length ≤ 1000; omega))
        have HL8 := Lib.hid (And.intro hL1 hL8)
        clear hL1 hL8
        go_wp2_with fail
        refine CI.out.mono ?_
        rintro _ w6 ⟨a6, c6, rfl, o6, b6⟩
        (try dsimp only at o6)
        obtain ⟨a6', c6', e6, -, -, -, -, p6⟩ := PairRow.own o6
        cases e6
        have CG := Lib.hid (ragree_any a6 c6 (gapsS L1 ss c.rho) w6 p6 (agree_of_gaps _ _ _) (by rw [gapsS_len]; have := HL8.out; omega))
        rw [gapsS_len] at CG
        obtain ⟨ag, hagg⟩ : ∃ ag, agreeB (gapsS L1 ss c.rho) = ag := ⟨_, rfl⟩
        rw [hagg] at CG RES
        have P6 : Hid (RkO w6 g (some ⟨b, o5, none⟩) cap5 { c with L := L1 } ∧ KpC g noV w w6 ∧ w.heap.size ≤ b ∧ Kept w6 w.heap.size #[.int .i64 sa, .int .i64 sg, .int .i64 ss, .int .i64 sc] 35) := Lib.hid ⟨P5.out.1.below b6, P5.out.2.1.step b6, P5.out.2.2.1, P5.out.2.2.2.next b6⟩
        clear o6 b6 p6 hagg CI P5 z1 z2 z3 z4
        go_wp2_with fail
        refine CG.out.mono ?_
        rintro _ w7 ⟨rfl, b7⟩
        have P7 : Hid (RkO w7 g (some ⟨b, o5, none⟩) cap5 { c with L := L1 } ∧ KpC g noV w w7 ∧ w.heap.size ≤ b ∧ Kept w7 w.heap.size #[.int .i64 sa, .int .i64 sg, .int .i64 ss, .int .i64 sc] 35) := Lib.hid ⟨P6.out.1.below b7, P6.out.2.1.step b7, P6.out.2.2.1, P6.out.2.2.2.next b7⟩
        clear b7 P6 CG
        obtain ⟨x1, x2, x3, x4, x5, f1, f2, f3, f4, f5, -⟩ := P7.out.1.1.five
        (try dsimp only at x1 x2 x3 x4 x5)
        cases ag
        · have RE := Lib.hid (RES.out.2 rfl)
          clear RES
          have P8 : Hid (RkO ((w7.setCell ⟨g, 2, none⟩ (.bool true)).setCell ⟨g, 3, none⟩ (.int .i64 0)) g (some ⟨b, o5, none⟩) cap5 { c with L := L1, held := true, streak := 0 } ∧ KpC g noV w ((w7.setCell ⟨g, 2, none⟩ (.bool true)).setCell ⟨g, 3, none⟩ (.int .i64 0)) ∧ Kept ((w7.setCell ⟨g, 2, none⟩ (.bool true)).setCell ⟨g, 3, none⟩ (.int .i64 0)) w.heap.size #[.int .i64 sa, .int .i64 sg, .int .i64 ss, .int .i64 sc] 35) := Lib.hid ⟨(P7.out.1.setHeld NG.out true).setStreak NG.out 0, (P7.out.2.1.set 2 _).set 3 _, (P7.out.2.2.2.far (by have := HGL.out; simp; omega) _).far (by have := HGL.out; simp; omega) _⟩
          obtain ⟨-, -, -, q4, -, -, -, -, p4, -⟩ := (P7.out.1.setHeld NG.out true).1.five
          go_upto_region 13 with fail
          generalize (w7.setCell ⟨g, 2, none⟩ (.bool true)).setCell ⟨g, 3, none⟩ (.int .i64 0) = V0 at *
          clear x1 x2 x3 x4 x5 f1 f2 f3 f4 f5 q4 p4 P7
          go_cut [5, 6] from 66 to 76 (fun p e wx => R13 V0 (atE (sa, sg, ss, sc) ss c.rho) p e wx)
          case first =>
            obtain ⟨lo, hi', hgg⟩ : ∃ lo hi', atG (sa, sg, ss, sc) ss c.rho = (lo, hi') := ⟨_, _, rfl⟩
            have CA' : Hid (∀ W, Calls Try.prog 45 #[.agg #[.int .i64 sa, .int .i64 sg, .int .i64 ss, .int .i64 sc], .int .i64 ss, .int .i64 c.rho] W (Gives (.tuple #[.agg #[.int .i64 lo, .int .i64 hi'], .int .i64 (atE (sa, sg, ss, sc) ss c.rho)]) W)) := Lib.hid fun W => by
              have hh := rat_any sa sg ss sc ss c.rho W
              rw [hgg] at hh
              exact hh
            generalize atE (sa, sg, ss, sc) ss c.rho = er at *
            have S0 : V0.drew.cell? ⟨w.heap.size, 0, none⟩ = some (.int .i64 sa) ∧ V0.drew.cell? ⟨w.heap.size, 1, none⟩ = some (.int .i64 sg) ∧ V0.drew.cell? ⟨w.heap.size, 2, none⟩ = some (.int .i64 ss) ∧ V0.drew.cell? ⟨w.heap.size, 3, none⟩ = some (.int .i64 sc) ∧ V0.drew.cell? ⟨g, 0, none⟩ = some (.int .i64 c.rho) := ⟨P8.out.2.2.four.1, P8.out.2.2.four.2.1, P8.out.2.2.four.2.2.1, P8.out.2.2.four.2.2.2.1, P8.out.1.1.five.1⟩
            have KS : Hid (∀ W, Below V0.drew.heap.size V0.drew W → W.cell? ⟨w.heap.size, 0, none⟩ = some (.int .i64 sa) ∧ W.cell? ⟨w.heap.size, 1, none⟩ = some (.int .i64 sg) ∧ W.cell? ⟨w.heap.size, 2, none⟩ = some (.int .i64 ss) ∧ W.cell? ⟨w.heap.size, 3, none⟩ = some (.int .i64 sc) ∧ W.cell? ⟨g, 0, none⟩ = some (.int .i64 c.rho)) := Lib.hid fun W hb => keep5 hb S0
            have BA : Hid (Below V0.heap.size V0 V0.drew) := Lib.hid (Below.refl _ _).drew
            refine wp_region_held_drew (S := fun w' => w'.cell? ⟨w.heap.size, 0, none⟩ = some (.int .i64 sa) ∧ w'.cell? ⟨w.heap.size, 1, none⟩ = some (.int .i64 sg) ∧ w'.cell? ⟨w.heap.size, 2, none⟩ = some (.int .i64 ss) ∧ w'.cell? ⟨w.heap.size, 3, none⟩ = some (.int .i64 sc) ∧ w'.cell? ⟨g, 0, none⟩ = some (.int .i64 c.rho)) (by kernel_rfl) S0 (fun hHeld => ?_)
            clear S0
            generalize V0.drew = v2 at *
            have R0 : Hid (Below v2.heap.size v2 v2) := Lib.hid (Below.refl _ _)
            refine wpAnyH_take (i := 0) (oi := ({ dst := some 67, op := Op.load 35 (Operand.tmp 3), type := 35, pos := "ref.go:110", after := #[], guard := none } : Oper)) (v := ?_) rfl (by kernel_rfl) (by kernel_rfl) (by kernel_rfl) (fun _ _ _ h => h) (Or.inl ⟨by rfl, ?_⟩) hHeld ?_
            rotate_left
            · ((intro w hSw; obtain ⟨s1, s2, s3, s4, s5⟩ := hSw; go_simp); (try with_reducible rfl))
            (try simp only [Act.put, List.setIfInBounds_toArray, List.set_cons_zero, List.set_cons_succ])
            refine wpAnyH_take (i := 1) (oi := ({ dst := some 68, op := Op.fieldAddr 35 (Operand.tmp 3) 2, type := 0, pos := "ref.go:110", after := #[], guard := none } : Oper)) (v := ?_) rfl (by kernel_rfl) (by kernel_rfl) (by kernel_rfl) (fun _ _ _ h => h) (Or.inl ⟨by rfl, ?_⟩) hHeld ?_
            rotate_left
            · ((intro w hSw; obtain ⟨s1, s2, s3, s4, s5⟩ := hSw; go_simp); (try with_reducible rfl))
            (try simp only [Act.put, List.setIfInBounds_toArray, List.set_cons_zero, List.set_cons_succ])
            refine wpAnyH_take (i := 2) (oi := ({ dst := some 69, op := Op.load 2 (Operand.tmp 68), type := 2, pos := "ref.go:110", after := #[{ on := 1, ground := Ground.data }], guard := none } : Oper)) (v := ?_) rfl (by kernel_rfl) (by kernel_rfl) (by kernel_rfl) (fun _ _ _ h => h) (Or.inl ⟨by rfl, ?_⟩) hHeld ?_
            rotate_left
            · ((intro w hSw; obtain ⟨s1, s2, s3, s4, s5⟩ := hSw; go_simp); (try with_reducible rfl))
            (try simp only [Act.put, List.setIfInBounds_toArray, List.set_cons_zero, List.set_cons_succ])
            refine wpAnyH_take (i := 3) (oi := ({ dst := some 70, op := Op.move (Operand.tmp 0), type := 28, pos := "ref.go:110", after := #[], guard := none } : Oper)) (v := ?_) rfl (by kernel_rfl) (by kernel_rfl) (by kernel_rfl) (fun _ _ _ h => h) (Or.inl ⟨by rfl, ?_⟩) hHeld ?_
            rotate_left
            · ((intro w hSw; obtain ⟨s1, s2, s3, s4, s5⟩ := hSw; go_simp); (try with_reducible rfl))
            (try simp only [Act.put, List.setIfInBounds_toArray, List.set_cons_zero, List.set_cons_succ])
            refine wpAnyH_take (i := 4) (oi := ({ dst := some 71, op := Op.nilCheck (Operand.tmp 70), type := 0, pos := "ref.go:110", after := #[{ on := 3, ground := Ground.data }], guard := none } : Oper)) (v := ?_) rfl (by kernel_rfl) (by kernel_rfl) (by kernel_rfl) (fun _ _ _ h => h) (Or.inl ⟨by rfl, ?_⟩) hHeld ?_
            rotate_left
            · ((intro w hSw; obtain ⟨s1, s2, s3, s4, s5⟩ := hSw; go_simp); (try with_reducible rfl))
            (try simp only [Act.put, List.setIfInBounds_toArray, List.set_cons_zero, List.set_cons_succ])
            refine wpAnyH_take (i := 5) (oi := ({ dst := some 72, op := Op.fieldAddr 81 (Operand.tmp 71) 0, type := 0, pos := "ref.go:110", after := #[{ on := 4, ground := Ground.data }], guard := none } : Oper)) (v := ?_) rfl (by kernel_rfl) (by kernel_rfl) (by kernel_rfl) (fun _ _ _ h => h) (Or.inl ⟨by rfl, ?_⟩) hHeld ?_
            rotate_left
            · ((intro w hSw; obtain ⟨s1, s2, s3, s4, s5⟩ := hSw; go_simp); (try with_reducible rfl))
            (try simp only [Act.put, List.setIfInBounds_toArray, List.set_cons_zero, List.set_cons_succ])
            refine wpAnyH_take (i := 6) (oi := ({ dst := some 73, op := Op.load 2 (Operand.tmp 72), type := 2, pos := "ref.go:110", after := #[{ on := 5, ground := Ground.data }], guard := none } : Oper)) (v := ?_) rfl (by kernel_rfl) (by kernel_rfl) (by kernel_rfl) (fun _ _ _ h => h) (Or.inl ⟨by rfl, ?_⟩) hHeld ?_
            rotate_left
            · ((intro w hSw; obtain ⟨s1, s2, s3, s4, s5⟩ := hSw; go_simp); (try with_reducible rfl))
            (try simp only [Act.put, List.setIfInBounds_toArray, List.set_cons_zero, List.set_cons_succ])
            refine wpAnyH_ready (rs := [7, 11]) (by kernel_rfl) (by simp) ?_
            refine AllReadyH.cons (o := ({ dst := some 74, op := Op.call { callee := Callee.value (Operand.func 45), args := #[Operand.tmp 67, Operand.tmp 69, Operand.tmp 73], argTypes := #[35, 2, 2] }, type := 43, pos := "ref.go:110", after := #[{ on := 0, ground := Ground.data }, { on := 2, ground := Ground.data }, { on := 6, ground := Ground.data }], guard := none } : Oper)) rfl (fun K hK => ?_) (AllReadyH.cons (o := ({ dst := some 5, op := Op.alloc 42, type := 0, pos := "ref.go:110", after := #[], guard := none } : Oper)) rfl (fun K hK => ?_) (AllReadyH.nil))
            · go_simp
              (with_reducible refine (CA'.out _).mono ?_)
              rintro _ w1y ⟨rfl, b1⟩
              have R1 := Lib.hid (R0.out.trans (b1.mono R0.out.size))
              clear b1
              refine hK.out _ _ ?_ (fun hHeld => ?_)
              · exact KS.out _ R1.out
              clear hK K
              (try simp only [Act.put, List.setIfInBounds_toArray, List.set_cons_zero, List.set_cons_succ])
              refine wpAnyH_take (i := 8) (oi := ({ dst := some 66, op := Op.move (Operand.tmp 74), type := 43, pos := "ref.go:110", after := #[{ on := 7, ground := Ground.data }], guard := none } : Oper)) (v := ?_) rfl (by kernel_rfl) (by kernel_rfl) (by kernel_rfl) (fun _ _ _ h => h) (Or.inl ⟨by rfl, ?_⟩) hHeld ?_
              rotate_left
              · ((intro w hSw; obtain ⟨s1, s2, s3, s4, s5⟩ := hSw; go_simp); (try with_reducible rfl))
              (try simp only [Act.put, List.setIfInBounds_toArray, List.set_cons_zero, List.set_cons_succ])
              refine wpAnyH_take (i := 9) (oi := ({ dst := some 75, op := Op.extract (Operand.tmp 66) 0, type := 42, pos := "ref.go:110", after := #[{ on := 8, ground := Ground.data }], guard := none } : Oper)) (v := ?_) rfl (by kernel_rfl) (by kernel_rfl) (by kernel_rfl) (fun _ _ _ h => h) (Or.inl ⟨by rfl, ?_⟩) hHeld ?_
              rotate_left
              · ((intro w hSw; obtain ⟨s1, s2, s3, s4, s5⟩ := hSw; go_simp); (try with_reducible rfl))
              (try simp only [Act.put, List.setIfInBounds_toArray, List.set_cons_zero, List.set_cons_succ])
              refine wpAnyH_take (i := 10) (oi := ({ dst := some 76, op := Op.extract (Operand.tmp 66) 1, type := 25, pos := "ref.go:110", after := #[{ on := 8, ground := Ground.data }, { on := 12, ground := Ground.gcOnly Departure.lateStores }], guard := none } : Oper)) (v := ?_) rfl (by kernel_rfl) (by kernel_rfl) (by kernel_rfl) (fun _ _ _ h => h) (Or.inl ⟨by rfl, ?_⟩) hHeld ?_
              rotate_left
              · ((intro w hSw; obtain ⟨s1, s2, s3, s4, s5⟩ := hSw; go_simp); (try with_reducible rfl))
              (try simp only [Act.put, List.setIfInBounds_toArray, List.set_cons_zero, List.set_cons_succ])
              refine wpAnyH_ready (rs := [11]) (by kernel_rfl) (by simp) ?_
              refine AllReadyH.cons (o := ({ dst := some 5, op := Op.alloc 42, type := 0, pos := "ref.go:110", after := #[], guard := none } : Oper)) rfl (fun K hK => ?_) (AllReadyH.nil)
              go_simp
              have Q2 : Hid (Kept (w1y.alloc (.cells #[.int .i64 0, .int .i64 0] 42)) w1y.heap.size #[.int .i64 0, .int .i64 0] 42) := Lib.hid (Kept.new rfl)
              have G2 : Hid (v2.heap.size ≤ w1y.heap.size) := Lib.hid R1.out.size
              have R2 := Lib.hid (R1.out.alloc R1.out.size (.cells #[.int .i64 0, .int .i64 0] 42))
              refine hK.out _ _ ?_ (fun hHeld => ?_)
              · exact KS.out _ R2.out
              clear hK K
              (try simp only [Act.put, List.setIfInBounds_toArray, List.set_cons_zero, List.set_cons_succ])
              refine wpAnyH_ready (rs := [12]) (by kernel_rfl) (by simp) ?_
              refine AllReadyH.cons (o := ({ dst := none, op := Op.store 42 (Operand.tmp 5) (Operand.tmp 75), type := 0, pos := "ref.go:110", after := #[{ on := 11, ground := Ground.data }, { on := 9, ground := Ground.data }, { on := 7, ground := Ground.chain }, { on := 0, ground := Ground.phase }, { on := 1, ground := Ground.phase }, { on := 2, ground := Ground.phase }, { on := 3, ground := Ground.phase }, { on := 4, ground := Ground.phase }, { on := 5, ground := Ground.phase }, { on := 6, ground := Ground.phase }, { on := 7, ground := Ground.phase }, { on := 8, ground := Ground.phase }, { on := 9, ground := Ground.phase }, { on := 10, ground := Ground.textOnly Departure.lateStores }, { on := 11, ground := Ground.phase }], guard := none } : Oper)) rfl (fun K hK => ?_) (AllReadyH.nil)
              obtain ⟨x1, x2, x3, x4, x5⟩ := Q2.out.two
              go_simp
              have R3 := Lib.hid (R1.out.alloc R1.out.size (.cells #[.int .i64 lo, .int .i64 hi'] 42))
              refine hK.out _ _ ?_ (fun hHeld => ?_)
              · exact KS.out _ R3.out
              clear hK K
              (try simp only [Act.put, List.setIfInBounds_toArray, List.set_cons_zero, List.set_cons_succ])
              refine wpAnyH_take (i := 13) (oi := ({ dst := some 6, op := Op.assign (Operand.tmp 76), type := 25, pos := "ref.go:110", after := #[{ on := 10, ground := Ground.data }, { on := 12, ground := Ground.chain }, { on := 0, ground := Ground.phase }, { on := 1, ground := Ground.phase }, { on := 2, ground := Ground.phase }, { on := 3, ground := Ground.phase }, { on := 4, ground := Ground.phase }, { on := 5, ground := Ground.phase }, { on := 6, ground := Ground.phase }, { on := 7, ground := Ground.phase }, { on := 8, ground := Ground.phase }, { on := 9, ground := Ground.phase }, { on := 10, ground := Ground.phase }, { on := 11, ground := Ground.phase }, { on := 12, ground := Ground.phase }], guard := none } : Oper)) (v := ?_) rfl (by kernel_rfl) (by kernel_rfl) (by kernel_rfl) (fun _ _ _ h => h) (Or.inl ⟨by rfl, ?_⟩) hHeld ?_
              rotate_left
              · ((intro w hSw; obtain ⟨s1, s2, s3, s4, s5⟩ := hSw; go_simp); (try with_reducible rfl))
              (try simp only [Act.put, List.setIfInBounds_toArray, List.set_cons_zero, List.set_cons_succ])
              refine wpAnyH_done (by kernel_rfl) ?_ _
              have FF := Lib.hid (BA.out.trans (R3.out.mono BA.out.size))
              clear hHeld KS
              go_wp2_with fail
              go_meet
              case rel => exact ⟨_, rfl, rfl, FF⟩
            · go_simp
              have Q1 : Hid (Kept (v2.alloc (.cells #[.int .i64 0, .int .i64 0] 42)) v2.heap.size #[.int .i64 0, .int .i64 0] 42) := Lib.hid (Kept.new rfl)
              have G1 : Hid (v2.heap.size ≤ v2.heap.size) := Lib.hid R0.out.size
              have R1 := Lib.hid (R0.out.alloc R0.out.size (.cells #[.int .i64 0, .int .i64 0] 42))
              refine hK.out _ _ ?_ (fun hHeld => ?_)
              · exact KS.out _ R1.out
              clear hK K
              (try simp only [Act.put, List.setIfInBounds_toArray, List.set_cons_zero, List.set_cons_succ])
              refine wpAnyH_ready (rs := [7]) (by kernel_rfl) (by simp) ?_
              refine AllReadyH.cons (o := ({ dst := some 74, op := Op.call { callee := Callee.value (Operand.func 45), args := #[Operand.tmp 67, Operand.tmp 69, Operand.tmp 73], argTypes := #[35, 2, 2] }, type := 43, pos := "ref.go:110", after := #[{ on := 0, ground := Ground.data }, { on := 2, ground := Ground.data }, { on := 6, ground := Ground.data }], guard := none } : Oper)) rfl (fun K hK => ?_) (AllReadyH.nil)
              go_simp
              (with_reducible refine (CA'.out _).mono ?_)
              rintro _ w2y ⟨rfl, b2⟩
              have R2 := Lib.hid (R1.out.trans (b2.mono R1.out.size))
              have Q2 := Lib.hid (Q1.out.next b2)
              have G2 := G1
              clear b2
              refine hK.out _ _ ?_ (fun hHeld => ?_)
              · exact KS.out _ R2.out
              clear hK K
              (try simp only [Act.put, List.setIfInBounds_toArray, List.set_cons_zero, List.set_cons_succ])
              refine wpAnyH_take (i := 8) (oi := ({ dst := some 66, op := Op.move (Operand.tmp 74), type := 43, pos := "ref.go:110", after := #[{ on := 7, ground := Ground.data }], guard := none } : Oper)) (v := ?_) rfl (by kernel_rfl) (by kernel_rfl) (by kernel_rfl) (fun _ _ _ h => h) (Or.inl ⟨by rfl, ?_⟩) hHeld ?_
              rotate_left
              · ((intro w hSw; obtain ⟨s1, s2, s3, s4, s5⟩ := hSw; go_simp); (try with_reducible rfl))
              (try simp only [Act.put, List.setIfInBounds_toArray, List.set_cons_zero, List.set_cons_succ])
              refine wpAnyH_take (i := 9) (oi := ({ dst := some 75, op := Op.extract (Operand.tmp 66) 0, type := 42, pos := "ref.go:110", after := #[{ on := 8, ground := Ground.data }], guard := none } : Oper)) (v := ?_) rfl (by kernel_rfl) (by kernel_rfl) (by kernel_rfl) (fun _ _ _ h => h) (Or.inl ⟨by rfl, ?_⟩) hHeld ?_
              rotate_left
              · ((intro w hSw; obtain ⟨s1, s2, s3, s4, s5⟩ := hSw; go_simp); (try with_reducible rfl))
              (try simp only [Act.put, List.setIfInBounds_toArray, List.set_cons_zero, List.set_cons_succ])
              refine wpAnyH_take (i := 10) (oi := ({ dst := some 76, op := Op.extract (Operand.tmp 66) 1, type := 25, pos := "ref.go:110", after := #[{ on := 8, ground := Ground.data }, { on := 12, ground := Ground.gcOnly Departure.lateStores }], guard := none } : Oper)) (v := ?_) rfl (by kernel_rfl) (by kernel_rfl) (by kernel_rfl) (fun _ _ _ h => h) (Or.inl ⟨by rfl, ?_⟩) hHeld ?_
              rotate_left
              · ((intro w hSw; obtain ⟨s1, s2, s3, s4, s5⟩ := hSw; go_simp); (try with_reducible rfl))
              (try simp only [Act.put, List.setIfInBounds_toArray, List.set_cons_zero, List.set_cons_succ])
              refine wpAnyH_ready (rs := [12]) (by kernel_rfl) (by simp) ?_
              refine AllReadyH.cons (o := ({ dst := none, op := Op.store 42 (Operand.tmp 5) (Operand.tmp 75), type := 0, pos := "ref.go:110", after := #[{ on := 11, ground := Ground.data }, { on := 9, ground := Ground.data }, { on := 7, ground := Ground.chain }, { on := 0, ground := Ground.phase }, { on := 1, ground := Ground.phase }, { on := 2, ground := Ground.phase }, { on := 3, ground := Ground.phase }, { on := 4, ground := Ground.phase }, { on := 5, ground := Ground.phase }, { on := 6, ground := Ground.phase }, { on := 7, ground := Ground.phase }, { on := 8, ground := Ground.phase }, { on := 9, ground := Ground.phase }, { on := 10, ground := Ground.textOnly Departure.lateStores }, { on := 11, ground := Ground.phase }], guard := none } : Oper)) rfl (fun K hK => ?_) (AllReadyH.nil)
              obtain ⟨x1, x2, x3, x4, x5⟩ := Q2.out.two
              go_simp
              have R3 := Lib.hid (bset2 R2.out G2.out (.int .i64 lo) (.int .i64 hi'))
              refine hK.out _ _ ?_ (fun hHeld => ?_)
              · exact KS.out _ R3.out
              clear hK K
              (try simp only [Act.put, List.setIfInBounds_toArray, List.set_cons_zero, List.set_cons_succ])
              refine wpAnyH_take (i := 13) (oi := ({ dst := some 6, op := Op.assign (Operand.tmp 76), type := 25, pos := "ref.go:110", after := #[{ on := 10, ground := Ground.data }, { on := 12, ground := Ground.chain }, { on := 0, ground := Ground.phase }, { on := 1, ground := Ground.phase }, { on := 2, ground := Ground.phase }, { on := 3, ground := Ground.phase }, { on := 4, ground := Ground.phase }, { on := 5, ground := Ground.phase }, { on := 6, ground := Ground.phase }, { on := 7, ground := Ground.phase }, { on := 8, ground := Ground.phase }, { on := 9, ground := Ground.phase }, { on := 10, ground := Ground.phase }, { on := 11, ground := Ground.phase }, { on := 12, ground := Ground.phase }], guard := none } : Oper)) (v := ?_) rfl (by kernel_rfl) (by kernel_rfl) (by kernel_rfl) (fun _ _ _ h => h) (Or.inl ⟨by rfl, ?_⟩) hHeld ?_
              rotate_left
              · ((intro w hSw; obtain ⟨s1, s2, s3, s4, s5⟩ := hSw; go_simp); (try with_reducible rfl))
              (try simp only [Act.put, List.setIfInBounds_toArray, List.set_cons_zero, List.set_cons_succ])
              refine wpAnyH_done (by kernel_rfl) ?_ _
              have FF := Lib.hid (BA.out.trans (R3.out.mono BA.out.size))
              clear hHeld KS
              go_wp2_with fail
              go_meet
              case rel => exact ⟨_, rfl, rfl, FF⟩
          case rest =>
            obtain ⟨k5, rfl, rfl, hh⟩ := hcut
            obtain ⟨w9, hw9⟩ : ∃ x, x = wc := ⟨_, rfl⟩
            subst hw9
            have P9 : Hid (RkO w9 g (some ⟨b, o5, none⟩) cap5 { c with L := L1, held := true, streak := 0 } ∧ KpC g noV w w9 ∧ Kept w9 w.heap.size #[.int .i64 sa, .int .i64 sg, .int .i64 ss, .int .i64 sc] 35) := Lib.hid ⟨P8.out.1.below hh.out, P8.out.2.1.step hh.out, P8.out.2.2.next hh.out⟩
            obtain ⟨x1, x2, x3, x4, x5, f1, f2, f3, f4, f5, -⟩ := P9.out.1.1.five
            obtain ⟨W9, hW9⟩ : ∃ W9, w9.setCell ⟨g, 4, none⟩ (.slice none 0 0) = W9 := ⟨_, rfl⟩
            have Pa : Hid (RkO W9 g none 0 { c with L := [], held := true, streak := 0 } ∧ KpC g noV w W9 ∧ Kept W9 w.heap.size #[.int .i64 sa, .int .i64 sg, .int .i64 ss, .int .i64 sc] 35) := Lib.hid (by
              rw [← hW9]
              exact ⟨RkO.setRow (c := { c with held := true, streak := 0 }) P9.out.1.1 (L := []) rfl (fun j hj => by simp at hj) (fun _ => rfl) (fun b' o e => by cases e), P9.out.2.1.set 4 _, P9.out.2.2.far (by have := HGL.out; simp; omega) _⟩)
            have HW9 := Lib.hid hW9
            clear hh P8 hW9
            by_cases h0 : atE (sa, sg, ss, sc) ss c.rho = 0
            · rw [if_pos h0] at RE
              rw [h0]
              clear h0
              obtain ⟨y1, y2, y3, y4, y5, g1, g2, g3, g4, g5, -⟩ := Pa.out.1.1.five
              obtain ⟨z1, z2, z3, z4, -⟩ := Pa.out.2.2.four
              obtain ⟨WB, hWB⟩ : ∃ WB, W9.alloc (.cells #[.int .i64 sa, .int .i64 sg, .int .i64 ss, .int .i64 sc] 35) = WB := ⟨_, rfl⟩
              have KB : Kept WB W9.heap.size #[.int .i64 sa, .int .i64 sg, .int .i64 ss, .int .i64 sc] 35 := by rw [← hWB]; exact Kept.new rfl
              have QB : QuadRow WB (some ⟨W9.heap.size, 0, none⟩) [(sa, sg, ss, sc)] := fun j hj => by
                have : j = 0 := by simpa using hj
                subst this
                exact ⟨W9.heap.size, 0, rfl, KB.four.1, KB.four.2.1, KB.four.2.2.1, KB.four.2.2.2.1⟩
              have PB := Pa.out.1.below (show Below W9.heap.size W9 WB by rw [← hWB]; exact one_alloc _ _)
              have FF : Hid (RkAddOut g a c (sa, sg, ss, sc) w (.returned (.int .i64 21)) (WB.setCell ⟨g, 4, none⟩ (.slice (some ⟨W9.heap.size, 0, none⟩) 1 1))) := Lib.hid (by
                have hsz := Pa.out.2.1.size
                have nb : ∀ b' o, (some (⟨W9.heap.size, 0, none⟩ : Addr)) = some ⟨b', o, none⟩ → b' ≠ g := fun b' o e => by
                  cases e
                  have := HGL.out; omega
                refine ⟨_, 1, by rw [RE.out], ?_, ?_, .inr (fun b' o e => by cases e; exact hsz), nb⟩
                · rw [RE.out]
                  exact RkO.setRow (c := { c with held := true, streak := 0 }) PB.1 (L := [(sa, sg, ss, sc)]) rfl QB (fun e => by cases e) nb
                · rw [← hWB]; exact (kpc_alloc Pa.out.2.1 _).set 4 _)
              have HWB := Lib.hid hWB
              obtain ⟨v1, v2', v3, v4, v5, e1, e2, e3, e4, e5, -⟩ := PB.1.five
              clear hWB KB QB PB P9 Pa RE
              go_upto_region 15 with fail
              rw [HW9.out]
              clear x1 x2 x3 x4 x5 f1 f2 f3 f4 f5
              go_wp2_with (rw [HWB.out])
              go_ret
              exact FF.out
            · have hd : (atE (sa, sg, ss, sc) ss c.rho == 0) = false := beq_eq_false_iff_ne.mpr h0
              rw [if_neg h0] at RE
              have FF : Hid (RkAddOut g a c (sa, sg, ss, sc) w (.returned (.int .i64 21)) W9) := Lib.hid ⟨none, 0, by rw [RE.out], by rw [RE.out]; exact Pa.out.1, Pa.out.2.1, .inr (fun b' o e => by (first | cases e | simp at e)), fun b' o e => by (first | cases e | simp at e)⟩
              clear h0 P9 Pa RE
              go_upto_region 15 with fail
              rw [HW9.out]
              clear x1 x2 x3 x4 x5 f1 f2 f3 f4 f5
              go_wp2
              go_ret
              exact FF.out
        · have RE := Lib.hid (RES.out.1 rfl)
          clear RES
          have wst : wrap64 (c.streak + 1) = c.streak + 1 := IntWalk.wrap64_in _ (by have := HS.out; omega)
          have P8 : Hid (RkO (w7.setCell ⟨g, 3, none⟩ (.int .i64 (c.streak + 1))) g (some ⟨b, o5, none⟩) cap5 { c with L := L1, streak := c.streak + 1 } ∧ KpC g noV w (w7.setCell ⟨g, 3, none⟩ (.int .i64 (c.streak + 1)))) := Lib.hid ⟨P7.out.1.setStreak NG.out _, P7.out.2.1.set 3 _⟩
          have HU := Lib.hid hu
          have WB5 : Hid (w.heap.size ≤ b) := Lib.hid P7.out.2.2.1
          clear hu
          go_upto_region 8 with fail
          generalize w7.setCell ⟨g, 3, none⟩ (.int .i64 (c.streak + 1)) = V0 at *
          clear x1 x2 x3 x4 x5 f1 f2 f3 f4 f5 P7
          obtain ⟨x1, x2, x3, x4, x5, f1, f2, f3, f4, f5, -⟩ := P8.out.1.1.five
          (try dsimp only at x1 x2 x3 x4 x5)
          by_cases h2 : c.need ≤ c.streak + 1
          · have d2 : decide (c.need ≤ c.streak + 1) = true := decide_eq_true h2
            have FF : Hid (∀ n, RkAddOut g a c (sa, sg, ss, sc) w (.returned (.int .i64 0)) ((V0.drewN n).setCell ⟨g, 2, none⟩ (.bool false))) := Lib.hid fun n => by
              have e : upH c = false := by unfold upH; rw [HU.out, if_pos h2]
              have k1 : RkO (V0.drewN n) g (some ⟨b, o5, none⟩) cap5 { c with L := L1, streak := c.streak + 1 } := P8.out.1
              refine ⟨_, cap5, by rw [RE.out], ?_, (kpc_drewN P8.out.2 n).set 2 _, .inr (fun b' o e => by cases e; exact WB5.out), NG.out⟩
              rw [RE.out, e, HU.out]
              exact k1.setHeld NG.out false
            clear h2 P8 RE HU
            go_quiet (fail)
            go_wp2
            go_ret
            exact FF.out _
          · have d2 : decide (c.need ≤ c.streak + 1) = false := decide_eq_false h2
            have FF : Hid (∀ n, RkAddOut g a c (sa, sg, ss, sc) w (.returned (.int .i64 0)) (V0.drewN n)) := Lib.hid fun n => by
              have e : upH c = c.held := by unfold upH; rw [HU.out, if_neg h2]
              have k1 : RkO (V0.drewN n) g (some ⟨b, o5, none⟩) cap5 { c with L := L1, streak := c.streak + 1 } := P8.out.1
              refine ⟨_, cap5, by rw [RE.out], ?_, kpc_drewN P8.out.2 n, .inr (fun b' o e => by cases e; exact WB5.out), NG.out⟩
              rw [RE.out, e, HU.out]
              exact k1
            clear h2 P8 RE HU
            go_quiet (fail)
            go_wp2
            go_ret
            exact FF.out _
      · have hn : (c.L ++ [(sa, sg, ss, sc)]).length ≤ 8 := by have := HLL.out; simp; omega
        have hpush : pushL c.L (sa, sg, ss, sc) = c.L ++ [(sa, sg, ss, sc)] := by
          unfold pushL
          rw [if_neg (by simp at hn; omega)]
        have P5 : Hid (RkO w4 g (some ⟨b, 0, none⟩) cap' { c with L := pushL c.L (sa, sg, ss, sc) } ∧ KpC g noV w w4 ∧ w.heap.size ≤ b ∧ Kept w4 w.heap.size #[.int .i64 sa, .int .i64 sg, .int .i64 ss, .int .i64 sc] 35) := Lib.hid (by rw [hpush]; exact ⟨hh.out.1, hh.out.2.1, hh.out.2.2.1, hh.out.2.2.2.1⟩)
        obtain ⟨x1, x2, x3, x4, x5, -⟩ := hh.out.1.1.five
        dsimp only at x5
        obtain ⟨n1, hn1⟩ : ∃ n1, (c.L ++ [(sa, sg, ss, sc)]).length = n1 := ⟨_, rfl⟩
        rw [hn1] at x5 hn
        have hni : ¬ (8 : Int) < (n1 : Int) := by omega
        clear hh hpush hn hn1 h8 B1 K1 H1
        go_upto_region 6 with fail
        obtain ⟨W5, hW5⟩ : ∃ x, x = w4 := ⟨_, rfl⟩
        subst hW5
        obtain ⟨o5, ho5⟩ : ∃ o5, o5 = 0 := ⟨_, rfl⟩
        rw [← ho5] at P5
        obtain ⟨cap5, hcap5⟩ : ∃ x, x = cap' := ⟨_, rfl⟩
        subst hcap5
        clear x1 x2 x3 x4 x5 hni ho5
        obtain ⟨z1, z2, z3, z4, -⟩ := P5.out.2.2.2.four
        obtain ⟨hL1, hL8⟩ := pushL_len (s := (sa, sg, ss, sc)) HLL.out
        have hu : upS c.streak = c.streak + 1 := if_pos (by have := HS.out; omega)
        have RES : Hid ((agreeB (gapsS (pushL c.L (sa, sg, ss, sc)) ss c.rho) = true → addC c (sa, sg, ss, sc) = (0, { c with L := pushL c.L (sa, sg, ss, sc), held := upH c, streak := upS c.streak })) ∧ (agreeB (gapsS (pushL c.L (sa, sg, ss, sc)) ss c.rho) = false → addC c (sa, sg, ss, sc) = (21, { c with held := true, streak := 0, L := if atE (sa, sg, ss, sc) ss c.rho = 0 then [(sa, sg, ss, sc)] else [] }))) := Lib.hid ⟨fun h => addC_yes HR.out h, fun h => addC_un HR.out h⟩
        generalize pushL c.L (sa, sg, ss, sc) = L1 at *
        have NG : Hid (∀ b' o, (some (⟨b, o5, none⟩ : Addr)) = some ⟨b', o, none⟩ → b' ≠ g) := Lib.hid fun b' o e => by
          cases e
          have := HGL.out; have := P5.out.2.2.1; omega
        have CI := Lib.hid (gv_any g (some ⟨b, o5, none⟩) cap5 { c with L := L1 } ss W5 P5.out.1 (by show L1.length ≤ 1000; omega))
        have HL8 := Lib.hid (And.intro hL1 hL8)
        clear hL1 hL8
        go_wp2_with fail
        refine CI.out.mono ?_
        rintro _ w6 ⟨a6, c6, rfl, o6, b6⟩
        (try dsimp only at o6)
        obtain ⟨a6', c6', e6, -, -, -, -, p6⟩ := PairRow.own o6
        cases e6
        have CG := Lib.hid (ragree_any a6 c6 (gapsS L1 ss c.rho) w6 p6 (agree_of_gaps _ _ _) (by rw [gapsS_len]; have := HL8.out; omega))
        rw [gapsS_len] at CG
        obtain ⟨ag, hagg⟩ : ∃ ag, agreeB (gapsS L1 ss c.rho) = ag := ⟨_, rfl⟩
        rw [hagg] at CG RES
        have P6 : Hid (RkO w6 g (some ⟨b, o5, none⟩) cap5 { c with L := L1 } ∧ KpC g noV w w6 ∧ w.heap.size ≤ b ∧ Kept w6 w.heap.size #[.int .i64 sa, .int .i64 sg, .int .i64 ss, .int .i64 sc] 35) := Lib.hid ⟨P5.out.1.below b6, P5.out.2.1.step b6, P5.out.2.2.1, P5.out.2.2.2.next b6⟩
        clear o6 b6 p6 hagg CI P5 z1 z2 z3 z4
        go_wp2_with fail
        refine CG.out.mono ?_
        rintro _ w7 ⟨rfl, b7⟩
        have P7 : Hid (RkO w7 g (some ⟨b, o5, none⟩) cap5 { c with L := L1 } ∧ KpC g noV w w7 ∧ w.heap.size ≤ b ∧ Kept w7 w.heap.size #[.int .i64 sa, .int .i64 sg, .int .i64 ss, .int .i64 sc] 35) := Lib.hid ⟨P6.out.1.below b7, P6.out.2.1.step b7, P6.out.2.2.1, P6.out.2.2.2.next b7⟩
        clear b7 P6 CG
        obtain ⟨x1, x2, x3, x4, x5, f1, f2, f3, f4, f5, -⟩ := P7.out.1.1.five
        (try dsimp only at x1 x2 x3 x4 x5)
        cases ag
        · have RE := Lib.hid (RES.out.2 rfl)
          clear RES
          have P8 : Hid (RkO ((w7.setCell ⟨g, 2, none⟩ (.bool true)).setCell ⟨g, 3, none⟩ (.int .i64 0)) g (some ⟨b, o5, none⟩) cap5 { c with L := L1, held := true, streak := 0 } ∧ KpC g noV w ((w7.setCell ⟨g, 2, none⟩ (.bool true)).setCell ⟨g, 3, none⟩ (.int .i64 0)) ∧ Kept ((w7.setCell ⟨g, 2, none⟩ (.bool true)).setCell ⟨g, 3, none⟩ (.int .i64 0)) w.heap.size #[.int .i64 sa, .int .i64 sg, .int .i64 ss, .int .i64 sc] 35) := Lib.hid ⟨(P7.out.1.setHeld NG.out true).setStreak NG.out 0, (P7.out.2.1.set 2 _).set 3 _, (P7.out.2.2.2.far (by have := HGL.out; simp; omega) _).far (by have := HGL.out; simp; omega) _⟩
          obtain ⟨-, -, -, q4, -, -, -, -, p4, -⟩ := (P7.out.1.setHeld NG.out true).1.five
          go_upto_region 13 with fail
          generalize (w7.setCell ⟨g, 2, none⟩ (.bool true)).setCell ⟨g, 3, none⟩ (.int .i64 0) = V0 at *
          clear x1 x2 x3 x4 x5 f1 f2 f3 f4 f5 q4 p4 P7
          go_cut [5, 6] from 66 to 76 (fun p e wx => R13 V0 (atE (sa, sg, ss, sc) ss c.rho) p e wx)
          case first =>
            obtain ⟨lo, hi', hgg⟩ : ∃ lo hi', atG (sa, sg, ss, sc) ss c.rho = (lo, hi') := ⟨_, _, rfl⟩
            have CA' : Hid (∀ W, Calls Try.prog 45 #[.agg #[.int .i64 sa, .int .i64 sg, .int .i64 ss, .int .i64 sc], .int .i64 ss, .int .i64 c.rho] W (Gives (.tuple #[.agg #[.int .i64 lo, .int .i64 hi'], .int .i64 (atE (sa, sg, ss, sc) ss c.rho)]) W)) := Lib.hid fun W => by
              have hh := rat_any sa sg ss sc ss c.rho W
              rw [hgg] at hh
              exact hh
            generalize atE (sa, sg, ss, sc) ss c.rho = er at *
            have S0 : V0.drew.cell? ⟨w.heap.size, 0, none⟩ = some (.int .i64 sa) ∧ V0.drew.cell? ⟨w.heap.size, 1, none⟩ = some (.int .i64 sg) ∧ V0.drew.cell? ⟨w.heap.size, 2, none⟩ = some (.int .i64 ss) ∧ V0.drew.cell? ⟨w.heap.size, 3, none⟩ = some (.int .i64 sc) ∧ V0.drew.cell? ⟨g, 0, none⟩ = some (.int .i64 c.rho) := ⟨P8.out.2.2.four.1, P8.out.2.2.four.2.1, P8.out.2.2.four.2.2.1, P8.out.2.2.four.2.2.2.1, P8.out.1.1.five.1⟩
            have KS : Hid (∀ W, Below V0.drew.heap.size V0.drew W → W.cell? ⟨w.heap.size, 0, none⟩ = some (.int .i64 sa) ∧ W.cell? ⟨w.heap.size, 1, none⟩ = some (.int .i64 sg) ∧ W.cell? ⟨w.heap.size, 2, none⟩ = some (.int .i64 ss) ∧ W.cell? ⟨w.heap.size, 3, none⟩ = some (.int .i64 sc) ∧ W.cell? ⟨g, 0, none⟩ = some (.int .i64 c.rho)) := Lib.hid fun W hb => keep5 hb S0
            have BA : Hid (Below V0.heap.size V0 V0.drew) := Lib.hid (Below.refl _ _).drew
            refine wp_region_held_drew (S := fun w' => w'.cell? ⟨w.heap.size, 0, none⟩ = some (.int .i64 sa) ∧ w'.cell? ⟨w.heap.size, 1, none⟩ = some (.int .i64 sg) ∧ w'.cell? ⟨w.heap.size, 2, none⟩ = some (.int .i64 ss) ∧ w'.cell? ⟨w.heap.size, 3, none⟩ = some (.int .i64 sc) ∧ w'.cell? ⟨g, 0, none⟩ = some (.int .i64 c.rho)) (by kernel_rfl) S0 (fun hHeld => ?_)
            clear S0
            generalize V0.drew = v2 at *
            have R0 : Hid (Below v2.heap.size v2 v2) := Lib.hid (Below.refl _ _)
            refine wpAnyH_take (i := 0) (oi := ({ dst := some 67, op := Op.load 35 (Operand.tmp 3), type := 35, pos := "ref.go:110", after := #[], guard := none } : Oper)) (v := ?_) rfl (by kernel_rfl) (by kernel_rfl) (by kernel_rfl) (fun _ _ _ h => h) (Or.inl ⟨by rfl, ?_⟩) hHeld ?_
            rotate_left
            · ((intro w hSw; obtain ⟨s1, s2, s3, s4, s5⟩ := hSw; go_simp); (try with_reducible rfl))
            (try simp only [Act.put, List.setIfInBounds_toArray, List.set_cons_zero, List.set_cons_succ])
            refine wpAnyH_take (i := 1) (oi := ({ dst := some 68, op := Op.fieldAddr 35 (Operand.tmp 3) 2, type := 0, pos := "ref.go:110", after := #[], guard := none } : Oper)) (v := ?_) rfl (by kernel_rfl) (by kernel_rfl) (by kernel_rfl) (fun _ _ _ h => h) (Or.inl ⟨by rfl, ?_⟩) hHeld ?_
            rotate_left
            · ((intro w hSw; obtain ⟨s1, s2, s3, s4, s5⟩ := hSw; go_simp); (try with_reducible rfl))
            (try simp only [Act.put, List.setIfInBounds_toArray, List.set_cons_zero, List.set_cons_succ])
            refine wpAnyH_take (i := 2) (oi := ({ dst := some 69, op := Op.load 2 (Operand.tmp 68), type := 2, pos := "ref.go:110", after := #[{ on := 1, ground := Ground.data }], guard := none } : Oper)) (v := ?_) rfl (by kernel_rfl) (by kernel_rfl) (by kernel_rfl) (fun _ _ _ h => h) (Or.inl ⟨by rfl, ?_⟩) hHeld ?_
            rotate_left
            · ((intro w hSw; obtain ⟨s1, s2, s3, s4, s5⟩ := hSw; go_simp); (try with_reducible rfl))
            (try simp only [Act.put, List.setIfInBounds_toArray, List.set_cons_zero, List.set_cons_succ])
            refine wpAnyH_take (i := 3) (oi := ({ dst := some 70, op := Op.move (Operand.tmp 0), type := 28, pos := "ref.go:110", after := #[], guard := none } : Oper)) (v := ?_) rfl (by kernel_rfl) (by kernel_rfl) (by kernel_rfl) (fun _ _ _ h => h) (Or.inl ⟨by rfl, ?_⟩) hHeld ?_
            rotate_left
            · ((intro w hSw; obtain ⟨s1, s2, s3, s4, s5⟩ := hSw; go_simp); (try with_reducible rfl))
            (try simp only [Act.put, List.setIfInBounds_toArray, List.set_cons_zero, List.set_cons_succ])
            refine wpAnyH_take (i := 4) (oi := ({ dst := some 71, op := Op.nilCheck (Operand.tmp 70), type := 0, pos := "ref.go:110", after := #[{ on := 3, ground := Ground.data }], guard := none } : Oper)) (v := ?_) rfl (by kernel_rfl) (by kernel_rfl) (by kernel_rfl) (fun _ _ _ h => h) (Or.inl ⟨by rfl, ?_⟩) hHeld ?_
            rotate_left
            · ((intro w hSw; obtain ⟨s1, s2, s3, s4, s5⟩ := hSw; go_simp); (try with_reducible rfl))
            (try simp only [Act.put, List.setIfInBounds_toArray, List.set_cons_zero, List.set_cons_succ])
            refine wpAnyH_take (i := 5) (oi := ({ dst := some 72, op := Op.fieldAddr 81 (Operand.tmp 71) 0, type := 0, pos := "ref.go:110", after := #[{ on := 4, ground := Ground.data }], guard := none } : Oper)) (v := ?_) rfl (by kernel_rfl) (by kernel_rfl) (by kernel_rfl) (fun _ _ _ h => h) (Or.inl ⟨by rfl, ?_⟩) hHeld ?_
            rotate_left
            · ((intro w hSw; obtain ⟨s1, s2, s3, s4, s5⟩ := hSw; go_simp); (try with_reducible rfl))
            (try simp only [Act.put, List.setIfInBounds_toArray, List.set_cons_zero, List.set_cons_succ])
            refine wpAnyH_take (i := 6) (oi := ({ dst := some 73, op := Op.load 2 (Operand.tmp 72), type := 2, pos := "ref.go:110", after := #[{ on := 5, ground := Ground.data }], guard := none } : Oper)) (v := ?_) rfl (by kernel_rfl) (by kernel_rfl) (by kernel_rfl) (fun _ _ _ h => h) (Or.inl ⟨by rfl, ?_⟩) hHeld ?_
            rotate_left
            · ((intro w hSw; obtain ⟨s1, s2, s3, s4, s5⟩ := hSw; go_simp); (try with_reducible rfl))
            (try simp only [Act.put, List.setIfInBounds_toArray, List.set_cons_zero, List.set_cons_succ])
            refine wpAnyH_ready (rs := [7, 11]) (by kernel_rfl) (by simp) ?_
            refine AllReadyH.cons (o := ({ dst := some 74, op := Op.call { callee := Callee.value (Operand.func 45), args := #[Operand.tmp 67, Operand.tmp 69, Operand.tmp 73], argTypes := #[35, 2, 2] }, type := 43, pos := "ref.go:110", after := #[{ on := 0, ground := Ground.data }, { on := 2, ground := Ground.data }, { on := 6, ground := Ground.data }], guard := none } : Oper)) rfl (fun K hK => ?_) (AllReadyH.cons (o := ({ dst := some 5, op := Op.alloc 42, type := 0, pos := "ref.go:110", after := #[], guard := none } : Oper)) rfl (fun K hK => ?_) (AllReadyH.nil))
            · go_simp
              (with_reducible refine (CA'.out _).mono ?_)
              rintro _ w1y ⟨rfl, b1⟩
              have R1 := Lib.hid (R0.out.trans (b1.mono R0.out.size))
              clear b1
              refine hK.out _ _ ?_ (fun hHeld => ?_)
              · exact KS.out _ R1.out
              clear hK K
              (try simp only [Act.put, List.setIfInBounds_toArray, List.set_cons_zero, List.set_cons_succ])
              refine wpAnyH_take (i := 8) (oi := ({ dst := some 66, op := Op.move (Operand.tmp 74), type := 43, pos := "ref.go:110", after := #[{ on := 7, ground := Ground.data }], guard := none } : Oper)) (v := ?_) rfl (by kernel_rfl) (by kernel_rfl) (by kernel_rfl) (fun _ _ _ h => h) (Or.inl ⟨by rfl, ?_⟩) hHeld ?_
              rotate_left
              · ((intro w hSw; obtain ⟨s1, s2, s3, s4, s5⟩ := hSw; go_simp); (try with_reducible rfl))
              (try simp only [Act.put, List.setIfInBounds_toArray, List.set_cons_zero, List.set_cons_succ])
              refine wpAnyH_take (i := 9) (oi := ({ dst := some 75, op := Op.extract (Operand.tmp 66) 0, type := 42, pos := "ref.go:110", after := #[{ on := 8, ground := Ground.data }], guard := none } : Oper)) (v := ?_) rfl (by kernel_rfl) (by kernel_rfl) (by kernel_rfl) (fun _ _ _ h => h) (Or.inl ⟨by rfl, ?_⟩) hHeld ?_
              rotate_left
              · ((intro w hSw; obtain ⟨s1, s2, s3, s4, s5⟩ := hSw; go_simp); (try with_reducible rfl))
              (try simp only [Act.put, List.setIfInBounds_toArray, List.set_cons_zero, List.set_cons_succ])
              refine wpAnyH_take (i := 10) (oi := ({ dst := some 76, op := Op.extract (Operand.tmp 66) 1, type := 25, pos := "ref.go:110", after := #[{ on := 8, ground := Ground.data }, { on := 12, ground := Ground.gcOnly Departure.lateStores }], guard := none } : Oper)) (v := ?_) rfl (by kernel_rfl) (by kernel_rfl) (by kernel_rfl) (fun _ _ _ h => h) (Or.inl ⟨by rfl, ?_⟩) hHeld ?_
              rotate_left
              · ((intro w hSw; obtain ⟨s1, s2, s3, s4, s5⟩ := hSw; go_simp); (try with_reducible rfl))
              (try simp only [Act.put, List.setIfInBounds_toArray, List.set_cons_zero, List.set_cons_succ])
              refine wpAnyH_ready (rs := [11]) (by kernel_rfl) (by simp) ?_
              refine AllReadyH.cons (o := ({ dst := some 5, op := Op.alloc 42, type := 0, pos := "ref.go:110", after := #[], guard := none } : Oper)) rfl (fun K hK => ?_) (AllReadyH.nil)
              go_simp
              have Q2 : Hid (Kept (w1y.alloc (.cells #[.int .i64 0, .int .i64 0] 42)) w1y.heap.size #[.int .i64 0, .int .i64 0] 42) := Lib.hid (Kept.new rfl)
              have G2 : Hid (v2.heap.size ≤ w1y.heap.size) := Lib.hid R1.out.size
              have R2 := Lib.hid (R1.out.alloc R1.out.size (.cells #[.int .i64 0, .int .i64 0] 42))
              refine hK.out _ _ ?_ (fun hHeld => ?_)
              · exact KS.out _ R2.out
              clear hK K
              (try simp only [Act.put, List.setIfInBounds_toArray, List.set_cons_zero, List.set_cons_succ])
              refine wpAnyH_ready (rs := [12]) (by kernel_rfl) (by simp) ?_
              refine AllReadyH.cons (o := ({ dst := none, op := Op.store 42 (Operand.tmp 5) (Operand.tmp 75), type := 0, pos := "ref.go:110", after := #[{ on := 11, ground := Ground.data }, { on := 9, ground := Ground.data }, { on := 7, ground := Ground.chain }, { on := 0, ground := Ground.phase }, { on := 1, ground := Ground.phase }, { on := 2, ground := Ground.phase }, { on := 3, ground := Ground.phase }, { on := 4, ground := Ground.phase }, { on := 5, ground := Ground.phase }, { on := 6, ground := Ground.phase }, { on := 7, ground := Ground.phase }, { on := 8, ground := Ground.phase }, { on := 9, ground := Ground.phase }, { on := 10, ground := Ground.textOnly Departure.lateStores }, { on := 11, ground := Ground.phase }], guard := none } : Oper)) rfl (fun K hK => ?_) (AllReadyH.nil)
              obtain ⟨x1, x2, x3, x4, x5⟩ := Q2.out.two
              go_simp
              have R3 := Lib.hid (R1.out.alloc R1.out.size (.cells #[.int .i64 lo, .int .i64 hi'] 42))
              refine hK.out _ _ ?_ (fun hHeld => ?_)
              · exact KS.out _ R3.out
              clear hK K
              (try simp only [Act.put, List.setIfInBounds_toArray, List.set_cons_zero, List.set_cons_succ])
              refine wpAnyH_take (i := 13) (oi := ({ dst := some 6, op := Op.assign (Operand.tmp 76), type := 25, pos := "ref.go:110", after := #[{ on := 10, ground := Ground.data }, { on := 12, ground := Ground.chain }, { on := 0, ground := Ground.phase }, { on := 1, ground := Ground.phase }, { on := 2, ground := Ground.phase }, { on := 3, ground := Ground.phase }, { on := 4, ground := Ground.phase }, { on := 5, ground := Ground.phase }, { on := 6, ground := Ground.phase }, { on := 7, ground := Ground.phase }, { on := 8, ground := Ground.phase }, { on := 9, ground := Ground.phase }, { on := 10, ground := Ground.phase }, { on := 11, ground := Ground.phase }, { on := 12, ground := Ground.phase }], guard := none } : Oper)) (v := ?_) rfl (by kernel_rfl) (by kernel_rfl) (by kernel_rfl) (fun _ _ _ h => h) (Or.inl ⟨by rfl, ?_⟩) hHeld ?_
              rotate_left
              · ((intro w hSw; obtain ⟨s1, s2, s3, s4, s5⟩ := hSw; go_simp); (try with_reducible rfl))
              (try simp only [Act.put, List.setIfInBounds_toArray, List.set_cons_zero, List.set_cons_succ])
              refine wpAnyH_done (by kernel_rfl) ?_ _
              have FF := Lib.hid (BA.out.trans (R3.out.mono BA.out.size))
              clear hHeld KS
              go_wp2_with fail
              go_meet
              case rel => exact ⟨_, rfl, rfl, FF⟩
            · go_simp
              have Q1 : Hid (Kept (v2.alloc (.cells #[.int .i64 0, .int .i64 0] 42)) v2.heap.size #[.int .i64 0, .int .i64 0] 42) := Lib.hid (Kept.new rfl)
              have G1 : Hid (v2.heap.size ≤ v2.heap.size) := Lib.hid R0.out.size
              have R1 := Lib.hid (R0.out.alloc R0.out.size (.cells #[.int .i64 0, .int .i64 0] 42))
              refine hK.out _ _ ?_ (fun hHeld => ?_)
              · exact KS.out _ R1.out
              clear hK K
              (try simp only [Act.put, List.setIfInBounds_toArray, List.set_cons_zero, List.set_cons_succ])
              refine wpAnyH_ready (rs := [7]) (by kernel_rfl) (by simp) ?_
              refine AllReadyH.cons (o := ({ dst := some 74, op := Op.call { callee := Callee.value (Operand.func 45), args := #[Operand.tmp 67, Operand.tmp 69, Operand.tmp 73], argTypes := #[35, 2, 2] }, type := 43, pos := "ref.go:110", after := #[{ on := 0, ground := Ground.data }, { on := 2, ground := Ground.data }, { on := 6, ground := Ground.data }], guard := none } : Oper)) rfl (fun K hK => ?_) (AllReadyH.nil)
              go_simp
              (with_reducible refine (CA'.out _).mono ?_)
              rintro _ w2y ⟨rfl, b2⟩
              have R2 := Lib.hid (R1.out.trans (b2.mono R1.out.size))
              have Q2 := Lib.hid (Q1.out.next b2)
              have G2 := G1
              clear b2
              refine hK.out _ _ ?_ (fun hHeld => ?_)
              · exact KS.out _ R2.out
              clear hK K
              (try simp only [Act.put, List.setIfInBounds_toArray, List.set_cons_zero, List.set_cons_succ])
              refine wpAnyH_take (i := 8) (oi := ({ dst := some 66, op := Op.move (Operand.tmp 74), type := 43, pos := "ref.go:110", after := #[{ on := 7, ground := Ground.data }], guard := none } : Oper)) (v := ?_) rfl (by kernel_rfl) (by kernel_rfl) (by kernel_rfl) (fun _ _ _ h => h) (Or.inl ⟨by rfl, ?_⟩) hHeld ?_
              rotate_left
              · ((intro w hSw; obtain ⟨s1, s2, s3, s4, s5⟩ := hSw; go_simp); (try with_reducible rfl))
              (try simp only [Act.put, List.setIfInBounds_toArray, List.set_cons_zero, List.set_cons_succ])
              refine wpAnyH_take (i := 9) (oi := ({ dst := some 75, op := Op.extract (Operand.tmp 66) 0, type := 42, pos := "ref.go:110", after := #[{ on := 8, ground := Ground.data }], guard := none } : Oper)) (v := ?_) rfl (by kernel_rfl) (by kernel_rfl) (by kernel_rfl) (fun _ _ _ h => h) (Or.inl ⟨by rfl, ?_⟩) hHeld ?_
              rotate_left
              · ((intro w hSw; obtain ⟨s1, s2, s3, s4, s5⟩ := hSw; go_simp); (try with_reducible rfl))
              (try simp only [Act.put, List.setIfInBounds_toArray, List.set_cons_zero, List.set_cons_succ])
              refine wpAnyH_take (i := 10) (oi := ({ dst := some 76, op := Op.extract (Operand.tmp 66) 1, type := 25, pos := "ref.go:110", after := #[{ on := 8, ground := Ground.data }, { on := 12, ground := Ground.gcOnly Departure.lateStores }], guard := none } : Oper)) (v := ?_) rfl (by kernel_rfl) (by kernel_rfl) (by kernel_rfl) (fun _ _ _ h => h) (Or.inl ⟨by rfl, ?_⟩) hHeld ?_
              rotate_left
              · ((intro w hSw; obtain ⟨s1, s2, s3, s4, s5⟩ := hSw; go_simp); (try with_reducible rfl))
              (try simp only [Act.put, List.setIfInBounds_toArray, List.set_cons_zero, List.set_cons_succ])
              refine wpAnyH_ready (rs := [12]) (by kernel_rfl) (by simp) ?_
              refine AllReadyH.cons (o := ({ dst := none, op := Op.store 42 (Operand.tmp 5) (Operand.tmp 75), type := 0, pos := "ref.go:110", after := #[{ on := 11, ground := Ground.data }, { on := 9, ground := Ground.data }, { on := 7, ground := Ground.chain }, { on := 0, ground := Ground.phase }, { on := 1, ground := Ground.phase }, { on := 2, ground := Ground.phase }, { on := 3, ground := Ground.phase }, { on := 4, ground := Ground.phase }, { on := 5, ground := Ground.phase }, { on := 6, ground := Ground.phase }, { on := 7, ground := Ground.phase }, { on := 8, ground := Ground.phase }, { on := 9, ground := Ground.phase }, { on := 10, ground := Ground.textOnly Departure.lateStores }, { on := 11, ground := Ground.phase }], guard := none } : Oper)) rfl (fun K hK => ?_) (AllReadyH.nil)
              obtain ⟨x1, x2, x3, x4, x5⟩ := Q2.out.two
              go_simp
              have R3 := Lib.hid (bset2 R2.out G2.out (.int .i64 lo) (.int .i64 hi'))
              refine hK.out _ _ ?_ (fun hHeld => ?_)
              · exact KS.out _ R3.out
              clear hK K
              (try simp only [Act.put, List.setIfInBounds_toArray, List.set_cons_zero, List.set_cons_succ])
              refine wpAnyH_take (i := 13) (oi := ({ dst := some 6, op := Op.assign (Operand.tmp 76), type := 25, pos := "ref.go:110", after := #[{ on := 10, ground := Ground.data }, { on := 12, ground := Ground.chain }, { on := 0, ground := Ground.phase }, { on := 1, ground := Ground.phase }, { on := 2, ground := Ground.phase }, { on := 3, ground := Ground.phase }, { on := 4, ground := Ground.phase }, { on := 5, ground := Ground.phase }, { on := 6, ground := Ground.phase }, { on := 7, ground := Ground.phase }, { on := 8, ground := Ground.phase }, { on := 9, ground := Ground.phase }, { on := 10, ground := Ground.phase }, { on := 11, ground := Ground.phase }, { on := 12, ground := Ground.phase }], guard := none } : Oper)) (v := ?_) rfl (by kernel_rfl) (by kernel_rfl) (by kernel_rfl) (fun _ _ _ h => h) (Or.inl ⟨by rfl, ?_⟩) hHeld ?_
              rotate_left
              · ((intro w hSw; obtain ⟨s1, s2, s3, s4, s5⟩ := hSw; go_simp); (try with_reducible rfl))
              (try simp only [Act.put, List.setIfInBounds_toArray, List.set_cons_zero, List.set_cons_succ])
              refine wpAnyH_done (by kernel_rfl) ?_ _
              have FF := Lib.hid (BA.out.trans (R3.out.mono BA.out.size))
              clear hHeld KS
              go_wp2_with fail
              go_meet
              case rel => exact ⟨_, rfl, rfl, FF⟩
          case rest =>
            obtain ⟨k5, rfl, rfl, hh⟩ := hcut
            obtain ⟨w9, hw9⟩ : ∃ x, x = wc := ⟨_, rfl⟩
            subst hw9
            have P9 : Hid (RkO w9 g (some ⟨b, o5, none⟩) cap5 { c with L := L1, held := true, streak := 0 } ∧ KpC g noV w w9 ∧ Kept w9 w.heap.size #[.int .i64 sa, .int .i64 sg, .int .i64 ss, .int .i64 sc] 35) := Lib.hid ⟨P8.out.1.below hh.out, P8.out.2.1.step hh.out, P8.out.2.2.next hh.out⟩
            obtain ⟨x1, x2, x3, x4, x5, f1, f2, f3, f4, f5, -⟩ := P9.out.1.1.five
            obtain ⟨W9, hW9⟩ : ∃ W9, w9.setCell ⟨g, 4, none⟩ (.slice none 0 0) = W9 := ⟨_, rfl⟩
            have Pa : Hid (RkO W9 g none 0 { c with L := [], held := true, streak := 0 } ∧ KpC g noV w W9 ∧ Kept W9 w.heap.size #[.int .i64 sa, .int .i64 sg, .int .i64 ss, .int .i64 sc] 35) := Lib.hid (by
              rw [← hW9]
              exact ⟨RkO.setRow (c := { c with held := true, streak := 0 }) P9.out.1.1 (L := []) rfl (fun j hj => by simp at hj) (fun _ => rfl) (fun b' o e => by cases e), P9.out.2.1.set 4 _, P9.out.2.2.far (by have := HGL.out; simp; omega) _⟩)
            have HW9 := Lib.hid hW9
            clear hh P8 hW9
            by_cases h0 : atE (sa, sg, ss, sc) ss c.rho = 0
            · rw [if_pos h0] at RE
              rw [h0]
              clear h0
              obtain ⟨y1, y2, y3, y4, y5, g1, g2, g3, g4, g5, -⟩ := Pa.out.1.1.five
              obtain ⟨z1, z2, z3, z4, -⟩ := Pa.out.2.2.four
              obtain ⟨WB, hWB⟩ : ∃ WB, W9.alloc (.cells #[.int .i64 sa, .int .i64 sg, .int .i64 ss, .int .i64 sc] 35) = WB := ⟨_, rfl⟩
              have KB : Kept WB W9.heap.size #[.int .i64 sa, .int .i64 sg, .int .i64 ss, .int .i64 sc] 35 := by rw [← hWB]; exact Kept.new rfl
              have QB : QuadRow WB (some ⟨W9.heap.size, 0, none⟩) [(sa, sg, ss, sc)] := fun j hj => by
                have : j = 0 := by simpa using hj
                subst this
                exact ⟨W9.heap.size, 0, rfl, KB.four.1, KB.four.2.1, KB.four.2.2.1, KB.four.2.2.2.1⟩
              have PB := Pa.out.1.below (show Below W9.heap.size W9 WB by rw [← hWB]; exact one_alloc _ _)
              have FF : Hid (RkAddOut g a c (sa, sg, ss, sc) w (.returned (.int .i64 21)) (WB.setCell ⟨g, 4, none⟩ (.slice (some ⟨W9.heap.size, 0, none⟩) 1 1))) := Lib.hid (by
                have hsz := Pa.out.2.1.size
                have nb : ∀ b' o, (some (⟨W9.heap.size, 0, none⟩ : Addr)) = some ⟨b', o, none⟩ → b' ≠ g := fun b' o e => by
                  cases e
                  have := HGL.out; omega
                refine ⟨_, 1, by rw [RE.out], ?_, ?_, .inr (fun b' o e => by cases e; exact hsz), nb⟩
                · rw [RE.out]
                  exact RkO.setRow (c := { c with held := true, streak := 0 }) PB.1 (L := [(sa, sg, ss, sc)]) rfl QB (fun e => by cases e) nb
                · rw [← hWB]; exact (kpc_alloc Pa.out.2.1 _).set 4 _)
              have HWB := Lib.hid hWB
              obtain ⟨v1, v2', v3, v4, v5, e1, e2, e3, e4, e5, -⟩ := PB.1.five
              clear hWB KB QB PB P9 Pa RE
              go_upto_region 15 with fail
              rw [HW9.out]
              clear x1 x2 x3 x4 x5 f1 f2 f3 f4 f5
              go_wp2_with (rw [HWB.out])
              go_ret
              exact FF.out
            · have hd : (atE (sa, sg, ss, sc) ss c.rho == 0) = false := beq_eq_false_iff_ne.mpr h0
              rw [if_neg h0] at RE
              have FF : Hid (RkAddOut g a c (sa, sg, ss, sc) w (.returned (.int .i64 21)) W9) := Lib.hid ⟨none, 0, by rw [RE.out], by rw [RE.out]; exact Pa.out.1, Pa.out.2.1, .inr (fun b' o e => by (first | cases e | simp at e)), fun b' o e => by (first | cases e | simp at e)⟩
              clear h0 P9 Pa RE
              go_upto_region 15 with fail
              rw [HW9.out]
              clear x1 x2 x3 x4 x5 f1 f2 f3 f4 f5
              go_wp2
              go_ret
              exact FF.out
        · have RE := Lib.hid (RES.out.1 rfl)
          clear RES
          have wst : wrap64 (c.streak + 1) = c.streak + 1 := IntWalk.wrap64_in _ (by have := HS.out; omega)
          have P8 : Hid (RkO (w7.setCell ⟨g, 3, none⟩ (.int .i64 (c.streak + 1))) g (some ⟨b, o5, none⟩) cap5 { c with L := L1, streak := c.streak + 1 } ∧ KpC g noV w (w7.setCell ⟨g, 3, none⟩ (.int .i64 (c.streak + 1)))) := Lib.hid ⟨P7.out.1.setStreak NG.out _, P7.out.2.1.set 3 _⟩
          have HU := Lib.hid hu
          have WB5 : Hid (w.heap.size ≤ b) := Lib.hid P7.out.2.2.1
          clear hu
          go_upto_region 8 with fail
          generalize w7.setCell ⟨g, 3, none⟩ (.int .i64 (c.streak + 1)) = V0 at *
          clear x1 x2 x3 x4 x5 f1 f2 f3 f4 f5 P7
          obtain ⟨x1, x2, x3, x4, x5, f1, f2, f3, f4, f5, -⟩ := P8.out.1.1.five
          (try dsimp only at x1 x2 x3 x4 x5)
          by_cases h2 : c.need ≤ c.streak + 1
          · have d2 : decide (c.need ≤ c.streak + 1) = true := decide_eq_true h2
            have FF : Hid (∀ n, RkAddOut g a c (sa, sg, ss, sc) w (.returned (.int .i64 0)) ((V0.drewN n).setCell ⟨g, 2, none⟩ (.bool false))) := Lib.hid fun n => by
              have e : upH c = false := by unfold upH; rw [HU.out, if_pos h2]
              have k1 : RkO (V0.drewN n) g (some ⟨b, o5, none⟩) cap5 { c with L := L1, streak := c.streak + 1 } := P8.out.1
              refine ⟨_, cap5, by rw [RE.out], ?_, (kpc_drewN P8.out.2 n).set 2 _, .inr (fun b' o e => by cases e; exact WB5.out), NG.out⟩
              rw [RE.out, e, HU.out]
              exact k1.setHeld NG.out false
            clear h2 P8 RE HU
            go_quiet (fail)
            go_wp2
            go_ret
            exact FF.out _
          · have d2 : decide (c.need ≤ c.streak + 1) = false := decide_eq_false h2
            have FF : Hid (∀ n, RkAddOut g a c (sa, sg, ss, sc) w (.returned (.int .i64 0)) (V0.drewN n)) := Lib.hid fun n => by
              have e : upH c = c.held := by unfold upH; rw [HU.out, if_neg h2]
              have k1 : RkO (V0.drewN n) g (some ⟨b, o5, none⟩) cap5 { c with L := L1, streak := c.streak + 1 } := P8.out.1
              refine ⟨_, cap5, by rw [RE.out], ?_, kpc_drewN P8.out.2 n, .inr (fun b' o e => by cases e; exact WB5.out), NG.out⟩
              rw [RE.out, e, HU.out]
              exact k1
            clear h2 P8 RE HU
            go_quiet (fail)
            go_wp2
            go_ret
            exact FF.out _
end Go.Proofs.Ytflplliiamodhaa
