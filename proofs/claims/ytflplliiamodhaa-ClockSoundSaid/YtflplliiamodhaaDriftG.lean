/- drift.byTime: for every list of points. -/
import Derived.Test.YtflplliiamodhaaPairL
import Derived.Test.YtflplliiamodhaaWideF
import Derived.Test.YtflplliiamodhaaSort
import Derived.Shelf.SlSortCmp.NoneTotal
import Derived.Deep.RegionHeld3
import Derived.Lib.SliceRun
namespace Go.Proofs.Ytflplliiamodhaa
open Go.RowKit
set_option linter.unusedVariables false

def cfP (p q : Int × Int) : Int := if ordI p.1 q.1 = 0 then ordI p.2 q.2 else ordI p.1 q.1
theorem lt_cfP (p q : Int × Int) : ltOf cfP p q = decide (p.1 < q.1 ∨ (p.1 = q.1 ∧ p.2 < q.2)) := by
  unfold ltOf cfP ordI
  rw [Bool.eq_iff_iff, decide_eq_true_iff, decide_eq_true_iff]
  (repeat' split) <;> omega
theorem swoP : Go.Sort.SWO (ltOf cfP) where
  irrefl x := by rw [lt_cfP]; simp
  trans x y z h1 h2 := by rw [lt_cfP] at *; simp at *; omega
  ntrans x y z h1 h2 := by rw [lt_cfP] at *; simp at *; omega
def encP (p : Int × Int) : List Value := [.int .i64 p.1, .int .i64 p.2]
def GrownOut (v : Int) (W : World) (e : Ending) (w' : World) : Prop := e = .returned (.int .i64 v) ∧ ∃ q os', w' = Go.Sort.grow (W.drewN q) os'
set_option maxHeartbeats 2000000 in
theorem cmp_walk (a b c d x y r : Int) (W : World) (C1 : Hid (∀ W, Calls Try.prog 87 #[.int .i64 a, .int .i64 c] W fun e w' => e = .returned (.int .i64 x) ∧ W = w')) (C2 : Hid (∀ W, Calls Try.prog 87 #[.int .i64 b, .int .i64 d] W fun e w' => e = .returned (.int .i64 y) ∧ W = w'))
    (C3 : Hid (∀ (g : Nat) W, W.cell? ⟨g, 0, none⟩ = some (.int .i64 x) → W.cell? ⟨g, 1, none⟩ = some (.int .i64 y) → Calls Try.prog 86 #[.slice (some ⟨g, 0, none⟩) 2 2] W fun e w' => e = .returned (.int .i64 r) ∧ W = w')) :
    Calls Try.prog 85 #[.agg #[.int .i64 a, .int .i64 b], .agg #[.int .i64 c, .int .i64 d]] W (GrownOut r W) := by
  obtain ⟨V, hV⟩ : ∃ V, (W.alloc (.cells #[.int .i64 a, .int .i64 b] 59)).alloc (.cells #[.int .i64 c, .int .i64 d] 59) = V := ⟨_, rfl⟩
  have K0 : Hid (Kept V W.heap.size #[.int .i64 a, .int .i64 b] 59) := Lib.hid (by rw [← hV]; exact (Kept.new (by simp)).alloc _)
  have K1 : Hid (Kept V (W.heap.size + 1) #[.int .i64 c, .int .i64 d] 59) := Lib.hid (by rw [← hV]; exact Kept.new (by simp))
  have fin : ∀ w', w' = (V.alloc (.cells #[.int .i64 x, .int .i64 y] 3)).drew → GrownOut r W (.returned (.int .i64 r)) w' := fun w' h => ⟨rfl, 1, #[.cells #[.int .i64 a, .int .i64 b] 59, .cells #[.int .i64 c, .int .i64 d] 59, .cells #[.int .i64 x, .int .i64 y] 3], by
    rw [h, ← hV, Go.Sort.alloc_eq_grow, Go.Sort.alloc_eq_grow, Go.Sort.alloc_eq_grow, Go.Sort.grow_grow, Go.Sort.grow_grow]
    rfl⟩
  have Fin := Lib.hid fin
  have D0 : Hid ((V.alloc (.cells #[.int .i64 x, .int .i64 y] 3)).drew.cell? ⟨W.heap.size, 0, none⟩ = some (.int .i64 a) ∧ (V.alloc (.cells #[.int .i64 x, .int .i64 y] 3)).drew.cell? ⟨W.heap.size, 1, none⟩ = some (.int .i64 b) ∧ (V.alloc (.cells #[.int .i64 x, .int .i64 y] 3)).drew.cell? ⟨W.heap.size + 1, 0, none⟩ = some (.int .i64 c) ∧ (V.alloc (.cells #[.int .i64 x, .int .i64 y] 3)).drew.cell? ⟨W.heap.size + 1, 1, none⟩ = some (.int .i64 d)) := by
    have k0 := (K0.out.alloc (.cells #[.int .i64 x, .int .i64 y] 3)).drewN 1
    have k1 := (K1.out.alloc (.cells #[.int .i64 x, .int .i64 y] 3)).drewN 1
    exact Lib.hid ⟨k0.two.1, k0.two.2.1, k1.two.1, k1.two.2.1⟩
  have HV := Lib.hid hV
  clear hV fin
  obtain ⟨a1, a2, -, -, a5⟩ := K0.out.two
  obtain ⟨b1, b2, -, -, b5⟩ := K1.out.two
  go_enter Try.func85, Try.ntmps85
  go_wp2
  rw [HV.out]
  go_region_held3 (fun w' => w'.cell? ⟨W.heap.size, 0, none⟩ = some (.int .i64 a) ∧ w'.cell? ⟨W.heap.size, 1, none⟩ = some (.int .i64 b) ∧ w'.cell? ⟨W.heap.size + 1, 0, none⟩ = some (.int .i64 c) ∧ w'.cell? ⟨W.heap.size + 1, 1, none⟩ = some (.int .i64 d))
    (first | exact ⟨a1, a2, b1, b2⟩ | exact D0.out | go_keep)
    (first | (go_at_call_of 87 (Value.int IntKind.i64 a); refine (C1.out _).mono ?_; rintro _ _ ⟨rfl, rfl⟩) | (go_at_call_of 87 (Value.int IntKind.i64 b); refine (C2.out _).mono ?_; rintro _ _ ⟨rfl, rfl⟩) | (go_at_call 86; refine (C3.out _ _ (by simp) (by simp)).mono ?_; rintro _ _ ⟨rfl, rfl⟩))
  all_goals
    go_wp2
    go_ret
    exact Fin.out _ rfl
theorem cmp_any (p q : Int × Int) (W : World) : Calls Try.prog 85 #[.agg (encP p).toArray, .agg (encP q).toArray] W (GrownOut (cfP p q) W) :=
  cmp_walk p.1 p.2 q.1 q.2 _ _ _ W (Lib.hid fun W => cmpI_any _ _ W) (Lib.hid fun W => cmpI_any _ _ W) (Lib.hid fun g W h1 h2 => cmpOr_any _ _ g W h1 h2)
theorem info_pt : (Try.prog.info? 59).map (fun i => (i.zero, i.size, i.bytes)) = some (some (.agg #[.int .i64 0, .int .i64 0]), 2, 16) := by kernel_rfl
def CloneOut (l : List (Int × Int)) (w : World) (e : Ending) (w' : World) : Prop := ∃ a cap, e = .returned (.slice a l.length cap) ∧ w'.ownsRow w.heap.size 59 2 (.slice a l.length cap) l.length (cells2 l) ∧ Below w.heap.size w w'
theorem clone_any (x : Option Addr) (xc : Nat) (l : List (Int × Int)) (w : World) (hx : PairRow w x l) (hn : x = none → l = []) (hl : l.length ≤ 4000000000) :
    Calls Try.prog 83 #[.slice x l.length xc] w (CloneOut l w) := by
  cases x with
  | none =>
    obtain rfl := hn rfl
    have h := AnyE.slices_Clone_nil Try.clonePt 0 xc w
    change Calls Try.prog 83 _ _ _ at h
    refine h.mono fun e w' ⟨he, hw⟩ => ?_
    subst hw
    exact ⟨none, 0, he, World.ownsRow_nil _ _ _ _, Below.refl _ _⟩
  | some a =>
    obtain ⟨i0, hi, hz0, hz1, hz2⟩ := info_parts2 info_pt
    have q : ∀ W, (binOp .eql 50 (.slice (some a) l.length xc) (.slice none 0 0)).run Try.prog W = .ok (.bool false) W := fun W => Lib.run_eql_slice_nil W _ _ (some a) l.length xc 0 0 Try.underlying50
    have hc1 : 0 + l.length ≤ maxLen := by unfold maxLen; omega
    have hc2 : (0 + l.length) * 16 ≤ 140737488355328 := by omega
    have G1 : Hid ((w.alloc (Obj.cells #[] 59)).ownsRow w.heap.size 59 2 (.slice (some ⟨w.heap.size, 0, none⟩) 0 0) 0 []) := Lib.hid (World.ownsRow_made _ #[] 0 (Nat.le_refl _) (by unfold maxLen; omega) rfl)
    have A1 : Hid (Below w.heap.size w (w.alloc (Obj.cells #[] 59))) := Lib.hid ((Below.refl _ _).alloc (Nat.le_refl _) _)
    have R1 := Lib.hid (hx.below A1.out)
    clear hx hl
    go_enter Try.func83, Try.ntmps83
    go_wp2_with (at_builtin; refine wpList_appendPairs rfl _ _ 50 rfl w 59 i0 (.agg #[.int .i64 0, .int .i64 0]) 16 Try.underlying50 hi hz0 hz1 hz2 rfl _ _ _ rfl G1.out (some a) xc l rfl (fun e => by cases e) R1.out hc1 hc2 A1.out ?_)
    intro v2 w2 o2 b2
    have o3 : w2.ownsRow w.heap.size 59 2 v2 l.length (cells2 l) := by simpa using o2
    obtain ⟨a2, c2, rfl, -, -, -, -, -⟩ := PairRow.own (d := l) o3
    have O := Lib.hid o3
    have B := Lib.hid b2
    clear o2 o3 b2 q
    go_wp2
    go_ret
    exact ⟨a2, c2, rfl, O.out, B.out⟩
def SortOut (l : List (Int × Int)) (B : Nat) (a : Option Addr) (w : World) (e : Ending) (w' : World) : Prop := e = .returned (.tuple #[]) ∧ ∃ s, s.Perm l ∧ sortedP s ∧ PairRow w' a s ∧ Below B w w'
theorem sorted_of {s : Array (Int × Int)} (h : Go.Sort.SortedIn (ltOf cfP) 0 s.size s) : sortedP s.toList := fun i j hij hj => by
  have hj' : j < s.size := by simpa using hj
  by_cases e : i = j
  · subst e; unfold leP; omega
  · have h1 := h i j (Nat.zero_le _) (by omega) hj'
    rw [lt_cfP] at h1
    have h2 := of_decide_eq_false h1
    have g : ∀ k, k < s.size → s.toList.getD k (0, 0) = s[k]! := fun k hk => by
      rw [List.getD_eq_getElem?_getD, List.getElem?_eq_getElem (by simpa using hk), getElem!_pos s k hk]
      simp
    rw [g i (by omega), g j hj']
    unfold leP
    omega
theorem sort_world (enc : Int × Int → List Value) (k : Nat) (w : World) (g off n B : Nat) (d : Array (Int × Int)) (os : Array Obj) (hB : B ≤ g) (hg : g < w.heap.size) : Below B w (sortWorldK enc k w g off n d os) :=
  ⟨rfl, rfl, rfl, size_sortWorldK_c enc k w g off n d os, fun j hj => by
    unfold sortWorldK Go.Sort.grow
    show ((Go.Sort.putRowK enc k (Go.Sort.ahead w n) g off d).heap ++ os)[j]? = _
    have hs : (Go.Sort.putRowK enc k (Go.Sort.ahead w n) g off d).heap.size = w.heap.size := by rw [Go.Sort.size_putRowK]; rfl
    rw [Array.getElem?_append_left (by omega)]
    unfold Go.Sort.putRowK Go.Sort.putRow Go.Sort.mapBlock
    show ((Go.Sort.ahead w n).heap.modify g _)[j]? = _
    rw [Array.getElem?_modify, if_neg (by omega)]
    rfl⟩
theorem sort_any (a : Option Addr) (cap B : Nat) (l : List (Int × Int)) (w : World) (ho : w.ownsRow B 59 2 (.slice a l.length cap) l.length (cells2 l)) (hl : l.length ≤ 4000000000) :
    Calls Try.prog 84 #[.slice a l.length cap, .func (.func 85) #[] #[]] w (SortOut l B a w) := by
  by_cases h0 : l = []
  · subst h0
    have h := AnyF.slices_SortFunc_none Try.sortPt a cap (.func (.func 85) #[] #[]) w
    change Calls Try.prog 84 _ _ _ at h
    refine h.mono fun e w' ⟨he, hw⟩ => ?_
    subst hw
    exact ⟨he, [], List.Perm.refl _, fun i j _ hj => by simp at hj, fun j hj => by simp at hj, Below.refl _ _⟩
  · have hn : 0 < l.length := List.length_pos_iff.2 h0
    have ho' := ho
    rcases ho.2 with ⟨-, e0⟩ | ⟨g, cap', cur, e1, hb, hh, -⟩
    · omega
    · cases e1
      have hg : g < w.heap.size := (Array.getElem?_eq_some_iff.1 hh).1
      have hH : Go.Sort.HoldsK encP 2 w g 0 l.toArray := fun j hj => by
        rw [Go.Sort.size_flatK] at hj
        have hj' : j < l.length * 2 := by simpa using hj
        rw [Go.Sort.get_flatK _ _ _ _ hj, Nat.zero_add]
        refine ⟨?_, ho'.frozenAt j⟩
        rw [ho'.cellAt j hj']
        have hk : j / 2 < l.length := by omega
        have gd : l.toArray[j / 2]! = l.getD (j / 2) (0, 0) := by
          rw [getElem!_pos l.toArray (j / 2) (by simpa using hk), List.getD_eq_getElem?_getD, List.getElem?_eq_getElem hk]
          simp
        rw [gd]
        obtain ⟨c1, c2⟩ := cells2_at l (j / 2) hk
        rcases Nat.mod_two_eq_zero_or_one j with e | e
        · rw [e]
          rw [show j / 2 * 2 = j by omega] at c1
          rw [c1]; rfl
        · rw [e]
          rw [show j / 2 * 2 + 1 = j by omega] at c2
          rw [c2]; rfl
      have eg : ∀ args w, (callFunc 85 args).run Try.prog w = .ok (.enter 85 args) w := enters_of Try.func85 (by kernel_rfl) rfl
      have h := AnyQ.slices_SortFunc Try.sortPt 2 Try.isAgg59 Try.sizeOf59 encP (fun _ => rfl) (fun x v hv => by simp [encP] at hv; rcases hv with rfl | rfl <;> rfl) cfP swoP 85 #[] g 0 cap l.toArray w eg (fun m os dk _ p q => cmp_any p q _) hH hg (by simp; omega)
      change Calls Try.prog 84 _ _ _ at h
      rw [show l.toArray.size = l.length by simp] at h
      refine h.mono fun e w' ⟨he, d', n, os, hp, hs, hw⟩ => ⟨he, d'.toList, ?_, ?_, ?_, ?_⟩
      · obtain ⟨p1, -, p3⟩ := hp
        have p1' : d'.size = l.length := by simpa using p1
        have e1 : d'.extract 0 l.length = d' := by rw [← p1']; simp
        have e2 : l.toArray.extract 0 l.length = l.toArray := by
          rw [show l.length = l.toArray.size by simp]; simp
        rw [e1, e2] at p3
        simpa using p3
      · have p1' : d'.size = l.length := by simpa using hp.1
        rw [← p1'] at hs
        exact sorted_of hs
      · have p1' : d'.size = l.length := by simpa using hp.1
        have hk : Go.Sort.HoldsK encP 2 w' g 0 d' := by
          rw [hw]
          exact holdsK_sortWorldK_c encP 2 w g 0 l.toArray d' n os hH hg (by simpa using p1')
        intro j hj
        have hj' : j < d'.size := by simpa using hj
        have gd : d'.toList.getD j (0, 0) = d'[j]! := by
          rw [List.getD_eq_getElem?_getD, List.getElem?_eq_getElem (by simpa using hj'), getElem!_pos d' j hj']
          simp
        rw [gd]
        exact ⟨g, 0, rfl, (Go.Sort.HoldsK.cell hk hj' (show 0 < 2 by omega)).1, (Go.Sort.HoldsK.cell hk hj' (show 1 < 2 by omega)).1⟩
      · rw [hw]
        exact sort_world encP 2 w g 0 n B d' os hb hg
def ByOut (l : List (Int × Int)) (w : World) (e : Ending) (w' : World) : Prop := ∃ a cap s, e = .returned (.slice a (s : List (Int × Int)).length cap) ∧ s.Perm l ∧ sortedP s ∧ PairRow w' a s ∧ Below w.heap.size w w'
theorem bytime_any (x : Option Addr) (xc : Nat) (l : List (Int × Int)) (w : World) (hx : PairRow w x l) (hn : x = none → l = []) (hl : l.length ≤ 4000000000) :
    Calls Try.prog 58 #[.slice x l.length xc] w (ByOut l w) := by
  have C1 := Lib.hid (clone_any x xc l w hx hn hl)
  have C2 := Lib.hid (fun a cap B W ho => sort_any a cap B l W ho hl)
  have fin : ∀ a cap w' s, s.Perm l → sortedP s → PairRow w' a s → Below w.heap.size w w' → ByOut l w (.returned (.slice a l.length cap)) w' := fun a cap w' s h1 h2 h3 h4 => ⟨a, cap, s, by rw [h1.length_eq], h1, h2, h3, h4⟩
  have Fin := Lib.hid fin
  clear hx hn fin
  go_enter Try.func58, Try.ntmps58
  go_wp2_with fail
  refine C1.out.mono ?_
  rintro _ w1 ⟨a, cap, rfl, ho, hb⟩
  have HB := Lib.hid hb
  have C3 := Lib.hid (C2.out a cap _ _ ho)
  clear ho hb C2
  go_wp2_with fail
  refine C3.out.mono ?_
  rintro _ w2 ⟨rfl, s, h1, h2, h3, h4⟩
  have F := Lib.hid (Fin.out a cap w2 s h1 h2 h3 (HB.out.trans h4))
  clear h1 h2 h3 h4
  go_wp2
  go_ret
  exact F.out
end Go.Proofs.Ytflplliiamodhaa
