import Derived.Test.YtflplliiamodhaaZClkI
/- What lies apart from a clock; what a clock of one sample answers. -/
namespace Go.Proofs.Ytflplliiamodhaa
open Go.RowKit
set_option linter.unusedVariables false

/-- block k is neither the clock's nor its row's -/
def Ap (W : World) (g : Nat) (v : Value) (k : Nat) : Prop := k ≠ g ∧ v.ownBlock ≠ some k ∧ k < W.heap.size
theorem Ap.below {W W' : World} {g k : Nat} {v : Value} (h : Ap W g v k) (hs : W.heap.size ≤ W'.heap.size) : Ap W' g v k := ⟨h.1, h.2.1, Nat.lt_of_lt_of_le h.2.2 hs⟩
theorem Ap.add {W W' : World} {g k : Nat} {v v' : Value} (h : Ap W g v k) (hk : KpC g v W W') (hf : Fr v v' W) : Ap W' g v' k :=
  ⟨h.1, fun e => by
    rcases hf k e with h1 | h1
    · exact h.2.1 h1
    · have := h.2.2; omega, Nat.lt_of_lt_of_le h.2.2 hk.size⟩
theorem Ap.fresh {W W' : World} {g k : Nat} {v : Value} {c : Ck} (h : CkO W g v c) (h1 : W.heap.size ≤ k) (h2 : k < W'.heap.size) : Ap W' g v k :=
  ⟨fun e => by have := h.lt.1; omega, fun e => by have := h.lt.2 _ e; omega, h2⟩
/-- a box apart -/
def KA (W : World) (g : Nat) (v : Value) (k : Nat) (cs : Array Value) (t : TypeId) : Prop := Kept W k cs t ∧ Ap W g v k
theorem KA.next {W W' : World} {g k : Nat} {v : Value} {cs : Array Value} {t : TypeId} (h : KA W g v k cs t) (b : Below W.heap.size W W') : KA W' g v k cs t := ⟨h.1.next b, h.2.below b.size⟩
theorem KA.add {W W' : World} {g k : Nat} {v v' : Value} {cs : Array Value} {t : TypeId} (h : KA W g v k cs t) (hk : KpC g v W W') (hf : Fr v v' W) : KA W' g v' k cs t := ⟨h.1.kpc hk h.2.1 h.2.2.1, h.2.add hk hf⟩
theorem KA.new {W : World} {g : Nat} {v : Value} {c : Ck} {cs : Array Value} {t : TypeId} (h : CkO W g v c) : KA (W.alloc (.cells cs t)) g v W.heap.size cs t := ⟨Kept.new rfl, Ap.fresh h (Nat.le_refl _) (by simp)⟩
/-- a clock apart -/
def CA (W : World) (g : Nat) (v : Value) (g' : Nat) (v' : Value) (c : Ck) : Prop := CkO W g' v' c ∧ Ap W g v g' ∧ ∀ k, v'.ownBlock = some k → Ap W g v k
theorem CA.next {W W' : World} {g g' : Nat} {v v' : Value} {c : Ck} (h : CA W g v g' v' c) (b : Below W.heap.size W W') : CA W' g v g' v' c := ⟨h.1.below b, h.2.1.below b.size, fun k hk => (h.2.2 k hk).below b.size⟩
theorem CA.add {W W' : World} {g g' : Nat} {v v1 v' : Value} {c : Ck} (h : CA W g v g' v' c) (hk : KpC g v W W') (hf : Fr v v1 W) : CA W' g v1 g' v' c :=
  ⟨h.1.kpc hk h.2.1.1 h.2.1.2.1 (fun e => (h.2.2 g e).1 rfl) (fun k hk' e => (h.2.2 k e).2.1 hk'), h.2.1.add hk hf, fun k hk' => (h.2.2 k hk').add hk hf⟩
/-- a row of samples apart -/
def OA (W : World) (g : Nat) (v : Value) (u : Value) (L : List Sm) : Prop := W.ownsRow 0 33 4 u L.length (cells4 L) ∧ ∀ k, u.ownBlock = some k → Ap W g v k
theorem OA.next {W W' : World} {g : Nat} {v u : Value} {L : List Sm} (h : OA W g v u L) (b : Below W.heap.size W W') : OA W' g v u L := ⟨owns_below h.1 b, fun k hk => (h.2 k hk).below b.size⟩
theorem OA.add {W W' : World} {g : Nat} {v v' u : Value} {L : List Sm} (h : OA W g v u L) (hk : KpC g v W W') (hf : Fr v v' W) : OA W' g v' u L :=
  ⟨owns_kpc h.1 hk (fun e => (h.2 g e).1 rfl) (fun k hk' e => (h.2 k e).2.1 hk'), fun k hk' => (h.2 k hk').add hk hf⟩
theorem agree_true {G : List (Int × Int)} (h : 0 < G.length) (h' : mtE G = 0) : agreeB G = true := by
  unfold agreeB
  unfold mtE at h'
  rw [decide_eq_true h, decide_eq_true h']
  rfl
theorem agree_false {G : List (Int × Int)} (h' : mtE G ≠ 0) : agreeB G = false := by
  unfold agreeB
  unfold mtE at h'
  rw [decide_eq_false h', Bool.and_false]
def S1 : Sm := (100, 7, 9, 110)
def S2 : Sm := (300, 9, 9, 301)
def S3 : Sm := (310, 19, 19, 311)
theorem all1 {a b : Int} (h : a ≤ b) : allR [(a, b)] := fun j hj => by
  have : j = 0 := by simpa using hj
  subst this
  exact h
theorem all2 {a b c d : Int} (h : a ≤ b) (h' : c ≤ d) : allR [(a, b), (c, d)] := fun j hj => by
  have : j = 0 ∨ j = 1 := by simp at hj; omega
  rcases this with rfl | rfl
  · exact h
  · exact h'
theorem al_at : atG S1 9 0 = (101, 111) ∧ atE S1 9 0 = 0 := by decide +kernel
theorem al_g1 : gapsS [S1] 9 0 = [(101, 111)] := by decide +kernel
theorem al_g2 : gapsS [S1, S2] 9 0 = [(101, 111), (299, 302)] := by decide +kernel
theorem al_g3 : gapsS [S2, S3] 19 0 = [(309, 312), (309, 312)] := by decide +kernel
theorem al_none : ckE ⟨0, 1, 0, false, []⟩ 9 = 19 ∧ ckG ⟨0, 1, 0, false, []⟩ 9 = (0, 0) := ⟨rfl, rfl⟩
theorem al_m1 : mtE [(101, 111)] = 0 := mt_zero.2 ⟨all1 (by decide), by decide⟩
theorem al_e1 : ckE ⟨0, 1, 1, false, [S1]⟩ 9 = 0 := by
  unfold ckE
  rw [if_neg (by decide), if_pos (by decide +kernel)]
  dsimp only
  rw [al_g1, if_pos al_m1]
theorem al_h1 : ckG ⟨0, 1, 1, false, [S1]⟩ 9 = (101, 111) := by
  unfold ckG
  rw [if_pos al_e1]
  dsimp only
  rw [al_g1]
  decide +kernel
theorem al_p1 : ckP ⟨0, 1, 1, false, [S1]⟩ 9 = 106 := by
  unfold ckP
  rw [if_pos al_e1, al_h1]
  decide +kernel
theorem al_a1 : addC ⟨0, 1, 0, false, []⟩ S1 = (0, ⟨0, 1, 1, false, [S1]⟩) := by
  have h : agreeB (gapsS (pushL [] S1) 9 0) = true := by
    rw [show pushL [] S1 = [S1] from rfl, al_g1]
    exact agree_true (by decide) al_m1
  rw [addC_yes (by decide +kernel) h]
  rfl
theorem al_a2 : addC ⟨0, 1, 1, false, [S1]⟩ S2 = (21, ⟨0, 1, 0, true, [S2]⟩) := by
  have h : agreeB (gapsS (pushL [S1] S2) 9 0) = false := by
    rw [show pushL [S1] S2 = [S1, S2] from rfl, al_g2]
    refine agree_false fun h => ?_
    have := (mt_zero.1 h).2
    revert this
    decide +kernel
  rw [addC_un (by decide +kernel) h, if_pos (by decide +kernel)]
theorem al_a3 : addC ⟨0, 1, 0, true, [S2]⟩ S3 = (0, ⟨0, 1, 1, false, [S2, S3]⟩) := by
  have h : agreeB (gapsS (pushL [S2] S3) 19 0) = true := by
    rw [show pushL [S2] S3 = [S2, S3] from rfl, al_g3]
    exact agree_true (by decide) (mt_zero.2 ⟨all2 (by decide) (by decide), by decide +kernel⟩)
  rw [addC_yes (by decide +kernel) h]
  rfl
end Go.Proofs.Ytflplliiamodhaa
