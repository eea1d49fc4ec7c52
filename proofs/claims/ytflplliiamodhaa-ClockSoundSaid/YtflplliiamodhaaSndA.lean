/- made, and what an honest clock's samples keep. -/
import Derived.Test.YtflplliiamodhaaAddL
import Derived.Test.YtflplliiamodhaaDriftH
import Derived.Test.YtflplliiamodhaaMeetsM
import Derived.Test.YtflplliiamodhaaRisesW
namespace Go.Proofs.Ytflplliiamodhaa
open Go.RowKit
set_option linter.unusedVariables false
set_option linter.unusedSimpArgs false

/-- a sample whose interval has the true time of each reading -/
def GoodS (P : List (Int × Int)) (r : Int) (s : Sm) : Prop := rgtS s = true ∧ ∀ q ∈ P, atE s q.2 r = 0 ∧ atLo s q.2 r ≤ q.1 ∧ q.1 ≤ atHi s q.2 r
def madeB (l : List (Int × Int)) (g s ah be : Int) : Bool :=
  decide (0 ≤ g ∧ 0 ≤ s ∧ g < l.length ∧ s < l.length ∧ 0 ≤ ah ∧ 0 ≤ be ∧ (l.getD g.toNat (0, 0)).1 ≤ (l.getD s.toNat (0, 0)).1 ∧ ah ≤ (l.getD g.toNat (0, 0)).1 ∧ be ≤ 4611686018427387903 - (l.getD s.toNat (0, 0)).1)
def madeS (l : List (Int × Int)) (g s ah be : Int) : Sm :=
  if madeB l g s ah be = true then ((l.getD g.toNat (0, 0)).1 - ah, (l.getD g.toNat (0, 0)).2, (l.getD s.toNat (0, 0)).2, (l.getD s.toNat (0, 0)).1 + be) else (0, 0, 0, 0)
theorem good_made {l : List (Int × Int)} {r g s ah be : Int} (h1 : 0 ≤ r) (h2 : r ≤ 100000) (ho : okAll r l) (hs : ∀ p ∈ l, InT p) (h : madeB l g s ah be = true) :
    GoodS l r (madeS l g s ah be) ∧ ∃ p ∈ l, (madeS l g s ah be).2.2.1 = p.2 := by
  have hm := of_decide_eq_true h
  unfold madeS
  rw [if_pos h]
  obtain ⟨m1, m2, m3, m4, m5, m6, m7, m8, m9⟩ := hm
  have ha : l.getD g.toNat (0, 0) ∈ l := getD_mem (by omega)
  have hb : l.getD s.toNat (0, 0) ∈ l := getD_mem (by omega)
  generalize l.getD g.toNat (0, 0) = a at *
  generalize l.getD s.toNat (0, 0) = b at *
  have ia := hs a ha
  have ib := hs b hb
  unfold InT at ia ib
  have hcl : a.2 ≤ b.2 := by
    rcases leP_total a b with h | h
    · exact (ho a ha b hb h).1
    · have hk := ho b hb a ha h
      unfold leP at h
      have e : b.1 = a.1 := by omega
      have := hk.2.1 e
      omega
  have hr : rgtS (a.1 - ah, a.2, b.2, b.1 + be) = true := decide_eq_true (by dsimp only; omega)
  refine ⟨⟨hr, fun q hq => ?_⟩, b, hb, rfl⟩
  have iq := hs q hq
  unfold InT at iq
  obtain ⟨s1, s2⟩ := sound_any h1 h2 ho ha hq
  obtain ⟨s3, s4⟩ := sound_any h1 h2 ho hb hq
  have hlo : atLo (a.1 - ah, a.2, b.2, b.1 + be) q.2 r ≤ q.1 := by unfold atLo; dsimp only; omega
  have hhi : q.1 ≤ atHi (a.1 - ah, a.2, b.2, b.1 + be) q.2 r := by unfold atHi; dsimp only; omega
  refine ⟨?_, hlo, hhi⟩
  rw [atE_form hr ⟨decide_eq_true iq.2, decide_eq_true ⟨h1, h2⟩⟩, if_pos (by omega)]
theorem good_fold {P : List (Int × Int)} {r : Int} {L : List Sm} {q : Int × Int} (hL : ∀ s ∈ L, GoodS P r s) (hq : q ∈ P) (hI : InI q.1) :
    mtE (gapsS L q.2 r) = 0 ∧ ((gapsS L q.2 r).foldl opM fullP).1 ≤ q.1 ∧ q.1 ≤ ((gapsS L q.2 r).foldl opM fullP).2 := by
  have hall : ∀ p ∈ gapsS L q.2 r, p.1 ≤ q.1 ∧ q.1 ≤ p.2 := fun p hp => by
    unfold gapsS at hp
    obtain ⟨s, hs, rfl⟩ := List.mem_map.1 hp
    obtain ⟨h0, h1, h2⟩ := (hL s hs).2 q hq
    unfold gapS
    rw [if_pos h0]
    exact ⟨h1, h2⟩
  have hf := (foldM_has q.1 (gapsS L q.2 r) fullP).2 ⟨by unfold fullP; unfold InI at hI; dsimp only; omega, hall⟩
  refine ⟨mt_zero.2 ⟨fun j hj => ?_, by omega⟩, hf.1, hf.2⟩
  have := hall _ (getP_mem hj)
  omega
theorem good_add {P : List (Int × Int)} {r st : Int} {L : List Sm} {s : Sm} {k : Nat} (hL : ∀ x ∈ L, GoodS P r x) (hs : GoodS P r s) (hp : ∃ p ∈ P, s.2.2.1 = p.2) (hI : ∀ p ∈ P, InT p) (h8 : L.length ≤ 8) (h0 : 0 ≤ st) (hk : st ≤ k) (hk' : k ≤ 1000) :
    addC ⟨r, 2, st, false, L⟩ s = (0, ⟨r, 2, st + 1, false, pushL L s⟩) ∧ ∀ x ∈ pushL L s, GoodS P r x := by
  have hG : ∀ x ∈ pushL L s, GoodS P r x := fun x hx => by
    rcases pushL_mem hx with h | rfl
    · exact hL x h
    · exact hs
  refine ⟨?_, hG⟩
  obtain ⟨p, hp, e⟩ := hp
  have hi := hI p hp
  unfold InT at hi
  have hm := good_fold hG hp (by unfold InI; omega)
  have hag : agreeB (gapsS (pushL L s) s.2.2.1 r) = true := by
    rw [e]
    exact agree_true (by rw [gapsS_len]; have := (pushL_len (s := s) h8).1; omega) hm.1
  rw [addC_yes (c := ⟨r, 2, st, false, L⟩) hs.1 hag]
  have hu : upS st = st + 1 := if_pos (by omega)
  have hh : upH ⟨r, 2, st, false, L⟩ = false := by unfold upH; split <;> rfl
  rw [hh]
  dsimp only
  rw [hu]
theorem good_at {P : List (Int × Int)} {r st : Int} {hd : Bool} {L : List Sm} {q : Int × Int} (hL : ∀ s ∈ L, GoodS P r s) (hne : L.length ≠ 0) (hq : q ∈ P) (hI : InT q) :
    ckE ⟨r, 2, st, hd, L⟩ q.2 = 0 ∧ (ckG ⟨r, 2, st, hd, L⟩ q.2).1 ≤ q.1 ∧ q.1 ≤ (ckG ⟨r, 2, st, hd, L⟩ q.2).2 := by
  have hi := hI
  unfold InT at hi
  have hm := good_fold hL hq (by unfold InI; omega)
  have ht : tmI q.2 = true := decide_eq_true hi.2
  have hE : ckE ⟨r, 2, st, hd, L⟩ q.2 = 0 := by
    unfold ckE
    rw [if_neg hne, if_pos ht, if_pos hm.1]
  have hG : ckG ⟨r, 2, st, hd, L⟩ q.2 = (gapsS L q.2 r).foldl opM fullP := if_pos hE
  rw [hG]
  exact ⟨hE, hm.2⟩
end Go.Proofs.Ytflplliiamodhaa
