/- Cells as values and in memory. -/
import Derived.Test.YtpmoidpncpfnlaaHistG
import Derived.Test.YtpmoidpncpfnlaaWideN
import Derived.Test.YtpmoidpncpfnlaaSafeD
import Derived.Test.YtpmoidpncpfnlaaCodeD
namespace Go.Proofs.Ytpmoidpncpfnlaa
open Go.RowKit
set_option linter.unusedVariables false

/-- a cell: its count, sum, ends, tallies and counts of buckets -/
structure Ce where
  n : Int
  z : Int
  mn : Int
  mx : Int
  ce : Int
  po : Int
  H : List Int
def ceL (n a b mn mx ce po : Int) (H : List Int) : List Value := [.int .i64 n, .int .i64 a, .int .u64 b, .int .i64 mn, .int .i64 mx, .int .i64 ce, .int .i64 po] ++ H.map (Value.int .i64)
def Ce.A (c : Ce) : Array Value := (ceL c.n (hiW c.z) (loW c.z) c.mn c.mx c.ce c.po c.H).toArray
def ceZ : Ce := ⟨0, 0, 0, 0, 0, 0, zeros65⟩
theorem ce_size (c : Ce) (h : c.H.length = 65) : c.A.size = 72 := by simp [Ce.A, ceL, h]
theorem ce_cells (c : Ce) : c.A.all (·.oneCell') = true := by simp [Ce.A, ceL, Value.oneCell']
theorem ceL_hist (n a b mn mx ce po : Int) (H : List Int) (k : Nat) (h : k < H.length) : (ceL n a b mn mx ce po H)[7 + k]? = some (.int .i64 (H.getD k 0)) := by
  unfold ceL
  rw [List.getElem?_append_right (by simp)]
  simp [List.getD_eq_getElem?_getD, List.getElem?_eq_getElem h]
theorem ceL_inj {n a b mn mx ce po n' a' b' mn' mx' ce' po' : Int} {H H' : List Int} : ceL n a b mn mx ce po H = ceL n' a' b' mn' mx' ce' po' H' ↔ n = n' ∧ a = a' ∧ b = b' ∧ mn = mn' ∧ mx = mx' ∧ ce = ce' ∧ po = po' ∧ H = H' := by
  constructor
  · intro h
    unfold ceL at h
    simp only [List.cons_append, List.nil_append, List.cons.injEq, Value.int.injEq, true_and] at h
    obtain ⟨h1, h2, h3, h4, h5, h6, h7, h8⟩ := h
    exact ⟨h1, h2, h3, h4, h5, h6, h7, (List.map_inj_right (fun a b e => by injection e)).1 h8⟩
  · rintro ⟨rfl, rfl, rfl, rfl, rfl, rfl, rfl, rfl⟩; rfl
theorem c_info : (Try.prog.info? 29).map (·.size) = some 72 := by kernel_rfl
theorem c_zero0 : (Try.prog.info? 29).map (fun i => (i.zero, i.size)) = some (some (.agg ceZ.A), 72) := by kernel_rfl
theorem c_zero (w : World) : (zeroValue 29).run Try.prog w = .ok (.agg ceZ.A) w := (zero_of_info c_zero0).1 w
theorem fold_over2 (off : Nat) (post : List Value) : ∀ (new pre old : List Value) (k : Nat), pre.length = off + k → old.length = new.length →
    (new.zipIdx k).foldl (fun cs (x : Value × Nat) => cs.setIfInBounds (off + x.2) x.1) (pre ++ (old ++ post)).toArray = (pre ++ (new ++ post)).toArray
  | [], pre, old, k, h, e => by
    have : old = [] := by simpa using e
    subst this; simp
  | c :: new, pre, [], k, h, e => by simp at e
  | c :: new, pre, o :: old, k, h, e => by
    have h1 : (pre ++ (o :: old ++ post)).toArray.setIfInBounds (off + k) c = ((pre ++ [c]) ++ (old ++ post)).toArray := by
      apply Array.ext'
      simp [← h]
    have := fold_over2 off post new (pre ++ [c]) old (k + 1) (by simp [h]; omega) (by simpa using e)
    simp only [List.zipIdx_cons, List.foldl_cons, h1, this]
    simp
theorem fill_step {place : Nat → Option (Nat × Nat)} {i off : Nat} {v : Value} {rest : List (Nat × Value)} (pre old post : List Value) (hp : place i = some (off, v.cells.size)) (ho : pre.length = off) (hl : old.length = v.cells.size) :
    Instr.fill place (pre ++ (old ++ post)).toArray ((i, v) :: rest) = Instr.fill place (pre ++ (v.cells.toList ++ post)).toArray rest := by
  have h2 : (v.cells.zipIdx.foldl (fun cs (x : Value × Nat) => cs.setIfInBounds (off + x.2) x.1) (pre ++ (old ++ post)).toArray) = (pre ++ (v.cells.toList ++ post)).toArray := by
    have h3 := fold_over2 off post v.cells.toList pre old 0 (by simp [ho]) (by simp [hl])
    rw [← Array.foldl_toList]
    simpa using h3
  have h4 : ¬ (pre.length + v.cells.size > (pre ++ (old ++ post)).toArray.size) := by simp; omega
  simp only [Instr.fill, hp]
  rw [if_neg (by simp; omega)]
  exact congrArg (fun z => Instr.fill place z rest) h2
def placesC : Array (Nat × Nat) := #[(0, 1), (1, 2), (3, 1), (4, 1), (5, 1), (6, 1), (7, 65)]
theorem c_fill (parts : List (Nat × Value)) : Try.prog.built 29 parts = Instr.fill (fun i => placesC[i]?) ceZ.A parts := by kernel_rfl
theorem c_none : Try.prog.built 29 [] = some ceZ.A := by rw [c_fill]; rfl
theorem ceZ_eq : ceZ.A = (ceL 0 0 0 0 0 0 0 zeros65).toArray := by
  have h1 : hiW 0 = 0 := by unfold hiW wrap64; omega
  have h2 : loW 0 = 0 := by unfold loW; omega
  unfold Ce.A ceZ
  simp only [h1, h2]
/-- the cell that Fold builds -/
theorem c_fold (n a b mn mx : Int) (H : List Int) (h : H.length = 65) : Try.prog.built 29 [(0, .int .i64 n), (1, .agg #[.int .i64 a, .int .u64 b]), (2, .int .i64 mn), (3, .int .i64 mx), (6, .agg (hC H))] = some (ceL n a b mn mx 0 0 H).toArray := by
  rw [c_fill, ceZ_eq]
  unfold ceL
  have s1 := fill_step (place := fun i => placesC[i]?) (i := 0) (off := 0) (v := .int .i64 n) (rest := [(1, .agg #[.int .i64 a, .int .u64 b]), (2, .int .i64 mn), (3, .int .i64 mx), (6, .agg (hC H))]) [] [.int .i64 0] ([.int .i64 0, .int .u64 0, .int .i64 0, .int .i64 0, .int .i64 0, .int .i64 0] ++ zeros65.map (Value.int .i64)) rfl rfl rfl
  have s2 := fill_step (place := fun i => placesC[i]?) (i := 1) (off := 1) (v := .agg #[.int .i64 a, .int .u64 b]) (rest := [(2, .int .i64 mn), (3, .int .i64 mx), (6, .agg (hC H))]) [.int .i64 n] [.int .i64 0, .int .u64 0] ([.int .i64 0, .int .i64 0, .int .i64 0, .int .i64 0] ++ zeros65.map (Value.int .i64)) rfl rfl rfl
  have s3 := fill_step (place := fun i => placesC[i]?) (i := 2) (off := 3) (v := .int .i64 mn) (rest := [(3, .int .i64 mx), (6, .agg (hC H))]) [.int .i64 n, .int .i64 a, .int .u64 b] [.int .i64 0] ([.int .i64 0, .int .i64 0, .int .i64 0] ++ zeros65.map (Value.int .i64)) rfl rfl rfl
  have s4 := fill_step (place := fun i => placesC[i]?) (i := 3) (off := 4) (v := .int .i64 mx) (rest := [(6, .agg (hC H))]) [.int .i64 n, .int .i64 a, .int .u64 b, .int .i64 mn] [.int .i64 0] ([.int .i64 0, .int .i64 0] ++ zeros65.map (Value.int .i64)) rfl rfl rfl
  have s5 := fill_step (place := fun i => placesC[i]?) (i := 6) (off := 7) (v := .agg (hC H)) (rest := []) [.int .i64 n, .int .i64 a, .int .u64 b, .int .i64 mn, .int .i64 mx, .int .i64 0, .int .i64 0] (zeros65.map (Value.int .i64)) [] (by show placesC[6]? = some (7, (hC H).size); rw [hC_size, h]; rfl) rfl (by show _ = (hC H).size; rw [hC_size, h]; rfl)
  rw [List.append_nil] at s5
  refine s1.trans (s2.trans (s3.trans (s4.trans ?_)))
  refine Eq.trans ?_ (s5.trans ?_)
  · rfl
  · simp [Instr.fill, hC, Value.cells]
end Go.Proofs.Ytpmoidpncpfnlaa
