/- cell.sums, for every row of cells. -/
import Derived.Test.YtpmoidpncpfnlaaCelI
import Derived.Test.YtpmoidpncpfnlaaWideC
import Derived.Deep.DeepCutAuto
import Derived.Deep.RegionWith
namespace Go.Proofs.Ytpmoidpncpfnlaa
open Go.RowKit
set_option linter.unusedVariables false
set_option linter.unusedSimpArgs false

def hiS (L : List Ce) : Int := isum (L.map fun c => hiW c.z)
def loS (L : List Ce) : Int := isum (L.map fun c => loW c.z)
def zS (L : List Ce) : Int := isum (L.map Ce.z)
theorem isum_cons (x : Int) (l : List Int) : isum (x :: l) = x + isum l := by
  have := isum_append [x] l
  rwa [isum_single] at this
def ZIn (L : List Ce) : Prop := ∀ j, j < L.length → InW (L.getD j ceZ).z
theorem zIn_tail {c : Ce} {L : List Ce} (h : ZIn (c :: L)) : InW c.z ∧ ZIn L := ⟨h 0 (by simp), fun j hj => h (j + 1) (by simpa using hj)⟩
theorem zS_eq (L : List Ce) (h : ZIn L) : zS L = hiS L * 18446744073709551616 + loS L := by
  induction L with
  | nil => rfl
  | cons c L ih =>
    obtain ⟨h1, h2⟩ := zIn_tail h
    have h3 := wz_in h1
    have h4 := ih h2
    unfold zS hiS loS wz at *
    rw [List.map_cons, List.map_cons, List.map_cons, isum_cons, isum_cons, isum_cons]
    omega
theorem hiS_lim (L : List Ce) : -((L.length : Int) * 9223372036854775808) ≤ hiS L ∧ hiS L ≤ (L.length : Int) * 9223372036854775808 := by
  induction L with
  | nil => exact ⟨by decide, by decide⟩
  | cons c L ih =>
    have h1 := hiW_in c.z
    unfold hiS at *
    rw [List.map_cons, isum_cons, List.length_cons]
    omega
theorem loS_lim (L : List Ce) : 0 ≤ loS L ∧ loS L ≤ (L.length : Int) * 18446744073709551616 := by
  induction L with
  | nil => exact ⟨by decide, by decide⟩
  | cons c L ih =>
    have h1 := loW_in c.z
    unfold loS at *
    rw [List.map_cons, isum_cons, List.length_cons]
    omega
theorem hiS_snoc (L : List Ce) (k : Nat) (hk : k < L.length) : hiS (L.take (k + 1)) = hiS (L.take k) + hiW (L.getD k ceZ).z := by
  unfold hiS
  rw [List.take_add_one, List.getElem?_eq_getElem hk, Option.toList_some, List.map_append, isum_append, List.map_singleton, isum_single]
  simp [List.getD, List.getElem?_eq_getElem hk]
theorem loS_snoc (L : List Ce) (k : Nat) (hk : k < L.length) : loS (L.take (k + 1)) = loS (L.take k) + loW (L.getD k ceZ).z := by
  unfold loS
  rw [List.take_add_one, List.getElem?_eq_getElem hk, Option.toList_some, List.map_append, isum_append, List.map_singleton, isum_single]
  simp [List.getD, List.getElem?_eq_getElem hk]
theorem sums_lim (L : List Ce) (k : Nat) (hl : L.length ≤ 1000000) : InW (hiS (L.take k)) ∧ InW (loS (L.take k)) := by
  have h1 := hiS_lim (L.take k)
  have h2 := loS_lim (L.take k)
  have h3 : (L.take k).length ≤ 1000000 := by rw [List.length_take]; omega
  unfold InW
  generalize (L.take k).length = n at *
  omega
def wC (z : Int) : Array Value := #[.int .i64 (hiW z), .int .u64 (loW z)]
theorem wC0 : wC 0 = #[.int .i64 0, .int .u64 0] := by
  have h1 : hiW 0 = 0 := by decide +kernel
  have h2 : loW 0 = 0 := by decide +kernel
  unfold wC
  rw [h1, h2]
def SmK (L : List Ce) (w : World) (a b : Nat) (wr : World) : Prop := Kept wr w.heap.size (wC 0) 25 ∧ Kept wr (w.heap.size + 1) (wC (hiS (L.take a))) 25 ∧ Kept wr (w.heap.size + 2) (wC (loS (L.take b))) 25 ∧ Below w.heap.size w wr
def SmRel (L : List Ce) (w : World) (i : Value) (wr : World) : Prop := ∃ k : Nat, k ≤ L.length ∧ i = .int .i64 k ∧ Hid (SmK L w k k wr)
def SmMid (L : List Ce) (w : World) (k g : Nat) (C : Array Value) (wx : World) : Prop := Hid (SmK L w (k + 1) k wx ∧ Kept wx g C 29)
def SmEnd (w : World) (sh sl oh ol : Int) (x : Value) (wx : World) : Prop := ∃ g, x = .pointer (some ⟨g, 0, none⟩) ∧ Hid (Kept wx g #[.int .i64 sh, .int .u64 sl] 25 ∧ Kept wx w.heap.size #[.int .i64 0, .int .u64 0] 25 ∧ Kept wx (w.heap.size + 2) #[.int .i64 oh, .int .u64 ol] 25 ∧ Below w.heap.size w wx)
def SmOut (L : List Ce) (w : World) (e : Ending) (w' : World) : Prop := e = .returned (.tuple #[wI (vW (zS L)), .int .i64 (eW (zS L))]) ∧ Below w.heap.size w w'
theorem wlo {z : Int} : Value.agg #[.int .i64 0, .int .u64 (loW z)] = wI (loW z) := by
  have := loW_in z
  have h1 : hiW (loW z) = 0 := by unfold hiW wrap64; omega
  have h2 : loW (loW z) = loW z := by unfold loW at *; omega
  unfold wI
  rw [h1, h2]
set_option maxHeartbeats 4000000 in
set_option maxRecDepth 1000000 in
theorem sums_any (a : Option Addr) (c : Nat) (L : List Ce) (w : World) (hr : CsAt w a L) (h65 : All72 L) (hzi : ZIn L) (hl : L.length ≤ 1000000) :
    Calls Try.prog 44 #[.slice a L.length c] w (SmOut L w) := by
  have hz := c_zero
  obtain ⟨Z, hZ⟩ : ∃ Z, ceZ.A = Z := ⟨_, rfl⟩
  have z72 : Z.size = 72 := by rw [← hZ]; exact ce_size _ rfl
  have zs : (Try.prog.info? 29).map (·.size) = some Z.size := by rw [z72]; exact c_info
  rw [hZ] at hz
  have HR := Lib.hid hr
  have H65 := Lib.hid h65
  have HZI := Lib.hid hzi
  have HSL := Lib.hid (fun k => sums_lim L k hl)
  have e0 : wC 0 = #[.int .i64 0, .int .u64 0] := wC0
  have HS : Hid (SmRel L w (.int .i64 0) (((w.alloc (.cells #[.int .i64 0, .int .u64 0] 25)).alloc (.cells #[.int .i64 0, .int .u64 0] 25)).alloc (.cells #[.int .i64 0, .int .u64 0] 25))) := Lib.hid ⟨0, Nat.zero_le _, rfl, Lib.hid (by
    rw [← e0]
    exact ⟨((Kept.new rfl).alloc _).alloc _, (Kept.new (by simp)).alloc _, Kept.new (by simp), (((one_alloc _ _).alloc (by simp) _).alloc (by simp; omega) _)⟩)⟩
  clear hr h65 hZ hzi e0
  go_enter Try.func44, Try.ntmps44
  go_wp2
  go_loopw [14] (fun i wr => SmRel L w i wr) (fun i _ => L.length - (intOf i).toNat)
  case atStart => exact HS.out
  case round =>
    obtain ⟨k, hk, rfl, S0⟩ := hrel
    clear HS
    by_cases hlt : k < L.length
    · obtain ⟨b, off, rfl, h1⟩ := HR.out k hlt
      have hlen := H65.out k hlt
      have B0 := Lib.hid S0.out.2.2.2
      have c1 : wr.rangeAt b (off + k * 72) (L.getD k ceZ).A.toList := fun i v hv => (B0.out.cell (World.block_lt_of_cell? w _ (h1 i v hv))).trans (h1 i v hv)
      have HLT := Lib.hid hlt
      have sn1 := hiS_snoc L k hlt
      have sn2 := loS_snoc L k hlt
      obtain ⟨q, hq⟩ : ∃ q, L.getD k ceZ = q := ⟨_, rfl⟩
      rw [hq] at hlen c1 sn1 sn2
      have K0 : Kept ((wr.alloc (.cells Z 29)).setRow wr.heap.size q.A) wr.heap.size q.A 29 := Kept.setRow (Kept.new rfl) _
      have G1 : Hid ((wr.alloc (.cells Z 29)).heap[wr.heap.size]? = some (.cells Z 29 (0, 0))) := Lib.hid (heap_alloc_new wr _)
      have BL : Below wr.heap.size wr ((wr.alloc (.cells Z 29)).setRow wr.heap.size q.A) := below_setRow (one_alloc _ _) (Nat.le_refl _) _
      have S1 : Hid (SmK L w k k ((wr.alloc (.cells Z 29)).setRow wr.heap.size q.A)) := Lib.hid ⟨S0.out.1.next BL, S0.out.2.1.next BL, S0.out.2.2.1.next BL, B0.out.trans (BL.mono B0.out.size)⟩
      have KC := Lib.hid K0
      have GB : w.heap.size + 3 ≤ wr.heap.size := by have := S0.out.2.2.1.lt; omega
      have q72 : q.A.size = 72 := ce_size _ hlen
      have qa := ce_cells q
      have CE7 : Hid (∀ W g t, Kept W g q.A t → W.cell? ⟨g, 1, none⟩ = some (.int .i64 (hiW q.z)) ∧ W.cell? ⟨g, 2, none⟩ = some (.int .u64 (loW q.z))) := Lib.hid fun W g t hk => ⟨hk.cell7.2.1, hk.cell7.2.2.1⟩
      obtain ⟨p1, p2⟩ := HSL.out k
      obtain ⟨p3, p4⟩ := HSL.out (k + 1)
      have i1 := hiW_in q.z
      have i2 := loW_in q.z
      have COf := Lib.hid (fun W => wof_any (hiW q.z) W i1)
      have CA1 := Lib.hid (fun W => wadd_any (hiS (L.take k)) (hiW q.z) W p1 (by unfold InW; omega))
      have CA2 := Lib.hid (fun W => wadd_any (loS (L.take k)) (loW q.z) W p2 (by unfold InW; omega))
      rw [← sn1, vW_in p3] at CA1
      rw [← sn2, vW_in p4, ← wlo] at CA2
      clear sn1 sn2 p1 p2 p3 p4 i1 i2
      generalize q.A = C at *
      have ci : (Try.prog.info? 29).map (·.size) = some C.size := by rw [q72]; exact c_info
      have cl : (Try.prog.info? 29).map (·.size) = some C.toList.length := by rw [Array.length_toList, q72]; exact c_info
      have zc : Z.size = C.size := by rw [z72, q72]
      unfold wI at COf CA1 CA2
      have hkk : (k : Int) < (L.length : Int) := by omega
      have hk0 : (0 : Int) ≤ (k : Int) := by omega
      clear hlen hq h1 K0 BL q72 hlt hk S0 B0
      go_upto_region 5 with (first
        | refine wpList_load_mid rfl 29 _ rfl b (off + k * 72) rfl C.toList _ c1 Try.underlying29 rfl cl ?_
        | refine wpList_store_row rfl 29 _ _ rfl wr.heap.size C rfl rfl 29 Z G1.out ci zc qa ?_)
      clear G1 c1
      generalize hW1 : (wr.alloc (.cells Z 29)).setRow wr.heap.size C = W1 at *
      clear hW1
      simp only [Act.put]
      go_cut [] from 18 to 26 (fun wx => SmMid L w k wr.heap.size C wx)
      case first =>
        obtain ⟨R1, R2, R3, RB⟩ := S1.out
        have H1 := Lib.hid R1
        have H2 := Lib.hid R2
        have H3 := Lib.hid R3
        have HB := Lib.hid RB
        clear R1 R2 R3 RB S1
        have FF : Hid (∀ W, Below W1.heap.size W1 W → SmMid L w k wr.heap.size C ((W.setCell ⟨w.heap.size + 1, 0, none⟩ (.int .i64 (hiW (hiS (L.take (k + 1)))))).setCell ⟨w.heap.size + 1, 1, none⟩ (.int .u64 (loW (hiS (L.take (k + 1))))))) := Lib.hid fun W hb => Lib.hid ⟨⟨((H1.out.next hb).far (by simp) _).far (by simp) _, (H2.out.next hb).set2 _ _, ((H3.out.next hb).far (by simp) _).far (by simp) _, bset2 (HB.out.trans (hb.mono HB.out.size)) (by omega) _ _⟩, ((KC.out.next hb).far (by simp; omega) _).far (by simp; omega) _⟩
        unfold wC at H2
        obtain ⟨x1, x2, x3, x4, x5⟩ := H2.out.two
        obtain ⟨y1, y2⟩ := CE7.out _ _ _ KC.out
        clear H1 H3 HB KC CE7 CA2
        generalize hiW (hiS (L.take (k + 1))) = nh at *
        generalize loW (hiS (L.take (k + 1))) = nl at *
        generalize hiW (hiS (L.take k)) = oh at *
        generalize loW (hiS (L.take k)) = ol at *
        go_region_with (first
          | (go_at_call 21; refine (COf.out _).mono ?_; rintro _ w2 ⟨rfl, b2⟩; have A2 : Hid (Below W1.heap.size W1 w2) := Lib.hid ((Below.refl W1.heap.size W1).drew.trans (b2.mono (by simp))); obtain ⟨m1, m2, m3, m4, m5⟩ := (H2.out.next A2.out).two; clear b2)
          | (go_at_call 74; refine (CA1.out _).mono ?_; rintro _ w3 ⟨rfl, b3⟩; have A3 : Hid (Below W1.heap.size W1 w3) := Lib.hid (A2.out.trans (b3.mono A2.out.size)); obtain ⟨n1, n2, n3, n4, n5⟩ := (H2.out.next A3.out).two; clear b3))
        all_goals
          go_wp2_with fail
          go_meet
          case rel => exact FF.out _ A3.out
      case rest =>
        obtain ⟨W2, hW2⟩ : ∃ x, x = wc := ⟨_, rfl⟩
        subst hW2
        obtain ⟨⟨R1, R2, R3, RB⟩, RC⟩ := hcut.out
        have H1 := Lib.hid R1
        have H2 := Lib.hid R2
        have H3 := Lib.hid R3
        have HB := Lib.hid RB
        have KD := Lib.hid RC
        have FF : Hid (∀ W, Below W2.heap.size W2 W → SmRel L w (.int .i64 ((k : Int) + 1)) ((W.setCell ⟨w.heap.size + 2, 0, none⟩ (.int .i64 (hiW (loS (L.take (k + 1)))))).setCell ⟨w.heap.size + 2, 1, none⟩ (.int .u64 (loW (loS (L.take (k + 1))))))) := Lib.hid fun W hb => ⟨k + 1, HLT.out, rfl, Lib.hid ⟨((H1.out.next hb).far (by simp) _).far (by simp) _, ((H2.out.next hb).far (by simp) _).far (by simp) _, (H3.out.next hb).set2 _ _, bset2 (HB.out.trans (hb.mono HB.out.size)) (by omega) _ _⟩⟩
        clear R1 R2 R3 RB RC hcut S1 KC H1 H2 HB COf CA1
        unfold wC at H3
        obtain ⟨x1, x2, x3, x4, x5⟩ := H3.out.two
        obtain ⟨y1, y2⟩ := CE7.out _ _ _ KD.out
        clear CE7
        generalize hiW (loS (L.take (k + 1))) = nh at *
        generalize loW (loS (L.take (k + 1))) = nl at *
        generalize hiW (loS (L.take k)) = oh at *
        generalize loW (loS (L.take k)) = ol at *
        go_wp2_with fail
        refine (CA2.out _).mono ?_
        rintro _ w3 ⟨rfl, b3⟩
        obtain ⟨n1, n2, n3, n4, n5⟩ := (H3.out.next b3).two
        have FG := Lib.hid (FF.out _ b3)
        clear FF b3 x1 x2 x3 x4 x5 y1 y2 KD H3 CA2
        go_wp2
        go_roundw
        case rel => exact FG.out
        case measure => have := HLT.out; simp [intOf]; omega
    · obtain rfl : k = L.length := by omega
      obtain ⟨R1, R2, R3, RB⟩ := S0.out
      rw [List.take_length] at R2 R3
      have hp := HSL.out L.length
      rw [List.take_length] at hp
      have hze := zS_eq L HZI.out
      obtain ⟨A, hA⟩ : ∃ A, hiS L = A := ⟨_, rfl⟩
      obtain ⟨D, hD⟩ : ∃ A, loS L = A := ⟨_, rfl⟩
      have b1 := hiS_lim L
      have b2 := loS_lim L
      rw [hA] at R2 hp hze b1
      rw [hD] at R3 hp hze b2
      obtain ⟨p1, p2⟩ := hp
      have i1 := hiW_in D
      have hD2 : hiW D = D / 18446744073709551616 := by unfold hiW wrap64; omega
      have iS : InW (A + hiW D) := by rw [hD2]; unfold InW; omega
      have COf := Lib.hid (fun W => wof_any (hiW D) W i1)
      have CA1 := Lib.hid (fun W => wadd_any A (hiW D) W p1 (by unfold InW; omega))
      have CL := Lib.hid (fun W => wlong_any (A + hiW D) W iS)
      rw [vW_in iS] at CA1
      have hiff : InI (A + hiW D) ↔ InW (zS L) := by rw [hze, hD2]; unfold InI InW; omega
      have hval : InI (A + hiW D) → wI (zS L) = .agg #[.int .i64 (A + hiW D), .int .u64 (loW D)] := fun h => by
        have e1 : hiW (zS L) = A + hiW D := by rw [hze, hD2] at *; unfold InI at h; unfold hiW wrap64; omega
        have e2 : loW (zS L) = loW D := by rw [hze]; unfold loW; omega
        unfold wI
        rw [e1, e2]
      have F1 : Hid (InI (A + hiW D) → ∀ W, Below w.heap.size w W → SmOut L w (.returned (.tuple #[.agg #[.int .i64 (A + hiW D), .int .u64 (loW D)], .int .i64 0])) W) := Lib.hid fun h W hb => ⟨by rw [vW_in (hiff.1 h), eW_in (hiff.1 h), hval h], hb⟩
      have F2 : Hid (¬ InI (A + hiW D) → ∀ W, Below w.heap.size w W → SmOut L w (.returned (.tuple #[.agg #[.int .i64 0, .int .u64 0], .int .i64 12])) W) := Lib.hid fun h W hb => ⟨by rw [vW_out (fun h2 => h (hiff.2 h2)), eW_out (fun h2 => h (hiff.2 h2)), wI_zero], hb⟩
      have H1 := Lib.hid R1
      have H2 := Lib.hid R2
      have H3 := Lib.hid R3
      have HB := Lib.hid RB
      unfold wC at H1 H2 H3
      rw [show hiW 0 = 0 by decide +kernel, show loW 0 = 0 by decide +kernel] at H1
      unfold wI at COf CA1 CL
      obtain ⟨S, hS⟩ : ∃ S, A + hiW D = S := ⟨_, rfl⟩
      rw [hS] at F1 F2 CA1 CL
      clear R1 R2 R3 RB S0 hlt hk hA hD hze b1 b2 p1 p2 i1 hD2 iS hiff hval hS HR
      generalize hiW S = sh at *
      generalize loW S = sl at *
      generalize hiW (hiW D) = dh at *
      generalize loW (hiW D) = dl at *
      generalize hiW A = ah at *
      generalize loW A = al at *
      generalize hiW D = oh at *
      generalize loW D = ol at *
      go_upto_region 8 with fail
      go_cut [8, 9] from 37 to 44 (fun x y wx => SmEnd w sh sl oh ol x wx ∧ y = .int .i64 (eW S))
      case first =>
        have FF : Hid (∀ (W : World) (g : Nat), Below wr.heap.size wr W → wr.heap.size ≤ g → Kept W g #[.int .i64 sh, .int .u64 sl] 25 → SmEnd w sh sl oh ol (.pointer (some ⟨g, 0, none⟩)) W) := Lib.hid fun W g hb hg hk => ⟨g, rfl, Lib.hid ⟨hk, H1.out.next hb, H3.out.next hb, HB.out.trans (hb.mono HB.out.size)⟩⟩
        obtain ⟨x1, x2, x3, x4, x5⟩ := H2.out.two
        obtain ⟨y1, y2, y3, y4, y5⟩ := H3.out.two
        clear H1 HB CL F1 F2 HZI HSL H65
        go_region_with (first
          | (go_at_call 21; refine (COf.out _).mono ?_; rintro _ w2 ⟨rfl, b2⟩; have A2 : Hid (Below wr.heap.size wr w2) := Lib.hid (by first | exact (Below.refl wr.heap.size wr).drew.trans (b2.mono (by simp)) | exact (one_alloc wr _).drew.trans (b2.mono (by simp))); (try have R2 : Hid (Kept w2 wr.heap.size #[.int .i64 0, .int .u64 0] 25) := Lib.hid ((Kept.new rfl).next (bdrew b2))); obtain ⟨m1, m2, m3, m4, m5⟩ := (H2.out.next A2.out).two; clear b2)
          | (go_at_call 74; refine (CA1.out _).mono ?_; rintro _ w3 ⟨rfl, b3⟩; have A3 : Hid (Below wr.heap.size wr w3) := Lib.hid (by first | exact A2.out.trans (b3.mono A2.out.size) | exact (A2.out.alloc A2.out.size _).trans (b3.mono (by have := A2.out.size; simp <;> omega))); (try have R3 := Lib.hid (R2.out.next b3)); (try have R3 : Hid (Kept w3 w2.heap.size #[.int .i64 0, .int .u64 0] 25) := Lib.hid ((Kept.new rfl).next b3)); (try obtain ⟨n1, n2, n3, n4, n5⟩ := R3.out.two); clear b3))
        all_goals
          go_wp2_with fail
          go_meet
          case rel => first
            | exact ⟨FF.out _ _ (A3.out.alloc A3.out.size _) A3.out.size (Kept.new rfl), rfl⟩
            | exact ⟨FF.out _ _ (bset2 A3.out (by have := A2.out.size; omega) _ _) (by have := A2.out.size; omega) (R3.out.set2 _ _), rfl⟩
      case rest =>
        obtain ⟨⟨g, rfl, hh⟩, rfl⟩ := hcut
        obtain ⟨W2, hW2⟩ : ∃ x, x = wc := ⟨_, rfl⟩
        subst hW2
        obtain ⟨R1, R2, R3, RB⟩ := hh.out
        have K1 := Lib.hid R1
        have K2 := Lib.hid R2
        have K3 := Lib.hid R3
        have KB := Lib.hid RB
        clear R1 R2 R3 RB hh H1 H2 H3 HB COf CA1 H65 HZI HSL
        generalize eW S = es at *
        obtain ⟨x1, x2, x3, x4, x5⟩ := K1.out.two
        by_cases hS : InI S
        · rw [decide_eq_true hS, vI_in hS] at CL
          have FG := Lib.hid (F1.out hS)
          clear F1 F2 hS
          go_wp2_with fail
          refine (CL.out _).mono ?_
          rintro _ w3 ⟨rfl, b3⟩
          have Q2 := Lib.hid (K2.out.next b3)
          have QB := Lib.hid (KB.out.trans (b3.mono KB.out.size))
          obtain ⟨y1, y2, y3, y4, y5⟩ := Q2.out.two
          obtain ⟨z1, z2, z3, z4, z5⟩ := (K3.out.next b3).two
          clear x1 x2 x3 x4 x5 b3 CL
          go_wp2
          obtain ⟨s1, s2⟩ := Q2.out.read2 (.int .i64 S) (.int .u64 ol)
          refine bodyPost_ret (v := .tuple #[.agg #[.int .i64 S, .int .u64 ol], .int .i64 0]) (by simp [results, Try.results44, go_sem, s1, s2]) rfl ?_
          exact FG.out _ (bset2 QB.out (Nat.le_refl _) _ _)
        · rw [decide_eq_false hS, vI_out hS] at CL
          have FG := Lib.hid (F2.out hS)
          clear F1 F2 hS
          go_wp2_with fail
          refine (CL.out _).mono ?_
          rintro _ w3 ⟨rfl, b3⟩
          have Q2 := Lib.hid (K2.out.next b3)
          have QB := Lib.hid (KB.out.trans (b3.mono KB.out.size))
          obtain ⟨y1, y2, y3, y4, y5⟩ := Q2.out.two
          clear x1 x2 x3 x4 x5 b3 CL
          go_wp2
          obtain ⟨s1, s2⟩ := Q2.out.read2 (.int .i64 0) (.int .u64 0)
          refine bodyPost_ret (v := .tuple #[.agg #[.int .i64 0, .int .u64 0], .int .i64 12]) (by simp [results, Try.results44, go_sem, s1, s2]) rfl ?_
          exact FG.out _ (bset2 QB.out (Nat.le_refl _) _ _)
end Go.Proofs.Ytpmoidpncpfnlaa
