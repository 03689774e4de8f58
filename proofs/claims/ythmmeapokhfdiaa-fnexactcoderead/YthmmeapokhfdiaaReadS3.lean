/-
  Walks: the specification's l11Read, where the bytes end within an instruction with numbers.
-/
import Derived.Test.YthmmeapokhfdiaaReadS
import Derived.Deep.QuietTactic
import Derived.BigQuiet
namespace Go.Proofs.Ythmmeapokhfdiaa
open Go.RowKit
set_option linter.unusedVariables false
set_option linter.unusedSimpArgs false
set_option maxRecDepth 20000 in
set_option maxHeartbeats 8000000 in
theorem l11_ends2 {b : List Int} {g off n c p : Nat} {w : World} (h : Bys w (some ⟨g, off, none⟩) b) (hb : isB b) (hn : b.length = n) (hp : p ≤ n) (hm : n ≤ 1048576) (h5 : 5 ≤ n - p) (h1 : (b.drop p).getD 0 0 = 1) (h7 : 7 ≤ n - p) (h8 : n - p < 7 + 8 * cnt (b.drop p)) :
    Calls Try.prog 26 #[.slice (some ⟨g, off, none⟩) n c, .int .i64 (p : Int)] w fun r w' => RdEnd w r w' := by
  have i5 : ¬ (n : Int) - (p : Int) < 5 := by omega
  have c0 := h.at (k := p + 0) (by omega)
  obtain ⟨_, _, e, hg, c0⟩ := c0
  cases e
  rw [show b.getD (p + 0) 0 = (b.drop p).getD 0 0 by simp [List.getD_eq_getElem?_getD]] at c0
  have b0 := isB_getD (isB_drop hb p) 0
  have c1 := h.at (k := p + 1) (by omega)
  obtain ⟨_, _, e, hg, c1⟩ := c1
  cases e
  rw [show b.getD (p + 1) 0 = (b.drop p).getD 1 0 by simp [List.getD_eq_getElem?_getD]] at c1
  have b1 := isB_getD (isB_drop hb p) 1
  have c2 := h.at (k := p + 2) (by omega)
  obtain ⟨_, _, e, hg, c2⟩ := c2
  cases e
  rw [show b.getD (p + 2) 0 = (b.drop p).getD 2 0 by simp [List.getD_eq_getElem?_getD]] at c2
  have b2 := isB_getD (isB_drop hb p) 2
  have c3 := h.at (k := p + 3) (by omega)
  obtain ⟨_, _, e, hg, c3⟩ := c3
  cases e
  rw [show b.getD (p + 3) 0 = (b.drop p).getD 3 0 by simp [List.getD_eq_getElem?_getD]] at c3
  have b3 := isB_getD (isB_drop hb p) 3
  have c4 := h.at (k := p + 4) (by omega)
  obtain ⟨_, _, e, hg, c4⟩ := c4
  cases e
  rw [show b.getD (p + 4) 0 = (b.drop p).getD 4 0 by simp [List.getD_eq_getElem?_getD]] at c4
  have b4 := isB_getD (isB_drop hb p) 4
  rw [Nat.add_zero] at c0
  have c5 := h.at (k := p + 5) (by omega)
  obtain ⟨_, _, e, _, c5⟩ := c5
  cases e
  rw [show b.getD (p + 5) 0 = (b.drop p).getD 5 0 by simp [List.getD_eq_getElem?_getD]] at c5
  have b5 := isB_getD (isB_drop hb p) 5
  have c6 := h.at (k := p + 6) (by omega)
  obtain ⟨_, _, e, _, c6⟩ := c6
  cases e
  rw [show b.getD (p + 6) 0 = (b.drop p).getD 6 0 by simp [List.getD_eq_getElem?_getD]] at c6
  have b6 := isB_getD (isB_drop hb p) 6
  unfold RdEnd
  unfold cnt at h8
  have ne1 : ((b.drop p).getD 0 0 != 1) = false := by simpa using h1
  have i7 : ¬ (n : Int) - ((p : Int) + 5) < 2 := by omega
  generalize (b.drop p).getD 0 0 = x0 at *
  generalize (b.drop p).getD 1 0 = x1 at *
  generalize (b.drop p).getD 2 0 = x2 at *
  generalize (b.drop p).getD 3 0 = x3 at *
  generalize (b.drop p).getD 4 0 = x4 at *
  have SK : Hid (∀ W, Below w.heap.size w W → W.cell? ⟨g, off + p, none⟩ = some (.int .u8 x0) ∧ W.cell? ⟨g, off + (p + 1), none⟩ = some (.int .u8 x1) ∧ W.cell? ⟨g, off + (p + 2), none⟩ = some (.int .u8 x2) ∧ W.cell? ⟨g, off + (p + 3), none⟩ = some (.int .u8 x3) ∧ W.cell? ⟨g, off + (p + 4), none⟩ = some (.int .u8 x4) ∧ W.cell? ⟨g, off + p + 1, none⟩ = some (.int .u8 x1) ∧ W.cell? ⟨g, off + p + 2, none⟩ = some (.int .u8 x2) ∧ W.cell? ⟨g, off + p + 3, none⟩ = some (.int .u8 x3) ∧ W.cell? ⟨g, off + p + 4, none⟩ = some (.int .u8 x4)) := fun W hb => ⟨(hb.cell (p := ⟨g, off + p, none⟩) hg).trans c0, (hb.cell (p := ⟨g, off + (p + 1), none⟩) hg).trans c1, (hb.cell (p := ⟨g, off + (p + 2), none⟩) hg).trans c2, (hb.cell (p := ⟨g, off + (p + 3), none⟩) hg).trans c3, (hb.cell (p := ⟨g, off + (p + 4), none⟩) hg).trans c4, (hb.cell (p := ⟨g, off + (p + 1), none⟩) hg).trans c1, (hb.cell (p := ⟨g, off + (p + 2), none⟩) hg).trans c2, (hb.cell (p := ⟨g, off + (p + 3), none⟩) hg).trans c3, (hb.cell (p := ⟨g, off + (p + 4), none⟩) hg).trans c4⟩
  have j1 : (p : Int) + 1 < (n : Int) := by omega
  have k1 : p + 1 < n := by omega
  have z1 : (0 : Int) ≤ (p : Int) + 1 := by omega
  have tn1 : ((p : Int) + 1).toNat = p + 1 := by omega
  have j2 : (p : Int) + 2 < (n : Int) := by omega
  have k2 : p + 2 < n := by omega
  have z2 : (0 : Int) ≤ (p : Int) + 2 := by omega
  have tn2 : ((p : Int) + 2).toNat = p + 2 := by omega
  have j3 : (p : Int) + 3 < (n : Int) := by omega
  have k3 : p + 3 < n := by omega
  have z3 : (0 : Int) ≤ (p : Int) + 3 := by omega
  have tn3 : ((p : Int) + 3).toNat = p + 3 := by omega
  have j4 : (p : Int) + 4 < (n : Int) := by omega
  have k4 : p + 4 < n := by omega
  have z4 : (0 : Int) ≤ (p : Int) + 4 := by omega
  have tn4 : ((p : Int) + 4).toNat = p + 4 := by omega
  have j0 : (p : Int) < (n : Int) := by omega
  have k0 : p < n := by omega
  have wx0 : IntKind.i64.wrap x0 = x0 := by rw [IntKind.wrap_i64]; omega
  have wx1 : IntKind.i64.wrap x1 = x1 := by rw [IntKind.wrap_i64]; omega
  have wx2 : IntKind.i64.wrap x2 = x2 := by rw [IntKind.wrap_i64]; omega
  have wx3 : IntKind.i64.wrap x3 = x3 := by rw [IntKind.wrap_i64]; omega
  have wx4 : IntKind.i64.wrap x4 = x4 := by rw [IntKind.wrap_i64]; omega
  have wp1 : IntKind.i64.wrap ((p : Int) + 1) = (p : Int) + 1 := by rw [IntKind.wrap_i64]; omega
  have wp2 : IntKind.i64.wrap ((p : Int) + 2) = (p : Int) + 2 := by rw [IntKind.wrap_i64]; omega
  have wp3 : IntKind.i64.wrap ((p : Int) + 3) = (p : Int) + 3 := by rw [IntKind.wrap_i64]; omega
  have wp4 : IntKind.i64.wrap ((p : Int) + 4) = (p : Int) + 4 := by rw [IntKind.wrap_i64]; omega
  have wp5 : IntKind.i64.wrap ((p : Int) + 5) = (p : Int) + 5 := by rw [IntKind.wrap_i64]; omega
  generalize (b.drop p).getD 5 0 = x5 at *
  generalize (b.drop p).getD 6 0 = x6 at *
  have S7 : Hid (∀ W, Below w.heap.size w W → W.cell? ⟨g, off + (p + 5), none⟩ = some (.int .u8 x5) ∧ W.cell? ⟨g, off + (p + 6), none⟩ = some (.int .u8 x6)) := fun W hb => ⟨(hb.cell (p := ⟨g, off + (p + 5), none⟩) hg).trans c5, (hb.cell (p := ⟨g, off + (p + 6), none⟩) hg).trans c6⟩
  have BX : Hid ((0 ≤ x5 ∧ x5 ≤ 255) ∧ 0 ≤ x6 ∧ x6 ≤ 255) := ⟨b5, b6⟩
  have BP : Hid (p + 7 ≤ n ∧ n ≤ 1048576) := ⟨by omega, hm⟩
  have I8 : Hid ((n : Int) - ((p : Int) + 5 + 2) < 8 * (x5 + 256 * x6)) := by show _ < _; omega
  have I7 : Hid (¬ (n : Int) - ((p : Int) + 5) < 2) := i7
  clear h hb c0 c1 c2 c3 c4 c5 c6 hg h1 h8 i7 b5 b6 h7
  go_enter Try.func26, Try.ntmps26
  go_wp2_with fail
  have R1 : Hid ((w.alloc (.cells #[.int .i64 0, .int .i64 0, .int .i64 0, .int .i64 0, .int .i64 0, .slice none 0 0] 47)).heap[w.heap.size]? = some (.cells #[.int .i64 0, .int .i64 0, .int .i64 0, .int .i64 0, .int .i64 0, .slice none 0 0] 47 (0, 0))) := heap_alloc_new w _
  have BB1 : Hid (Below w.heap.size w (w.alloc (.cells #[.int .i64 0, .int .i64 0, .int .i64 0, .int .i64 0, .int .i64 0, .slice none 0 0] 47))) := bAlloc (Below.refl _ _) _
  generalize w.alloc (.cells #[.int .i64 0, .int .i64 0, .int .i64 0, .int .i64 0, .int .i64 0, .slice none 0 0] 47) = W1 at *
  go_region_held3 (fun w' => w'.cell? ⟨g, off + p, none⟩ = some (.int .u8 x0) ∧ w'.cell? ⟨g, off + (p + 1), none⟩ = some (.int .u8 x1) ∧ w'.cell? ⟨g, off + (p + 2), none⟩ = some (.int .u8 x2) ∧ w'.cell? ⟨g, off + (p + 3), none⟩ = some (.int .u8 x3) ∧ w'.cell? ⟨g, off + (p + 4), none⟩ = some (.int .u8 x4) ∧ w'.cell? ⟨g, off + p + 1, none⟩ = some (.int .u8 x1) ∧ w'.cell? ⟨g, off + p + 2, none⟩ = some (.int .u8 x2) ∧ w'.cell? ⟨g, off + p + 3, none⟩ = some (.int .u8 x3) ∧ w'.cell? ⟨g, off + p + 4, none⟩ = some (.int .u8 x4))
    ((refine SK.out _ ?_; (repeat first | with_reducible exact BB1.out | with_reducible refine Below.drew ?_ | with_reducible refine bAlloc ?_ _)))
    (fail)
  all_goals
    have L1 : w.heap.size < W1.heap.size := lt_of_heapA R1.out
    have N2 : Hid ((W1.alloc (.cells #[.int .i64 x0, .int .i64 x1, .int .i64 x2, .int .i64 x3, .int .i64 x4, .slice none 0 0] 47)).drew.heap[W1.heap.size]? = some (.cells #[.int .i64 x0, .int .i64 x1, .int .i64 x2, .int .i64 x3, .int .i64 x4, .slice none 0 0] 47 (0, 0))) := heap_alloc_new W1 _
    have BB2 : Hid (Below W1.heap.size W1 (W1.alloc (.cells #[.int .i64 x0, .int .i64 x1, .int .i64 x2, .int .i64 x3, .int .i64 x4, .slice none 0 0] 47)).drew) := (bAlloc (Below.refl _ _) _).drew
    generalize (W1.alloc (.cells #[.int .i64 x0, .int .i64 x1, .int .i64 x2, .int .i64 x3, .int .i64 x4, .slice none 0 0] 47)).drew = W2 at *
    have R2 : Hid (W2.heap[w.heap.size]? = some (.cells #[.int .i64 0, .int .i64 0, .int .i64 0, .int .i64 0, .int .i64 0, .slice none 0 0] 47 (0, 0))) := by show _ = _; rw [BB2.out.block _ L1]; exact R1.out
    have BW2 : Hid (Below w.heap.size w W2) := bTrans BB1.out BB2.out
    generalize W1.heap.size = s1 at *
    have ne : s1 ≠ w.heap.size := by omega
    have ne' : w.heap.size ≠ s1 := by omega
    have d0 : W2.cell? ⟨s1, 0, none⟩ = some (.int .i64 x0) := cell_at N2.out rfl
    have d1 : W2.cell? ⟨s1, 1, none⟩ = some (.int .i64 x1) := cell_at N2.out rfl
    have d2 : W2.cell? ⟨s1, 2, none⟩ = some (.int .i64 x2) := cell_at N2.out rfl
    have d3 : W2.cell? ⟨s1, 3, none⟩ = some (.int .i64 x3) := cell_at N2.out rfl
    have d4 : W2.cell? ⟨s1, 4, none⟩ = some (.int .i64 x4) := cell_at N2.out rfl
    have d5 : W2.cell? ⟨s1, 5, none⟩ = some (.slice none 0 0) := cell_at N2.out rfl
    have p0 : W2.cell? ⟨w.heap.size, 0, none⟩ = some (.int .i64 0) := cell_at R2.out rfl
    have f0 : W2.frozen? ⟨w.heap.size, 0, none⟩ = false := free_at R2.out 0
    have p1 : W2.cell? ⟨w.heap.size, 1, none⟩ = some (.int .i64 0) := cell_at R2.out rfl
    have f1 : W2.frozen? ⟨w.heap.size, 1, none⟩ = false := free_at R2.out 1
    have p2 : W2.cell? ⟨w.heap.size, 2, none⟩ = some (.int .i64 0) := cell_at R2.out rfl
    have f2 : W2.frozen? ⟨w.heap.size, 2, none⟩ = false := free_at R2.out 2
    have p3 : W2.cell? ⟨w.heap.size, 3, none⟩ = some (.int .i64 0) := cell_at R2.out rfl
    have f3 : W2.frozen? ⟨w.heap.size, 3, none⟩ = false := free_at R2.out 3
    have p4 : W2.cell? ⟨w.heap.size, 4, none⟩ = some (.int .i64 0) := cell_at R2.out rfl
    have f4 : W2.frozen? ⟨w.heap.size, 4, none⟩ = false := free_at R2.out 4
    have p5 : W2.cell? ⟨w.heap.size, 5, none⟩ = some (.slice none 0 0) := cell_at R2.out rfl
    have f5 : W2.frozen? ⟨w.heap.size, 5, none⟩ = false := free_at R2.out 5
    clear SK z1 z2 z3 z4 tn1 tn2 tn3 tn4 j1 j2 j3 j4 k1 k2 k3 k4 wx1 wx2 wx3 wx4 wp1 wp2 wp3 wp4 b1 b2 b3 b4 d1 d2 d3 d4 d5
    have i7 := I7.out
    go_wp2_with fail
    obtain ⟨b5, b6⟩ := BX.out
    obtain ⟨bp1, bp2⟩ := BP.out
    have u5 : IntKind.i64.wrap ((p : Int) + 5 + 1) = (p : Int) + 5 + 1 := by rw [IntKind.wrap_i64]; omega
    have u6 : (p : Int) + 5 < (n : Int) := by omega
    have u7 : (p : Int) + 5 + 1 < (n : Int) := by omega
    have v5 : (0 : Int) ≤ (p : Int) + 5 := by omega
    have v6 : (0 : Int) ≤ (p : Int) + 5 + 1 := by omega
    have y5 : ((p : Int) + 5).toNat = p + 5 := by omega
    have y6 : ((p : Int) + 5 + 1).toNat = p + 6 := by omega
    have wx5 : IntKind.i64.wrap x5 = x5 := by rw [IntKind.wrap_i64]; omega
    have wx6 : IntKind.i64.wrap x6 = x6 := by rw [IntKind.wrap_i64]; omega
    obtain ⟨s5, s6⟩ := S7.out W2 BW2.out
    go_quiet (fail)
    have R3 : Hid ((W2.drewN nq).heap[w.heap.size]? = some (.cells #[.int .i64 0, .int .i64 0, .int .i64 0, .int .i64 0, .int .i64 0, .slice none 0 0] 47 (0, 0))) := R2.out
    have N3 : Hid ((W2.drewN nq).heap[s1]? = some (.cells #[.int .i64 x0, .int .i64 x1, .int .i64 x2, .int .i64 x3, .int .i64 x4, .slice none 0 0] 47 (0, 0))) := N2.out
    have BW3 : Hid (Below w.heap.size w (W2.drewN nq)) := bDrewN BW2.out nq
    clear p0 p1 p2 p3 p4 p5 f0 f1 f2 f3 f4 f5 d0 s5 s6
    generalize W2.drewN nq = W3 at *
    have p0 : W3.cell? ⟨w.heap.size, 0, none⟩ = some (.int .i64 0) := cell_at R3.out rfl
    have f0 : W3.frozen? ⟨w.heap.size, 0, none⟩ = false := free_at R3.out 0
    have p1 : W3.cell? ⟨w.heap.size, 1, none⟩ = some (.int .i64 0) := cell_at R3.out rfl
    have f1 : W3.frozen? ⟨w.heap.size, 1, none⟩ = false := free_at R3.out 1
    have p2 : W3.cell? ⟨w.heap.size, 2, none⟩ = some (.int .i64 0) := cell_at R3.out rfl
    have f2 : W3.frozen? ⟨w.heap.size, 2, none⟩ = false := free_at R3.out 2
    have p3 : W3.cell? ⟨w.heap.size, 3, none⟩ = some (.int .i64 0) := cell_at R3.out rfl
    have f3 : W3.frozen? ⟨w.heap.size, 3, none⟩ = false := free_at R3.out 3
    have p4 : W3.cell? ⟨w.heap.size, 4, none⟩ = some (.int .i64 0) := cell_at R3.out rfl
    have f4 : W3.frozen? ⟨w.heap.size, 4, none⟩ = false := free_at R3.out 4
    have p5 : W3.cell? ⟨w.heap.size, 5, none⟩ = some (.slice none 0 0) := cell_at R3.out rfl
    have f5 : W3.frozen? ⟨w.heap.size, 5, none⟩ = false := free_at R3.out 5
    have i8 := I8.out
    go_wp2
    have HR : ((((((W3.setCell ⟨w.heap.size, 0, none⟩ (.int .i64 0)).setCell ⟨w.heap.size, 1, none⟩ (.int .i64 0)).setCell ⟨w.heap.size, 2, none⟩ (.int .i64 0)).setCell ⟨w.heap.size, 3, none⟩ (.int .i64 0)).setCell ⟨w.heap.size, 4, none⟩ (.int .i64 0)).setCell ⟨w.heap.size, 5, none⟩ (.slice none 0 0)).heap[w.heap.size]? = some (.cells #[.int .i64 0, .int .i64 0, .int .i64 0, .int .i64 0, .int .i64 0, .slice none 0 0] 47 (0, 0)) := instr_stored R3.out
    have ww : Win w.heap.size (w.heap.size + 1) W3 ((((((W3.setCell ⟨w.heap.size, 0, none⟩ (.int .i64 0)).setCell ⟨w.heap.size, 1, none⟩ (.int .i64 0)).setCell ⟨w.heap.size, 2, none⟩ (.int .i64 0)).setCell ⟨w.heap.size, 3, none⟩ (.int .i64 0)).setCell ⟨w.heap.size, 4, none⟩ (.int .i64 0)).setCell ⟨w.heap.size, 5, none⟩ (.slice none 0 0)) := (((((win_setCell _ _ _ _).trans (win_setCell _ _ _ _)).trans (win_setCell _ _ _ _)).trans (win_setCell _ _ _ _)).trans (win_setCell _ _ _ _)).trans (win_setCell _ _ _ _)
    have bb : Below w.heap.size w ((((((W3.setCell ⟨w.heap.size, 0, none⟩ (.int .i64 0)).setCell ⟨w.heap.size, 1, none⟩ (.int .i64 0)).setCell ⟨w.heap.size, 2, none⟩ (.int .i64 0)).setCell ⟨w.heap.size, 3, none⟩ (.int .i64 0)).setCell ⟨w.heap.size, 4, none⟩ (.int .i64 0)).setCell ⟨w.heap.size, 5, none⟩ (.slice none 0 0)) := BW3.out.trans (ww.below (Nat.le_refl _) BW3.out.size)
    generalize (((((W3.setCell ⟨w.heap.size, 0, none⟩ (.int .i64 0)).setCell ⟨w.heap.size, 1, none⟩ (.int .i64 0)).setCell ⟨w.heap.size, 2, none⟩ (.int .i64 0)).setCell ⟨w.heap.size, 3, none⟩ (.int .i64 0)).setCell ⟨w.heap.size, 4, none⟩ (.int .i64 0)).setCell ⟨w.heap.size, 5, none⟩ (.slice none 0 0) = WF at *
    have e0 : WF.cell? ⟨w.heap.size, 0, none⟩ = some (.int .i64 0) := cell_at HR rfl
    have e1 : WF.cell? ⟨w.heap.size, 1, none⟩ = some (.int .i64 0) := cell_at HR rfl
    have e2 : WF.cell? ⟨w.heap.size, 2, none⟩ = some (.int .i64 0) := cell_at HR rfl
    have e3 : WF.cell? ⟨w.heap.size, 3, none⟩ = some (.int .i64 0) := cell_at HR rfl
    have e4 : WF.cell? ⟨w.heap.size, 4, none⟩ = some (.int .i64 0) := cell_at HR rfl
    have e5 : WF.cell? ⟨w.heap.size, 5, none⟩ = some (.slice none 0 0) := cell_at HR rfl
    exact bodyPost_ret (v := .tuple #[.agg #[.int .i64 0, .int .i64 0, .int .i64 0, .int .i64 0, .int .i64 0, .slice none 0 0], .int .i64 (-1)]) (by simp [results, Try.results26, go_sem, e0, e1, e2, e3, e4, e5]) rfl ⟨rfl, bb⟩
end Go.Proofs.Ythmmeapokhfdiaa
