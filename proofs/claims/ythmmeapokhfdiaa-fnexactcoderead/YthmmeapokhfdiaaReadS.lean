/-
  Walks: the specification's l11Read.
-/
import Derived.Test.YthmmeapokhfdiaaReadI4
import Derived.Test.YthmmeapokhfdiaaGrow
namespace Go.Proofs.Ythmmeapokhfdiaa
open Go.RowKit
set_option linter.unusedVariables false
set_option linter.unusedSimpArgs false
/-- What l11Read answers where there is an instruction of m bytes at p. -/
def RdPost (w : World) (p m : Nat) (l : List Int) (r : Ending) (w' : World) : Prop :=
  ∃ xa xc, r = .returned (.tuple #[.agg #[.int .i64 (l.getD 0 0), .int .i64 (l.getD 1 0), .int .i64 (l.getD 2 0), .int .i64 (l.getD 3 0), .int .i64 (l.getD 4 0), .slice xa (insB2 l).length xc], .int .i64 ((p + m : Nat) : Int)]) ∧ Piece w.heap.size w'.heap.size w' (.slice xa (insB2 l).length xc) (insB2 l) ∧ Below w.heap.size w w'
def RdEnd (w : World) (r : Ending) (w' : World) : Prop := r = .returned (.tuple #[.agg #[.int .i64 0, .int .i64 0, .int .i64 0, .int .i64 0, .int .i64 0, .slice none 0 0], .int .i64 (-1)]) ∧ Below w.heap.size w w'
set_option maxRecDepth 20000 in
set_option maxHeartbeats 8000000 in
theorem l11_short {g off n c p : Nat} {w : World} (hp : p ≤ n) (hm : n ≤ 1048576) (h5 : n - p < 5) :
    Calls Try.prog 26 #[.slice (some ⟨g, off, none⟩) n c, .int .i64 (p : Int)] w fun r w' => RdEnd w r w' := by
  have i5 : (n : Int) - (p : Int) < 5 := by omega
  unfold RdEnd
  go_enter Try.func26, Try.ntmps26
  go_wp2
  exact bodyPost_ret (v := .tuple #[.agg #[.int .i64 0, .int .i64 0, .int .i64 0, .int .i64 0, .int .i64 0, .slice none 0 0], .int .i64 (-1)]) (by simp [results, Try.results26, go_sem]) rfl ⟨rfl, bAlloc (Below.refl _ _) _⟩
set_option maxRecDepth 20000 in
set_option maxHeartbeats 8000000 in
theorem l11_plain {b : List Int} {g off n c p : Nat} {w : World} (h : Bys w (some ⟨g, off, none⟩) b) (hb : isB b) (hn : b.length = n) (hp : p ≤ n) (hm : n ≤ 1048576) (h5 : 5 ≤ n - p) (h1 : (b.drop p).getD 0 0 ≠ 1) :
    Calls Try.prog 26 #[.slice (some ⟨g, off, none⟩) n c, .int .i64 (p : Int)] w fun r w' => RdPost w p 5 (b.drop p) r w' := by
  have i5 : ¬ (n : Int) - (p : Int) < 5 := by omega
  have c0 := h.at (k := p + 0) (by omega)
  obtain ⟨_, _, e, hg, c0⟩ := c0
  cases e
  rw [show b.getD (p + 0) 0 = (b.drop p).getD 0 0 by simp [List.getD_eq_getElem?_getD]] at c0
  have b0 := isB_getD (isB_drop hb p) 0
  have c1 := h.at (k := p + 1) (by omega)
  obtain ⟨_, _, e, hg, c1⟩ := c1
  cases e
  rw [show b.getD (p + 1) 0 = (b.drop p).getD 1 0 by simp [List.getD_eq_getElem?_getD]] at c1
  have b1 := isB_getD (isB_drop hb p) 1
  have c2 := h.at (k := p + 2) (by omega)
  obtain ⟨_, _, e, hg, c2⟩ := c2
  cases e
  rw [show b.getD (p + 2) 0 = (b.drop p).getD 2 0 by simp [List.getD_eq_getElem?_getD]] at c2
  have b2 := isB_getD (isB_drop hb p) 2
  have c3 := h.at (k := p + 3) (by omega)
  obtain ⟨_, _, e, hg, c3⟩ := c3
  cases e
  rw [show b.getD (p + 3) 0 = (b.drop p).getD 3 0 by simp [List.getD_eq_getElem?_getD]] at c3
  have b3 := isB_getD (isB_drop hb p) 3
  have c4 := h.at (k := p + 4) (by omega)
  obtain ⟨_, _, e, hg, c4⟩ := c4
  cases e
  rw [show b.getD (p + 4) 0 = (b.drop p).getD 4 0 by simp [List.getD_eq_getElem?_getD]] at c4
  have b4 := isB_getD (isB_drop hb p) 4
  rw [Nat.add_zero] at c0
  have EN : insB2 (b.drop p) = [] := if_neg h1
  unfold RdPost
  rw [EN]
  have ne1 : ((b.drop p).getD 0 0 != 1) = true := by simpa using h1
  generalize (b.drop p).getD 0 0 = x0 at *
  generalize (b.drop p).getD 1 0 = x1 at *
  generalize (b.drop p).getD 2 0 = x2 at *
  generalize (b.drop p).getD 3 0 = x3 at *
  generalize (b.drop p).getD 4 0 = x4 at *
  have SK : Hid (∀ W, Below w.heap.size w W → W.cell? ⟨g, off + p, none⟩ = some (.int .u8 x0) ∧ W.cell? ⟨g, off + (p + 1), none⟩ = some (.int .u8 x1) ∧ W.cell? ⟨g, off + (p + 2), none⟩ = some (.int .u8 x2) ∧ W.cell? ⟨g, off + (p + 3), none⟩ = some (.int .u8 x3) ∧ W.cell? ⟨g, off + (p + 4), none⟩ = some (.int .u8 x4) ∧ W.cell? ⟨g, off + p + 1, none⟩ = some (.int .u8 x1) ∧ W.cell? ⟨g, off + p + 2, none⟩ = some (.int .u8 x2) ∧ W.cell? ⟨g, off + p + 3, none⟩ = some (.int .u8 x3) ∧ W.cell? ⟨g, off + p + 4, none⟩ = some (.int .u8 x4)) := fun W hb => ⟨(hb.cell (p := ⟨g, off + p, none⟩) hg).trans c0, (hb.cell (p := ⟨g, off + (p + 1), none⟩) hg).trans c1, (hb.cell (p := ⟨g, off + (p + 2), none⟩) hg).trans c2, (hb.cell (p := ⟨g, off + (p + 3), none⟩) hg).trans c3, (hb.cell (p := ⟨g, off + (p + 4), none⟩) hg).trans c4, (hb.cell (p := ⟨g, off + (p + 1), none⟩) hg).trans c1, (hb.cell (p := ⟨g, off + (p + 2), none⟩) hg).trans c2, (hb.cell (p := ⟨g, off + (p + 3), none⟩) hg).trans c3, (hb.cell (p := ⟨g, off + (p + 4), none⟩) hg).trans c4⟩
  have j1 : (p : Int) + 1 < (n : Int) := by omega
  have k1 : p + 1 < n := by omega
  have z1 : (0 : Int) ≤ (p : Int) + 1 := by omega
  have tn1 : ((p : Int) + 1).toNat = p + 1 := by omega
  have j2 : (p : Int) + 2 < (n : Int) := by omega
  have k2 : p + 2 < n := by omega
  have z2 : (0 : Int) ≤ (p : Int) + 2 := by omega
  have tn2 : ((p : Int) + 2).toNat = p + 2 := by omega
  have j3 : (p : Int) + 3 < (n : Int) := by omega
  have k3 : p + 3 < n := by omega
  have z3 : (0 : Int) ≤ (p : Int) + 3 := by omega
  have tn3 : ((p : Int) + 3).toNat = p + 3 := by omega
  have j4 : (p : Int) + 4 < (n : Int) := by omega
  have k4 : p + 4 < n := by omega
  have z4 : (0 : Int) ≤ (p : Int) + 4 := by omega
  have tn4 : ((p : Int) + 4).toNat = p + 4 := by omega
  have j0 : (p : Int) < (n : Int) := by omega
  have k0 : p < n := by omega
  have wx0 : IntKind.i64.wrap x0 = x0 := by rw [IntKind.wrap_i64]; omega
  have wx1 : IntKind.i64.wrap x1 = x1 := by rw [IntKind.wrap_i64]; omega
  have wx2 : IntKind.i64.wrap x2 = x2 := by rw [IntKind.wrap_i64]; omega
  have wx3 : IntKind.i64.wrap x3 = x3 := by rw [IntKind.wrap_i64]; omega
  have wx4 : IntKind.i64.wrap x4 = x4 := by rw [IntKind.wrap_i64]; omega
  have wp1 : IntKind.i64.wrap ((p : Int) + 1) = (p : Int) + 1 := by rw [IntKind.wrap_i64]; omega
  have wp2 : IntKind.i64.wrap ((p : Int) + 2) = (p : Int) + 2 := by rw [IntKind.wrap_i64]; omega
  have wp3 : IntKind.i64.wrap ((p : Int) + 3) = (p : Int) + 3 := by rw [IntKind.wrap_i64]; omega
  have wp4 : IntKind.i64.wrap ((p : Int) + 4) = (p : Int) + 4 := by rw [IntKind.wrap_i64]; omega
  have wp5 : IntKind.i64.wrap ((p : Int) + 5) = (p : Int) + 5 := by rw [IntKind.wrap_i64]; omega
  clear h hb c0 c1 c2 c3 c4 hg h1
  go_enter Try.func26, Try.ntmps26
  go_wp2_with fail
  have R1 : Hid ((w.alloc (.cells #[.int .i64 0, .int .i64 0, .int .i64 0, .int .i64 0, .int .i64 0, .slice none 0 0] 47)).heap[w.heap.size]? = some (.cells #[.int .i64 0, .int .i64 0, .int .i64 0, .int .i64 0, .int .i64 0, .slice none 0 0] 47 (0, 0))) := heap_alloc_new w _
  have BB1 : Hid (Below w.heap.size w (w.alloc (.cells #[.int .i64 0, .int .i64 0, .int .i64 0, .int .i64 0, .int .i64 0, .slice none 0 0] 47))) := bAlloc (Below.refl _ _) _
  generalize w.alloc (.cells #[.int .i64 0, .int .i64 0, .int .i64 0, .int .i64 0, .int .i64 0, .slice none 0 0] 47) = W1 at *
  go_region_held3 (fun w' => w'.cell? ⟨g, off + p, none⟩ = some (.int .u8 x0) ∧ w'.cell? ⟨g, off + (p + 1), none⟩ = some (.int .u8 x1) ∧ w'.cell? ⟨g, off + (p + 2), none⟩ = some (.int .u8 x2) ∧ w'.cell? ⟨g, off + (p + 3), none⟩ = some (.int .u8 x3) ∧ w'.cell? ⟨g, off + (p + 4), none⟩ = some (.int .u8 x4) ∧ w'.cell? ⟨g, off + p + 1, none⟩ = some (.int .u8 x1) ∧ w'.cell? ⟨g, off + p + 2, none⟩ = some (.int .u8 x2) ∧ w'.cell? ⟨g, off + p + 3, none⟩ = some (.int .u8 x3) ∧ w'.cell? ⟨g, off + p + 4, none⟩ = some (.int .u8 x4))
    ((refine SK.out _ ?_; (repeat first | with_reducible exact BB1.out | with_reducible refine Below.drew ?_ | with_reducible refine bAlloc ?_ _)))
    (fail)
  all_goals
    have L1 : w.heap.size < W1.heap.size := lt_of_heapA R1.out
    have N2 : Hid ((W1.alloc (.cells #[.int .i64 x0, .int .i64 x1, .int .i64 x2, .int .i64 x3, .int .i64 x4, .slice none 0 0] 47)).drew.heap[W1.heap.size]? = some (.cells #[.int .i64 x0, .int .i64 x1, .int .i64 x2, .int .i64 x3, .int .i64 x4, .slice none 0 0] 47 (0, 0))) := heap_alloc_new W1 _
    have BB2 : Hid (Below W1.heap.size W1 (W1.alloc (.cells #[.int .i64 x0, .int .i64 x1, .int .i64 x2, .int .i64 x3, .int .i64 x4, .slice none 0 0] 47)).drew) := (bAlloc (Below.refl _ _) _).drew
    generalize (W1.alloc (.cells #[.int .i64 x0, .int .i64 x1, .int .i64 x2, .int .i64 x3, .int .i64 x4, .slice none 0 0] 47)).drew = W2 at *
    have R2 : Hid (W2.heap[w.heap.size]? = some (.cells #[.int .i64 0, .int .i64 0, .int .i64 0, .int .i64 0, .int .i64 0, .slice none 0 0] 47 (0, 0))) := by show _ = _; rw [BB2.out.block _ L1]; exact R1.out
    have BW2 : Hid (Below w.heap.size w W2) := bTrans BB1.out BB2.out
    generalize W1.heap.size = s1 at *
    have ne : s1 ≠ w.heap.size := by omega
    have ne' : w.heap.size ≠ s1 := by omega
    have d0 : W2.cell? ⟨s1, 0, none⟩ = some (.int .i64 x0) := cell_at N2.out rfl
    have d1 : W2.cell? ⟨s1, 1, none⟩ = some (.int .i64 x1) := cell_at N2.out rfl
    have d2 : W2.cell? ⟨s1, 2, none⟩ = some (.int .i64 x2) := cell_at N2.out rfl
    have d3 : W2.cell? ⟨s1, 3, none⟩ = some (.int .i64 x3) := cell_at N2.out rfl
    have d4 : W2.cell? ⟨s1, 4, none⟩ = some (.int .i64 x4) := cell_at N2.out rfl
    have d5 : W2.cell? ⟨s1, 5, none⟩ = some (.slice none 0 0) := cell_at N2.out rfl
    have p0 : W2.cell? ⟨w.heap.size, 0, none⟩ = some (.int .i64 0) := cell_at R2.out rfl
    have f0 : W2.frozen? ⟨w.heap.size, 0, none⟩ = false := free_at R2.out 0
    have p1 : W2.cell? ⟨w.heap.size, 1, none⟩ = some (.int .i64 0) := cell_at R2.out rfl
    have f1 : W2.frozen? ⟨w.heap.size, 1, none⟩ = false := free_at R2.out 1
    have p2 : W2.cell? ⟨w.heap.size, 2, none⟩ = some (.int .i64 0) := cell_at R2.out rfl
    have f2 : W2.frozen? ⟨w.heap.size, 2, none⟩ = false := free_at R2.out 2
    have p3 : W2.cell? ⟨w.heap.size, 3, none⟩ = some (.int .i64 0) := cell_at R2.out rfl
    have f3 : W2.frozen? ⟨w.heap.size, 3, none⟩ = false := free_at R2.out 3
    have p4 : W2.cell? ⟨w.heap.size, 4, none⟩ = some (.int .i64 0) := cell_at R2.out rfl
    have f4 : W2.frozen? ⟨w.heap.size, 4, none⟩ = false := free_at R2.out 4
    have p5 : W2.cell? ⟨w.heap.size, 5, none⟩ = some (.slice none 0 0) := cell_at R2.out rfl
    have f5 : W2.frozen? ⟨w.heap.size, 5, none⟩ = false := free_at R2.out 5
    clear SK
    go_wp2
    have HR : ((((((W2.setCell ⟨w.heap.size, 0, none⟩ (.int .i64 x0)).setCell ⟨w.heap.size, 1, none⟩ (.int .i64 x1)).setCell ⟨w.heap.size, 2, none⟩ (.int .i64 x2)).setCell ⟨w.heap.size, 3, none⟩ (.int .i64 x3)).setCell ⟨w.heap.size, 4, none⟩ (.int .i64 x4)).setCell ⟨w.heap.size, 5, none⟩ (.slice none 0 0)).heap[w.heap.size]? = some (.cells #[.int .i64 x0, .int .i64 x1, .int .i64 x2, .int .i64 x3, .int .i64 x4, .slice none 0 0] 47 (0, 0)) := instr_stored R2.out
    have ww : Win w.heap.size (w.heap.size + 1) W2 ((((((W2.setCell ⟨w.heap.size, 0, none⟩ (.int .i64 x0)).setCell ⟨w.heap.size, 1, none⟩ (.int .i64 x1)).setCell ⟨w.heap.size, 2, none⟩ (.int .i64 x2)).setCell ⟨w.heap.size, 3, none⟩ (.int .i64 x3)).setCell ⟨w.heap.size, 4, none⟩ (.int .i64 x4)).setCell ⟨w.heap.size, 5, none⟩ (.slice none 0 0)) := (((((win_setCell _ _ _ _).trans (win_setCell _ _ _ _)).trans (win_setCell _ _ _ _)).trans (win_setCell _ _ _ _)).trans (win_setCell _ _ _ _)).trans (win_setCell _ _ _ _)
    have bb : Below w.heap.size w ((((((W2.setCell ⟨w.heap.size, 0, none⟩ (.int .i64 x0)).setCell ⟨w.heap.size, 1, none⟩ (.int .i64 x1)).setCell ⟨w.heap.size, 2, none⟩ (.int .i64 x2)).setCell ⟨w.heap.size, 3, none⟩ (.int .i64 x3)).setCell ⟨w.heap.size, 4, none⟩ (.int .i64 x4)).setCell ⟨w.heap.size, 5, none⟩ (.slice none 0 0)) := BW2.out.trans (ww.below (Nat.le_refl _) BW2.out.size)
    generalize (((((W2.setCell ⟨w.heap.size, 0, none⟩ (.int .i64 x0)).setCell ⟨w.heap.size, 1, none⟩ (.int .i64 x1)).setCell ⟨w.heap.size, 2, none⟩ (.int .i64 x2)).setCell ⟨w.heap.size, 3, none⟩ (.int .i64 x3)).setCell ⟨w.heap.size, 4, none⟩ (.int .i64 x4)).setCell ⟨w.heap.size, 5, none⟩ (.slice none 0 0) = WF at *
    have e0 : WF.cell? ⟨w.heap.size, 0, none⟩ = some (.int .i64 x0) := cell_at HR rfl
    have e1 : WF.cell? ⟨w.heap.size, 1, none⟩ = some (.int .i64 x1) := cell_at HR rfl
    have e2 : WF.cell? ⟨w.heap.size, 2, none⟩ = some (.int .i64 x2) := cell_at HR rfl
    have e3 : WF.cell? ⟨w.heap.size, 3, none⟩ = some (.int .i64 x3) := cell_at HR rfl
    have e4 : WF.cell? ⟨w.heap.size, 4, none⟩ = some (.int .i64 x4) := cell_at HR rfl
    have e5 : WF.cell? ⟨w.heap.size, 5, none⟩ = some (.slice none 0 0) := cell_at HR rfl
    exact bodyPost_ret (v := .tuple #[.agg #[.int .i64 x0, .int .i64 x1, .int .i64 x2, .int .i64 x3, .int .i64 x4, .slice none 0 0], .int .i64 ((p : Int) + 5)]) (by simp [results, Try.results26, go_sem, e0, e1, e2, e3, e4, e5]) rfl ⟨none, 0, by simp, Piece.nil _ _ _, bb⟩
end Go.Proofs.Ythmmeapokhfdiaa
