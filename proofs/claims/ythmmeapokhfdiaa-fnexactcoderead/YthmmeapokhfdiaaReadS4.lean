/-
  Walks: the specification's l11Read, where the bytes end within an instruction with numbers.
-/
import Derived.Test.YthmmeapokhfdiaaReadS
import Derived.Test.YthmmeapokhfdiaaGrow
import Derived.Deep.QuietTactic
import Derived.BigQuiet
namespace Go.Proofs.Ythmmeapokhfdiaa
open Go.RowKit
set_option linter.unusedVariables false
set_option linter.unusedSimpArgs false
theorem or_shl (X x : Int) (h0 : 0 ≤ x) (h1 : x ≤ 255) : Go.bits BinOp.or IntKind.i64 (wrap64 (X * 256)) x = wrp (X * 256 + x) := by
  obtain ⟨M, hM⟩ : ∃ M : Nat, ((wrap64 (X * 256)) % 18446744073709551616).toNat = 2 ^ 8 * M := by
    refine ⟨((wrap64 (X * 256)) % 18446744073709551616).toNat / 256, ?_⟩
    unfold wrap64
    omega
  have hA : (BitVec.ofInt 64 (wrap64 (X * 256))).toNat = 2 ^ 8 * M := by rw [BitVec.toNat_ofInt]; exact hM
  have hB : (BitVec.ofInt 64 x).toNat = x.toNat := by
    rw [BitVec.toNat_ofInt]
    have : (x % ((2 ^ 64 : Nat) : Int)) = x := Int.emod_eq_of_lt h0 (by omega)
    rw [this]
  show IntKind.i64.wrap (((BitVec.ofInt 64 (wrap64 (X * 256)) ||| BitVec.ofInt 64 x).toNat : Nat) : Int) = _
  rw [BitVec.toNat_or, hA, hB, ← Nat.two_pow_add_eq_or_of_lt (by omega), wrap_wrp]
  unfold wrp
  unfold wrap64 at hM
  omega
theorem NewInts.setCellR {B g : Nat} {w : World} {v : Value} {l : List Int} (h : NewInts B w v l) (hg : g < B) (o : Nat) (u : Value) : NewInts B (w.setCell ⟨g, o, none⟩ u) v l := by
  obtain ⟨h1, h2⟩ := h
  refine ⟨h1, ?_⟩
  rcases h2 with h2 | ⟨g', cap, cur, e, hB, hg', r⟩
  · exact .inl h2
  · exact .inr ⟨g', cap, cur, e, hB, by rw [heap_setCell_other _ _ _ _ (by show g' ≠ g; omega)]; exact hg', r⟩
set_option maxRecDepth 20000 in
set_option maxHeartbeats 8000000 in
theorem l11_nums {b : List Int} {g off n c p : Nat} {w : World} (h : Bys w (some ⟨g, off, none⟩) b) (hb : isB b) (hn : b.length = n) (hp : p ≤ n) (hm : n ≤ 1048576) (h5 : 5 ≤ n - p) (h1 : (b.drop p).getD 0 0 = 1) (h7 : 7 ≤ n - p) (h8 : 7 + 8 * cnt (b.drop p) ≤ n - p) :
    Calls Try.prog 26 #[.slice (some ⟨g, off, none⟩) n c, .int .i64 (p : Int)] w fun r w' => RdPost w p (7 + 8 * cnt (b.drop p)) (b.drop p) r w' := by
  have i5 : ¬ (n : Int) - (p : Int) < 5 := by omega
  have c0 := h.at (k := p + 0) (by omega)
  obtain ⟨_, _, e, hg, c0⟩ := c0
  cases e
  rw [show b.getD (p + 0) 0 = (b.drop p).getD 0 0 by simp [List.getD_eq_getElem?_getD]] at c0
  have b0 := isB_getD (isB_drop hb p) 0
  have c1 := h.at (k := p + 1) (by omega)
  obtain ⟨_, _, e, hg, c1⟩ := c1
  cases e
  rw [show b.getD (p + 1) 0 = (b.drop p).getD 1 0 by simp [List.getD_eq_getElem?_getD]] at c1
  have b1 := isB_getD (isB_drop hb p) 1
  have c2 := h.at (k := p + 2) (by omega)
  obtain ⟨_, _, e, hg, c2⟩ := c2
  cases e
  rw [show b.getD (p + 2) 0 = (b.drop p).getD 2 0 by simp [List.getD_eq_getElem?_getD]] at c2
  have b2 := isB_getD (isB_drop hb p) 2
  have c3 := h.at (k := p + 3) (by omega)
  obtain ⟨_, _, e, hg, c3⟩ := c3
  cases e
  rw [show b.getD (p + 3) 0 = (b.drop p).getD 3 0 by simp [List.getD_eq_getElem?_getD]] at c3
  have b3 := isB_getD (isB_drop hb p) 3
  have c4 := h.at (k := p + 4) (by omega)
  obtain ⟨_, _, e, hg, c4⟩ := c4
  cases e
  rw [show b.getD (p + 4) 0 = (b.drop p).getD 4 0 by simp [List.getD_eq_getElem?_getD]] at c4
  have b4 := isB_getD (isB_drop hb p) 4
  rw [Nat.add_zero] at c0
  have c5 := h.at (k := p + 5) (by omega)
  obtain ⟨_, _, e, _, c5⟩ := c5
  cases e
  rw [show b.getD (p + 5) 0 = (b.drop p).getD 5 0 by simp [List.getD_eq_getElem?_getD]] at c5
  have b5 := isB_getD (isB_drop hb p) 5
  have c6 := h.at (k := p + 6) (by omega)
  obtain ⟨_, _, e, _, c6⟩ := c6
  cases e
  rw [show b.getD (p + 6) 0 = (b.drop p).getD 6 0 by simp [List.getD_eq_getElem?_getD]] at c6
  have b6 := isB_getD (isB_drop hb p) 6
  have EN : insB2 (b.drop p) = numsW (b.drop (p + 7)) (cnt (b.drop p)) := by unfold insB2; rw [if_pos h1, List.drop_drop]
  unfold RdPost
  rw [EN, numsW_len]
  obtain ⟨q, hq⟩ : ∃ q, q = cnt (b.drop p) := ⟨_, rfl⟩
  rw [← hq] at h8 ⊢
  have eq : (b.drop p).getD 5 0 + 256 * (b.drop p).getD 6 0 = (q : Int) := by rw [hq]; unfold cnt; omega
  have H : Hid (Bys w (some ⟨g, off, none⟩) b) := h
  have HB : Hid (isB b) := hb
  have HN : Hid (b.length = n) := hn
  clear hq EN
  have ne1 : ((b.drop p).getD 0 0 != 1) = false := by simpa using h1
  have i7 : ¬ (n : Int) - ((p : Int) + 5) < 2 := by omega
  generalize (b.drop p).getD 0 0 = x0 at *
  generalize (b.drop p).getD 1 0 = x1 at *
  generalize (b.drop p).getD 2 0 = x2 at *
  generalize (b.drop p).getD 3 0 = x3 at *
  generalize (b.drop p).getD 4 0 = x4 at *
  have SK : Hid (∀ W, Below w.heap.size w W → W.cell? ⟨g, off + p, none⟩ = some (.int .u8 x0) ∧ W.cell? ⟨g, off + (p + 1), none⟩ = some (.int .u8 x1) ∧ W.cell? ⟨g, off + (p + 2), none⟩ = some (.int .u8 x2) ∧ W.cell? ⟨g, off + (p + 3), none⟩ = some (.int .u8 x3) ∧ W.cell? ⟨g, off + (p + 4), none⟩ = some (.int .u8 x4) ∧ W.cell? ⟨g, off + p + 1, none⟩ = some (.int .u8 x1) ∧ W.cell? ⟨g, off + p + 2, none⟩ = some (.int .u8 x2) ∧ W.cell? ⟨g, off + p + 3, none⟩ = some (.int .u8 x3) ∧ W.cell? ⟨g, off + p + 4, none⟩ = some (.int .u8 x4)) := fun W hb => ⟨(hb.cell (p := ⟨g, off + p, none⟩) hg).trans c0, (hb.cell (p := ⟨g, off + (p + 1), none⟩) hg).trans c1, (hb.cell (p := ⟨g, off + (p + 2), none⟩) hg).trans c2, (hb.cell (p := ⟨g, off + (p + 3), none⟩) hg).trans c3, (hb.cell (p := ⟨g, off + (p + 4), none⟩) hg).trans c4, (hb.cell (p := ⟨g, off + (p + 1), none⟩) hg).trans c1, (hb.cell (p := ⟨g, off + (p + 2), none⟩) hg).trans c2, (hb.cell (p := ⟨g, off + (p + 3), none⟩) hg).trans c3, (hb.cell (p := ⟨g, off + (p + 4), none⟩) hg).trans c4⟩
  have j1 : (p : Int) + 1 < (n : Int) := by omega
  have k1 : p + 1 < n := by omega
  have z1 : (0 : Int) ≤ (p : Int) + 1 := by omega
  have tn1 : ((p : Int) + 1).toNat = p + 1 := by omega
  have j2 : (p : Int) + 2 < (n : Int) := by omega
  have k2 : p + 2 < n := by omega
  have z2 : (0 : Int) ≤ (p : Int) + 2 := by omega
  have tn2 : ((p : Int) + 2).toNat = p + 2 := by omega
  have j3 : (p : Int) + 3 < (n : Int) := by omega
  have k3 : p + 3 < n := by omega
  have z3 : (0 : Int) ≤ (p : Int) + 3 := by omega
  have tn3 : ((p : Int) + 3).toNat = p + 3 := by omega
  have j4 : (p : Int) + 4 < (n : Int) := by omega
  have k4 : p + 4 < n := by omega
  have z4 : (0 : Int) ≤ (p : Int) + 4 := by omega
  have tn4 : ((p : Int) + 4).toNat = p + 4 := by omega
  have j0 : (p : Int) < (n : Int) := by omega
  have k0 : p < n := by omega
  have wx0 : IntKind.i64.wrap x0 = x0 := by rw [IntKind.wrap_i64]; omega
  have wx1 : IntKind.i64.wrap x1 = x1 := by rw [IntKind.wrap_i64]; omega
  have wx2 : IntKind.i64.wrap x2 = x2 := by rw [IntKind.wrap_i64]; omega
  have wx3 : IntKind.i64.wrap x3 = x3 := by rw [IntKind.wrap_i64]; omega
  have wx4 : IntKind.i64.wrap x4 = x4 := by rw [IntKind.wrap_i64]; omega
  have wp1 : IntKind.i64.wrap ((p : Int) + 1) = (p : Int) + 1 := by rw [IntKind.wrap_i64]; omega
  have wp2 : IntKind.i64.wrap ((p : Int) + 2) = (p : Int) + 2 := by rw [IntKind.wrap_i64]; omega
  have wp3 : IntKind.i64.wrap ((p : Int) + 3) = (p : Int) + 3 := by rw [IntKind.wrap_i64]; omega
  have wp4 : IntKind.i64.wrap ((p : Int) + 4) = (p : Int) + 4 := by rw [IntKind.wrap_i64]; omega
  have wp5 : IntKind.i64.wrap ((p : Int) + 5) = (p : Int) + 5 := by rw [IntKind.wrap_i64]; omega
  generalize (b.drop p).getD 5 0 = x5 at *
  generalize (b.drop p).getD 6 0 = x6 at *
  have S7 : Hid (∀ W, Below w.heap.size w W → W.cell? ⟨g, off + (p + 5), none⟩ = some (.int .u8 x5) ∧ W.cell? ⟨g, off + (p + 6), none⟩ = some (.int .u8 x6)) := fun W hb => ⟨(hb.cell (p := ⟨g, off + (p + 5), none⟩) hg).trans c5, (hb.cell (p := ⟨g, off + (p + 6), none⟩) hg).trans c6⟩
  have BX : Hid ((0 ≤ x5 ∧ x5 ≤ 255) ∧ 0 ≤ x6 ∧ x6 ≤ 255) := ⟨b5, b6⟩
  have BP : Hid (p + 7 ≤ n ∧ n ≤ 1048576) := ⟨by omega, hm⟩
  have I8 : Hid (p + 7 + 8 * q ≤ n ∧ x5 + 256 * x6 = (q : Int)) := ⟨by omega, eq⟩
  have I7 : Hid (¬ (n : Int) - ((p : Int) + 5) < 2) := i7
  clear h hb hn c0 c1 c2 c3 c4 c5 c6 hg h1 h8 i7 b5 b6 h7 eq
  go_enter Try.func26, Try.ntmps26
  go_wp2_with fail
  have R1 : Hid ((w.alloc (.cells #[.int .i64 0, .int .i64 0, .int .i64 0, .int .i64 0, .int .i64 0, .slice none 0 0] 47)).heap[w.heap.size]? = some (.cells #[.int .i64 0, .int .i64 0, .int .i64 0, .int .i64 0, .int .i64 0, .slice none 0 0] 47 (0, 0))) := heap_alloc_new w _
  have BB1 : Hid (Below w.heap.size w (w.alloc (.cells #[.int .i64 0, .int .i64 0, .int .i64 0, .int .i64 0, .int .i64 0, .slice none 0 0] 47))) := bAlloc (Below.refl _ _) _
  generalize w.alloc (.cells #[.int .i64 0, .int .i64 0, .int .i64 0, .int .i64 0, .int .i64 0, .slice none 0 0] 47) = W1 at *
  go_region_held3 (fun w' => w'.cell? ⟨g, off + p, none⟩ = some (.int .u8 x0) ∧ w'.cell? ⟨g, off + (p + 1), none⟩ = some (.int .u8 x1) ∧ w'.cell? ⟨g, off + (p + 2), none⟩ = some (.int .u8 x2) ∧ w'.cell? ⟨g, off + (p + 3), none⟩ = some (.int .u8 x3) ∧ w'.cell? ⟨g, off + (p + 4), none⟩ = some (.int .u8 x4) ∧ w'.cell? ⟨g, off + p + 1, none⟩ = some (.int .u8 x1) ∧ w'.cell? ⟨g, off + p + 2, none⟩ = some (.int .u8 x2) ∧ w'.cell? ⟨g, off + p + 3, none⟩ = some (.int .u8 x3) ∧ w'.cell? ⟨g, off + p + 4, none⟩ = some (.int .u8 x4))
    ((refine SK.out _ ?_; (repeat first | with_reducible exact BB1.out | with_reducible refine Below.drew ?_ | with_reducible refine bAlloc ?_ _)))
    (fail)
  all_goals
    have L1 : w.heap.size < W1.heap.size := lt_of_heapA R1.out
    have N2 : Hid ((W1.alloc (.cells #[.int .i64 x0, .int .i64 x1, .int .i64 x2, .int .i64 x3, .int .i64 x4, .slice none 0 0] 47)).drew.heap[W1.heap.size]? = some (.cells #[.int .i64 x0, .int .i64 x1, .int .i64 x2, .int .i64 x3, .int .i64 x4, .slice none 0 0] 47 (0, 0))) := heap_alloc_new W1 _
    have BB2 : Hid (Below W1.heap.size W1 (W1.alloc (.cells #[.int .i64 x0, .int .i64 x1, .int .i64 x2, .int .i64 x3, .int .i64 x4, .slice none 0 0] 47)).drew) := (bAlloc (Below.refl _ _) _).drew
    generalize (W1.alloc (.cells #[.int .i64 x0, .int .i64 x1, .int .i64 x2, .int .i64 x3, .int .i64 x4, .slice none 0 0] 47)).drew = W2 at *
    have R2 : Hid (W2.heap[w.heap.size]? = some (.cells #[.int .i64 0, .int .i64 0, .int .i64 0, .int .i64 0, .int .i64 0, .slice none 0 0] 47 (0, 0))) := by show _ = _; rw [BB2.out.block _ L1]; exact R1.out
    have BW2 : Hid (Below w.heap.size w W2) := bTrans BB1.out BB2.out
    generalize W1.heap.size = s1 at *
    have ne : s1 ≠ w.heap.size := by omega
    have ne' : w.heap.size ≠ s1 := by omega
    have d0 : W2.cell? ⟨s1, 0, none⟩ = some (.int .i64 x0) := cell_at N2.out rfl
    have d1 : W2.cell? ⟨s1, 1, none⟩ = some (.int .i64 x1) := cell_at N2.out rfl
    have d2 : W2.cell? ⟨s1, 2, none⟩ = some (.int .i64 x2) := cell_at N2.out rfl
    have d3 : W2.cell? ⟨s1, 3, none⟩ = some (.int .i64 x3) := cell_at N2.out rfl
    have d4 : W2.cell? ⟨s1, 4, none⟩ = some (.int .i64 x4) := cell_at N2.out rfl
    have d5 : W2.cell? ⟨s1, 5, none⟩ = some (.slice none 0 0) := cell_at N2.out rfl
    have p0 : W2.cell? ⟨w.heap.size, 0, none⟩ = some (.int .i64 0) := cell_at R2.out rfl
    have f0 : W2.frozen? ⟨w.heap.size, 0, none⟩ = false := free_at R2.out 0
    have p1 : W2.cell? ⟨w.heap.size, 1, none⟩ = some (.int .i64 0) := cell_at R2.out rfl
    have f1 : W2.frozen? ⟨w.heap.size, 1, none⟩ = false := free_at R2.out 1
    have p2 : W2.cell? ⟨w.heap.size, 2, none⟩ = some (.int .i64 0) := cell_at R2.out rfl
    have f2 : W2.frozen? ⟨w.heap.size, 2, none⟩ = false := free_at R2.out 2
    have p3 : W2.cell? ⟨w.heap.size, 3, none⟩ = some (.int .i64 0) := cell_at R2.out rfl
    have f3 : W2.frozen? ⟨w.heap.size, 3, none⟩ = false := free_at R2.out 3
    have p4 : W2.cell? ⟨w.heap.size, 4, none⟩ = some (.int .i64 0) := cell_at R2.out rfl
    have f4 : W2.frozen? ⟨w.heap.size, 4, none⟩ = false := free_at R2.out 4
    have p5 : W2.cell? ⟨w.heap.size, 5, none⟩ = some (.slice none 0 0) := cell_at R2.out rfl
    have f5 : W2.frozen? ⟨w.heap.size, 5, none⟩ = false := free_at R2.out 5
    clear SK z1 z2 z3 z4 tn1 tn2 tn3 tn4 j1 j2 j3 j4 k1 k2 k3 k4 wx1 wx2 wx3 wx4 wp1 wp2 wp3 wp4 b1 b2 b3 b4 d1 d2 d3 d4 d5
    have i7 := I7.out
    go_wp2_with fail
    obtain ⟨b5, b6⟩ := BX.out
    obtain ⟨bp1, bp2⟩ := BP.out
    have u5 : IntKind.i64.wrap ((p : Int) + 5 + 1) = (p : Int) + 5 + 1 := by rw [IntKind.wrap_i64]; omega
    have u6 : (p : Int) + 5 < (n : Int) := by omega
    have u7 : (p : Int) + 5 + 1 < (n : Int) := by omega
    have v5 : (0 : Int) ≤ (p : Int) + 5 := by omega
    have v6 : (0 : Int) ≤ (p : Int) + 5 + 1 := by omega
    have y5 : ((p : Int) + 5).toNat = p + 5 := by omega
    have y6 : ((p : Int) + 5 + 1).toNat = p + 6 := by omega
    have wx5 : IntKind.i64.wrap x5 = x5 := by rw [IntKind.wrap_i64]; omega
    have wx6 : IntKind.i64.wrap x6 = x6 := by rw [IntKind.wrap_i64]; omega
    obtain ⟨s5, s6⟩ := S7.out W2 BW2.out
    go_quiet (fail)
    rw [I8.out.2]
    have R3 : Hid ((W2.drewN nq).heap[w.heap.size]? = some (.cells #[.int .i64 0, .int .i64 0, .int .i64 0, .int .i64 0, .int .i64 0, .slice none 0 0] 47 (0, 0))) := R2.out
    have N3 : Hid ((W2.drewN nq).heap[s1]? = some (.cells #[.int .i64 x0, .int .i64 x1, .int .i64 x2, .int .i64 x3, .int .i64 x4, .slice none 0 0] 47 (0, 0))) := N2.out
    have BW3 : Hid (Below w.heap.size w (W2.drewN nq)) := bDrewN BW2.out nq
    clear p0 p1 p2 p3 p4 p5 f0 f1 f2 f3 f4 f5 d0 s5 s6
    generalize W2.drewN nq = W3 at *
    have p0 : W3.cell? ⟨w.heap.size, 0, none⟩ = some (.int .i64 0) := cell_at R3.out rfl
    have f0 : W3.frozen? ⟨w.heap.size, 0, none⟩ = false := free_at R3.out 0
    have p1 : W3.cell? ⟨w.heap.size, 1, none⟩ = some (.int .i64 0) := cell_at R3.out rfl
    have f1 : W3.frozen? ⟨w.heap.size, 1, none⟩ = false := free_at R3.out 1
    have p2 : W3.cell? ⟨w.heap.size, 2, none⟩ = some (.int .i64 0) := cell_at R3.out rfl
    have f2 : W3.frozen? ⟨w.heap.size, 2, none⟩ = false := free_at R3.out 2
    have p3 : W3.cell? ⟨w.heap.size, 3, none⟩ = some (.int .i64 0) := cell_at R3.out rfl
    have f3 : W3.frozen? ⟨w.heap.size, 3, none⟩ = false := free_at R3.out 3
    have p4 : W3.cell? ⟨w.heap.size, 4, none⟩ = some (.int .i64 0) := cell_at R3.out rfl
    have f4 : W3.frozen? ⟨w.heap.size, 4, none⟩ = false := free_at R3.out 4
    have p5 : W3.cell? ⟨w.heap.size, 5, none⟩ = some (.slice none 0 0) := cell_at R3.out rfl
    have f5 : W3.frozen? ⟨w.heap.size, 5, none⟩ = false := free_at R3.out 5
    have i8 : ¬ (n : Int) - ((p : Int) + 5 + 2) < 8 * (q : Int) := by have := I8.out.1; omega
    have q9 : q ≤ 131072 := by have := I8.out.1; omega
    clear u5 u6 u7 v5 v6 y5 y6 wx5 wx6 b5 b6
    have SB : Hid (s1 < W3.heap.size ∧ w.heap.size < W3.heap.size ∧ g < w.heap.size) := ⟨lt_of_heapA N3.out, lt_of_heapA R3.out, by
      obtain ⟨_, _, e, hB, _⟩ := H.out.at (k := p) (by rw [HN.out]; omega)
      cases e; exact hB⟩
    go_wp2_with fail
    obtain ⟨P7, hP7⟩ : ∃ P7, P7 = p + 7 := ⟨_, rfl⟩
    rw [show (p : Int) + 5 + 2 = (P7 : Int) by omega]
    have HP7 : Hid (P7 = p + 7 ∧ P7 + 8 * q ≤ n) := ⟨hP7, by have := I8.out.1; omega⟩
    clear hP7
    go_loopw [1, 8] (fun at_ i w' => ∃ (k : Nat) (a1 : Option Addr) (c1 : Nat), k ≤ q ∧ i = .int .i64 (k : Int) ∧ at_ = .int .i64 ((P7 + 8 * k : Nat) : Int) ∧ w'.heap[s1]? = some (.cells #[.int .i64 x0, .int .i64 x1, .int .i64 x2, .int .i64 x3, .int .i64 x4, .slice a1 k c1] 47 (0, 0)) ∧ NewInts W3.heap.size w' (.slice a1 k c1) (numsW (b.drop P7) k) ∧ w'.heap[w.heap.size]? = some (.cells #[.int .i64 0, .int .i64 0, .int .i64 0, .int .i64 0, .int .i64 0, .slice none 0 0] 47 (0, 0)) ∧ Below w.heap.size w w' ∧ W3.heap.size ≤ w'.heap.size) (fun _ i _ => q - (intOf i).toNat)
    case atStart => exact ⟨0, none, 0, by omega, rfl, rfl, N3.out, ⟨rfl, .inl ⟨rfl, rfl⟩⟩, R3.out, BW3.out, Nat.le_refl _⟩
    case round =>
      obtain ⟨k, a1, c1, hk, rfl, rfl, hN, hL, hR, hB, hS⟩ := hrel
      have NK : Hid (wr.heap[s1]? = some (.cells #[.int .i64 x0, .int .i64 x1, .int .i64 x2, .int .i64 x3, .int .i64 x4, .slice a1 k c1] 47 (0, 0))) := hN
      have LK : Hid (NewInts W3.heap.size wr (.slice a1 k c1) (numsW (b.drop P7) k)) := hL
      have RK : Hid (wr.heap[w.heap.size]? = some (.cells #[.int .i64 0, .int .i64 0, .int .i64 0, .int .i64 0, .int .i64 0, .slice none 0 0] 47 (0, 0))) := hR
      have BK : Hid (Below w.heap.size w wr ∧ W3.heap.size ≤ wr.heap.size) := ⟨hB, hS⟩
      clear hN hL hR hB hS p0 p1 p2 p3 p4 p5 f0 f1 f2 f3 f4 f5
      by_cases hlt : (k : Int) < (q : Int)
      · have L : k < q := by omega
        obtain ⟨A8, hA8⟩ : ∃ A8, A8 = P7 + 8 * k := ⟨_, rfl⟩
        have HA8 : Hid (A8 = P7 + 8 * k ∧ A8 + 8 ≤ n) := ⟨hA8, by have := HP7.out.2; omega⟩
        rw [← hA8]
        clear hA8
        have V8 : Hid (wrp (valB (((b.drop A8).take 8).drop 8)) = 0) := by show _ = _; rw [valB_nil (by rw [List.length_take]; omega)]; decide
        go_wp2_with fail
        go_loop [9, 10] (fun y pj => ∃ j : Nat, j ≤ 8 ∧ pj = .int .i64 ((j : Int) - 1) ∧ y = .int .i64 (wrp (valB (((b.drop A8).take 8).drop j)))) (fun _ pj => (intOf pj + 1).toNat)
        case atStart => exact ⟨8, by omega, rfl, by rw [V8.out]⟩
        case round =>
          obtain ⟨j, hj, rfl, rfl⟩ := hrel
          by_cases hlt2 : 0 < j
          · obtain ⟨j, rfl⟩ : ∃ i, j = i + 1 := ⟨j - 1, by omega⟩
            rw [show (((j + 1 : Nat) : Int) - 1) = (j : Int) by omega]
            obtain ⟨_, _, e, _, cx⟩ := (H.out.keep BK.out.1).at (k := A8 + j) (by rw [HN.out]; have := HA8.out.2; omega)
            cases e
            have gx := isB_getD HB.out (A8 + j)
            have a8 := HA8.out.2
            have t1 : IntKind.i64.wrap ((A8 : Int) + (j : Int)) = (A8 : Int) + (j : Int) := by rw [IntKind.wrap_i64]; omega
            have t2 : (0 : Int) ≤ (A8 : Int) + (j : Int) := by omega
            have t3 : (A8 : Int) + (j : Int) < (n : Int) := by omega
            have t4 : ((A8 : Int) + (j : Int)).toNat = A8 + j := by omega
            have EQJ : Hid (wrp (wrp (valB (((b.drop A8).take 8).drop (j + 1))) * 256 + b.getD (A8 + j) 0) = wrp (valB (((b.drop A8).take 8).drop j))) := by
              show _ = _
              rw [valB_drop (l := (b.drop A8).take 8) (j := j) (by rw [List.length_take, List.length_drop, HN.out]; omega)]
              have e : ((b.drop A8).take 8).getD j 0 = b.getD (A8 + j) 0 := by simp [List.getD_eq_getElem?_getD, List.getElem?_take, show j < 8 by omega]
              rw [e]
              generalize valB (((b.drop A8).take 8).drop (j + 1)) = V
              unfold wrp
              omega
            generalize b.getD (A8 + j) 0 = xj at *
            generalize wrp (valB (((b.drop A8).take 8).drop (j + 1))) = X at *
            have ES : Hid (wrp (X * 256 + xj) = wrp (valB (((b.drop A8).take 8).drop j))) := EQJ.out
            go_wp2
            go_round
            case rel => exact ⟨j, by omega, rfl, by rw [or_shl X xj gx.1 gx.2, ES.out]⟩
            case measure => simp [intOf]
          · obtain rfl : j = 0 := by omega
            obtain ⟨Y, hY⟩ : ∃ Y, Y = wrp (valB (((b.drop A8).take 8).drop 0)) := ⟨_, rfl⟩
            have E9 : Hid (wrap64 (Y - 1000000000000) = numW (b.drop A8)) := by show _ = _; rw [hY, List.drop_zero, wrap64_wrp]; rfl
            rw [← hY]
            clear hY V8
            have hnl : (numsW (b.drop P7) k).length = k := numsW_len _ _
            obtain ⟨a9, c9, w9, hr, hn9, hb9⟩ := grow1 (numW (b.drop A8)) LK.out BK.out.2 (by rw [hnl]; omega)
            rw [hnl] at hr hn9
            have EN9 : numsW (b.drop P7) k ++ [numW (b.drop A8)] = numsW (b.drop P7) (k + 1) := by rw [numsW_take, List.drop_drop, HA8.out.1]
            rw [EN9] at hn9
            rw [← E9.out] at hr
            have R9 : Hid ((Builtin.append_ #[41, 41] 41 #[.slice a1 k c1, .slice (some ⟨wr.heap.size, 0, none⟩) 1 1]).run Try.prog (wr.alloc (.cells #[.int .i64 (wrap64 (Y - 1000000000000))] 3)) = .ok (.slice a9 (k + 1) c9) w9) := hr
            have N9 : Hid (NewInts W3.heap.size w9 (.slice a9 (k + 1) c9) (numsW (b.drop P7) (k + 1))) := hn9
            have S9 : Hid (w9.heap[s1]? = some (.cells #[.int .i64 x0, .int .i64 x1, .int .i64 x2, .int .i64 x3, .int .i64 x4, .slice a1 k c1] 47 (0, 0))) := by show _ = _; rw [hb9.block _ SB.out.1]; exact NK.out
            have RR9 : Hid (w9.heap[w.heap.size]? = some (.cells #[.int .i64 0, .int .i64 0, .int .i64 0, .int .i64 0, .int .i64 0, .slice none 0 0] 47 (0, 0))) := by show _ = _; rw [hb9.block _ SB.out.2.1]; exact RK.out
            have BB9 : Hid (Below w.heap.size w w9 ∧ W3.heap.size ≤ w9.heap.size) := ⟨BK.out.1.trans (hb9.mono (Nat.le_of_lt SB.out.2.1)), Nat.le_trans BK.out.2 hb9.size⟩
            have d5 : wr.cell? ⟨s1, 5, none⟩ = some (.slice a1 k c1) := cell_at NK.out rfl
            have e5 : w9.cell? ⟨s1, 5, none⟩ = some (.slice a1 k c1) := cell_at S9.out rfl
            have g5 : w9.frozen? ⟨s1, 5, none⟩ = false := free_at S9.out 5
            have a8 := HA8.out.2
            clear hr hn9 hb9 EN9 hnl
            go_wp2_with (at_builtin; refine wpList_append_ty rfl _ _ 41 41 rfl _ _ _ rfl rfl R9.out ?_)
            go_roundw
            case rel =>
              have hs := heap_setCell_same w9 s1 5 _ _ (.slice a9 (k + 1) c9) S9.out
              have n9 := N9.out
              have s9 := SB.out
              refine ⟨k + 1, a9, c9, by omega, by go_num, by have := HA8.out.1; rw [this]; go_num, by simpa using hs, ?_, by rw [heap_setCell_other _ _ _ _ (by show w.heap.size ≠ s1; omega)]; exact RR9.out, below_setCell BB9.out.1 (by omega) _ _, by simp only [size_setCell]; exact BB9.out.2⟩
              exact n9.setCellR (by omega) _ _
            case measure => simp [intOf]; omega
      · obtain rfl : k = q := by omega
        have SK9 := SB.out
        obtain ⟨hwz, hws⟩ := BK.out
        have d0 : wr.cell? ⟨s1, 0, none⟩ = some (.int .i64 x0) := cell_at NK.out rfl
        have d1 : wr.cell? ⟨s1, 1, none⟩ = some (.int .i64 x1) := cell_at NK.out rfl
        have d2 : wr.cell? ⟨s1, 2, none⟩ = some (.int .i64 x2) := cell_at NK.out rfl
        have d3 : wr.cell? ⟨s1, 3, none⟩ = some (.int .i64 x3) := cell_at NK.out rfl
        have d4 : wr.cell? ⟨s1, 4, none⟩ = some (.int .i64 x4) := cell_at NK.out rfl
        have d5 : wr.cell? ⟨s1, 5, none⟩ = some (.slice a1 k c1) := cell_at NK.out rfl
        have p0 : wr.cell? ⟨w.heap.size, 0, none⟩ = some (.int .i64 0) := cell_at RK.out rfl
        have f0 : wr.frozen? ⟨w.heap.size, 0, none⟩ = false := free_at RK.out 0
        have p1 : wr.cell? ⟨w.heap.size, 1, none⟩ = some (.int .i64 0) := cell_at RK.out rfl
        have f1 : wr.frozen? ⟨w.heap.size, 1, none⟩ = false := free_at RK.out 1
        have p2 : wr.cell? ⟨w.heap.size, 2, none⟩ = some (.int .i64 0) := cell_at RK.out rfl
        have f2 : wr.frozen? ⟨w.heap.size, 2, none⟩ = false := free_at RK.out 2
        have p3 : wr.cell? ⟨w.heap.size, 3, none⟩ = some (.int .i64 0) := cell_at RK.out rfl
        have f3 : wr.frozen? ⟨w.heap.size, 3, none⟩ = false := free_at RK.out 3
        have p4 : wr.cell? ⟨w.heap.size, 4, none⟩ = some (.int .i64 0) := cell_at RK.out rfl
        have f4 : wr.frozen? ⟨w.heap.size, 4, none⟩ = false := free_at RK.out 4
        have p5 : wr.cell? ⟨w.heap.size, 5, none⟩ = some (.slice none 0 0) := cell_at RK.out rfl
        have f5 : wr.frozen? ⟨w.heap.size, 5, none⟩ = false := free_at RK.out 5
        clear hwz
        go_wp2
        have HR : ((((((wr.setCell ⟨w.heap.size, 0, none⟩ (.int .i64 x0)).setCell ⟨w.heap.size, 1, none⟩ (.int .i64 x1)).setCell ⟨w.heap.size, 2, none⟩ (.int .i64 x2)).setCell ⟨w.heap.size, 3, none⟩ (.int .i64 x3)).setCell ⟨w.heap.size, 4, none⟩ (.int .i64 x4)).setCell ⟨w.heap.size, 5, none⟩ (.slice a1 k c1)).heap[w.heap.size]? = some (.cells #[.int .i64 x0, .int .i64 x1, .int .i64 x2, .int .i64 x3, .int .i64 x4, .slice a1 k c1] 47 (0, 0)) := instr_stored RK.out
        have ww : Win w.heap.size (w.heap.size + 1) wr ((((((wr.setCell ⟨w.heap.size, 0, none⟩ (.int .i64 x0)).setCell ⟨w.heap.size, 1, none⟩ (.int .i64 x1)).setCell ⟨w.heap.size, 2, none⟩ (.int .i64 x2)).setCell ⟨w.heap.size, 3, none⟩ (.int .i64 x3)).setCell ⟨w.heap.size, 4, none⟩ (.int .i64 x4)).setCell ⟨w.heap.size, 5, none⟩ (.slice a1 k c1)) := (((((win_setCell _ _ _ _).trans (win_setCell _ _ _ _)).trans (win_setCell _ _ _ _)).trans (win_setCell _ _ _ _)).trans (win_setCell _ _ _ _)).trans (win_setCell _ _ _ _)
        have bb : Below w.heap.size w ((((((wr.setCell ⟨w.heap.size, 0, none⟩ (.int .i64 x0)).setCell ⟨w.heap.size, 1, none⟩ (.int .i64 x1)).setCell ⟨w.heap.size, 2, none⟩ (.int .i64 x2)).setCell ⟨w.heap.size, 3, none⟩ (.int .i64 x3)).setCell ⟨w.heap.size, 4, none⟩ (.int .i64 x4)).setCell ⟨w.heap.size, 5, none⟩ (.slice a1 k c1)) := BK.out.1.trans (ww.below (Nat.le_refl _) BK.out.1.size)
        have sz : ((((((wr.setCell ⟨w.heap.size, 0, none⟩ (.int .i64 x0)).setCell ⟨w.heap.size, 1, none⟩ (.int .i64 x1)).setCell ⟨w.heap.size, 2, none⟩ (.int .i64 x2)).setCell ⟨w.heap.size, 3, none⟩ (.int .i64 x3)).setCell ⟨w.heap.size, 4, none⟩ (.int .i64 x4)).setCell ⟨w.heap.size, 5, none⟩ (.slice a1 k c1)).heap.size = wr.heap.size := by simp only [size_setCell]
        generalize (((((wr.setCell ⟨w.heap.size, 0, none⟩ (.int .i64 x0)).setCell ⟨w.heap.size, 1, none⟩ (.int .i64 x1)).setCell ⟨w.heap.size, 2, none⟩ (.int .i64 x2)).setCell ⟨w.heap.size, 3, none⟩ (.int .i64 x3)).setCell ⟨w.heap.size, 4, none⟩ (.int .i64 x4)).setCell ⟨w.heap.size, 5, none⟩ (.slice a1 k c1) = WF at *
        have e0 : WF.cell? ⟨w.heap.size, 0, none⟩ = some (.int .i64 x0) := cell_at HR rfl
        have e1 : WF.cell? ⟨w.heap.size, 1, none⟩ = some (.int .i64 x1) := cell_at HR rfl
        have e2 : WF.cell? ⟨w.heap.size, 2, none⟩ = some (.int .i64 x2) := cell_at HR rfl
        have e3 : WF.cell? ⟨w.heap.size, 3, none⟩ = some (.int .i64 x3) := cell_at HR rfl
        have e4 : WF.cell? ⟨w.heap.size, 4, none⟩ = some (.int .i64 x4) := cell_at HR rfl
        have e5 : WF.cell? ⟨w.heap.size, 5, none⟩ = some (.slice a1 k c1) := cell_at HR rfl
        have pp := (LK.out.piece.win ww (.inr (by omega))).mono (B' := w.heap.size) (C' := WF.heap.size) (by omega) (by omega)
        refine bodyPost_ret (v := .tuple #[.agg #[.int .i64 x0, .int .i64 x1, .int .i64 x2, .int .i64 x3, .int .i64 x4, .slice a1 k c1], .int .i64 ((P7 + 8 * k : Nat) : Int)]) (by simp [results, Try.results26, go_sem, e0, e1, e2, e3, e4, e5]) rfl ⟨a1, c1, ?_, ?_, bb⟩
        · rw [show ((P7 + 8 * k : Nat) : Int) = (p : Int) + (7 + 8 * (k : Int)) by have := HP7.out.1; omega]
        · rw [← HP7.out.1]; exact pp
end Go.Proofs.Ythmmeapokhfdiaa
