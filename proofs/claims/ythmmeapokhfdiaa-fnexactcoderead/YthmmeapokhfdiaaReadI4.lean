/-
  Walks: the program's firstInstr, of an instruction with numbers.
-/
import Derived.Test.YthmmeapokhfdiaaReadI3
namespace Go.Proofs.Ythmmeapokhfdiaa
open Go.RowKit
set_option linter.unusedVariables false
set_option linter.unusedSimpArgs false
theorem Bys.winR {P Q : Nat} {w w' : World} {g off : Nat} {l : List Int} (h : Bys w (some ⟨g, off, none⟩) l) (hw : Win P Q w w') (hg : g < P) : Bys w' (some ⟨g, off, none⟩) l := by
  rcases h with h | ⟨b, o, e, hB, hc⟩
  · exact .inl h
  · cases e
    refine .inr ⟨g, off, rfl, Nat.lt_of_lt_of_le hB hw.size, fun k hk => ?_⟩
    rw [World.cell?_of_block (a := ⟨g, off + k, none⟩) (hw.block g hB (.inl hg))]
    exact hc k hk
set_option maxRecDepth 20000 in
set_option maxHeartbeats 8000000 in
theorem first_ends {l : List Int} {g off n c : Nat} {w : World} (h : Bys w (some ⟨g, off, none⟩) l) (hb : isB l) (hn : l.length = n) (hc : n ≤ c) (hm : n ≤ 1048576) (hcm : c ≤ 9223372036854775807) (h5 : 5 ≤ n) (h1 : l.getD 0 0 = 1) (h8 : n < 7 ∨ n < 7 + 8 * cnt l) :
    Calls Try.prog 27 #[.slice (some ⟨g, off, none⟩) n c] w fun r w' => EndPost w r w' := by
  have i5 : ¬ (n : Int) < 5 := by omega
  have HS : ∀ W, (Instr.slice 24 (.slice (some ⟨g, off, none⟩) n c) (some (.int .i64 5)) none none).run Try.prog W = .ok (.slice (some ⟨g, if c - 5 = 0 then off else off + 5, none⟩) (n - 5) (c - 5)) W := fun W => run_fromB (M := 5) h5 hc W
  obtain ⟨o2, ho2⟩ : ∃ o2, o2 = if c - 5 = 0 then off else off + 5 := ⟨_, rfl⟩
  rw [← ho2] at HS
  have B2 : Hid (Bys w (some ⟨g, o2, none⟩) (l.drop 5)) := by
    show Bys _ _ _
    rw [ho2]
    split
    · exact .inl (List.drop_eq_nil_of_le (by omega))
    · exact h.drop 5
  have E7 : cn2 (l.drop 5) = cnt l := by unfold cn2 cnt; simp [List.getD_eq_getElem?_getD]
  have LD : (l.drop 5).length = n - 5 := by rw [List.length_drop, hn]
  have CF : Hid (∀ W, Below w.heap.size w W → Calls Try.prog 38 #[.slice (some ⟨g, o2, none⟩) (n - 5) (c - 5)] W fun r w' => r = .returned (.tuple #[.slice none 0 0, .slice none 0 0, .bool false]) ∧ Below W.heap.size W w') := fun W hW => firstNums_bad (B2.out.keep hW) (isB_drop hb 5) LD (by omega) (by omega) (by omega) (by rw [E7]; omega)
  clear E7 LD
  unfold EndPost
  clear h8
  have c0 := h.at (k := 0) (by omega)
  have c1 := h.at (k := 1) (by omega)
  have c2 := h.at (k := 2) (by omega)
  have c3 := h.at (k := 3) (by omega)
  have c4 := h.at (k := 4) (by omega)
  obtain ⟨_, _, e, hg, c0⟩ := c0
  cases e
  obtain ⟨_, _, e, _, c1⟩ := c1
  cases e
  obtain ⟨_, _, e, _, c2⟩ := c2
  cases e
  obtain ⟨_, _, e, _, c3⟩ := c3
  cases e
  obtain ⟨_, _, e, _, c4⟩ := c4
  cases e
  rw [Nat.add_zero] at c0
  have b0 := isB_getD hb 0
  have b1 := isB_getD hb 1
  have b2 := isB_getD hb 2
  have b3 := isB_getD hb 3
  have b4 := isB_getD hb 4
  have ne1 : (l.getD 0 0 != 1) = false := by simpa using h1
  generalize l.getD 0 0 = x0 at *
  generalize l.getD 1 0 = x1 at *
  generalize l.getD 2 0 = x2 at *
  generalize l.getD 3 0 = x3 at *
  generalize l.getD 4 0 = x4 at *
  have SK : Hid (∀ W, Below w.heap.size w W → W.cell? ⟨g, off, none⟩ = some (.int .u8 x0) ∧ W.cell? ⟨g, off + 1, none⟩ = some (.int .u8 x1) ∧ W.cell? ⟨g, off + 2, none⟩ = some (.int .u8 x2) ∧ W.cell? ⟨g, off + 3, none⟩ = some (.int .u8 x3) ∧ W.cell? ⟨g, off + 4, none⟩ = some (.int .u8 x4)) := fun W hb => ⟨(hb.cell (p := ⟨g, off, none⟩) hg).trans c0, (hb.cell (p := ⟨g, off + 1, none⟩) hg).trans c1, (hb.cell (p := ⟨g, off + 2, none⟩) hg).trans c2, (hb.cell (p := ⟨g, off + 3, none⟩) hg).trans c3, (hb.cell (p := ⟨g, off + 4, none⟩) hg).trans c4⟩
  have j0 : (0 : Int) < (n : Int) := by omega
  have j1 : (1 : Int) < (n : Int) := by omega
  have j2 : (2 : Int) < (n : Int) := by omega
  have j3 : (3 : Int) < (n : Int) := by omega
  have j4 : (4 : Int) < (n : Int) := by omega
  have k0 : 0 < n := by omega
  have wx0 : IntKind.i64.wrap x0 = x0 := by rw [IntKind.wrap_i64]; omega
  have wx1 : IntKind.i64.wrap x1 = x1 := by rw [IntKind.wrap_i64]; omega
  have wx2 : IntKind.i64.wrap x2 = x2 := by rw [IntKind.wrap_i64]; omega
  have wx3 : IntKind.i64.wrap x3 = x3 := by rw [IntKind.wrap_i64]; omega
  have wx4 : IntKind.i64.wrap x4 = x4 := by rw [IntKind.wrap_i64]; omega
  have HG : Hid (g < w.heap.size) := hg
  clear h hb c0 c1 c2 c3 c4 hg h1 ho2
  go_enter Try.func27, Try.ntmps27
  go_wp2_with fail
  have R1 : Hid ((w.alloc (.cells #[.int .i64 0, .int .i64 0, .int .i64 0, .int .i64 0, .int .i64 0, .slice none 0 0] 47)).heap[w.heap.size]? = some (.cells #[.int .i64 0, .int .i64 0, .int .i64 0, .int .i64 0, .int .i64 0, .slice none 0 0] 47 (0, 0))) := heap_alloc_new w _
  have BB1 : Hid (Below w.heap.size w (w.alloc (.cells #[.int .i64 0, .int .i64 0, .int .i64 0, .int .i64 0, .int .i64 0, .slice none 0 0] 47))) := bAlloc (Below.refl _ _) _
  generalize w.alloc (.cells #[.int .i64 0, .int .i64 0, .int .i64 0, .int .i64 0, .int .i64 0, .slice none 0 0] 47) = W1 at *
  go_region_held3 (fun w' => w'.cell? ⟨g, off, none⟩ = some (.int .u8 x0) ∧ w'.cell? ⟨g, off + 1, none⟩ = some (.int .u8 x1) ∧ w'.cell? ⟨g, off + 2, none⟩ = some (.int .u8 x2) ∧ w'.cell? ⟨g, off + 3, none⟩ = some (.int .u8 x3) ∧ w'.cell? ⟨g, off + 4, none⟩ = some (.int .u8 x4))
    ((refine SK.out _ ?_; (repeat first | with_reducible exact BB1.out | with_reducible refine Below.drew ?_ | with_reducible refine bAlloc ?_ _)))
    (fail)
  all_goals
    have L1 : w.heap.size < W1.heap.size := lt_of_heapA R1.out
    have N2 : Hid ((W1.alloc (.cells #[.int .i64 x0, .int .i64 x1, .int .i64 x2, .int .i64 x3, .int .i64 x4, .slice none 0 0] 47)).drew.heap[W1.heap.size]? = some (.cells #[.int .i64 x0, .int .i64 x1, .int .i64 x2, .int .i64 x3, .int .i64 x4, .slice none 0 0] 47 (0, 0))) := heap_alloc_new W1 _
    have BB2 : Hid (Below W1.heap.size W1 (W1.alloc (.cells #[.int .i64 x0, .int .i64 x1, .int .i64 x2, .int .i64 x3, .int .i64 x4, .slice none 0 0] 47)).drew) := (bAlloc (Below.refl _ _) _).drew
    generalize (W1.alloc (.cells #[.int .i64 x0, .int .i64 x1, .int .i64 x2, .int .i64 x3, .int .i64 x4, .slice none 0 0] 47)).drew = W2 at *
    have R2 : Hid (W2.heap[w.heap.size]? = some (.cells #[.int .i64 0, .int .i64 0, .int .i64 0, .int .i64 0, .int .i64 0, .slice none 0 0] 47 (0, 0))) := by show _ = _; rw [BB2.out.block _ L1]; exact R1.out
    have BW2 : Hid (Below w.heap.size w W2) := bTrans BB1.out BB2.out
    generalize W1.heap.size = s1 at *
    have ne : s1 ≠ w.heap.size := by omega
    have ne' : w.heap.size ≠ s1 := by omega
    have C2 : W2.cell? ⟨s1, 0, none⟩ = some (.int .i64 x0) := cell_at N2.out rfl
    clear SK
    go_wp2_with fail
    refine (CF.out W2 BW2.out).mono ?_
    rintro r W3 ⟨rfl, hb3⟩
    have N3 : Hid (W3.heap[s1]? = some (.cells #[.int .i64 x0, .int .i64 x1, .int .i64 x2, .int .i64 x3, .int .i64 x4, .slice none 0 0] 47 (0, 0))) := by show _ = _; rw [hb3.block _ (lt_of_heapA N2.out)]; exact N2.out
    have R3 : Hid (W3.heap[w.heap.size]? = some (.cells #[.int .i64 0, .int .i64 0, .int .i64 0, .int .i64 0, .int .i64 0, .slice none 0 0] 47 (0, 0))) := by show _ = _; rw [hb3.block _ (lt_of_heapA R2.out)]; exact R2.out
    have BW3 : Hid (Below w.heap.size w W3) := bTrans BW2.out hb3
    have S3 : Hid (s1 < W2.heap.size ∧ W2.heap.size ≤ W3.heap.size) := ⟨lt_of_heapA N2.out, hb3.size⟩
    clear hb3 C2 CF
    have d0 : W3.cell? ⟨s1, 0, none⟩ = some (.int .i64 x0) := cell_at N3.out rfl
    have d1 : W3.cell? ⟨s1, 1, none⟩ = some (.int .i64 x1) := cell_at N3.out rfl
    have d2 : W3.cell? ⟨s1, 2, none⟩ = some (.int .i64 x2) := cell_at N3.out rfl
    have d3 : W3.cell? ⟨s1, 3, none⟩ = some (.int .i64 x3) := cell_at N3.out rfl
    have d4 : W3.cell? ⟨s1, 4, none⟩ = some (.int .i64 x4) := cell_at N3.out rfl
    have d5 : W3.cell? ⟨s1, 5, none⟩ = some (.slice none 0 0) := cell_at N3.out rfl
    have g5 : W3.frozen? ⟨s1, 5, none⟩ = false := free_at N3.out 5
    have p0 : W3.cell? ⟨w.heap.size, 0, none⟩ = some (.int .i64 0) := cell_at R3.out rfl
    have f0 : W3.frozen? ⟨w.heap.size, 0, none⟩ = false := free_at R3.out 0
    have p1 : W3.cell? ⟨w.heap.size, 1, none⟩ = some (.int .i64 0) := cell_at R3.out rfl
    have f1 : W3.frozen? ⟨w.heap.size, 1, none⟩ = false := free_at R3.out 1
    have p2 : W3.cell? ⟨w.heap.size, 2, none⟩ = some (.int .i64 0) := cell_at R3.out rfl
    have f2 : W3.frozen? ⟨w.heap.size, 2, none⟩ = false := free_at R3.out 2
    have p3 : W3.cell? ⟨w.heap.size, 3, none⟩ = some (.int .i64 0) := cell_at R3.out rfl
    have f3 : W3.frozen? ⟨w.heap.size, 3, none⟩ = false := free_at R3.out 3
    have p4 : W3.cell? ⟨w.heap.size, 4, none⟩ = some (.int .i64 0) := cell_at R3.out rfl
    have f4 : W3.frozen? ⟨w.heap.size, 4, none⟩ = false := free_at R3.out 4
    have p5 : W3.cell? ⟨w.heap.size, 5, none⟩ = some (.slice none 0 0) := cell_at R3.out rfl
    have f5 : W3.frozen? ⟨w.heap.size, 5, none⟩ = false := free_at R3.out 5
    go_wp2
    have HR : (((((((W3.setCell ⟨s1, 5, none⟩ (.slice none 0 0)).setCell ⟨w.heap.size, 0, none⟩ (.int .i64 x0)).setCell ⟨w.heap.size, 1, none⟩ (.int .i64 x1)).setCell ⟨w.heap.size, 2, none⟩ (.int .i64 x2)).setCell ⟨w.heap.size, 3, none⟩ (.int .i64 x3)).setCell ⟨w.heap.size, 4, none⟩ (.int .i64 x4)).setCell ⟨w.heap.size, 5, none⟩ (.slice none 0 0)).heap[w.heap.size]? = some (.cells #[.int .i64 x0, .int .i64 x1, .int .i64 x2, .int .i64 x3, .int .i64 x4, .slice none 0 0] 47 (0, 0)) := instr_stored (by rw [heap_setCell_other _ _ _ _ ne']; exact R3.out)
    have ww : Win w.heap.size W2.heap.size W3 (((((((W3.setCell ⟨s1, 5, none⟩ (.slice none 0 0)).setCell ⟨w.heap.size, 0, none⟩ (.int .i64 x0)).setCell ⟨w.heap.size, 1, none⟩ (.int .i64 x1)).setCell ⟨w.heap.size, 2, none⟩ (.int .i64 x2)).setCell ⟨w.heap.size, 3, none⟩ (.int .i64 x3)).setCell ⟨w.heap.size, 4, none⟩ (.int .i64 x4)).setCell ⟨w.heap.size, 5, none⟩ (.slice none 0 0)) := ((((((Win.refl _ _ _).setCell (by omega) S3.out.1 _ _).setCell (Nat.le_refl _) (by have := S3.out.1; omega) _ _).setCell (Nat.le_refl _) (by have := S3.out.1; omega) _ _).setCell (Nat.le_refl _) (by have := S3.out.1; omega) _ _).setCell (Nat.le_refl _) (by have := S3.out.1; omega) _ _).setCell (Nat.le_refl _) (by have := S3.out.1; omega) _ _ |>.setCell (Nat.le_refl _) (by have := S3.out.1; omega) _ _
    have bb : Below w.heap.size w (((((((W3.setCell ⟨s1, 5, none⟩ (.slice none 0 0)).setCell ⟨w.heap.size, 0, none⟩ (.int .i64 x0)).setCell ⟨w.heap.size, 1, none⟩ (.int .i64 x1)).setCell ⟨w.heap.size, 2, none⟩ (.int .i64 x2)).setCell ⟨w.heap.size, 3, none⟩ (.int .i64 x3)).setCell ⟨w.heap.size, 4, none⟩ (.int .i64 x4)).setCell ⟨w.heap.size, 5, none⟩ (.slice none 0 0)) := BW3.out.trans (ww.below (Nat.le_refl _) BW3.out.size)
    have sz : (((((((W3.setCell ⟨s1, 5, none⟩ (.slice none 0 0)).setCell ⟨w.heap.size, 0, none⟩ (.int .i64 x0)).setCell ⟨w.heap.size, 1, none⟩ (.int .i64 x1)).setCell ⟨w.heap.size, 2, none⟩ (.int .i64 x2)).setCell ⟨w.heap.size, 3, none⟩ (.int .i64 x3)).setCell ⟨w.heap.size, 4, none⟩ (.int .i64 x4)).setCell ⟨w.heap.size, 5, none⟩ (.slice none 0 0)).heap.size = W3.heap.size := by simp only [size_setCell]
    generalize ((((((W3.setCell ⟨s1, 5, none⟩ (.slice none 0 0)).setCell ⟨w.heap.size, 0, none⟩ (.int .i64 x0)).setCell ⟨w.heap.size, 1, none⟩ (.int .i64 x1)).setCell ⟨w.heap.size, 2, none⟩ (.int .i64 x2)).setCell ⟨w.heap.size, 3, none⟩ (.int .i64 x3)).setCell ⟨w.heap.size, 4, none⟩ (.int .i64 x4)).setCell ⟨w.heap.size, 5, none⟩ (.slice none 0 0) = WF at *
    have e0 : WF.cell? ⟨w.heap.size, 0, none⟩ = some (.int .i64 x0) := cell_at HR rfl
    have e1 : WF.cell? ⟨w.heap.size, 1, none⟩ = some (.int .i64 x1) := cell_at HR rfl
    have e2 : WF.cell? ⟨w.heap.size, 2, none⟩ = some (.int .i64 x2) := cell_at HR rfl
    have e3 : WF.cell? ⟨w.heap.size, 3, none⟩ = some (.int .i64 x3) := cell_at HR rfl
    have e4 : WF.cell? ⟨w.heap.size, 4, none⟩ = some (.int .i64 x4) := cell_at HR rfl
    have e5 : WF.cell? ⟨w.heap.size, 5, none⟩ = some (.slice none 0 0) := cell_at HR rfl
    exact bodyPost_ret (v := .tuple #[.agg #[.int .i64 x0, .int .i64 x1, .int .i64 x2, .int .i64 x3, .int .i64 x4, .slice none 0 0], .slice none 0 0, .bool false]) (by simp [results, Try.results27, go_sem, e0, e1, e2, e3, e4, e5]) rfl ⟨x0, x1, x2, x3, x4, rfl, bb⟩
set_option maxRecDepth 20000 in
set_option maxHeartbeats 8000000 in
theorem first_nums {l : List Int} {g off n c : Nat} {w : World} (h : Bys w (some ⟨g, off, none⟩) l) (hb : isB l) (hn : l.length = n) (hc : n ≤ c) (hm : n ≤ 1048576) (hcm : c ≤ 9223372036854775807) (h5 : 5 ≤ n) (h1 : l.getD 0 0 = 1) (h7 : 7 ≤ n) (h8 : 7 + 8 * cnt l ≤ n) :
    Calls Try.prog 27 #[.slice (some ⟨g, off, none⟩) n c] w fun r w' => FirstPost w g n c (7 + 8 * cnt l) l r w' := by
  have i5 : ¬ (n : Int) < 5 := by omega
  have HS : ∀ W, (Instr.slice 24 (.slice (some ⟨g, off, none⟩) n c) (some (.int .i64 5)) none none).run Try.prog W = .ok (.slice (some ⟨g, if c - 5 = 0 then off else off + 5, none⟩) (n - 5) (c - 5)) W := fun W => run_fromB (M := 5) h5 hc W
  obtain ⟨o2, ho2⟩ : ∃ o2, o2 = if c - 5 = 0 then off else off + 5 := ⟨_, rfl⟩
  rw [← ho2] at HS
  have B2 : Hid (Bys w (some ⟨g, o2, none⟩) (l.drop 5)) := by
    show Bys _ _ _
    rw [ho2]
    split
    · exact .inl (List.drop_eq_nil_of_le (by omega))
    · exact h.drop 5
  have E7 : cn2 (l.drop 5) = cnt l := by unfold cn2 cnt; simp [List.getD_eq_getElem?_getD]
  have LD : (l.drop 5).length = n - 5 := by rw [List.length_drop, hn]
  have CF : Hid (∀ W, Below w.heap.size w W → Calls Try.prog 38 #[.slice (some ⟨g, o2, none⟩) (n - 5) (c - 5)] W fun r w' => ∃ xa xc off' c', r = .returned (.tuple #[.slice xa (insB2 l).length xc, .slice (some ⟨g, off', none⟩) (n - (7 + 8 * cnt l)) c', .bool true]) ∧ n - (7 + 8 * cnt l) ≤ c' ∧ c' ≤ c ∧ Bys w' (some ⟨g, off', none⟩) (l.drop (7 + 8 * cnt l)) ∧ Piece W.heap.size w'.heap.size w' (.slice xa (insB2 l).length xc) (insB2 l) ∧ Below W.heap.size W w') := fun W hW => by
    have e2 : insB2 l = numsW (l.drop 7) (cnt l) := if_pos h1
    refine (firstNums_good (B2.out.keep hW) (isB_drop hb 5) LD (by omega) (by omega) (by omega) (by omega) (by rw [E7]; omega)).mono ?_
    rintro r w' ⟨xa, xc, off', c', rfl, q1, q2, q3, q4, q5⟩
    rw [E7] at q1 q3 q4
    rw [List.drop_drop] at q3 q4
    rw [e2, numsW_len]
    refine ⟨xa, xc, off', c', by rw [E7, show n - 5 - 2 - 8 * cnt l = n - (7 + 8 * cnt l) by omega], by omega, by omega, by rw [show 7 + 8 * cnt l = 5 + (2 + 8 * cnt l) by omega]; exact q3, q4, q5⟩
  clear E7 LD
  unfold FirstPost
  obtain ⟨mm, hmm⟩ : ∃ mm, mm = 7 + 8 * cnt l := ⟨_, rfl⟩
  rw [← hmm] at CF ⊢
  generalize insB2 l = NL at *
  clear hmm h7 h8
  have c0 := h.at (k := 0) (by omega)
  have c1 := h.at (k := 1) (by omega)
  have c2 := h.at (k := 2) (by omega)
  have c3 := h.at (k := 3) (by omega)
  have c4 := h.at (k := 4) (by omega)
  obtain ⟨_, _, e, hg, c0⟩ := c0
  cases e
  obtain ⟨_, _, e, _, c1⟩ := c1
  cases e
  obtain ⟨_, _, e, _, c2⟩ := c2
  cases e
  obtain ⟨_, _, e, _, c3⟩ := c3
  cases e
  obtain ⟨_, _, e, _, c4⟩ := c4
  cases e
  rw [Nat.add_zero] at c0
  have b0 := isB_getD hb 0
  have b1 := isB_getD hb 1
  have b2 := isB_getD hb 2
  have b3 := isB_getD hb 3
  have b4 := isB_getD hb 4
  have ne1 : (l.getD 0 0 != 1) = false := by simpa using h1
  generalize l.getD 0 0 = x0 at *
  generalize l.getD 1 0 = x1 at *
  generalize l.getD 2 0 = x2 at *
  generalize l.getD 3 0 = x3 at *
  generalize l.getD 4 0 = x4 at *
  have SK : Hid (∀ W, Below w.heap.size w W → W.cell? ⟨g, off, none⟩ = some (.int .u8 x0) ∧ W.cell? ⟨g, off + 1, none⟩ = some (.int .u8 x1) ∧ W.cell? ⟨g, off + 2, none⟩ = some (.int .u8 x2) ∧ W.cell? ⟨g, off + 3, none⟩ = some (.int .u8 x3) ∧ W.cell? ⟨g, off + 4, none⟩ = some (.int .u8 x4)) := fun W hb => ⟨(hb.cell (p := ⟨g, off, none⟩) hg).trans c0, (hb.cell (p := ⟨g, off + 1, none⟩) hg).trans c1, (hb.cell (p := ⟨g, off + 2, none⟩) hg).trans c2, (hb.cell (p := ⟨g, off + 3, none⟩) hg).trans c3, (hb.cell (p := ⟨g, off + 4, none⟩) hg).trans c4⟩
  have j0 : (0 : Int) < (n : Int) := by omega
  have j1 : (1 : Int) < (n : Int) := by omega
  have j2 : (2 : Int) < (n : Int) := by omega
  have j3 : (3 : Int) < (n : Int) := by omega
  have j4 : (4 : Int) < (n : Int) := by omega
  have k0 : 0 < n := by omega
  have wx0 : IntKind.i64.wrap x0 = x0 := by rw [IntKind.wrap_i64]; omega
  have wx1 : IntKind.i64.wrap x1 = x1 := by rw [IntKind.wrap_i64]; omega
  have wx2 : IntKind.i64.wrap x2 = x2 := by rw [IntKind.wrap_i64]; omega
  have wx3 : IntKind.i64.wrap x3 = x3 := by rw [IntKind.wrap_i64]; omega
  have wx4 : IntKind.i64.wrap x4 = x4 := by rw [IntKind.wrap_i64]; omega
  have HG : Hid (g < w.heap.size) := hg
  clear h hb c0 c1 c2 c3 c4 hg h1 ho2
  go_enter Try.func27, Try.ntmps27
  go_wp2_with fail
  have R1 : Hid ((w.alloc (.cells #[.int .i64 0, .int .i64 0, .int .i64 0, .int .i64 0, .int .i64 0, .slice none 0 0] 47)).heap[w.heap.size]? = some (.cells #[.int .i64 0, .int .i64 0, .int .i64 0, .int .i64 0, .int .i64 0, .slice none 0 0] 47 (0, 0))) := heap_alloc_new w _
  have BB1 : Hid (Below w.heap.size w (w.alloc (.cells #[.int .i64 0, .int .i64 0, .int .i64 0, .int .i64 0, .int .i64 0, .slice none 0 0] 47))) := bAlloc (Below.refl _ _) _
  generalize w.alloc (.cells #[.int .i64 0, .int .i64 0, .int .i64 0, .int .i64 0, .int .i64 0, .slice none 0 0] 47) = W1 at *
  go_region_held3 (fun w' => w'.cell? ⟨g, off, none⟩ = some (.int .u8 x0) ∧ w'.cell? ⟨g, off + 1, none⟩ = some (.int .u8 x1) ∧ w'.cell? ⟨g, off + 2, none⟩ = some (.int .u8 x2) ∧ w'.cell? ⟨g, off + 3, none⟩ = some (.int .u8 x3) ∧ w'.cell? ⟨g, off + 4, none⟩ = some (.int .u8 x4))
    ((refine SK.out _ ?_; (repeat first | with_reducible exact BB1.out | with_reducible refine Below.drew ?_ | with_reducible refine bAlloc ?_ _)))
    (fail)
  all_goals
    have L1 : w.heap.size < W1.heap.size := lt_of_heapA R1.out
    have N2 : Hid ((W1.alloc (.cells #[.int .i64 x0, .int .i64 x1, .int .i64 x2, .int .i64 x3, .int .i64 x4, .slice none 0 0] 47)).drew.heap[W1.heap.size]? = some (.cells #[.int .i64 x0, .int .i64 x1, .int .i64 x2, .int .i64 x3, .int .i64 x4, .slice none 0 0] 47 (0, 0))) := heap_alloc_new W1 _
    have BB2 : Hid (Below W1.heap.size W1 (W1.alloc (.cells #[.int .i64 x0, .int .i64 x1, .int .i64 x2, .int .i64 x3, .int .i64 x4, .slice none 0 0] 47)).drew) := (bAlloc (Below.refl _ _) _).drew
    generalize (W1.alloc (.cells #[.int .i64 x0, .int .i64 x1, .int .i64 x2, .int .i64 x3, .int .i64 x4, .slice none 0 0] 47)).drew = W2 at *
    have R2 : Hid (W2.heap[w.heap.size]? = some (.cells #[.int .i64 0, .int .i64 0, .int .i64 0, .int .i64 0, .int .i64 0, .slice none 0 0] 47 (0, 0))) := by show _ = _; rw [BB2.out.block _ L1]; exact R1.out
    have BW2 : Hid (Below w.heap.size w W2) := bTrans BB1.out BB2.out
    generalize W1.heap.size = s1 at *
    have ne : s1 ≠ w.heap.size := by omega
    have ne' : w.heap.size ≠ s1 := by omega
    have C2 : W2.cell? ⟨s1, 0, none⟩ = some (.int .i64 x0) := cell_at N2.out rfl
    clear SK
    go_wp2_with fail
    refine (CF.out W2 BW2.out).mono ?_
    rintro r W3 ⟨xa, xc, off', c', rfl, q1, q2, q3, q4, hb3⟩
    have N3 : Hid (W3.heap[s1]? = some (.cells #[.int .i64 x0, .int .i64 x1, .int .i64 x2, .int .i64 x3, .int .i64 x4, .slice none 0 0] 47 (0, 0))) := by show _ = _; rw [hb3.block _ (lt_of_heapA N2.out)]; exact N2.out
    have R3 : Hid (W3.heap[w.heap.size]? = some (.cells #[.int .i64 0, .int .i64 0, .int .i64 0, .int .i64 0, .int .i64 0, .slice none 0 0] 47 (0, 0))) := by show _ = _; rw [hb3.block _ (lt_of_heapA R2.out)]; exact R2.out
    have BW3 : Hid (Below w.heap.size w W3) := bTrans BW2.out hb3
    have S3 : Hid (s1 < W2.heap.size ∧ W2.heap.size ≤ W3.heap.size) := ⟨lt_of_heapA N2.out, hb3.size⟩
    have Q3 : Hid (n - mm ≤ c' ∧ c' ≤ c ∧ Bys W3 (some ⟨g, off', none⟩) (l.drop mm) ∧ Piece W2.heap.size W3.heap.size W3 (.slice xa NL.length xc) NL) := ⟨q1, q2, q3, q4⟩
    clear q1 q2 q3 q4
    clear hb3 C2 CF
    have d0 : W3.cell? ⟨s1, 0, none⟩ = some (.int .i64 x0) := cell_at N3.out rfl
    have d1 : W3.cell? ⟨s1, 1, none⟩ = some (.int .i64 x1) := cell_at N3.out rfl
    have d2 : W3.cell? ⟨s1, 2, none⟩ = some (.int .i64 x2) := cell_at N3.out rfl
    have d3 : W3.cell? ⟨s1, 3, none⟩ = some (.int .i64 x3) := cell_at N3.out rfl
    have d4 : W3.cell? ⟨s1, 4, none⟩ = some (.int .i64 x4) := cell_at N3.out rfl
    have d5 : W3.cell? ⟨s1, 5, none⟩ = some (.slice none 0 0) := cell_at N3.out rfl
    have g5 : W3.frozen? ⟨s1, 5, none⟩ = false := free_at N3.out 5
    have p0 : W3.cell? ⟨w.heap.size, 0, none⟩ = some (.int .i64 0) := cell_at R3.out rfl
    have f0 : W3.frozen? ⟨w.heap.size, 0, none⟩ = false := free_at R3.out 0
    have p1 : W3.cell? ⟨w.heap.size, 1, none⟩ = some (.int .i64 0) := cell_at R3.out rfl
    have f1 : W3.frozen? ⟨w.heap.size, 1, none⟩ = false := free_at R3.out 1
    have p2 : W3.cell? ⟨w.heap.size, 2, none⟩ = some (.int .i64 0) := cell_at R3.out rfl
    have f2 : W3.frozen? ⟨w.heap.size, 2, none⟩ = false := free_at R3.out 2
    have p3 : W3.cell? ⟨w.heap.size, 3, none⟩ = some (.int .i64 0) := cell_at R3.out rfl
    have f3 : W3.frozen? ⟨w.heap.size, 3, none⟩ = false := free_at R3.out 3
    have p4 : W3.cell? ⟨w.heap.size, 4, none⟩ = some (.int .i64 0) := cell_at R3.out rfl
    have f4 : W3.frozen? ⟨w.heap.size, 4, none⟩ = false := free_at R3.out 4
    have p5 : W3.cell? ⟨w.heap.size, 5, none⟩ = some (.slice none 0 0) := cell_at R3.out rfl
    have f5 : W3.frozen? ⟨w.heap.size, 5, none⟩ = false := free_at R3.out 5
    go_wp2
    have HR : (((((((W3.setCell ⟨s1, 5, none⟩ (.slice xa NL.length xc)).setCell ⟨w.heap.size, 0, none⟩ (.int .i64 x0)).setCell ⟨w.heap.size, 1, none⟩ (.int .i64 x1)).setCell ⟨w.heap.size, 2, none⟩ (.int .i64 x2)).setCell ⟨w.heap.size, 3, none⟩ (.int .i64 x3)).setCell ⟨w.heap.size, 4, none⟩ (.int .i64 x4)).setCell ⟨w.heap.size, 5, none⟩ (.slice xa NL.length xc)).heap[w.heap.size]? = some (.cells #[.int .i64 x0, .int .i64 x1, .int .i64 x2, .int .i64 x3, .int .i64 x4, .slice xa NL.length xc] 47 (0, 0)) := instr_stored (by rw [heap_setCell_other _ _ _ _ ne']; exact R3.out)
    have ww : Win w.heap.size W2.heap.size W3 (((((((W3.setCell ⟨s1, 5, none⟩ (.slice xa NL.length xc)).setCell ⟨w.heap.size, 0, none⟩ (.int .i64 x0)).setCell ⟨w.heap.size, 1, none⟩ (.int .i64 x1)).setCell ⟨w.heap.size, 2, none⟩ (.int .i64 x2)).setCell ⟨w.heap.size, 3, none⟩ (.int .i64 x3)).setCell ⟨w.heap.size, 4, none⟩ (.int .i64 x4)).setCell ⟨w.heap.size, 5, none⟩ (.slice xa NL.length xc)) := ((((((Win.refl _ _ _).setCell (by omega) S3.out.1 _ _).setCell (Nat.le_refl _) (by have := S3.out.1; omega) _ _).setCell (Nat.le_refl _) (by have := S3.out.1; omega) _ _).setCell (Nat.le_refl _) (by have := S3.out.1; omega) _ _).setCell (Nat.le_refl _) (by have := S3.out.1; omega) _ _).setCell (Nat.le_refl _) (by have := S3.out.1; omega) _ _ |>.setCell (Nat.le_refl _) (by have := S3.out.1; omega) _ _
    have bb : Below w.heap.size w (((((((W3.setCell ⟨s1, 5, none⟩ (.slice xa NL.length xc)).setCell ⟨w.heap.size, 0, none⟩ (.int .i64 x0)).setCell ⟨w.heap.size, 1, none⟩ (.int .i64 x1)).setCell ⟨w.heap.size, 2, none⟩ (.int .i64 x2)).setCell ⟨w.heap.size, 3, none⟩ (.int .i64 x3)).setCell ⟨w.heap.size, 4, none⟩ (.int .i64 x4)).setCell ⟨w.heap.size, 5, none⟩ (.slice xa NL.length xc)) := BW3.out.trans (ww.below (Nat.le_refl _) BW3.out.size)
    have sz : (((((((W3.setCell ⟨s1, 5, none⟩ (.slice xa NL.length xc)).setCell ⟨w.heap.size, 0, none⟩ (.int .i64 x0)).setCell ⟨w.heap.size, 1, none⟩ (.int .i64 x1)).setCell ⟨w.heap.size, 2, none⟩ (.int .i64 x2)).setCell ⟨w.heap.size, 3, none⟩ (.int .i64 x3)).setCell ⟨w.heap.size, 4, none⟩ (.int .i64 x4)).setCell ⟨w.heap.size, 5, none⟩ (.slice xa NL.length xc)).heap.size = W3.heap.size := by simp only [size_setCell]
    generalize ((((((W3.setCell ⟨s1, 5, none⟩ (.slice xa NL.length xc)).setCell ⟨w.heap.size, 0, none⟩ (.int .i64 x0)).setCell ⟨w.heap.size, 1, none⟩ (.int .i64 x1)).setCell ⟨w.heap.size, 2, none⟩ (.int .i64 x2)).setCell ⟨w.heap.size, 3, none⟩ (.int .i64 x3)).setCell ⟨w.heap.size, 4, none⟩ (.int .i64 x4)).setCell ⟨w.heap.size, 5, none⟩ (.slice xa NL.length xc) = WF at *
    have e0 : WF.cell? ⟨w.heap.size, 0, none⟩ = some (.int .i64 x0) := cell_at HR rfl
    have e1 : WF.cell? ⟨w.heap.size, 1, none⟩ = some (.int .i64 x1) := cell_at HR rfl
    have e2 : WF.cell? ⟨w.heap.size, 2, none⟩ = some (.int .i64 x2) := cell_at HR rfl
    have e3 : WF.cell? ⟨w.heap.size, 3, none⟩ = some (.int .i64 x3) := cell_at HR rfl
    have e4 : WF.cell? ⟨w.heap.size, 4, none⟩ = some (.int .i64 x4) := cell_at HR rfl
    have e5 : WF.cell? ⟨w.heap.size, 5, none⟩ = some (.slice xa NL.length xc) := cell_at HR rfl
    obtain ⟨q1, q2, q3, q4⟩ := Q3.out
    have L3 := S3.out
    exact bodyPost_ret (v := .tuple #[.agg #[.int .i64 x0, .int .i64 x1, .int .i64 x2, .int .i64 x3, .int .i64 x4, .slice xa NL.length xc], .slice (some ⟨g, off', none⟩) (n - mm) c', .bool true]) (by simp [results, Try.results27, go_sem, e0, e1, e2, e3, e4, e5]) rfl ⟨xa, xc, off', c', rfl, q1, q2, (q3.winR ww HG.out), (q4.win ww (.inr (Nat.le_refl _))).mono (by omega) (by omega), bb⟩
end Go.Proofs.Ythmmeapokhfdiaa
