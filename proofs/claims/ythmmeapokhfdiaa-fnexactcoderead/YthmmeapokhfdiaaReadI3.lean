/-
  Walks: the program's firstInstr.
-/
import Derived.Test.YthmmeapokhfdiaaReadI2
namespace Go.Proofs.Ythmmeapokhfdiaa
open Go.RowKit
set_option linter.unusedVariables false
set_option linter.unusedSimpArgs false
theorem cell_offR {W : World} {g o : Nat} {u : Value} {p : Addr} (h : p.block ≠ g) : (W.setCell ⟨g, o, none⟩ u).cell? p = W.cell? p := World.cell?_of_block (heap_setCell_other _ _ _ _ h)
theorem cell_drewR (W : World) (p : Addr) : W.drew.cell? p = W.cell? p := rfl
theorem heap_drewR (W : World) : W.drew.heap = W.heap := rfl
theorem win_drewR {P Q : Nat} {a b : World} (h : Win P Q a b) : Win P Q a b.drew := ⟨h.os, h.tape, h.output, h.size, h.block⟩
/-- What firstInstr answers where bytes begin with an instruction of m bytes. -/
def FirstPost (w : World) (g n c m : Nat) (l : List Int) (r : Ending) (w' : World) : Prop :=
  ∃ xa xc off' c', r = .returned (.tuple #[.agg #[.int .i64 (l.getD 0 0), .int .i64 (l.getD 1 0), .int .i64 (l.getD 2 0), .int .i64 (l.getD 3 0), .int .i64 (l.getD 4 0), .slice xa (insB2 l).length xc], .slice (some ⟨g, off', none⟩) (n - m) c', .bool true]) ∧ n - m ≤ c' ∧ c' ≤ c ∧ Bys w' (some ⟨g, off', none⟩) (l.drop m) ∧ Piece w.heap.size w'.heap.size w' (.slice xa (insB2 l).length xc) (insB2 l) ∧ Below w.heap.size w w'
/-- What it answers where they end first. -/
def EndPost (w : World) (r : Ending) (w' : World) : Prop :=
  ∃ y0 y1 y2 y3 y4 : Int, r = .returned (.tuple #[.agg #[.int .i64 y0, .int .i64 y1, .int .i64 y2, .int .i64 y3, .int .i64 y4, .slice none 0 0], .slice none 0 0, .bool false]) ∧ Below w.heap.size w w'
set_option maxRecDepth 20000 in
set_option maxHeartbeats 8000000 in
theorem first_short {l : List Int} {g off n c : Nat} {w : World} (h5 : n < 5) :
    Calls Try.prog 27 #[.slice (some ⟨g, off, none⟩) n c] w fun r w' => EndPost w r w' := by
  have i5 : (n : Int) < 5 := by omega
  unfold EndPost
  go_enter Try.func27, Try.ntmps27
  go_wp2
  exact bodyPost_ret (v := .tuple #[.agg #[.int .i64 0, .int .i64 0, .int .i64 0, .int .i64 0, .int .i64 0, .slice none 0 0], .slice none 0 0, .bool false]) (by simp [results, Try.results27, go_sem]) rfl ⟨0, 0, 0, 0, 0, rfl, bAlloc (Below.refl _ _) _⟩
set_option maxRecDepth 20000 in
set_option maxHeartbeats 8000000 in
theorem first_plain {l : List Int} {g off n c : Nat} {w : World} (h : Bys w (some ⟨g, off, none⟩) l) (hb : isB l) (hn : l.length = n) (hc : n ≤ c) (hm : n ≤ 1048576) (hcm : c ≤ 9223372036854775807) (h5 : 5 ≤ n) (h1 : l.getD 0 0 ≠ 1) :
    Calls Try.prog 27 #[.slice (some ⟨g, off, none⟩) n c] w fun r w' => FirstPost w g n c 5 l r w' := by
  have i5 : ¬ (n : Int) < 5 := by omega
  have HS : ∀ W, (Instr.slice 24 (.slice (some ⟨g, off, none⟩) n c) (some (.int .i64 5)) none none).run Try.prog W = .ok (.slice (some ⟨g, if c - 5 = 0 then off else off + 5, none⟩) (n - 5) (c - 5)) W := fun W => run_fromB (M := 5) h5 hc W
  obtain ⟨o2, ho2⟩ : ∃ o2, o2 = if c - 5 = 0 then off else off + 5 := ⟨_, rfl⟩
  rw [← ho2] at HS
  have B2 : Hid (Bys w (some ⟨g, o2, none⟩) (l.drop 5)) := by
    show Bys _ _ _
    rw [ho2]
    split
    · exact .inl (List.drop_eq_nil_of_le (by omega))
    · exact h.drop 5
  have EN : insB2 l = [] := if_neg h1
  unfold FirstPost
  rw [EN]
  have c0 := h.at (k := 0) (by omega)
  have c1 := h.at (k := 1) (by omega)
  have c2 := h.at (k := 2) (by omega)
  have c3 := h.at (k := 3) (by omega)
  have c4 := h.at (k := 4) (by omega)
  obtain ⟨_, _, e, hg, c0⟩ := c0
  cases e
  obtain ⟨_, _, e, _, c1⟩ := c1
  cases e
  obtain ⟨_, _, e, _, c2⟩ := c2
  cases e
  obtain ⟨_, _, e, _, c3⟩ := c3
  cases e
  obtain ⟨_, _, e, _, c4⟩ := c4
  cases e
  rw [Nat.add_zero] at c0
  have b0 := isB_getD hb 0
  have b1 := isB_getD hb 1
  have b2 := isB_getD hb 2
  have b3 := isB_getD hb 3
  have b4 := isB_getD hb 4
  have ne1 : (l.getD 0 0 != 1) = true := by simpa using h1
  generalize l.getD 0 0 = x0 at *
  generalize l.getD 1 0 = x1 at *
  generalize l.getD 2 0 = x2 at *
  generalize l.getD 3 0 = x3 at *
  generalize l.getD 4 0 = x4 at *
  have SK : Hid (∀ W, Below w.heap.size w W → W.cell? ⟨g, off, none⟩ = some (.int .u8 x0) ∧ W.cell? ⟨g, off + 1, none⟩ = some (.int .u8 x1) ∧ W.cell? ⟨g, off + 2, none⟩ = some (.int .u8 x2) ∧ W.cell? ⟨g, off + 3, none⟩ = some (.int .u8 x3) ∧ W.cell? ⟨g, off + 4, none⟩ = some (.int .u8 x4)) := fun W hb => ⟨(hb.cell (p := ⟨g, off, none⟩) hg).trans c0, (hb.cell (p := ⟨g, off + 1, none⟩) hg).trans c1, (hb.cell (p := ⟨g, off + 2, none⟩) hg).trans c2, (hb.cell (p := ⟨g, off + 3, none⟩) hg).trans c3, (hb.cell (p := ⟨g, off + 4, none⟩) hg).trans c4⟩
  have j0 : (0 : Int) < (n : Int) := by omega
  have j1 : (1 : Int) < (n : Int) := by omega
  have j2 : (2 : Int) < (n : Int) := by omega
  have j3 : (3 : Int) < (n : Int) := by omega
  have j4 : (4 : Int) < (n : Int) := by omega
  have k0 : 0 < n := by omega
  have wx0 : IntKind.i64.wrap x0 = x0 := by rw [IntKind.wrap_i64]; omega
  have wx1 : IntKind.i64.wrap x1 = x1 := by rw [IntKind.wrap_i64]; omega
  have wx2 : IntKind.i64.wrap x2 = x2 := by rw [IntKind.wrap_i64]; omega
  have wx3 : IntKind.i64.wrap x3 = x3 := by rw [IntKind.wrap_i64]; omega
  have wx4 : IntKind.i64.wrap x4 = x4 := by rw [IntKind.wrap_i64]; omega
  clear h hb c0 c1 c2 c3 c4 hg h1 ho2
  go_enter Try.func27, Try.ntmps27
  go_wp2_with fail
  have R1 : Hid ((w.alloc (.cells #[.int .i64 0, .int .i64 0, .int .i64 0, .int .i64 0, .int .i64 0, .slice none 0 0] 47)).heap[w.heap.size]? = some (.cells #[.int .i64 0, .int .i64 0, .int .i64 0, .int .i64 0, .int .i64 0, .slice none 0 0] 47 (0, 0))) := heap_alloc_new w _
  have BB1 : Hid (Below w.heap.size w (w.alloc (.cells #[.int .i64 0, .int .i64 0, .int .i64 0, .int .i64 0, .int .i64 0, .slice none 0 0] 47))) := bAlloc (Below.refl _ _) _
  generalize w.alloc (.cells #[.int .i64 0, .int .i64 0, .int .i64 0, .int .i64 0, .int .i64 0, .slice none 0 0] 47) = W1 at *
  go_region_held3 (fun w' => w'.cell? ⟨g, off, none⟩ = some (.int .u8 x0) ∧ w'.cell? ⟨g, off + 1, none⟩ = some (.int .u8 x1) ∧ w'.cell? ⟨g, off + 2, none⟩ = some (.int .u8 x2) ∧ w'.cell? ⟨g, off + 3, none⟩ = some (.int .u8 x3) ∧ w'.cell? ⟨g, off + 4, none⟩ = some (.int .u8 x4))
    ((refine SK.out _ ?_; (repeat first | with_reducible exact BB1.out | with_reducible refine Below.drew ?_ | with_reducible refine bAlloc ?_ _)))
    (fail)
  all_goals
    have L1 : w.heap.size < W1.heap.size := lt_of_heapA R1.out
    have N2 : Hid ((W1.alloc (.cells #[.int .i64 x0, .int .i64 x1, .int .i64 x2, .int .i64 x3, .int .i64 x4, .slice none 0 0] 47)).drew.heap[W1.heap.size]? = some (.cells #[.int .i64 x0, .int .i64 x1, .int .i64 x2, .int .i64 x3, .int .i64 x4, .slice none 0 0] 47 (0, 0))) := heap_alloc_new W1 _
    have BB2 : Hid (Below W1.heap.size W1 (W1.alloc (.cells #[.int .i64 x0, .int .i64 x1, .int .i64 x2, .int .i64 x3, .int .i64 x4, .slice none 0 0] 47)).drew) := (bAlloc (Below.refl _ _) _).drew
    generalize (W1.alloc (.cells #[.int .i64 x0, .int .i64 x1, .int .i64 x2, .int .i64 x3, .int .i64 x4, .slice none 0 0] 47)).drew = W2 at *
    have R2 : Hid (W2.heap[w.heap.size]? = some (.cells #[.int .i64 0, .int .i64 0, .int .i64 0, .int .i64 0, .int .i64 0, .slice none 0 0] 47 (0, 0))) := by show _ = _; rw [BB2.out.block _ L1]; exact R1.out
    have BW2 : Hid (Below w.heap.size w W2) := bTrans BB1.out BB2.out
    generalize W1.heap.size = s1 at *
    have CX : Hid (∀ W, Below W2.heap.size W2 W → W.cell? ⟨s1, 0, none⟩ = some (.int .i64 x0) ∧ W.cell? ⟨s1, 1, none⟩ = some (.int .i64 x1) ∧ W.cell? ⟨s1, 2, none⟩ = some (.int .i64 x2) ∧ W.cell? ⟨s1, 3, none⟩ = some (.int .i64 x3) ∧ W.cell? ⟨s1, 4, none⟩ = some (.int .i64 x4) ∧ W.cell? ⟨s1, 5, none⟩ = some (.slice none 0 0)) := fun W hb => by
      have e : W.heap[s1]? = _ := (hb.block s1 (lt_of_heapA N2.out)).trans N2.out
      exact ⟨cell_at e rfl, cell_at e rfl, cell_at e rfl, cell_at e rfl, cell_at e rfl, cell_at e rfl⟩
    have CS : Hid (∀ W (y0 y1 y2 y3 y4 y5 : Value), Below W2.heap.size W2 W → ((((((W.setCell ⟨w.heap.size, 0, none⟩ y0).setCell ⟨w.heap.size, 1, none⟩ y1).setCell ⟨w.heap.size, 2, none⟩ y2).setCell ⟨w.heap.size, 3, none⟩ y3).setCell ⟨w.heap.size, 4, none⟩ y4).setCell ⟨w.heap.size, 5, none⟩ y5).cell? ⟨s1, 0, none⟩ = some (.int .i64 x0) ∧ ((((((W.setCell ⟨w.heap.size, 0, none⟩ y0).setCell ⟨w.heap.size, 1, none⟩ y1).setCell ⟨w.heap.size, 2, none⟩ y2).setCell ⟨w.heap.size, 3, none⟩ y3).setCell ⟨w.heap.size, 4, none⟩ y4).setCell ⟨w.heap.size, 5, none⟩ y5).cell? ⟨s1, 1, none⟩ = some (.int .i64 x1) ∧ ((((((W.setCell ⟨w.heap.size, 0, none⟩ y0).setCell ⟨w.heap.size, 1, none⟩ y1).setCell ⟨w.heap.size, 2, none⟩ y2).setCell ⟨w.heap.size, 3, none⟩ y3).setCell ⟨w.heap.size, 4, none⟩ y4).setCell ⟨w.heap.size, 5, none⟩ y5).cell? ⟨s1, 2, none⟩ = some (.int .i64 x2) ∧ ((((((W.setCell ⟨w.heap.size, 0, none⟩ y0).setCell ⟨w.heap.size, 1, none⟩ y1).setCell ⟨w.heap.size, 2, none⟩ y2).setCell ⟨w.heap.size, 3, none⟩ y3).setCell ⟨w.heap.size, 4, none⟩ y4).setCell ⟨w.heap.size, 5, none⟩ y5).cell? ⟨s1, 3, none⟩ = some (.int .i64 x3) ∧ ((((((W.setCell ⟨w.heap.size, 0, none⟩ y0).setCell ⟨w.heap.size, 1, none⟩ y1).setCell ⟨w.heap.size, 2, none⟩ y2).setCell ⟨w.heap.size, 3, none⟩ y3).setCell ⟨w.heap.size, 4, none⟩ y4).setCell ⟨w.heap.size, 5, none⟩ y5).cell? ⟨s1, 4, none⟩ = some (.int .i64 x4) ∧ ((((((W.setCell ⟨w.heap.size, 0, none⟩ y0).setCell ⟨w.heap.size, 1, none⟩ y1).setCell ⟨w.heap.size, 2, none⟩ y2).setCell ⟨w.heap.size, 3, none⟩ y3).setCell ⟨w.heap.size, 4, none⟩ y4).setCell ⟨w.heap.size, 5, none⟩ y5).cell? ⟨s1, 5, none⟩ = some (.slice none 0 0)) := fun W y0 y1 y2 y3 y4 y5 hb => by
      have ne : s1 ≠ w.heap.size := by omega
      rw [cell_offR ne, cell_offR ne, cell_offR ne, cell_offR ne, cell_offR ne, cell_offR ne, cell_offR ne, cell_offR ne, cell_offR ne, cell_offR ne, cell_offR ne, cell_offR ne, cell_offR ne, cell_offR ne, cell_offR ne, cell_offR ne, cell_offR ne, cell_offR ne, cell_offR ne, cell_offR ne, cell_offR ne, cell_offR ne, cell_offR ne, cell_offR ne, cell_offR ne, cell_offR ne, cell_offR ne, cell_offR ne, cell_offR ne, cell_offR ne, cell_offR ne, cell_offR ne, cell_offR ne, cell_offR ne, cell_offR ne, cell_offR ne]
      exact CX.out W hb
    have CSd : Hid (∀ W (y0 y1 y2 y3 y4 y5 : Value), Below W2.heap.size W2 W → ((((((W.setCell ⟨w.heap.size, 0, none⟩ y0).setCell ⟨w.heap.size, 1, none⟩ y1).setCell ⟨w.heap.size, 2, none⟩ y2).setCell ⟨w.heap.size, 3, none⟩ y3).setCell ⟨w.heap.size, 4, none⟩ y4).setCell ⟨w.heap.size, 5, none⟩ y5).drew.cell? ⟨s1, 0, none⟩ = some (.int .i64 x0) ∧ ((((((W.setCell ⟨w.heap.size, 0, none⟩ y0).setCell ⟨w.heap.size, 1, none⟩ y1).setCell ⟨w.heap.size, 2, none⟩ y2).setCell ⟨w.heap.size, 3, none⟩ y3).setCell ⟨w.heap.size, 4, none⟩ y4).setCell ⟨w.heap.size, 5, none⟩ y5).drew.cell? ⟨s1, 1, none⟩ = some (.int .i64 x1) ∧ ((((((W.setCell ⟨w.heap.size, 0, none⟩ y0).setCell ⟨w.heap.size, 1, none⟩ y1).setCell ⟨w.heap.size, 2, none⟩ y2).setCell ⟨w.heap.size, 3, none⟩ y3).setCell ⟨w.heap.size, 4, none⟩ y4).setCell ⟨w.heap.size, 5, none⟩ y5).drew.cell? ⟨s1, 2, none⟩ = some (.int .i64 x2) ∧ ((((((W.setCell ⟨w.heap.size, 0, none⟩ y0).setCell ⟨w.heap.size, 1, none⟩ y1).setCell ⟨w.heap.size, 2, none⟩ y2).setCell ⟨w.heap.size, 3, none⟩ y3).setCell ⟨w.heap.size, 4, none⟩ y4).setCell ⟨w.heap.size, 5, none⟩ y5).drew.cell? ⟨s1, 3, none⟩ = some (.int .i64 x3) ∧ ((((((W.setCell ⟨w.heap.size, 0, none⟩ y0).setCell ⟨w.heap.size, 1, none⟩ y1).setCell ⟨w.heap.size, 2, none⟩ y2).setCell ⟨w.heap.size, 3, none⟩ y3).setCell ⟨w.heap.size, 4, none⟩ y4).setCell ⟨w.heap.size, 5, none⟩ y5).drew.cell? ⟨s1, 4, none⟩ = some (.int .i64 x4) ∧ ((((((W.setCell ⟨w.heap.size, 0, none⟩ y0).setCell ⟨w.heap.size, 1, none⟩ y1).setCell ⟨w.heap.size, 2, none⟩ y2).setCell ⟨w.heap.size, 3, none⟩ y3).setCell ⟨w.heap.size, 4, none⟩ y4).setCell ⟨w.heap.size, 5, none⟩ y5).drew.cell? ⟨s1, 5, none⟩ = some (.slice none 0 0)) := fun W y0 y1 y2 y3 y4 y5 hb => by
      simp only [cell_drewR]
      exact CS.out W y0 y1 y2 y3 y4 y5 hb
    have CD : Hid (Below W2.heap.size W2 W2.drew) := (Below.refl _ _).drew
    obtain ⟨d0, d1, d2, d3, d4, d5⟩ := CX.out W2 (Below.refl _ _)
    have r0 : ∀ W, Below W2.heap.size W2 W → (W.cell? ⟨w.heap.size, 0, none⟩ = some (.int .i64 0) ∧ W.cell? ⟨w.heap.size, 1, none⟩ = some (.int .i64 0) ∧ W.cell? ⟨w.heap.size, 2, none⟩ = some (.int .i64 0) ∧ W.cell? ⟨w.heap.size, 3, none⟩ = some (.int .i64 0) ∧ W.cell? ⟨w.heap.size, 4, none⟩ = some (.int .i64 0) ∧ W.cell? ⟨w.heap.size, 5, none⟩ = some (.slice none 0 0)) ∧ W.frozen? ⟨w.heap.size, 0, none⟩ = false ∧ W.frozen? ⟨w.heap.size, 1, none⟩ = false ∧ W.frozen? ⟨w.heap.size, 2, none⟩ = false ∧ W.frozen? ⟨w.heap.size, 3, none⟩ = false ∧ W.frozen? ⟨w.heap.size, 4, none⟩ = false ∧ W.frozen? ⟨w.heap.size, 5, none⟩ = false := fun W hb => by
      have e : W.heap[w.heap.size]? = _ := (hb.block w.heap.size (lt_of_heapA R2.out)).trans R2.out
      exact ⟨⟨cell_at e rfl, cell_at e rfl, cell_at e rfl, cell_at e rfl, cell_at e rfl, cell_at e rfl⟩, free_at e _, free_at e _, free_at e _, free_at e _, free_at e _, free_at e _⟩
    obtain ⟨⟨p0, p1, p2, p3, p4, p5⟩, f0, f1, f2, f3, f4, f5⟩ := r0 W2 (Below.refl _ _)
    obtain ⟨⟨m0, m1, m2, m3, m4, m5⟩, h0, h1', h2, h3, h4, h5'⟩ := r0 W2.drew CD.out
    clear r0
    go_wp2_with fail
    go_region_held3 (fun w' => w'.cell? ⟨s1, 0, none⟩ = some (.int .i64 x0) ∧ w'.cell? ⟨s1, 1, none⟩ = some (.int .i64 x1) ∧ w'.cell? ⟨s1, 2, none⟩ = some (.int .i64 x2) ∧ w'.cell? ⟨s1, 3, none⟩ = some (.int .i64 x3) ∧ w'.cell? ⟨s1, 4, none⟩ = some (.int .i64 x4) ∧ w'.cell? ⟨s1, 5, none⟩ = some (.slice none 0 0))
      (first | (with_reducible refine CSd.out _ _ _ _ _ _ _ ?_; first | with_reducible exact CD.out | with_reducible exact Below.refl _ _) | (with_reducible refine CS.out _ _ _ _ _ _ _ ?_; first | with_reducible exact CD.out | with_reducible exact Below.refl _ _) | (refine CX.out _ ?_; first | with_reducible exact CD.out | with_reducible exact Below.refl _ _))
      (fail)
    all_goals
      clear d0 d1 d2 d3 d4 d5 p0 p1 p2 p3 p4 p5 f0 f1 f2 f3 f4 f5 m0 m1 m2 m3 m4 m5 h0 h1' h2 h3 h4 h5' CX CS CSd
      go_wp2
      first
       | (have HR : ((((((W2.setCell ⟨w.heap.size, 0, none⟩ (.int .i64 x0)).setCell ⟨w.heap.size, 1, none⟩ (.int .i64 x1)).setCell ⟨w.heap.size, 2, none⟩ (.int .i64 x2)).setCell ⟨w.heap.size, 3, none⟩ (.int .i64 x3)).setCell ⟨w.heap.size, 4, none⟩ (.int .i64 x4)).setCell ⟨w.heap.size, 5, none⟩ (.slice none 0 0)).drew.heap[w.heap.size]? = some (.cells #[.int .i64 x0, .int .i64 x1, .int .i64 x2, .int .i64 x3, .int .i64 x4, .slice none 0 0] 47 (0, 0)) := by rw [heap_drewR]; exact instr_stored R2.out
          have ww : Win w.heap.size (w.heap.size + 1) W2 ((((((W2.setCell ⟨w.heap.size, 0, none⟩ (.int .i64 x0)).setCell ⟨w.heap.size, 1, none⟩ (.int .i64 x1)).setCell ⟨w.heap.size, 2, none⟩ (.int .i64 x2)).setCell ⟨w.heap.size, 3, none⟩ (.int .i64 x3)).setCell ⟨w.heap.size, 4, none⟩ (.int .i64 x4)).setCell ⟨w.heap.size, 5, none⟩ (.slice none 0 0)).drew := win_drewR ((((((win_setCell _ _ _ _).trans (win_setCell _ _ _ _)).trans (win_setCell _ _ _ _)).trans (win_setCell _ _ _ _)).trans (win_setCell _ _ _ _)).trans (win_setCell _ _ _ _))
          have bb : Below w.heap.size w ((((((W2.setCell ⟨w.heap.size, 0, none⟩ (.int .i64 x0)).setCell ⟨w.heap.size, 1, none⟩ (.int .i64 x1)).setCell ⟨w.heap.size, 2, none⟩ (.int .i64 x2)).setCell ⟨w.heap.size, 3, none⟩ (.int .i64 x3)).setCell ⟨w.heap.size, 4, none⟩ (.int .i64 x4)).setCell ⟨w.heap.size, 5, none⟩ (.slice none 0 0)).drew := BW2.out.trans (ww.below (Nat.le_refl _) BW2.out.size)
          generalize ((((((W2.setCell ⟨w.heap.size, 0, none⟩ (.int .i64 x0)).setCell ⟨w.heap.size, 1, none⟩ (.int .i64 x1)).setCell ⟨w.heap.size, 2, none⟩ (.int .i64 x2)).setCell ⟨w.heap.size, 3, none⟩ (.int .i64 x3)).setCell ⟨w.heap.size, 4, none⟩ (.int .i64 x4)).setCell ⟨w.heap.size, 5, none⟩ (.slice none 0 0)).drew = WF at *
          have e0 : WF.cell? ⟨w.heap.size, 0, none⟩ = some (.int .i64 x0) := cell_at HR rfl
          have e1 : WF.cell? ⟨w.heap.size, 1, none⟩ = some (.int .i64 x1) := cell_at HR rfl
          have e2 : WF.cell? ⟨w.heap.size, 2, none⟩ = some (.int .i64 x2) := cell_at HR rfl
          have e3 : WF.cell? ⟨w.heap.size, 3, none⟩ = some (.int .i64 x3) := cell_at HR rfl
          have e4 : WF.cell? ⟨w.heap.size, 4, none⟩ = some (.int .i64 x4) := cell_at HR rfl
          have e5 : WF.cell? ⟨w.heap.size, 5, none⟩ = some (.slice none 0 0) := cell_at HR rfl
          exact bodyPost_ret (v := .tuple #[.agg #[.int .i64 x0, .int .i64 x1, .int .i64 x2, .int .i64 x3, .int .i64 x4, .slice none 0 0], .slice (some ⟨g, o2, none⟩) (n - 5) (c - 5), .bool true]) (by simp [results, Try.results27, go_sem, e0, e1, e2, e3, e4, e5]) rfl ⟨none, 0, o2, c - 5, rfl, by omega, by omega, B2.out.keep bb, Piece.nil _ _ _, bb⟩)
       | (have HR : ((((((W2.setCell ⟨w.heap.size, 0, none⟩ (.int .i64 x0)).setCell ⟨w.heap.size, 1, none⟩ (.int .i64 x1)).setCell ⟨w.heap.size, 2, none⟩ (.int .i64 x2)).setCell ⟨w.heap.size, 3, none⟩ (.int .i64 x3)).setCell ⟨w.heap.size, 4, none⟩ (.int .i64 x4)).setCell ⟨w.heap.size, 5, none⟩ (.slice none 0 0)).heap[w.heap.size]? = some (.cells #[.int .i64 x0, .int .i64 x1, .int .i64 x2, .int .i64 x3, .int .i64 x4, .slice none 0 0] 47 (0, 0)) := instr_stored R2.out
          have ww : Win w.heap.size (w.heap.size + 1) W2 ((((((W2.setCell ⟨w.heap.size, 0, none⟩ (.int .i64 x0)).setCell ⟨w.heap.size, 1, none⟩ (.int .i64 x1)).setCell ⟨w.heap.size, 2, none⟩ (.int .i64 x2)).setCell ⟨w.heap.size, 3, none⟩ (.int .i64 x3)).setCell ⟨w.heap.size, 4, none⟩ (.int .i64 x4)).setCell ⟨w.heap.size, 5, none⟩ (.slice none 0 0)) := (((((win_setCell _ _ _ _).trans (win_setCell _ _ _ _)).trans (win_setCell _ _ _ _)).trans (win_setCell _ _ _ _)).trans (win_setCell _ _ _ _)).trans (win_setCell _ _ _ _)
          have bb : Below w.heap.size w ((((((W2.setCell ⟨w.heap.size, 0, none⟩ (.int .i64 x0)).setCell ⟨w.heap.size, 1, none⟩ (.int .i64 x1)).setCell ⟨w.heap.size, 2, none⟩ (.int .i64 x2)).setCell ⟨w.heap.size, 3, none⟩ (.int .i64 x3)).setCell ⟨w.heap.size, 4, none⟩ (.int .i64 x4)).setCell ⟨w.heap.size, 5, none⟩ (.slice none 0 0)) := BW2.out.trans (ww.below (Nat.le_refl _) BW2.out.size)
          generalize (((((W2.setCell ⟨w.heap.size, 0, none⟩ (.int .i64 x0)).setCell ⟨w.heap.size, 1, none⟩ (.int .i64 x1)).setCell ⟨w.heap.size, 2, none⟩ (.int .i64 x2)).setCell ⟨w.heap.size, 3, none⟩ (.int .i64 x3)).setCell ⟨w.heap.size, 4, none⟩ (.int .i64 x4)).setCell ⟨w.heap.size, 5, none⟩ (.slice none 0 0) = WF at *
          have e0 : WF.cell? ⟨w.heap.size, 0, none⟩ = some (.int .i64 x0) := cell_at HR rfl
          have e1 : WF.cell? ⟨w.heap.size, 1, none⟩ = some (.int .i64 x1) := cell_at HR rfl
          have e2 : WF.cell? ⟨w.heap.size, 2, none⟩ = some (.int .i64 x2) := cell_at HR rfl
          have e3 : WF.cell? ⟨w.heap.size, 3, none⟩ = some (.int .i64 x3) := cell_at HR rfl
          have e4 : WF.cell? ⟨w.heap.size, 4, none⟩ = some (.int .i64 x4) := cell_at HR rfl
          have e5 : WF.cell? ⟨w.heap.size, 5, none⟩ = some (.slice none 0 0) := cell_at HR rfl
          exact bodyPost_ret (v := .tuple #[.agg #[.int .i64 x0, .int .i64 x1, .int .i64 x2, .int .i64 x3, .int .i64 x4, .slice none 0 0], .slice (some ⟨g, o2, none⟩) (n - 5) (c - 5), .bool true]) (by simp [results, Try.results27, go_sem, e0, e1, e2, e3, e4, e5]) rfl ⟨none, 0, o2, c - 5, rfl, by omega, by omega, B2.out.keep bb, Piece.nil _ _ _, bb⟩)
       | trace_state
end Go.Proofs.Ythmmeapokhfdiaa
