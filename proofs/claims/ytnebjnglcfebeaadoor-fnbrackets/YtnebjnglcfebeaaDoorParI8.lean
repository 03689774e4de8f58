/-
  Walks: the program's reader: what a branch holds is laid.
-/
import Derived.Test.YtnebjnglcfebeaaDoorParI7
namespace Go.Proofs.YtnebjnglcfebeaaDoor
open Go.RowKit
set_option linter.unusedVariables false
set_option linter.unusedSimpArgs false
/-- Only v's own block is turned. -/
structure Gro (v : Value) (w w' : World) : Prop where
  os : w'.os = w.os
  tape : w'.tape = w.tape
  output : w'.output = w.output
  size : w.heap.size ≤ w'.heap.size
  block : ∀ k, k < w.heap.size → v.ownBlock ≠ some k → w'.heap[k]? = w.heap[k]?
theorem Gro.of {v : Value} {w w' : World} (h : Below w.heap.size w w') : Gro v w w' := ⟨h.os, h.tape, h.output, h.size, fun k hk _ => h.block k hk⟩
theorem Gro.trans {v v1 : Value} {w w1 w2 : World} (h : Gro v w w1) (k : Gro v1 w1 w2) (ho : ∀ j, v1.ownBlock = some j → v.ownBlock = some j ∨ w.heap.size ≤ j) : Gro v w w2 :=
  ⟨k.os.trans h.os, k.tape.trans h.tape, k.output.trans h.output, Nat.le_trans h.size k.size, fun j hj hv => by
    rw [k.block j (Nat.lt_of_lt_of_le hj h.size) (fun e => by rcases ho j e with q | q; exact hv q; omega), h.block j hj hv]⟩
theorem Gro.setNew {v : Value} {w0 w : World} (h : Gro v w0 w) {r j : Nat} (hr : w0.heap.size ≤ r) (x : Value) : Gro v w0 (w.setCell ⟨r, j, none⟩ x) := by
  have ww : Win r (r + 1) w (w.setCell ⟨r, j, none⟩ x) := win_setCell _ _ _ _
  exact ⟨ww.os.trans h.os, ww.tape.trans h.tape, ww.output.trans h.output, Nat.le_trans h.size ww.size, fun k hk hv => by rw [ww.block k (Nat.lt_of_lt_of_le hk h.size) (by omega), h.block k hk hv]⟩
theorem Gro.below {v : Value} {w w' : World} (h : Gro v w w') {B : Nat} (hB : B ≤ w.heap.size) (hv : ∀ k, v.ownBlock = some k → B ≤ k) : Below B w w' :=
  ⟨h.os, h.tape, h.output, h.size, fun k hk => h.block k (by omega) (fun e => by have := hv k e; omega)⟩
/-- The numbers of nodes: each list in a block of its own, from lo to hi. -/
def LbOk (w : World) (lo hi : Nat) (M : List Nb) : Prop := (∀ x, x ∈ M → Piece x.2.2 (x.2.2 + 1) w x.2.1 x.1.l ∧ (x.1.l ≠ [] → lo ≤ x.2.2 ∧ x.2.2 < hi)) ∧ M.Pairwise (fun x y => x.1.l ≠ [] → y.1.l ≠ [] → x.2.2 ≠ y.2.2)
theorem LbOk.same {w w' : World} {lo hi : Nat} {M : List Nb} (h : LbOk w lo hi M) (hb : ∀ k, lo ≤ k → k < hi → w'.heap[k]? = w.heap[k]?) : LbOk w' lo hi M :=
  ⟨fun x hx => ⟨piece_same (h.1 x hx).1 fun hl => hb _ ((h.1 x hx).2 hl).1 ((h.1 x hx).2 hl).2, (h.1 x hx).2⟩, h.2⟩
theorem LbOk.snoc {w : World} {lo hi : Nat} {M : List Nb} (h : LbOk w lo hi M) (x : Nb) (he : x.1.l = []) (hp : Piece x.2.2 (x.2.2 + 1) w x.2.1 x.1.l) : LbOk w lo hi (M ++ [x]) := by
  refine ⟨fun y hy => ?_, ?_⟩
  · rcases List.mem_append.1 hy with q | q
    · exact h.1 y q
    · rw [List.mem_singleton] at q; subst q; exact ⟨hp, fun e => absurd he e⟩
  · rw [List.pairwise_append]
    exact ⟨h.2, List.pairwise_singleton _ _, fun y _ z hz _ hl => by rw [List.mem_singleton] at hz; subst hz; exact absurd he hl⟩
theorem LbOk.app {w : World} {lo mid hi : Nat} {M N : List Nb} (h : LbOk w mid hi M) (k : LbOk w lo mid N) (h1 : lo ≤ mid) (h2 : mid ≤ hi) : LbOk w lo hi (M ++ N) := by
  refine ⟨fun y hy => ?_, ?_⟩
  · rcases List.mem_append.1 hy with q | q
    · exact ⟨(h.1 y q).1, fun hl => by have := (h.1 y q).2 hl; omega⟩
    · exact ⟨(k.1 y q).1, fun hl => by have := (k.1 y q).2 hl; omega⟩
  · rw [List.pairwise_append]
    exact ⟨h.2, k.2, fun y hy z hz hl hm e => by have a := (h.1 y hy).2 hl; have b := (k.1 z hz).2 hm; omega⟩
/-- What laid does. -/
def LaidP (b : Br) : Prop := ∀ (w : World) (lo hi g B : Nat) (v : Value) (L : List Nb), BrAt w b lo hi g → NxB B w v L → hi ≤ B → B ≤ w.heap.size → L.length + b.size ≤ 1048000 →
  Calls Tryd.prog 23 #[.pointer (some ⟨g, 0, none⟩), v] w fun e w' => ∃ v' M, e = .returned v' ∧ NxB B w' v' (L ++ M) ∧ M.map (fun z => z.1) = b.flat L.length ∧ LbOk w' lo hi M ∧ Gro v w w' ∧ ∀ k, v'.ownBlock = some k → v.ownBlock = some k ∨ w.heap.size ≤ k
/-- The last step: a node is put behind. -/
theorem laid_put {B nb : Nat} {w0 w V : World} {v0 : Value} {a : Option Addr} {c : Nat} {L : List Nb} (x : Nb) (hx : V.heap[nb]? = some (.cells #[.int .i64 x.1.k, .int .i64 x.1.a, .int .i64 x.1.b, .int .i64 x.1.s, .int .i64 x.1.o, .int .i64 x.1.h, x.2.1] 67 (0, 0))) (hN : NxB B w (.slice a L.length c) L) (hV : Below w.heap.size w V) (hB : B ≤ w.heap.size) (hl : L.length < 1048576) (h1 : x.2.1.oneCell' = true) (hg : Gro v0 w0 w) (ho : ∀ k, (Value.slice a L.length c).ownBlock = some k → v0.ownBlock = some k ∨ w0.heap.size ≤ k) :
    ∃ a' c' w9, (∀ ty, (Builtin.append_ #[24, 24] ty #[.slice a L.length c, .slice (some ⟨nb, 0, none⟩) 1 1]).run Tryd.prog V = .ok (.slice a' (L.length + 1) c') w9) ∧ NxB B w9 (.slice a' (L.length + 1) c') (L ++ [x]) ∧ Gro v0 w0 w9 ∧ (∀ k, (Value.slice a' (L.length + 1) c').ownBlock = some k → v0.ownBlock = some k ∨ w0.heap.size ≤ k) ∧ (∀ k, k < w.heap.size → (Value.slice a L.length c).ownBlock ≠ some k → w9.heap[k]? = w.heap[k]?) := by
  obtain ⟨a', c', w9, hr, hn, hgr, hoo⟩ := growN (V := V) (B := B) x hx (hN.keep hV) (Nat.le_trans hB hV.size) hl h1
  have g1 : Gro (.slice a L.length c) w w9 := ⟨hgr.os.trans hV.os, hgr.tape.trans hV.tape, hgr.output.trans hV.output, Nat.le_trans hV.size hgr.size, fun k hk hv => by rw [hgr.block k (Nat.lt_of_lt_of_le hk hV.size) (fun e => hv e.symm), hV.block k hk]⟩
  refine ⟨a', c', w9, hr, hn, hg.trans g1 ho, fun k hk => ?_, fun k hk hv => g1.block k hk hv⟩
  rcases hoo with e | e
  · exact ho k (by rw [← e]; exact hk)
  · rw [e] at hk; cases hk; exact .inr (Nat.le_trans hg.size hV.size)
set_option maxRecDepth 20000 in
set_option maxHeartbeats 8000000 in
theorem laid_num (l : List Int) : LaidP (.num l) := by
  intro w lo hi g B v L hB hN hBB hBw hL
  obtain ⟨av, cv, ev⟩ := hN.slice
  subst ev
  have HN : Hid (NxB B w (.slice av L.length cv) L) := hN
  have OW : Hid (∀ k, (Value.slice av L.length cv).ownBlock = some k → B ≤ k ∧ k < w.heap.size) := hN.own
  obtain ⟨_, _, x, bn, hg, hp, hbn⟩ := hB
  obtain ⟨xa, xc, ex, _⟩ := id hp
  subst ex
  have q0 : w.cell? ⟨g, 0, none⟩ = some (.int .i64 1) := cell_at hg rfl
  have q1 : w.cell? ⟨g, 1, none⟩ = some (.int .i64 0) := cell_at hg rfl
  have q2 : w.cell? ⟨g, 2, none⟩ = some (.int .i64 0) := cell_at hg rfl
  have q3 : w.cell? ⟨g, 3, none⟩ = some (.int .i64 0) := cell_at hg rfl
  have q4 : w.cell? ⟨g, 4, none⟩ = some (.int .i64 0) := cell_at hg rfl
  have q5 : w.cell? ⟨g, 5, none⟩ = some (.int .i64 0) := cell_at hg rfl
  have q6 : w.cell? ⟨g, 6, none⟩ = some (.slice xa l.length xc) := cell_at hg rfl
  have q7 : w.cell? ⟨g, 7, none⟩ = some (.pointer none) := cell_at hg rfl
  have q8 : w.cell? ⟨g, 8, none⟩ = some (.pointer none) := cell_at hg rfl
  have o7 : ∀ O : Obj, (w.alloc O).cell? ⟨g, 7, none⟩ = some (.pointer none) := fun O => cell_at (by rw [heap_alloc_old _ _ (lt_of_heapA hg)]; exact hg) rfl
  have o8 : ∀ O : Obj, (w.alloc O).cell? ⟨g, 8, none⟩ = some (.pointer none) := fun O => cell_at (by rw [heap_alloc_old _ _ (lt_of_heapA hg)]; exact hg) rfl
  have ngl := lt_of_heapA hg
  have nga : ¬ g = w.heap.size := by omega
  have ngb : ¬ w.heap.size = g := by omega
  obtain ⟨a9, c9, w9, hr, hn9, hg9, ho9, hs9⟩ := laid_put (V := (w.alloc (.cells #[.int .i64 1, .int .i64 0, .int .i64 0, .int .i64 0, .int .i64 0, .int .i64 0, .slice xa l.length xc] 67)).alloc (.cells #[.int .i64 1, .int .i64 0, .int .i64 0, .int .i64 0, .int .i64 0, .int .i64 0, .slice xa l.length xc] 67)) (nb := w.heap.size + 1) (w := w) (w0 := w) (v0 := .slice av L.length cv) (⟨1, 0, 0, 0, 0, 0, l⟩, .slice xa l.length xc, bn) (two_blocksR w _ _).2 hN (bAlloc (bAlloc (Below.refl _ _) _) _) hBw (by simp [Br.size] at hL; omega) (by rfl) (Gro.of (Below.refl _ _)) (fun k hk => .inl hk)
  have R9 : Hid (∀ ty, (Builtin.append_ #[24, 24] ty #[.slice av L.length cv, .slice (some ⟨w.heap.size + 1, 0, none⟩) 1 1]).run Tryd.prog ((w.alloc (.cells #[.int .i64 1, .int .i64 0, .int .i64 0, .int .i64 0, .int .i64 0, .int .i64 0, .slice xa l.length xc] 67)).alloc (.cells #[.int .i64 1, .int .i64 0, .int .i64 0, .int .i64 0, .int .i64 0, .int .i64 0, .slice xa l.length xc] 67)) = .ok (.slice a9 (L.length + 1) c9) w9) := hr
  have POST : Hid (NxB B w9 (.slice a9 (L.length + 1) c9) (L ++ [(⟨1, 0, 0, 0, 0, 0, l⟩, .slice xa l.length xc, bn)]) ∧ ([(⟨1, 0, 0, 0, 0, 0, l⟩, .slice xa l.length xc, bn)] : List Nb).map (fun z => z.1) = (.num l : Br).flat L.length ∧ LbOk w9 lo hi [(⟨1, 0, 0, 0, 0, 0, l⟩, .slice xa l.length xc, bn)] ∧ Gro (.slice av L.length cv) w w9 ∧ ∀ k, (Value.slice a9 (L.length + 1) c9).ownBlock = some k → (Value.slice av L.length cv).ownBlock = some k ∨ w.heap.size ≤ k) := ⟨hn9, rfl, ⟨fun y hy => by
      rw [List.mem_singleton] at hy
      subst hy
      exact ⟨piece_same hp fun hl => hs9 bn (piece_lt hp hl) (fun e => by have := (OW.out bn e).1; have := (hbn hl).2; omega), hbn⟩, List.pairwise_singleton _ _⟩, hg9, ho9⟩
  clear hr hn9 hg9 ho9 hs9 hN hg
  go_enter Tryd.func23, Tryd.ntmps23
  go_wp2_with (at_builtin; refine wpList_append_run rfl _ _ 24 24 rfl _ _ _ rfl rfl R9.out ?_)
  go_ret
  exact ⟨_, _, rfl, POST.out⟩
set_option maxRecDepth 20000 in
set_option maxHeartbeats 8000000 in
theorem laid_name (b0 : Int) : LaidP (.name b0) := by
  intro w lo hi g B v L hB hN hBB hBw hL
  obtain ⟨av, cv, ev⟩ := hN.slice
  subst ev
  have HN : Hid (NxB B w (.slice av L.length cv) L) := hN
  have OW : Hid (∀ k, (Value.slice av L.length cv).ownBlock = some k → B ≤ k ∧ k < w.heap.size) := hN.own
  obtain ⟨_, _, hg⟩ := hB
  have q0 : w.cell? ⟨g, 0, none⟩ = some (.int .i64 2) := cell_at hg rfl
  have q1 : w.cell? ⟨g, 1, none⟩ = some (.int .i64 b0) := cell_at hg rfl
  have q2 : w.cell? ⟨g, 2, none⟩ = some (.int .i64 0) := cell_at hg rfl
  have q3 : w.cell? ⟨g, 3, none⟩ = some (.int .i64 0) := cell_at hg rfl
  have q4 : w.cell? ⟨g, 4, none⟩ = some (.int .i64 0) := cell_at hg rfl
  have q5 : w.cell? ⟨g, 5, none⟩ = some (.int .i64 0) := cell_at hg rfl
  have q6 : w.cell? ⟨g, 6, none⟩ = some (.slice none 0 0) := cell_at hg rfl
  have q7 : w.cell? ⟨g, 7, none⟩ = some (.pointer none) := cell_at hg rfl
  have q8 : w.cell? ⟨g, 8, none⟩ = some (.pointer none) := cell_at hg rfl
  have o7 : ∀ O : Obj, (w.alloc O).cell? ⟨g, 7, none⟩ = some (.pointer none) := fun O => cell_at (by rw [heap_alloc_old _ _ (lt_of_heapA hg)]; exact hg) rfl
  have o8 : ∀ O : Obj, (w.alloc O).cell? ⟨g, 8, none⟩ = some (.pointer none) := fun O => cell_at (by rw [heap_alloc_old _ _ (lt_of_heapA hg)]; exact hg) rfl
  have ngl := lt_of_heapA hg
  have nga : ¬ g = w.heap.size := by omega
  have ngb : ¬ w.heap.size = g := by omega
  obtain ⟨a9, c9, w9, hr, hn9, hg9, ho9, hs9⟩ := laid_put (V := (w.alloc (.cells #[.int .i64 2, .int .i64 b0, .int .i64 0, .int .i64 0, .int .i64 0, .int .i64 0, .slice none 0 0] 67)).alloc (.cells #[.int .i64 2, .int .i64 b0, .int .i64 0, .int .i64 0, .int .i64 0, .int .i64 0, .slice none 0 0] 67)) (nb := w.heap.size + 1) (w := w) (w0 := w) (v0 := .slice av L.length cv) (⟨2, b0, 0, 0, 0, 0, []⟩, .slice none 0 0, 0) (two_blocksR w _ _).2 hN (bAlloc (bAlloc (Below.refl _ _) _) _) hBw (by simp [Br.size] at hL; omega) (by rfl) (Gro.of (Below.refl _ _)) (fun k hk => .inl hk)
  have R9 : Hid (∀ ty, (Builtin.append_ #[24, 24] ty #[.slice av L.length cv, .slice (some ⟨w.heap.size + 1, 0, none⟩) 1 1]).run Tryd.prog ((w.alloc (.cells #[.int .i64 2, .int .i64 b0, .int .i64 0, .int .i64 0, .int .i64 0, .int .i64 0, .slice none 0 0] 67)).alloc (.cells #[.int .i64 2, .int .i64 b0, .int .i64 0, .int .i64 0, .int .i64 0, .int .i64 0, .slice none 0 0] 67)) = .ok (.slice a9 (L.length + 1) c9) w9) := hr
  have POST : Hid (NxB B w9 (.slice a9 (L.length + 1) c9) (L ++ [(⟨2, b0, 0, 0, 0, 0, []⟩, .slice none 0 0, 0)]) ∧ ([(⟨2, b0, 0, 0, 0, 0, []⟩, .slice none 0 0, 0)] : List Nb).map (fun z => z.1) = (.name b0 : Br).flat L.length ∧ LbOk w9 lo hi [(⟨2, b0, 0, 0, 0, 0, []⟩, .slice none 0 0, 0)] ∧ Gro (.slice av L.length cv) w w9 ∧ ∀ k, (Value.slice a9 (L.length + 1) c9).ownBlock = some k → (Value.slice av L.length cv).ownBlock = some k ∨ w.heap.size ≤ k) := ⟨hn9, rfl, ⟨fun y hy => by
      rw [List.mem_singleton] at hy
      subst hy
      exact ⟨Piece.nil _ _ _, fun e => absurd rfl e⟩, List.pairwise_singleton _ _⟩, hg9, ho9⟩
  clear hr hn9 hg9 ho9 hs9 hN hg
  go_enter Tryd.func23, Tryd.ntmps23
  go_wp2_with (at_builtin; refine wpList_append_run rfl _ _ 24 24 rfl _ _ _ rfl rfl R9.out ?_)
  go_ret
  exact ⟨_, _, rfl, POST.out⟩
set_option maxRecDepth 20000 in
set_option maxHeartbeats 8000000 in
theorem laid_set (b0 : Int) {r : Br} (IR : LaidP r) : LaidP (.set b0 r) := by
  intro w lo hi g B v L hB hN hBB hBw hL
  obtain ⟨av, cv, ev⟩ := hN.slice
  subst ev
  have HN : Hid (NxB B w (.slice av L.length cv) L) := hN
  have OW : Hid (∀ k, (Value.slice av L.length cv).ownBlock = some k → B ≤ k ∧ k < w.heap.size) := hN.own
  obtain ⟨_, _, gr, hg, hr⟩ := hB
  have CR : Hid (∀ W, Below w.heap.size w W → Calls Tryd.prog 23 #[.pointer (some ⟨gr, 0, none⟩), .slice av L.length cv] W fun e w' => ∃ v' M, e = .returned v' ∧ NxB B w' v' (L ++ M) ∧ M.map (fun z => z.1) = r.flat L.length ∧ LbOk w' lo hi M ∧ Gro (.slice av L.length cv) W w' ∧ ∀ k, v'.ownBlock = some k → (Value.slice av L.length cv).ownBlock = some k ∨ W.heap.size ≤ k) := fun W hb => IR W lo hi gr B _ L (hr.same fun k h1 h2 => hb.block k (by omega)) (hN.keep hb) hBB (Nat.le_trans hBw hb.size) (by simp [Br.size] at hL; omega)
  have RS := r.size_pos
  have HL : Hid (L.length + r.size + 1 ≤ 1048000) := by show _ ≤ _; simp [Br.size] at hL; omega
  have q0 : w.cell? ⟨g, 0, none⟩ = some (.int .i64 3) := cell_at hg rfl
  have q1 : w.cell? ⟨g, 1, none⟩ = some (.int .i64 b0) := cell_at hg rfl
  have q2 : w.cell? ⟨g, 2, none⟩ = some (.int .i64 0) := cell_at hg rfl
  have q3 : w.cell? ⟨g, 3, none⟩ = some (.int .i64 0) := cell_at hg rfl
  have q4 : w.cell? ⟨g, 4, none⟩ = some (.int .i64 0) := cell_at hg rfl
  have q5 : w.cell? ⟨g, 5, none⟩ = some (.int .i64 0) := cell_at hg rfl
  have q6 : w.cell? ⟨g, 6, none⟩ = some (.slice none 0 0) := cell_at hg rfl
  have q7 : w.cell? ⟨g, 7, none⟩ = some (.pointer none) := cell_at hg rfl
  have q8 : w.cell? ⟨g, 8, none⟩ = some (.pointer (some ⟨gr, 0, none⟩)) := cell_at hg rfl
  have o7 : ∀ O : Obj, (w.alloc O).cell? ⟨g, 7, none⟩ = some (.pointer none) := fun O => cell_at (by rw [heap_alloc_old _ _ (lt_of_heapA hg)]; exact hg) rfl
  have o8 : ∀ O : Obj, (w.alloc O).cell? ⟨g, 8, none⟩ = some (.pointer (some ⟨gr, 0, none⟩)) := fun O => cell_at (by rw [heap_alloc_old _ _ (lt_of_heapA hg)]; exact hg) rfl
  have ngl := lt_of_heapA hg
  have nga : ¬ g = w.heap.size := by omega
  have ngb : ¬ w.heap.size = g := by omega
  clear hr hL
  go_enter Tryd.func23, Tryd.ntmps23
  go_wp2_with fail
  refine (CR.out _ (bAlloc (Below.refl _ _) _)).mono ?_
  rintro e w2 ⟨v2, M, rfl, hn2, hm2, hl2, hg2, ho2⟩
  obtain ⟨a2, c2, ev2⟩ := hn2.slice
  subst ev2
  have OWn := OW.out
  have nb2 : w2.heap[w.heap.size]? = some (.cells #[.int .i64 3, .int .i64 b0, .int .i64 0, .int .i64 0, .int .i64 0, .int .i64 0, .slice none 0 0]  67 (0, 0)) := by rw [hg2.block _ (by simp) (fun e => by have := (OWn _ e).2; omega)]; exact heap_alloc_new _ _
  have g2 : w2.heap[g]? = w.heap[g]? := by rw [hg2.block _ (by simp; have := lt_of_heapA hg; omega) (fun e => by have := (OWn _ e).1; omega)]; exact heap_alloc_old _ _ (lt_of_heapA hg)
  have hg' := hg
  rw [← g2] at hg'
  obtain ⟨P, hP⟩ : ∃ P, P = L ++ M := ⟨_, rfl⟩
  have PL : Hid (P.length = L.length + r.size) := by show _ = _; rw [hP, List.length_append, ← Br.flat_len r L.length, ← hm2, List.length_map]
  rw [← hP] at hn2 ho2 ⊢
  have HP : Hid (P = L ++ M) := hP
  have N2 : Hid (NxB B w2 (.slice a2 P.length c2) P) := hn2
  have M2 : Hid (M.map (fun z => z.1) = r.flat L.length) := hm2
  have LB2 : Hid (LbOk w2 lo hi M) := hl2
  have GR2 : Hid (Gro (.slice av L.length cv) w w2) := (Gro.of (bAlloc (Below.refl _ _) _)).trans hg2 (fun j hj => .inl hj)
  have OO2 : Hid (∀ k, (Value.slice a2 P.length c2).ownBlock = some k → (Value.slice av L.length cv).ownBlock = some k ∨ w.heap.size + 1 ≤ k) := fun k hk => by have := ho2 k hk; simpa using this
  have wp : IntKind.i64.wrap ((P.length : Int) - 1) = (P.length : Int) - 1 := by have := PL.out; have := HL.out; rw [IntKind.wrap_i64]; omega
  have NB2 : Hid (w2.heap[w.heap.size]? = some (.cells #[.int .i64 3, .int .i64 b0, .int .i64 0, .int .i64 0, .int .i64 0, .int .i64 0, .slice none 0 0]  67 (0, 0))) := nb2
  have y0 := cell_at (k := 0) nb2 rfl
  have y1 := cell_at (k := 1) nb2 rfl
  have y2 := cell_at (k := 2) nb2 rfl
  have y3 := cell_at (k := 3) nb2 rfl
  have y4 := cell_at (k := 4) nb2 rfl
  have y5 := cell_at (k := 5) nb2 rfl
  have y6 := cell_at (k := 6) nb2 rfl
  have yf := free_at nb2 2
  have p7 := cell_at (k := 7) hg' rfl
  have p8 := cell_at (k := 8) hg' rfl
  clear hP hn2 hm2 hl2 hg2 ho2 CR nb2 g2 hg' q0 q1 q2 q3 q4 q5 q6 q7 q8 o7 o8
  obtain ⟨W3, hW3⟩ : ∃ W3, W3 = w2.setCell ⟨w.heap.size, 2, none⟩ (.int .i64 ((P.length : Int) - 1)) := ⟨_, rfl⟩
  have ww : Win w.heap.size (w.heap.size + 1) w2 W3 := by rw [hW3]; exact win_setCell _ _ _ _
  have sz2 : w.heap.size < w2.heap.size := lt_of_heapA NB2.out
  have N3 : NxB B W3 (.slice a2 P.length c2) P := N2.out.same fun k hk => ww.block k (N2.out.own k hk).2 (by rcases OO2.out k hk with e | e; have := (OWn k e).2; omega; omega)
  have LB3 : LbOk W3 lo hi M := LB2.out.same fun k h1 h2 => ww.block k (by omega) (by omega)
  have GR3 : Gro (.slice av L.length cv) w W3 := by rw [hW3]; exact GR2.out.setNew (Nat.le_refl _) _
  have sz3 := ww.size
  obtain ⟨a9, c9, w9, hr, hn9, hg9, ho9, hs9⟩ := laid_put (V := W3.alloc (.cells #[.int .i64 3, .int .i64 b0, .int .i64 ((P.length : Int) - 1), .int .i64 0, .int .i64 0, .int .i64 0, .slice none 0 0] 67)) (nb := W3.heap.size) (w := W3) (w0 := w) (v0 := .slice av L.length cv) (⟨3, b0, (P.length : Int) - 1, 0, 0, 0, []⟩, .slice none 0 0, 0) (heap_alloc_new W3 _) N3 (bAlloc (Below.refl _ _) _) (by omega) (by have := PL.out; have := HL.out; omega) (by rfl) GR3 (fun k hk => by rcases OO2.out k hk with e | e; exact .inl e; exact .inr (by omega))
  rw [hW3] at hr
  simp only [size_setCell] at hr
  have R9 : Hid (∀ ty, (Builtin.append_ #[24, 24] ty #[.slice a2 P.length c2, .slice (some ⟨w2.heap.size, 0, none⟩) 1 1]).run Tryd.prog ((w2.setCell ⟨w.heap.size, 2, none⟩ (.int .i64 ((P.length : Int) - 1))).alloc (.cells #[.int .i64 3, .int .i64 b0, .int .i64 ((P.length : Int) - 1), .int .i64 0, .int .i64 0, .int .i64 0, .slice none 0 0] 67)) = .ok (.slice a9 (P.length + 1) c9) w9) := hr
  have POST : Hid (NxB B w9 (.slice a9 (P.length + 1) c9) (L ++ (M ++ [(⟨3, b0, (P.length : Int) - 1, 0, 0, 0, []⟩, .slice none 0 0, 0)])) ∧ ((M ++ [(⟨3, b0, (P.length : Int) - 1, 0, 0, 0, []⟩, .slice none 0 0, 0)] : List Nb)).map (fun z => z.1) = (.set b0 r : Br).flat L.length ∧ LbOk w9 lo hi (M ++ [(⟨3, b0, (P.length : Int) - 1, 0, 0, 0, []⟩, .slice none 0 0, 0)]) ∧ Gro (.slice av L.length cv) w w9 ∧ ∀ k, (Value.slice a9 (P.length + 1) c9).ownBlock = some k → (Value.slice av L.length cv).ownBlock = some k ∨ w.heap.size ≤ k) := ⟨by rw [← List.append_assoc, ← HP.out]; exact hn9, by rw [List.map_append, M2.out]; simp only [Br.flat, List.map_cons, List.map_nil, PL.out, Int.natCast_add], (LB3.same fun k h1 h2 => hs9 k (by omega) (fun e => by rcases OO2.out k e with q | q; have := (OWn k q).1; omega; omega)).snoc _ rfl (Piece.nil _ _ _), hg9, ho9⟩
  clear hr hn9 hg9 ho9 hs9 N3 LB3 GR3 ww hW3 N2 M2 LB2 GR2 OO2 NB2 OWn HP sz3
  go_wp2_with (at_builtin; refine wpList_append_run rfl _ _ 24 24 rfl _ _ _ rfl rfl R9.out ?_)
  go_ret
  exact ⟨_, _, rfl, POST.out⟩
set_option maxRecDepth 20000 in
set_option maxHeartbeats 8000000 in
theorem laid_one (s0 o0 h0 : Int) {r : Br} (IR : LaidP r) : LaidP (.one s0 o0 h0 r) := by
  intro w lo hi g B v L hB hN hBB hBw hL
  obtain ⟨av, cv, ev⟩ := hN.slice
  subst ev
  have HN : Hid (NxB B w (.slice av L.length cv) L) := hN
  have OW : Hid (∀ k, (Value.slice av L.length cv).ownBlock = some k → B ≤ k ∧ k < w.heap.size) := hN.own
  obtain ⟨_, _, gr, hg, hr⟩ := hB
  have CR : Hid (∀ W, Below w.heap.size w W → Calls Tryd.prog 23 #[.pointer (some ⟨gr, 0, none⟩), .slice av L.length cv] W fun e w' => ∃ v' M, e = .returned v' ∧ NxB B w' v' (L ++ M) ∧ M.map (fun z => z.1) = r.flat L.length ∧ LbOk w' lo hi M ∧ Gro (.slice av L.length cv) W w' ∧ ∀ k, v'.ownBlock = some k → (Value.slice av L.length cv).ownBlock = some k ∨ W.heap.size ≤ k) := fun W hb => IR W lo hi gr B _ L (hr.same fun k h1 h2 => hb.block k (by omega)) (hN.keep hb) hBB (Nat.le_trans hBw hb.size) (by simp [Br.size] at hL; omega)
  have RS := r.size_pos
  have HL : Hid (L.length + r.size + 1 ≤ 1048000) := by show _ ≤ _; simp [Br.size] at hL; omega
  have q0 : w.cell? ⟨g, 0, none⟩ = some (.int .i64 4) := cell_at hg rfl
  have q1 : w.cell? ⟨g, 1, none⟩ = some (.int .i64 0) := cell_at hg rfl
  have q2 : w.cell? ⟨g, 2, none⟩ = some (.int .i64 0) := cell_at hg rfl
  have q3 : w.cell? ⟨g, 3, none⟩ = some (.int .i64 s0) := cell_at hg rfl
  have q4 : w.cell? ⟨g, 4, none⟩ = some (.int .i64 o0) := cell_at hg rfl
  have q5 : w.cell? ⟨g, 5, none⟩ = some (.int .i64 h0) := cell_at hg rfl
  have q6 : w.cell? ⟨g, 6, none⟩ = some (.slice none 0 0) := cell_at hg rfl
  have q7 : w.cell? ⟨g, 7, none⟩ = some (.pointer none) := cell_at hg rfl
  have q8 : w.cell? ⟨g, 8, none⟩ = some (.pointer (some ⟨gr, 0, none⟩)) := cell_at hg rfl
  have o7 : ∀ O : Obj, (w.alloc O).cell? ⟨g, 7, none⟩ = some (.pointer none) := fun O => cell_at (by rw [heap_alloc_old _ _ (lt_of_heapA hg)]; exact hg) rfl
  have o8 : ∀ O : Obj, (w.alloc O).cell? ⟨g, 8, none⟩ = some (.pointer (some ⟨gr, 0, none⟩)) := fun O => cell_at (by rw [heap_alloc_old _ _ (lt_of_heapA hg)]; exact hg) rfl
  have ngl := lt_of_heapA hg
  have nga : ¬ g = w.heap.size := by omega
  have ngb : ¬ w.heap.size = g := by omega
  clear hr hL
  go_enter Tryd.func23, Tryd.ntmps23
  go_wp2_with fail
  refine (CR.out _ (bAlloc (Below.refl _ _) _)).mono ?_
  rintro e w2 ⟨v2, M, rfl, hn2, hm2, hl2, hg2, ho2⟩
  obtain ⟨a2, c2, ev2⟩ := hn2.slice
  subst ev2
  have OWn := OW.out
  have nb2 : w2.heap[w.heap.size]? = some (.cells #[.int .i64 4, .int .i64 0, .int .i64 0, .int .i64 s0, .int .i64 o0, .int .i64 h0, .slice none 0 0]  67 (0, 0)) := by rw [hg2.block _ (by simp) (fun e => by have := (OWn _ e).2; omega)]; exact heap_alloc_new _ _
  have g2 : w2.heap[g]? = w.heap[g]? := by rw [hg2.block _ (by simp; have := lt_of_heapA hg; omega) (fun e => by have := (OWn _ e).1; omega)]; exact heap_alloc_old _ _ (lt_of_heapA hg)
  have hg' := hg
  rw [← g2] at hg'
  obtain ⟨P, hP⟩ : ∃ P, P = L ++ M := ⟨_, rfl⟩
  have PL : Hid (P.length = L.length + r.size) := by show _ = _; rw [hP, List.length_append, ← Br.flat_len r L.length, ← hm2, List.length_map]
  rw [← hP] at hn2 ho2 ⊢
  have HP : Hid (P = L ++ M) := hP
  have N2 : Hid (NxB B w2 (.slice a2 P.length c2) P) := hn2
  have M2 : Hid (M.map (fun z => z.1) = r.flat L.length) := hm2
  have LB2 : Hid (LbOk w2 lo hi M) := hl2
  have GR2 : Hid (Gro (.slice av L.length cv) w w2) := (Gro.of (bAlloc (Below.refl _ _) _)).trans hg2 (fun j hj => .inl hj)
  have OO2 : Hid (∀ k, (Value.slice a2 P.length c2).ownBlock = some k → (Value.slice av L.length cv).ownBlock = some k ∨ w.heap.size + 1 ≤ k) := fun k hk => by have := ho2 k hk; simpa using this
  have wp : IntKind.i64.wrap ((P.length : Int) - 1) = (P.length : Int) - 1 := by have := PL.out; have := HL.out; rw [IntKind.wrap_i64]; omega
  have NB2 : Hid (w2.heap[w.heap.size]? = some (.cells #[.int .i64 4, .int .i64 0, .int .i64 0, .int .i64 s0, .int .i64 o0, .int .i64 h0, .slice none 0 0]  67 (0, 0))) := nb2
  have y0 := cell_at (k := 0) nb2 rfl
  have y1 := cell_at (k := 1) nb2 rfl
  have y2 := cell_at (k := 2) nb2 rfl
  have y3 := cell_at (k := 3) nb2 rfl
  have y4 := cell_at (k := 4) nb2 rfl
  have y5 := cell_at (k := 5) nb2 rfl
  have y6 := cell_at (k := 6) nb2 rfl
  have yf := free_at nb2 2
  have p7 := cell_at (k := 7) hg' rfl
  have p8 := cell_at (k := 8) hg' rfl
  clear hP hn2 hm2 hl2 hg2 ho2 CR nb2 g2 hg' q0 q1 q2 q3 q4 q5 q6 q7 q8 o7 o8
  obtain ⟨W3, hW3⟩ : ∃ W3, W3 = w2.setCell ⟨w.heap.size, 2, none⟩ (.int .i64 ((P.length : Int) - 1)) := ⟨_, rfl⟩
  have ww : Win w.heap.size (w.heap.size + 1) w2 W3 := by rw [hW3]; exact win_setCell _ _ _ _
  have sz2 : w.heap.size < w2.heap.size := lt_of_heapA NB2.out
  have N3 : NxB B W3 (.slice a2 P.length c2) P := N2.out.same fun k hk => ww.block k (N2.out.own k hk).2 (by rcases OO2.out k hk with e | e; have := (OWn k e).2; omega; omega)
  have LB3 : LbOk W3 lo hi M := LB2.out.same fun k h1 h2 => ww.block k (by omega) (by omega)
  have GR3 : Gro (.slice av L.length cv) w W3 := by rw [hW3]; exact GR2.out.setNew (Nat.le_refl _) _
  have sz3 := ww.size
  obtain ⟨a9, c9, w9, hr, hn9, hg9, ho9, hs9⟩ := laid_put (V := W3.alloc (.cells #[.int .i64 4, .int .i64 0, .int .i64 ((P.length : Int) - 1), .int .i64 s0, .int .i64 o0, .int .i64 h0, .slice none 0 0] 67)) (nb := W3.heap.size) (w := W3) (w0 := w) (v0 := .slice av L.length cv) (⟨4, 0, (P.length : Int) - 1, s0, o0, h0, []⟩, .slice none 0 0, 0) (heap_alloc_new W3 _) N3 (bAlloc (Below.refl _ _) _) (by omega) (by have := PL.out; have := HL.out; omega) (by rfl) GR3 (fun k hk => by rcases OO2.out k hk with e | e; exact .inl e; exact .inr (by omega))
  rw [hW3] at hr
  simp only [size_setCell] at hr
  have R9 : Hid (∀ ty, (Builtin.append_ #[24, 24] ty #[.slice a2 P.length c2, .slice (some ⟨w2.heap.size, 0, none⟩) 1 1]).run Tryd.prog ((w2.setCell ⟨w.heap.size, 2, none⟩ (.int .i64 ((P.length : Int) - 1))).alloc (.cells #[.int .i64 4, .int .i64 0, .int .i64 ((P.length : Int) - 1), .int .i64 s0, .int .i64 o0, .int .i64 h0, .slice none 0 0] 67)) = .ok (.slice a9 (P.length + 1) c9) w9) := hr
  have POST : Hid (NxB B w9 (.slice a9 (P.length + 1) c9) (L ++ (M ++ [(⟨4, 0, (P.length : Int) - 1, s0, o0, h0, []⟩, .slice none 0 0, 0)])) ∧ ((M ++ [(⟨4, 0, (P.length : Int) - 1, s0, o0, h0, []⟩, .slice none 0 0, 0)] : List Nb)).map (fun z => z.1) = (.one s0 o0 h0 r : Br).flat L.length ∧ LbOk w9 lo hi (M ++ [(⟨4, 0, (P.length : Int) - 1, s0, o0, h0, []⟩, .slice none 0 0, 0)]) ∧ Gro (.slice av L.length cv) w w9 ∧ ∀ k, (Value.slice a9 (P.length + 1) c9).ownBlock = some k → (Value.slice av L.length cv).ownBlock = some k ∨ w.heap.size ≤ k) := ⟨by rw [← List.append_assoc, ← HP.out]; exact hn9, by rw [List.map_append, M2.out]; simp only [Br.flat, List.map_cons, List.map_nil, PL.out, Int.natCast_add], (LB3.same fun k h1 h2 => hs9 k (by omega) (fun e => by rcases OO2.out k e with q | q; have := (OWn k q).1; omega; omega)).snoc _ rfl (Piece.nil _ _ _), hg9, ho9⟩
  clear hr hn9 hg9 ho9 hs9 N3 LB3 GR3 ww hW3 N2 M2 LB2 GR2 OO2 NB2 OWn HP sz3
  go_wp2_with (at_builtin; refine wpList_append_run rfl _ _ 24 24 rfl _ _ _ rfl rfl R9.out ?_)
  go_ret
  exact ⟨_, _, rfl, POST.out⟩
set_option maxRecDepth 20000 in
set_option maxHeartbeats 8000000 in
theorem laid_two (s0 o0 h0 : Int) {l : Br} (IL : LaidP l) {r : Br} (IR : LaidP r) : LaidP (.two s0 o0 h0 l r) := by
  intro w lo hi g B v L hB hN hBB hBw hL
  obtain ⟨av, cv, ev⟩ := hN.slice
  subst ev
  have HN : Hid (NxB B w (.slice av L.length cv) L) := hN
  have OW : Hid (∀ k, (Value.slice av L.length cv).ownBlock = some k → B ≤ k ∧ k < w.heap.size) := hN.own
  obtain ⟨_, _, gl, gr, m, m1, m2, hg, hl, hr⟩ := hB
  have CR : Hid (∀ W, Below w.heap.size w W → Calls Tryd.prog 23 #[.pointer (some ⟨gr, 0, none⟩), .slice av L.length cv] W fun e w' => ∃ v' M, e = .returned v' ∧ NxB B w' v' (L ++ M) ∧ M.map (fun z => z.1) = r.flat L.length ∧ LbOk w' m hi M ∧ Gro (.slice av L.length cv) W w' ∧ ∀ k, v'.ownBlock = some k → (Value.slice av L.length cv).ownBlock = some k ∨ W.heap.size ≤ k) := fun W hb => IR W m hi gr B _ L (hr.same fun k h1 h2 => hb.block k (by omega)) (hN.keep hb) hBB (Nat.le_trans hBw hb.size) (by simp [Br.size] at hL; omega)
  have RS := r.size_pos
  have HL : Hid (L.length + r.size + l.size + 1 ≤ 1048000) := by show _ ≤ _; simp [Br.size] at hL; omega
  have HLL : Hid (BrAt w l lo m gl) := hl
  have RS2 := l.size_pos
  have q0 : w.cell? ⟨g, 0, none⟩ = some (.int .i64 5) := cell_at hg rfl
  have q1 : w.cell? ⟨g, 1, none⟩ = some (.int .i64 0) := cell_at hg rfl
  have q2 : w.cell? ⟨g, 2, none⟩ = some (.int .i64 0) := cell_at hg rfl
  have q3 : w.cell? ⟨g, 3, none⟩ = some (.int .i64 s0) := cell_at hg rfl
  have q4 : w.cell? ⟨g, 4, none⟩ = some (.int .i64 o0) := cell_at hg rfl
  have q5 : w.cell? ⟨g, 5, none⟩ = some (.int .i64 h0) := cell_at hg rfl
  have q6 : w.cell? ⟨g, 6, none⟩ = some (.slice none 0 0) := cell_at hg rfl
  have q7 : w.cell? ⟨g, 7, none⟩ = some (.pointer (some ⟨gl, 0, none⟩)) := cell_at hg rfl
  have q8 : w.cell? ⟨g, 8, none⟩ = some (.pointer (some ⟨gr, 0, none⟩)) := cell_at hg rfl
  have o7 : ∀ O : Obj, (w.alloc O).cell? ⟨g, 7, none⟩ = some (.pointer (some ⟨gl, 0, none⟩)) := fun O => cell_at (by rw [heap_alloc_old _ _ (lt_of_heapA hg)]; exact hg) rfl
  have o8 : ∀ O : Obj, (w.alloc O).cell? ⟨g, 8, none⟩ = some (.pointer (some ⟨gr, 0, none⟩)) := fun O => cell_at (by rw [heap_alloc_old _ _ (lt_of_heapA hg)]; exact hg) rfl
  have ngl := lt_of_heapA hg
  have nga : ¬ g = w.heap.size := by omega
  have ngb : ¬ w.heap.size = g := by omega
  clear hr hl hL
  go_enter Tryd.func23, Tryd.ntmps23
  go_wp2_with fail
  refine (CR.out _ (bAlloc (Below.refl _ _) _)).mono ?_
  rintro e w2 ⟨v2, M, rfl, hn2, hm2, hl2, hg2, ho2⟩
  obtain ⟨a2, c2, ev2⟩ := hn2.slice
  subst ev2
  have OWn := OW.out
  have nb2 : w2.heap[w.heap.size]? = some (.cells #[.int .i64 5, .int .i64 0, .int .i64 0, .int .i64 s0, .int .i64 o0, .int .i64 h0, .slice none 0 0]  67 (0, 0)) := by rw [hg2.block _ (by simp) (fun e => by have := (OWn _ e).2; omega)]; exact heap_alloc_new _ _
  have g2 : w2.heap[g]? = w.heap[g]? := by rw [hg2.block _ (by simp; have := lt_of_heapA hg; omega) (fun e => by have := (OWn _ e).1; omega)]; exact heap_alloc_old _ _ (lt_of_heapA hg)
  have hg' := hg
  rw [← g2] at hg'
  obtain ⟨P, hP⟩ : ∃ P, P = L ++ M := ⟨_, rfl⟩
  have PL : Hid (P.length = L.length + r.size) := by show _ = _; rw [hP, List.length_append, ← Br.flat_len r L.length, ← hm2, List.length_map]
  rw [← hP] at hn2 ho2 ⊢
  have HP : Hid (P = L ++ M) := hP
  have N2 : Hid (NxB B w2 (.slice a2 P.length c2) P) := hn2
  have M2 : Hid (M.map (fun z => z.1) = r.flat L.length) := hm2
  have LB2 : Hid (LbOk w2 m hi M) := hl2
  have GR2 : Hid (Gro (.slice av L.length cv) w w2) := (Gro.of (bAlloc (Below.refl _ _) _)).trans hg2 (fun j hj => .inl hj)
  have OO2 : Hid (∀ k, (Value.slice a2 P.length c2).ownBlock = some k → (Value.slice av L.length cv).ownBlock = some k ∨ w.heap.size + 1 ≤ k) := fun k hk => by have := ho2 k hk; simpa using this
  have wp : IntKind.i64.wrap ((P.length : Int) - 1) = (P.length : Int) - 1 := by have := PL.out; have := HL.out; rw [IntKind.wrap_i64]; omega
  have NB2 : Hid (w2.heap[w.heap.size]? = some (.cells #[.int .i64 5, .int .i64 0, .int .i64 0, .int .i64 s0, .int .i64 o0, .int .i64 h0, .slice none 0 0]  67 (0, 0))) := nb2
  have y0 := cell_at (k := 0) nb2 rfl
  have y1 := cell_at (k := 1) nb2 rfl
  have y2 := cell_at (k := 2) nb2 rfl
  have y3 := cell_at (k := 3) nb2 rfl
  have y4 := cell_at (k := 4) nb2 rfl
  have y5 := cell_at (k := 5) nb2 rfl
  have y6 := cell_at (k := 6) nb2 rfl
  have yf := free_at nb2 2
  have p7 := cell_at (k := 7) hg' rfl
  have p8 := cell_at (k := 8) hg' rfl
  clear hP hn2 hm2 hl2 hg2 ho2 CR nb2 g2 hg' q0 q1 q2 q3 q4 q5 q6 q7 q8 o7 o8
  obtain ⟨W3, hW3⟩ : ∃ W3, W3 = w2.setCell ⟨w.heap.size, 2, none⟩ (.int .i64 ((P.length : Int) - 1)) := ⟨_, rfl⟩
  have ww : Win w.heap.size (w.heap.size + 1) w2 W3 := by rw [hW3]; exact win_setCell _ _ _ _
  have sz2 : w.heap.size < w2.heap.size := lt_of_heapA NB2.out
  have N3 : Hid (NxB B W3 (.slice a2 P.length c2) P) := N2.out.same fun k hk => ww.block k (N2.out.own k hk).2 (by rcases OO2.out k hk with e | e; have := (OWn k e).2; omega; omega)
  have LB3 : Hid (LbOk W3 m hi M) := LB2.out.same fun k h1 h2 => ww.block k (by omega) (by omega)
  have GR3 : Hid (Gro (.slice av L.length cv) w W3) := by rw [hW3]; exact GR2.out.setNew (Nat.le_refl _) _
  have HL3 : Hid (BrAt W3 l lo m gl) := HLL.out.same fun k h1 h2 => GR3.out.block k (by omega) (fun e => by have := (OWn k e).1; omega)
  have NB3 : Hid (W3.heap[w.heap.size]? = some (.cells #[.int .i64 5, .int .i64 0, .int .i64 ((P.length : Int) - 1), .int .i64 s0, .int .i64 o0, .int .i64 h0, .slice none 0 0] 67 (0, 0))) := by
    show _ = _
    rw [hW3]
    have := heap_setCell_same w2 w.heap.size 2 _ _ (.int .i64 ((P.length : Int) - 1)) NB2.out
    simpa using this
  have CLF : Hid (Calls Tryd.prog 23 #[.pointer (some ⟨gl, 0, none⟩), .slice a2 P.length c2] W3 fun e w' => ∃ v' M2, e = .returned v' ∧ NxB B w' v' (P ++ M2) ∧ M2.map (fun z => z.1) = l.flat P.length ∧ LbOk w' lo m M2 ∧ Gro (.slice a2 P.length c2) W3 w' ∧ ∀ k, v'.ownBlock = some k → (Value.slice a2 P.length c2).ownBlock = some k ∨ W3.heap.size ≤ k) := IL W3 lo m gl B _ P HL3.out N3.out (by omega) (by have := ww.size; omega) (by have := PL.out; have := HL.out; omega)
  have g3 : W3.heap[g]? = w.heap[g]? := GR3.out.block g ngl (fun e => by have := (OWn g e).1; omega)
  have sz3 := ww.size
  rw [hW3] at CLF
  go_wp2_with fail
  refine CLF.out.mono ?_
  rw [← hW3]
  rintro e w4 ⟨v4, M4, rfl, hn4, hm4, hl4, hg4, ho4⟩
  obtain ⟨a4, c4, ev4⟩ := hn4.slice
  subst ev4
  have own3 : ∀ k, (Value.slice a2 P.length c2).ownBlock = some k → k ≠ w.heap.size ∧ B ≤ k := fun k hk => by rcases OO2.out k hk with e | e; have := OWn k e; omega; omega
  have nb4 : w4.heap[w.heap.size]? = some (.cells #[.int .i64 5, .int .i64 0, .int .i64 ((P.length : Int) - 1), .int .i64 s0, .int .i64 o0, .int .i64 h0, .slice none 0 0] 67 (0, 0)) := by rw [hg4.block _ (by omega) (fun e => (own3 _ e).1 rfl)]; exact NB3.out
  have lb4 : LbOk w4 m hi M := LB3.out.same fun k h1 h2 => hg4.block k (by omega) (fun e => by have := (own3 k e).2; omega)
  obtain ⟨Q, hQ⟩ : ∃ Q, Q = P ++ M4 := ⟨_, rfl⟩
  have QL : Hid (Q.length = L.length + r.size + l.size) := by show _ = _; rw [hQ, List.length_append, ← Br.flat_len l P.length, ← hm4, List.length_map, PL.out]
  rw [← hQ] at hn4 ho4 ⊢
  have HQ : Hid (Q = L ++ (M ++ M4)) := by show _ = _; rw [hQ, HP.out, List.append_assoc]
  have wq : IntKind.i64.wrap ((Q.length : Int) - 1) = (Q.length : Int) - 1 := by have := QL.out; have := HL.out; rw [IntKind.wrap_i64]; omega
  have OO4 : Hid (∀ k, (Value.slice a4 Q.length c4).ownBlock = some k → (Value.slice av L.length cv).ownBlock = some k ∨ w.heap.size + 1 ≤ k) := fun k hk => by
    rcases ho4 k hk with e | e
    · exact OO2.out k e
    · exact .inr (by omega)
  have GR4 : Gro (.slice av L.length cv) w w4 := GR3.out.trans hg4 (fun j hj => by rcases OO2.out j hj with e | e; exact .inl e; exact .inr (by omega))
  obtain ⟨W5, hW5⟩ : ∃ W5, W5 = w4.setCell ⟨w.heap.size, 1, none⟩ (.int .i64 ((Q.length : Int) - 1)) := ⟨_, rfl⟩
  have ww5 : Win w.heap.size (w.heap.size + 1) w4 W5 := by rw [hW5]; exact win_setCell _ _ _ _
  have sz4 : w.heap.size < w4.heap.size := lt_of_heapA nb4
  have N5 : NxB B W5 (.slice a4 Q.length c4) Q := hn4.same fun k hk => ww5.block k (hn4.own k hk).2 (by rcases OO4.out k hk with e | e; have := (OWn k e).2; omega; omega)
  have LB5 : LbOk W5 lo hi (M ++ M4) := (lb4.app hl4 m1 m2).same fun k h1 h2 => ww5.block k (by omega) (by omega)
  have GR5 : Gro (.slice av L.length cv) w W5 := by rw [hW5]; exact GR4.setNew (Nat.le_refl _) _
  have sz5 := ww5.size
  have z0 := cell_at (k := 0) nb4 rfl
  have z1 := cell_at (k := 1) nb4 rfl
  have z2 := cell_at (k := 2) nb4 rfl
  have z3 := cell_at (k := 3) nb4 rfl
  have z4 := cell_at (k := 4) nb4 rfl
  have z5 := cell_at (k := 5) nb4 rfl
  have z6 := cell_at (k := 6) nb4 rfl
  have zf := free_at nb4 1
  obtain ⟨a9, c9, w9, hr, hn9, hg9, ho9, hs9⟩ := laid_put (V := W5.alloc (.cells #[.int .i64 5, .int .i64 ((Q.length : Int) - 1), .int .i64 ((P.length : Int) - 1), .int .i64 s0, .int .i64 o0, .int .i64 h0, .slice none 0 0] 67)) (nb := W5.heap.size) (w := W5) (w0 := w) (v0 := .slice av L.length cv) (⟨5, (Q.length : Int) - 1, (P.length : Int) - 1, s0, o0, h0, []⟩, .slice none 0 0, 0) (heap_alloc_new W5 _) N5 (bAlloc (Below.refl _ _) _) (by omega) (by have := QL.out; have := HL.out; omega) (by rfl) GR5 (fun k hk => by rcases OO4.out k hk with e | e; exact .inl e; exact .inr (by omega))
  rw [hW5] at hr
  simp only [size_setCell] at hr
  have R9 : Hid (∀ ty, (Builtin.append_ #[24, 24] ty #[.slice a4 Q.length c4, .slice (some ⟨w4.heap.size, 0, none⟩) 1 1]).run Tryd.prog ((w4.setCell ⟨w.heap.size, 1, none⟩ (.int .i64 ((Q.length : Int) - 1))).alloc (.cells #[.int .i64 5, .int .i64 ((Q.length : Int) - 1), .int .i64 ((P.length : Int) - 1), .int .i64 s0, .int .i64 o0, .int .i64 h0, .slice none 0 0] 67)) = .ok (.slice a9 (Q.length + 1) c9) w9) := hr
  have POST : Hid (NxB B w9 (.slice a9 (Q.length + 1) c9) (L ++ ((M ++ M4) ++ [(⟨5, (Q.length : Int) - 1, (P.length : Int) - 1, s0, o0, h0, []⟩, .slice none 0 0, 0)])) ∧ (((M ++ M4) ++ [(⟨5, (Q.length : Int) - 1, (P.length : Int) - 1, s0, o0, h0, []⟩, .slice none 0 0, 0)] : List Nb)).map (fun z => z.1) = (.two s0 o0 h0 l r : Br).flat L.length ∧ LbOk w9 lo hi ((M ++ M4) ++ [(⟨5, (Q.length : Int) - 1, (P.length : Int) - 1, s0, o0, h0, []⟩, .slice none 0 0, 0)]) ∧ Gro (.slice av L.length cv) w w9 ∧ ∀ k, (Value.slice a9 (Q.length + 1) c9).ownBlock = some k → (Value.slice av L.length cv).ownBlock = some k ∨ w.heap.size ≤ k) := ⟨by rw [← List.append_assoc, ← HQ.out]; exact hn9, by rw [List.map_append, List.map_append, M2.out, hm4]; simp only [Br.flat, List.map_cons, List.map_nil, PL.out, QL.out, Int.natCast_add], (LB5.same fun k h1 h2 => hs9 k (by omega) (fun e => by rcases OO4.out k e with q | q; have := (OWn k q).1; omega; omega)).snoc _ rfl (Piece.nil _ _ _), hg9, ho9⟩
  clear hr hn9 hg9 ho9 hs9 N5 LB5 GR5 GR4 ww5 hW5 N3 LB3 GR3 HL3 NB3 CLF hW3 ww N2 M2 LB2 GR2 OO2 NB2 OWn HP sz3 sz5 hn4 hm4 hl4 hg4 ho4 nb4 lb4 own3 hQ OO4 HQ g3 HLL y0 y1 y2 y3 y4 y5 y6 yf p7 p8
  go_wp2_with (at_builtin; refine wpList_append_run rfl _ _ 24 24 rfl _ _ _ rfl rfl R9.out ?_)
  go_ret
  exact ⟨_, _, rfl, POST.out⟩
/-- What a branch holds is laid. -/
theorem laid_impl : ∀ b : Br, LaidP b
  | .num l => laid_num l
  | .name a => laid_name a
  | .set a r => laid_set a (laid_impl r)
  | .one s o h r => laid_one s o h (laid_impl r)
  | .two s o h l r => laid_two s o h (laid_impl l) (laid_impl r)
end Go.Proofs.YtnebjnglcfebeaaDoor
