/-
  Walks: the program's reader: numbers; branches in memory.
-/
import Derived.Test.YtnebjnglcfebeaaDoorParI2
namespace Go.Proofs.YtnebjnglcfebeaaDoor
open Go.RowKit
set_option linter.unusedVariables false
set_option linter.unusedSimpArgs false
/-- A branch at g, it and what it holds in the blocks from lo to hi. -/
def BrAt (w : World) : Br → Nat → Nat → Nat → Prop
  | .num l, lo, hi, g => lo ≤ g ∧ g < hi ∧ ∃ x bn, w.heap[g]? = some (.cells #[.int .i64 1, .int .i64 0, .int .i64 0, .int .i64 0, .int .i64 0, .int .i64 0, x, .pointer none, .pointer none] 77 (0, 0)) ∧ Piece bn (bn + 1) w x l ∧ (l ≠ [] → lo ≤ bn ∧ bn < hi)
  | .name v, lo, hi, g => lo ≤ g ∧ g < hi ∧ w.heap[g]? = some (.cells #[.int .i64 2, .int .i64 v, .int .i64 0, .int .i64 0, .int .i64 0, .int .i64 0, .slice none 0 0, .pointer none, .pointer none] 77 (0, 0))
  | .set v r, lo, hi, g => lo ≤ g ∧ g < hi ∧ ∃ gr, w.heap[g]? = some (.cells #[.int .i64 3, .int .i64 v, .int .i64 0, .int .i64 0, .int .i64 0, .int .i64 0, .slice none 0 0, .pointer none, .pointer (some ⟨gr, 0, none⟩)] 77 (0, 0)) ∧ BrAt w r lo hi gr
  | .one s o h r, lo, hi, g => lo ≤ g ∧ g < hi ∧ ∃ gr, w.heap[g]? = some (.cells #[.int .i64 4, .int .i64 0, .int .i64 0, .int .i64 s, .int .i64 o, .int .i64 h, .slice none 0 0, .pointer none, .pointer (some ⟨gr, 0, none⟩)] 77 (0, 0)) ∧ BrAt w r lo hi gr
  | .two s o h l r, lo, hi, g => lo ≤ g ∧ g < hi ∧ ∃ gl gr m, lo ≤ m ∧ m ≤ hi ∧ w.heap[g]? = some (.cells #[.int .i64 5, .int .i64 0, .int .i64 0, .int .i64 s, .int .i64 o, .int .i64 h, .slice none 0 0, .pointer (some ⟨gl, 0, none⟩), .pointer (some ⟨gr, 0, none⟩)] 77 (0, 0)) ∧ BrAt w l lo m gl ∧ BrAt w r m hi gr
theorem BrAt.same {w w' : World} : ∀ {b : Br} {lo hi g : Nat}, BrAt w b lo hi g → (∀ k, lo ≤ k → k < hi → w'.heap[k]? = w.heap[k]?) → BrAt w' b lo hi g
  | .num l, lo, hi, g, ⟨h1, h2, x, bn, h3, h4, h5⟩, hb => ⟨h1, h2, x, bn, by rw [hb g h1 h2]; exact h3, piece_same h4 fun hl => hb bn (h5 hl).1 (h5 hl).2, h5⟩
  | .name v, lo, hi, g, ⟨h1, h2, h3⟩, hb => ⟨h1, h2, by rw [hb g h1 h2]; exact h3⟩
  | .set v r, lo, hi, g, ⟨h1, h2, gr, h3, h4⟩, hb => ⟨h1, h2, gr, by rw [hb g h1 h2]; exact h3, BrAt.same h4 hb⟩
  | .one s o h r, lo, hi, g, ⟨h1, h2, gr, h3, h4⟩, hb => ⟨h1, h2, gr, by rw [hb g h1 h2]; exact h3, BrAt.same h4 hb⟩
  | .two s o h l r, lo, hi, g, ⟨h1, h2, gl, gr, m, m1, m2, h3, h4, h5⟩, hb => ⟨h1, h2, gl, gr, m, m1, m2, by rw [hb g h1 h2]; exact h3, BrAt.same h4 (fun k k1 k2 => hb k k1 (by omega)), BrAt.same h5 (fun k k1 k2 => hb k (by omega) k2)⟩
theorem BrAt.mono {w : World} : ∀ {b : Br} {lo hi lo' hi' g : Nat}, BrAt w b lo hi g → lo' ≤ lo → hi ≤ hi' → BrAt w b lo' hi' g
  | .num l, lo, hi, lo', hi', g, ⟨h1, h2, x, bn, h3, h4, h5⟩, hl, hh => ⟨by omega, by omega, x, bn, h3, h4, fun q => by have := h5 q; omega⟩
  | .name v, lo, hi, lo', hi', g, ⟨h1, h2, h3⟩, hl, hh => ⟨by omega, by omega, h3⟩
  | .set v r, lo, hi, lo', hi', g, ⟨h1, h2, gr, h3, h4⟩, hl, hh => ⟨by omega, by omega, gr, h3, BrAt.mono h4 hl hh⟩
  | .one s o h r, lo, hi, lo', hi', g, ⟨h1, h2, gr, h3, h4⟩, hl, hh => ⟨by omega, by omega, gr, h3, BrAt.mono h4 hl hh⟩
  | .two s o h l r, lo, hi, lo', hi', g, ⟨h1, h2, gl, gr, m, m1, m2, h3, h4, h5⟩, hl, hh => ⟨by omega, by omega, gl, gr, m, by omega, by omega, h3, BrAt.mono h4 hl (Nat.le_refl _), BrAt.mono h5 (Nat.le_refl _) hh⟩
theorem BrAt.lt {w : World} : ∀ {b : Br} {lo hi g : Nat}, BrAt w b lo hi g → lo ≤ g ∧ g < hi
  | .num _, _, _, _, h => ⟨h.1, h.2.1⟩
  | .name _, _, _, _, h => ⟨h.1, h.2.1⟩
  | .set _ _, _, _, _, h => ⟨h.1, h.2.1⟩
  | .one _ _ _ _, _, _, _, h => ⟨h.1, h.2.1⟩
  | .two _ _ _ _ _, _, _, _, h => ⟨h.1, h.2.1⟩
def ratAt (w : World) (ga : Nat) : Nat := (intOf ((w.cell? ⟨ga, 0, none⟩).getD undef)).toNat
theorem Rs.ratAt {a : Option Addr} {n : Nat} {T : Nat → Spn} {te : TypeId} {pe : Value} {w : World} {ga p : Nat} (h : Rs a n T te pe w ga p) : ratAt w ga = p := by
  unfold Proofs.YtnebjnglcfebeaaDoor.ratAt
  rw [h.c0]
  simp [intOf]
/-- Numbers that are being read. -/
def NuK (a : Option Addr) (n c : Nat) (T : Nat → Spn) (te : TypeId) (pe : Value) (w : World) (ga p j : Nat) (v : Value) (V : World) : Prop :=
  Rs a n T te pe V ga (p + j) ∧ NewInts (w.heap.size + 1) V v (numsP n T p j) ∧ V.heap[w.heap.size]? = some (.cells #[.slice a n c, .pointer (some ⟨ga, 0, none⟩)] 51 (0, 0)) ∧ Chg ga (.slice none 0 0) w V
theorem numsP_len (n : Nat) (T : Nat → Spn) (p j : Nat) : (numsP n T p j).length = j := by simp [numsP]
set_option maxRecDepth 20000 in
set_option maxHeartbeats 8000000 in
/-- The numbers that stand here. -/
theorem numbers_impl {a : Option Addr} {n c : Nat} {T : Nat → Spn} {te : TypeId} {pe : Value} {w : World} {ga p : Nat} (h : Rs a n T te pe w ga p) (hp : p ≤ n) (hn : n ≤ 1048000) :
    Calls Tryd.prog 77 #[.agg #[.slice a n c, .pointer (some ⟨ga, 0, none⟩)]] w fun e w' => ∃ v, e = .returned v ∧ NewInts (w.heap.size + 1) w' v (numsP n T p (runN n T (n - p) p)) ∧ Rs a n T te pe w' ga (p + runN n T (n - p) p) ∧ Chg ga (.slice none 0 0) w w' := by
  have RF := runN_facts (n := n) (T := T) (n - p) p (by omega)
  have RL := runN_le (n := n) (T := T) p hp
  obtain ⟨m0, hm0⟩ : ∃ m0, m0 = runN n T (n - p) p := ⟨_, rfl⟩
  rw [← hm0] at RF RL ⊢
  have RK : Hid (∀ j, j < m0 → tkK n T (p + j) = 1) := RF.1
  have RE : Hid (tkK n T (p + m0) ≠ 1) := RF.2
  have LG : Hid (ga < w.heap.size) := h.lts
  have SE : Hid (∀ W q, q ≤ n → Rs a n T te pe W ga q → Calls Tryd.prog 61 #[.agg #[.slice a n c, .pointer (some ⟨ga, 0, none⟩)], .int .i64 1] W fun e w' => e = .returned (.bool (tkK n T q == 1)) ∧ Below W.heap.size W w') := fun W q hq hW => sees_impl hW 1 (by omega) (by omega)
  have TK : Hid (∀ W q, tkK n T q = 1 → q ≤ n → Rs a n T te pe W ga q → Calls Tryd.prog 63 #[.agg #[.slice a n c, .pointer (some ⟨ga, 0, none⟩)], .int .i64 1] W fun e w' => e = .returned (.int .i64 (tkN n T q)) ∧ Rs a n T te pe w' ga (q + 1) ∧ Chg ga (.slice none 0 0) W w') := fun W q h1 hq hW => take_impl hW 1 h1 (by omega) (by omega)
  have S0 : Hid (NuK a n c T te pe w ga p 0 (.slice none 0 0) (w.alloc (.cells #[.slice a n c, .pointer (some ⟨ga, 0, none⟩)] 51))) := ⟨h.keep (bAlloc (Below.refl _ _) _), NewInts.nil _ _, heap_alloc_new _ _, Chg.of (bAlloc (Below.refl _ _) _)⟩
  have nn : ∀ j, (Value.slice none 0 0).ownBlock ≠ some j := fun j => by simp [Value.ownBlock]
  have NNO : Hid (∀ j, (Value.slice none 0 0).ownBlock ≠ some j) := nn
  clear RF h hm0 nn
  go_enter Tryd.func77, Tryd.ntmps77
  go_wp2_with fail
  go_loopw [3] (fun v wr => ∃ (j c9 : Nat) (a9 : Option Addr), j ≤ m0 ∧ v = .slice a9 j c9 ∧ NuK a n c T te pe w ga p j (.slice a9 j c9) wr) (fun _ wr => n - ratAt wr ga)
  case atStart => exact ⟨0, 0, none, by omega, rfl, S0.out⟩
  case round =>
    obtain ⟨j, c9, a9, hj, rfl, hK⟩ := hrel
    have HK : Hid (NuK a n c T te pe w ga p j (.slice a9 j c9) wr) := hK
    have CA : Hid (ratAt wr ga = p + j) := hK.1.ratAt
    clear hK S0
    have x0 := cell_at (k := 0) HK.out.2.2.1 rfl
    have x1 := cell_at (k := 1) HK.out.2.2.1 rfl
    go_wp2_with fail
    refine (SE.out _ _ (by omega) HK.out.1).mono ?_
    rintro r w2 ⟨rfl, hb⟩
    have K2 : Hid (NuK a n c T te pe w ga p j (.slice a9 j c9) w2) := ⟨HK.out.1.keep hb, ownsRow_keep HK.out.2.1 hb, by rw [hb.block _ (lt_of_heapA HK.out.2.2.1)]; exact HK.out.2.2.1, HK.out.2.2.2.trans (Chg.of (v := .slice none 0 0) hb) (fun j hj => absurd hj (NNO.out j))⟩
    clear hb x0 x1 HK
    by_cases hlt : j < m0
    · have k1 := RK.out j hlt
      have e1 : (tkK n T (p + j) == 1) = true := by simp [k1]
      have NS : Hid (numsP n T p j ++ [tkN n T (p + j)] = numsP n T p (j + 1)) := by show _ = _; unfold numsP; rw [List.range_succ, List.map_append]; rfl
      have x0 := cell_at (k := 0) K2.out.2.2.1 rfl
      have x1 := cell_at (k := 1) K2.out.2.2.1 rfl
      go_wp2_with fail
      refine (TK.out _ _ k1 (by omega) K2.out.1).mono ?_
      rintro r w3 ⟨rfl, hS, hC⟩
      have lk := lt_of_heapA K2.out.2.2.1
      have I3 : NewInts (w.heap.size + 1) w3 (.slice a9 j c9) (numsP n T p j) := K2.out.2.1.same fun i h1 h2 => hC.block i h2 (by have := LG.out; omega) (NNO.out i)
      have B3 : Hid (w3.heap[w.heap.size]? = some (.cells #[.slice a n c, .pointer (some ⟨ga, 0, none⟩)] 51 (0, 0))) := by show _ = _; rw [hC.block _ lk (by have := LG.out; omega) (NNO.out _)]; exact K2.out.2.2.1
      have C3 : Hid (Chg ga (.slice none 0 0) w w3) := K2.out.2.2.2.trans hC (fun j hj => absurd hj (NNO.out j))
      have S3 : Hid (Rs a n T te pe w3 ga (p + j + 1)) := hS
      generalize tkN n T (p + j) = z at *
      have hba : Below w3.heap.size w3 (w3.alloc (.cells #[.int .i64 z] 3)) := bAlloc (Below.refl _ _) _
      have lb := lt_of_heapA B3.out
      obtain ⟨a8, c8, w9, hr, hI, hg, ho⟩ := growI1 (V := w3.alloc (.cells #[.int .i64 z] 3)) (B := w.heap.size + 1) (o := w3.heap.size) z (heap_alloc_new w3 _) (ownsRow_keep I3 hba) (by simp; omega) (by rw [numsP_len]; omega)
      rw [numsP_len] at hr hI ho
      have own : ∀ i, (Value.slice a9 j c9).ownBlock = some i → w.heap.size + 1 ≤ i := fun i hi => (I3.own i hi).1
      have R9 : Hid (∀ ty, (Builtin.append_ #[65, 65] ty #[.slice a9 j c9, .slice (some ⟨w3.heap.size, 0, none⟩) 1 1]).run Tryd.prog (w3.alloc (.cells #[.int .i64 z] 3)) = .ok (.slice a8 (j + 1) c8) w9) := hr
      have blk : ∀ i, i ≤ w.heap.size → w9.heap[i]? = w3.heap[i]? := fun i hi => by rw [hg.block i (by simp; omega) (fun e => by have := own i e.symm; omega), hba.block i (by omega)]
      have BB : Below (w.heap.size + 1) w3 w9 := ⟨hg.os.trans hba.os, hg.tape.trans hba.tape, hg.output.trans hba.output, Nat.le_trans hba.size hg.size, fun i hi => blk i (by omega)⟩
      have K9 : Hid (NuK a n c T te pe w ga p (j + 1) (.slice a8 (j + 1) c8) w9) := ⟨by
        have := S3.out.chg (BB.mono (by have := LG.out; omega)) (by rw [blk ga (by have := LG.out; omega)]; exact S3.out.at')
        exact this, by rw [← NS.out]; exact hI, by rw [blk _ (Nat.le_refl _)]; exact B3.out, ⟨BB.os.trans C3.out.os, BB.tape.trans C3.out.tape, BB.output.trans C3.out.output, Nat.le_trans C3.out.size BB.size, fun i hi h1 h2 => by rw [blk i (by omega)]; exact C3.out.block i hi h1 h2⟩⟩
      clear hr hI hg ho own hba I3 BB blk S3 B3 C3 hS hC lk lb K2 NS x0 x1
      go_wp2_with (at_builtin; refine wpList_append_run rfl _ _ 65 65 rfl _ _ _ rfl rfl R9.out ?_)
      go_roundw
      case rel => exact ⟨j + 1, c8, a8, by omega, rfl, K9.out⟩
      case measure => rw [CA.out, K9.out.1.ratAt]; omega
    · obtain rfl : j = m0 := by omega
      have e1 : (tkK n T (p + j) == 1) = false := by simpa using RE.out
      go_wp2
      go_ret
      exact ⟨_, rfl, K2.out.2.1, K2.out.1, K2.out.2.2.2⟩
end Go.Proofs.YtnebjnglcfebeaaDoor
