/-
  Walks: the program's copies: copiedList, copyOf.
-/
import Derived.Test.YtkhcphkdcjimiaaGreatArr
import Derived.Test.YtkhcphkdcjimiaaGreatAppend
import Derived.Test.YtkhcphkdcjimiaaGreatLaw3
import Derived.Test.YtkhcphkdcjimiaaGreatImplShape0
namespace Go.Proofs.YtkhcphkdcjimiaaGreat
open Go.RowKit
set_option linter.unusedVariables false
set_option linter.unusedSimpArgs false
set_option maxRecDepth 20000 in
/-- Out of a list into a new one of its length. -/
theorem copy_all {w : World} {a : Option Addr} {l : List Int} (h1 : Ints w a l) (ty : TypeId) (d : Nat) (Z : Array Value) (hZ : Z.size = l.length) :
    (Builtin.copy_ #[27, 27] ty #[.slice (some ⟨w.heap.size, 0, none⟩) l.length l.length, .slice a l.length d]).run Tryz.prog (w.alloc (.cells Z 3)) =
      .ok (.int .i64 l.length) (w.alloc (.cells (vals l) 3)) := by
  by_cases h0 : l.length = 0
  · obtain rfl : l = [] := List.eq_nil_of_length_eq_zero h0
    have e : Z = vals [] := by simp at hZ; simp [vals, hZ]
    rw [e]
    exact run_copy_none (P := Tryz.prog) _ 27 27 ty 3 _ _ _ _ _ _ Tryz.underlying27 int_size rfl
  · rcases h1 with rfl | ⟨b, off, rfl, hb, hc⟩
    · exact absurd rfl h0
    · have hg : (w.alloc (.cells Z 3)).heap[w.heap.size]? = some (.cells Z 3 (0, 0)) := heap_alloc_new _ _
      have hc' : ∀ k, k < l.length → (w.alloc (.cells Z 3)).cell? ⟨b, off + k, none⟩ = some (.int .i64 (l.getD k 0)) := by
        intro k hk
        rw [(bAlloc (Below.refl w.heap.size w) _).cell (p := ⟨b, off + k, none⟩) hb]
        exact hc k hk
      have q := run_copy_row Tryz.prog (w.alloc (.cells Z 3)) 27 27 ty 3 w.heap.size 0 l.length l.length ⟨b, off, none⟩ l.length d Z 3 (l.map (Value.int .i64)) Tryz.underlying27 int_size hg (by rw [List.length_map]; simp) (ints_src hc') (by simp; omega) (by intro v hv; obtain ⟨x, _, rfl⟩ := List.mem_map.1 hv; rfl)
      rw [q, setRow_last, List.length_map]
      congr 3
      simp [vals, hZ]
set_option maxHeartbeats 1000000 in
/-- copiedList: a copy in new memory. -/
theorem copied_impl {l : List Int} {a : Option Addr} {w : World} (c : Nat) (h1 : Ints w a l) (hl : l.length ≤ 1048576) :
    Calls Tryz.prog 26 #[.slice a l.length c] w fun e w' => e = .returned (.slice (some ⟨w.heap.size, 0, none⟩) l.length l.length) ∧ w' = w.alloc (.cells (vals l) 3) := by
  have hmk : ∀ w, (Instr.makeSlice 27 (.int .i64 (l.length : Int)) (.int .i64 (l.length : Int))).run Tryz.prog w = .ok (.slice (some ⟨w.heap.size, 0, none⟩) l.length l.length) (w.alloc (.cells (vals (List.replicate l.length 0)) 3)) := fun w => make_ints l.length (by omega) w
  have hcp : (Builtin.copy_ #[27, 27] 3 #[.slice (some ⟨w.heap.size, 0, none⟩) l.length l.length, .slice a l.length c]).run Tryz.prog (w.alloc (.cells (vals (List.replicate l.length 0)) 3)) = .ok (.int .i64 l.length) (w.alloc (.cells (vals l) 3)) := copy_all h1 _ c _ (by simp [vals])
  clear h1
  go_enter Tryz.func26, Tryz.ntmps26
  go_wp2
  go_ret
  exact ⟨rfl, rfl⟩
/-- copiedList, as a contract on values. -/
theorem copied_new {l : List Int} {w : World} {v : Value} (h : IntsI w v l) (hl : l.length ≤ 1048576) :
    Calls Tryz.prog 26 #[v] w fun e w' => ∃ a' c', e = .returned (.slice a' l.length c') ∧ Piece w.heap.size w'.heap.size w' (.slice a' l.length c') l ∧ Below w.heap.size w w' := by
  obtain ⟨a, c, rfl, _, i⟩ := h
  refine (copied_impl c i hl).mono ?_
  rintro e w' ⟨rfl, rfl⟩
  exact ⟨_, _, rfl, OwnInts.piece (ownInts_new w l) (Nat.le_refl _) (by simp) _, bAlloc (Below.refl _ _) _⟩
set_option maxRecDepth 20000 in
set_option maxHeartbeats 4000000 in
/-- copyOf. -/
theorem copyOf_impl {s d : List Int} {w : World} {v : Value} (h : ArrI w v s d) (hs : s.length ≤ 1048576) (hd : d.length ≤ 1048576) :
    Calls Tryz.prog 15 #[v] w fun e w' => ∃ v', e = .returned v' ∧ Arr w.heap.size w'.heap.size w' v' s d ∧ Below w.heap.size w w' := by
  obtain ⟨a, c, b, e, rfl, h1, h2, g1, g2⟩ := h
  have H1 : Hid (IntsI w (.slice a s.length c) s) := ⟨a, c, rfl, g1, h1⟩
  have H2 : Hid (IntsI w (.slice b d.length e) d) := ⟨b, e, rfl, g2, h2⟩
  have HS : Hid (s.length ≤ 1048576) := hs
  have HD : Hid (d.length ≤ 1048576) := hd
  clear h1 h2 g1 g2 hs hd
  go_enter Tryz.func15, Tryz.ntmps15
  go_wp2
  generalize hW : (w.alloc (.cells #[.slice a s.length c, .slice b d.length e] 29)).alloc (.cells #[.slice none 0 0, .slice none 0 0] 29) = W
  have HBW : Hid (Below w.heap.size w W) := by rw [← hW]; exact bAlloc (bAlloc (Below.refl _ _) _) _
  have X : Hid (Box W w.heap.size (.slice a s.length c) (.slice b d.length e) 29) := by rw [← hW]; exact heap_alloc2_old w _ _
  have Y : Hid (Box W (w.heap.size + 1) (.slice none 0 0) (.slice none 0 0) 29) := by rw [← hW]; exact heap_alloc2_new w _ _
  have LW : Hid (w.heap.size + 1 < W.heap.size) := Y.out.lt
  clear hW
  have x0 := X.out.c0
  have x1 := X.out.c1
  go_region_held3 (fun w' => w'.cell? ⟨w.heap.size, 0, none⟩ = some (.slice a s.length c) ∧ w'.cell? ⟨w.heap.size, 1, none⟩ = some (.slice b d.length e))
    (first | exact ⟨z0 _ _, z1 _ _⟩ | exact ⟨y0, y1⟩ | exact ⟨v0, v1⟩ | exact ⟨x0, x1⟩)
    (first
      | (go_at_call_of 26 (Value.slice a s.length c); refine (copied_new (H1.out.keep (bTrans HBW.out ((Below.refl W.heap.size W).drew))) HS.out).mono ?_; rintro r w1 ⟨ax, cx, rfl, ha, hb⟩; have PX : Hid (Piece W.heap.size w1.heap.size w1 (.slice ax s.length cx) s) := ha; have HB1 : Hid (Below W.heap.size W w1) := bTrans ((Below.refl W.heap.size W).drew) hb; have v0 := (X.out.keep HB1.out).c0; have v1 := (X.out.keep HB1.out).c1; clear ha hb)
      | (go_at_call_of 26 (Value.slice b d.length e); refine (copied_new (H2.out.keep (bTrans HBW.out HB1.out)) HD.out).mono ?_; rintro r w2 ⟨ay, cy, rfl, ha, hb⟩; have PY : Hid (Piece w1.heap.size w2.heap.size w2 (.slice ay d.length cy) d) := ha; have PX2 : Hid (Piece W.heap.size w1.heap.size w2 (.slice ax s.length cx) s) := PX.out.keep hb; have S12 : Hid (w1.heap.size ≤ w2.heap.size) := hb.size; have HB2 : Hid (Below W.heap.size W w2) := bTrans HB1.out hb; have y0 := (X.out.keep HB2.out).c0; have y1 := (X.out.keep HB2.out).c1; have q0 := (Y.out.keep HB2.out).c0; have q1 := (Y.out.keep HB2.out).c1; have f0 : w2.frozen? ⟨w.heap.size + 1, 0, none⟩ = false := free_at (Y.out.keep HB2.out) 0; have f1 : w2.frozen? ⟨w.heap.size + 1, 1, none⟩ = false := free_at (Y.out.keep HB2.out) 1; have z : ∀ u v, Box ((w2.setCell ⟨w.heap.size + 1, 0, none⟩ u).setCell ⟨w.heap.size + 1, 1, none⟩ v) w.heap.size (.slice a s.length c) (.slice b d.length e) 29 := (fun u v => ((X.out.keep HB2.out).win (win_setCell _ _ _ _) (.inl (Nat.lt_succ_self _))).win (win_setCell _ _ _ _) (.inl (Nat.lt_succ_self _))); have z0 := (fun u v => (z u v).c0); have z1 := (fun u v => (z u v).c1); have HR : Hid (((w2.setCell ⟨w.heap.size + 1, 0, none⟩ (.slice ax s.length cx)).setCell ⟨w.heap.size + 1, 1, none⟩ (.slice ay d.length cy)).heap[w.heap.size + 1]? = some (.cells #[.slice ax s.length cx, .slice ay d.length cy] 29 (0, 0))) := arr_stored (Y.out.keep HB2.out); clear ha hb z))
  go_wp2
  refine bodyPost_ret (v := .agg #[.slice ax s.length cx, .slice ay d.length cy]) (results_arr rfl _ _ (w.heap.size + 1) _ _ rfl HR.out) rfl ?_
  refine ⟨_, rfl, ?_, below_setCell (below_setCell (bTrans HBW.out HB2.out) (by omega) _ _) (by omega) _ _⟩
  have S1 := HB1.out.size
  have S2 := S12.out
  have S3 := LW.out
  have A : Arr W.heap.size w2.heap.size w2 (.agg #[.slice ax s.length cx, .slice ay d.length cy]) s d := ⟨_, _, rfl, PX2.out.mono (Nat.le_refl _) S12.out, PY.out.mono S1 (Nat.le_refl _), PX2.out.apart PY.out (.inl (Nat.le_refl _))⟩
  exact ((A.setCell S3 _ _).setCell S3 _ _).mono (by omega) (by simp [size_setCell])
end Go.Proofs.YtkhcphkdcjimiaaGreat
