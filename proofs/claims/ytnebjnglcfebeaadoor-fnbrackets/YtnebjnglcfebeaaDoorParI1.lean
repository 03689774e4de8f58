/-
  Walks: the program's reader: must, ahead, sees, take.
-/
import Derived.Test.YtnebjnglcfebeaaDoorParS3
import Derived.WalkLawsBesides
namespace Go.Proofs.YtnebjnglcfebeaaDoor
open Go.RowKit
set_option linter.unusedVariables false
set_option linter.unusedSimpArgs false
/-- The tokens lie below block g. -/
def TokL (w : World) (a : Option Addr) (n : Nat) (T : Nat → Spn) (g : Nat) : Prop := n = 0 ∨ ∃ o off, a = some ⟨o, off, none⟩ ∧ o < g ∧ o < w.heap.size ∧ ∀ i, i < n →
    w.cell? ⟨o, off + i * 2, none⟩ = some (.int .i64 (T i).f) ∧ w.cell? ⟨o, off + i * 2 + 1, none⟩ = some (.int .i64 (T i).t)
theorem TokL.below {w w' : World} {a : Option Addr} {n g : Nat} {T : Nat → Spn} (h : TokL w a n T g) (hb : Below g w w') : TokL w' a n T g := by
  rcases h with h | ⟨o, off, e, hg, ho, h⟩
  · exact .inl h
  · exact .inr ⟨o, off, e, hg, Nat.lt_of_lt_of_le ho hb.size, fun i hi => ⟨(hb.cell (p := ⟨o, off + i * 2, none⟩) hg).trans (h i hi).1, (hb.cell (p := ⟨o, off + i * 2 + 1, none⟩) hg).trans (h i hi).2⟩⟩
theorem TokL.at {w : World} {a : Option Addr} {n g i : Nat} {T : Nat → Spn} (h : TokL w a n T g) (hi : i < n) : ∃ o off, a = some ⟨o, off, none⟩ ∧ o < g ∧ o < w.heap.size ∧ w.cell? ⟨o, off + i * 2, none⟩ = some (.int .i64 (T i).f) ∧ w.cell? ⟨o, off + i * 2 + 1, none⟩ = some (.int .i64 (T i).t) := by
  rcases h with h | ⟨o, off, e, h1, ho, h⟩
  · omega
  · exact ⟨o, off, e, h1, ho, h i hi⟩
/-- What a wrong line is told by. -/
def ErrN (w : World) (te : TypeId) (pe : Value) : Prop := w.cell? ⟨0, 0, none⟩ = some (.iface te pe)
/-- The end of a reading that must not go on. -/
def Pan (te : TypeId) (pe : Value) : Ending := .panicked [{ v := .iface te pe, recovered := false }]
/-- A reader at work. -/
structure Rs (a : Option Addr) (n : Nat) (T : Nat → Spn) (te : TypeId) (pe : Value) (w : World) (ga p : Nat) : Prop where
  at' : w.heap[ga]? = some (.cells #[.int .i64 (p : Int)] 3 (0, 0))
  tok : TokL w a n T ga
  err : ErrN w te pe
  lt : 0 < ga
section
variable {a : Option Addr} {n : Nat} {T : Nat → Spn} {te : TypeId} {pe : Value} {w w' : World} {ga p : Nat}
theorem Rs.lts (h : Rs a n T te pe w ga p) : ga < w.heap.size := lt_of_heapA h.at'
theorem Rs.chg (h : Rs a n T te pe w ga p) (hb : Below ga w w') {q : Nat} (hq : w'.heap[ga]? = some (.cells #[.int .i64 (q : Int)] 3 (0, 0))) : Rs a n T te pe w' ga q :=
  ⟨hq, h.tok.below hb, (hb.cell (p := ⟨0, 0, none⟩) h.lt).trans h.err, h.lt⟩
theorem Rs.keep (h : Rs a n T te pe w ga p) (hb : Below w.heap.size w w') : Rs a n T te pe w' ga p := h.chg (hb.mono (Nat.le_of_lt h.lts)) (by rw [hb.block _ h.lts]; exact h.at')
theorem Rs.c0 (h : Rs a n T te pe w ga p) : w.cell? ⟨ga, 0, none⟩ = some (.int .i64 (p : Int)) := cell_at h.at' rfl
theorem Rs.free (h : Rs a n T te pe w ga p) : w.frozen? ⟨ga, 0, none⟩ = false := free_at h.at' 0
theorem Rs.move (h : Rs a n T te pe w ga p) (q : Nat) : Rs a n T te pe (w.setCell ⟨ga, 0, none⟩ (.int .i64 (q : Int))) ga q := by
  have ww : Win ga (ga + 1) w (w.setCell ⟨ga, 0, none⟩ (.int .i64 (q : Int))) := win_setCell _ _ _ _
  refine h.chg ⟨ww.os, ww.tape, ww.output, ww.size, fun k hk => ww.block k (by have := h.lts; omega) (by omega)⟩ ?_
  have := heap_setCell_same w ga 0 _ _ (.int .i64 (q : Int)) h.at'
  simpa using this
end
theorem two_blocksR (w : World) (A B : Obj) : ((w.alloc A).alloc B).heap[w.heap.size]? = some A ∧ ((w.alloc A).alloc B).heap[w.heap.size + 1]? = some B := by
  have e1 := heap_alloc_new w A
  have e2 := heap_alloc_new (w.alloc A) B
  simp only [World.size_alloc] at e2
  refine ⟨?_, e2⟩
  rw [heap_alloc_old _ _ (by simp only [World.size_alloc]; omega)]; exact e1
theorem results_tok {fn : Func} {p : Tmp} (h : fn.results = #[.cell p 40]) (tmps : Array Value) (w : World) (g : Nat) (x y : Value) (hp : tmps.getD p undef = .pointer (some ⟨g, 0, none⟩))
    (hg : w.heap[g]? = some (.cells #[x, y] 40 (0, 0))) : (results fn tmps).run Tryd.prog w = .ok (.agg #[x, y]) w := by
  have e : (asAddr (.pointer (some ⟨g, 0, none⟩))).run Tryd.prog w = .ok ⟨g, 0, none⟩ w := by simp [asAddr]
  have c0 : w.cell? ⟨g, 0, none⟩ = some x := cell_at hg rfl
  have c1 : w.cell? ⟨g, 1, none⟩ = some y := cell_at hg rfl
  have l : (loadVar 40 ⟨g, 0, none⟩).run Tryd.prog w = .ok (.agg #[x, y]) w := by simp [loadVar, go_sem, c0, c1]
  have hp' : tmps[p]?.getD undef = .pointer (some ⟨g, 0, none⟩) := by simpa using hp
  simp [results, h, hp', e, l, Sem.run_bind, Result.andThen]
set_option maxRecDepth 20000 in
set_option maxHeartbeats 4000000 in
theorem must_true (w : World) : Calls Tryd.prog 42 #[.bool true] w fun e w' => e = .returned (.tuple #[]) ∧ w' = w := by
  go_enter Tryd.func42, Tryd.ntmps42
  go_wp2
  go_end0
  exact ⟨rfl, rfl⟩
set_option maxRecDepth 20000 in
set_option maxHeartbeats 4000000 in
theorem must_false {w : World} {te : TypeId} {pe : Value} (h : ErrN w te pe) : Calls Tryd.prog 42 #[.bool false] w fun e w' => e = Pan te pe ∧ w' = w := by
  unfold ErrN at h
  unfold Pan
  go_enter Tryd.func42, Tryd.ntmps42
  go_wp2
  exact ⟨rfl, rfl, rfl⟩
set_option maxRecDepth 20000 in
set_option maxHeartbeats 4000000 in
/-- The token ahead. -/
theorem ahead_impl {a : Option Addr} {n c : Nat} {T : Nat → Spn} {te : TypeId} {pe : Value} {w : World} {ga p : Nat} (h : Rs a n T te pe w ga p) (j : Nat) (hn : n ≤ 1048576) (hp : p ≤ 1048576) (hj : j ≤ 10) :
    Calls Tryd.prog 62 #[.agg #[.slice a n c, .pointer (some ⟨ga, 0, none⟩)], .int .i64 (j : Int)] w fun e w' => e = .returned (.agg #[.int .i64 (tkK n T (p + j)), .int .i64 (tkN n T (p + j))]) ∧ Below w.heap.size w w' := by
  have c0 := h.c0
  have hg := h.lts
  have wj : IntKind.i64.wrap ((p : Int) + (j : Int)) = (p : Int) + (j : Int) := by rw [IntKind.wrap_i64]; omega
  by_cases hlt : p + j < n
  · rw [tkK_at hlt, tkN_at hlt]
    obtain ⟨o, off, rfl, ho, hos, q1, q2⟩ := h.tok.at hlt
    have i1 : (p : Int) + (j : Int) < (n : Int) := by omega
    have i3 : (0 : Int) ≤ (p : Int) + (j : Int) := by omega
    have i5 : ((p : Int) + (j : Int)).toNat = p + j := by omega
    generalize (T (p + j)).f = x at *
    generalize (T (p + j)).t = y at *
    clear h
    go_enter Tryd.func62, Tryd.ntmps62
    go_wp2
    refine bodyPost_ret (results_tok Tryd.results62 _ _ (w.heap.size + 1) _ _ rfl (two_blocksR w _ _).2) rfl ?_
    exact ⟨rfl, bAlloc (bAlloc (Below.refl _ _) _) _⟩
  · rw [tkK_out (by omega), tkN_out (by omega)]
    have i1 : ¬ ((p : Int) + (j : Int) < (n : Int)) := by omega
    clear h
    go_enter Tryd.func62, Tryd.ntmps62
    go_wp2
    refine bodyPost_ret (results_tok Tryd.results62 _ _ (w.heap.size + 1) _ _ rfl (two_blocksR w _ _).2) rfl ?_
    exact ⟨rfl, bAlloc (bAlloc (Below.refl _ _) _) _⟩
theorem fld0 (x y : Value) (W : World) : (Instr.field 40 (.agg #[x, y]) 0).run Tryd.prog W = .ok x W := by kernel_rfl
theorem fld1 (x y : Value) (W : World) : (Instr.field 40 (.agg #[x, y]) 1).run Tryd.prog W = .ok y W := by kernel_rfl
set_option maxRecDepth 20000 in
set_option maxHeartbeats 4000000 in
/-- Whether the next token is of a kind. -/
theorem sees_impl {a : Option Addr} {n c : Nat} {T : Nat → Spn} {te : TypeId} {pe : Value} {w : World} {ga p : Nat} (h : Rs a n T te pe w ga p) (K : Int) (hn : n ≤ 1048576) (hp : p ≤ 1048576) :
    Calls Tryd.prog 61 #[.agg #[.slice a n c, .pointer (some ⟨ga, 0, none⟩)], .int .i64 K] w fun e w' => e = .returned (.bool (tkK n T p == K)) ∧ Below w.heap.size w w' := by
  have AH : Hid (∀ W, Below w.heap.size w W → Calls Tryd.prog 62 #[.agg #[.slice a n c, .pointer (some ⟨ga, 0, none⟩)], .int .i64 0] W fun e w' => e = .returned (.agg #[.int .i64 (tkK n T p), .int .i64 (tkN n T p)]) ∧ Below W.heap.size W w') := fun W hb => ahead_impl (h.keep hb) 0 hn hp (by decide)
  clear h
  generalize tkK n T p = x at *
  generalize tkN n T p = y at *
  have fl0 := fld0
  go_enter Tryd.func61, Tryd.ntmps61
  go_wp2_with fail
  refine (AH.out _ (bAlloc (Below.refl _ _) _)).mono ?_
  rintro r w1 ⟨rfl, hb⟩
  have B1 : Hid (Below w.heap.size w w1) := bTrans (bAlloc (Below.refl _ _) _) hb
  clear hb AH
  go_wp2
  go_ret
  exact ⟨rfl, B1.out⟩
set_option maxRecDepth 20000 in
set_option maxHeartbeats 4000000 in
/-- The next token is taken. -/
theorem take_impl {a : Option Addr} {n c : Nat} {T : Nat → Spn} {te : TypeId} {pe : Value} {w : World} {ga p : Nat} (h : Rs a n T te pe w ga p) (K : Int) (hk : tkK n T p = K) (hn : n ≤ 1048576) (hp : p ≤ 1048575) :
    Calls Tryd.prog 63 #[.agg #[.slice a n c, .pointer (some ⟨ga, 0, none⟩)], .int .i64 K] w fun e w' => e = .returned (.int .i64 (tkN n T p)) ∧ Rs a n T te pe w' ga (p + 1) ∧ Chg ga (.slice none 0 0) w w' := by
  have H : Hid (Rs a n T te pe w ga p) := h
  have SE : Hid (∀ W, Below w.heap.size w W → Calls Tryd.prog 61 #[.agg #[.slice a n c, .pointer (some ⟨ga, 0, none⟩)], .int .i64 K] W fun e w' => e = .returned (.bool true) ∧ Below W.heap.size W w') := fun W hb => by
    have := sees_impl (c := c) (h.keep hb) K hn (by omega)
    rw [hk, show (K == K) = true by simp] at this
    exact this
  have AH : Hid (∀ W, Below w.heap.size w W → Calls Tryd.prog 62 #[.agg #[.slice a n c, .pointer (some ⟨ga, 0, none⟩)], .int .i64 0] W fun e w' => e = .returned (.agg #[.int .i64 (tkK n T p), .int .i64 (tkN n T p)]) ∧ Below W.heap.size W w') := fun W hb => ahead_impl (h.keep hb) 0 hn (by omega) (by decide)
  have BA : Hid (Below w.heap.size w (w.alloc (.cells #[.slice a n c, .pointer (some ⟨ga, 0, none⟩)] 51))) := bAlloc (Below.refl _ _) _
  have HB : Hid ((w.alloc (.cells #[.slice a n c, .pointer (some ⟨ga, 0, none⟩)] 51)).heap[w.heap.size]? = some (.cells #[.slice a n c, .pointer (some ⟨ga, 0, none⟩)] 51 (0, 0))) := heap_alloc_new _ _
  have wp : IntKind.i64.wrap ((p : Int) + 1) = ((p + 1 : Nat) : Int) := by rw [IntKind.wrap_i64]; omega
  have LG : Hid (ga < w.heap.size) := h.lts
  clear h hk
  generalize tkK n T p = x at *
  generalize tkN n T p = y at *
  have fl1 := fld1
  go_enter Tryd.func63, Tryd.ntmps63
  go_wp2_with fail
  refine (SE.out _ BA.out).mono ?_
  rintro r w1 ⟨rfl, hb⟩
  have B1 : Hid (Below w.heap.size w w1) := bTrans BA.out hb
  have H1 : Hid (w1.heap[w.heap.size]? = some (.cells #[.slice a n c, .pointer (some ⟨ga, 0, none⟩)] 51 (0, 0))) := by show _ = _; rw [hb.block _ (lt_of_heapA HB.out)]; exact HB.out
  clear hb SE BA HB
  have c0 := cell_at (k := 0) H1.out rfl
  have c1 := cell_at (k := 1) H1.out rfl
  go_wp2_with fail
  refine (must_true _).mono ?_
  rintro r w' ⟨rfl, hw⟩
  subst w'
  go_wp2_with fail
  refine (AH.out _ B1.out).mono ?_
  rintro r w2 ⟨rfl, hb⟩
  have B2 : Hid (Below w.heap.size w w2) := bTrans B1.out hb
  have H2 : Hid (w2.heap[w.heap.size]? = some (.cells #[.slice a n c, .pointer (some ⟨ga, 0, none⟩)] 51 (0, 0))) := by show _ = _; rw [hb.block _ (lt_of_heapA H1.out)]; exact H1.out
  clear hb AH H1 c0 c1 B1
  have S2 : Hid (Rs a n T te pe w2 ga p) := H.out.keep B2.out
  have c1 := cell_at (k := 1) H2.out rfl
  have d0 := S2.out.c0
  have df := S2.out.free
  clear H2
  go_wp2
  go_ret
  exact ⟨rfl, S2.out.move (p + 1), (Chg.of B2.out).set _⟩
set_option maxRecDepth 20000 in
set_option maxHeartbeats 4000000 in
/-- The next token is not of that kind. -/
theorem take_bad {a : Option Addr} {n c : Nat} {T : Nat → Spn} {te : TypeId} {pe : Value} {w : World} {ga p : Nat} (h : Rs a n T te pe w ga p) (K : Int) (hk : tkK n T p ≠ K) (hn : n ≤ 1048576) (hp : p ≤ 1048575) :
    Calls Tryd.prog 63 #[.agg #[.slice a n c, .pointer (some ⟨ga, 0, none⟩)], .int .i64 K] w fun e w' => e = Pan te pe ∧ Below w.heap.size w w' := by
  have SE : Hid (∀ W, Below w.heap.size w W → Calls Tryd.prog 61 #[.agg #[.slice a n c, .pointer (some ⟨ga, 0, none⟩)], .int .i64 K] W fun e w' => e = .returned (.bool false) ∧ Below W.heap.size W w') := fun W hb => by
    have := sees_impl (c := c) (h.keep hb) K hn (by omega)
    rw [show (tkK n T p == K) = false by simpa using hk] at this
    exact this
  have MF : Hid (∀ W, Below w.heap.size w W → Calls Tryd.prog 42 #[.bool false] W fun e w' => e = Pan te pe ∧ w' = W) := fun W hb => must_false (h.keep hb).err
  clear h hk
  go_enter Tryd.func63, Tryd.ntmps63
  go_wp2_with fail
  refine (SE.out _ (bAlloc (Below.refl _ _) _)).mono ?_
  rintro r w1 ⟨rfl, hb⟩
  have B1 : Hid (Below w.heap.size w w1) := bTrans (bAlloc (Below.refl _ _) _) hb
  clear hb SE
  go_wp2_with fail
  refine (MF.out _ B1.out).mono ?_
  rintro r w' ⟨rfl, hw⟩
  subst w'
  clear MF
  unfold Pan
  go_wp2
  exact ⟨rfl, rfl, B1.out⟩
end Go.Proofs.YtnebjnglcfebeaaDoor
