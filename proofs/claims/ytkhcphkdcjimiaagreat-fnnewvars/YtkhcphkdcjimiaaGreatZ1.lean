/-
  Several walks, one behind the other: TreeI, Arrs, RowsM, MakeM, EachM, EachP, CutI, CutJ, TreeI2, SameA, NewV, NewW.
-/
import Derived.Test.YtkhcphkdcjimiaaGreatTreeM
import Derived.Test.YtkhcphkdcjimiaaGreatTreeQ
import Derived.Test.YtkhcphkdcjimiaaGreatCodeI
import Derived.Test.YtkhcphkdcjimiaaGreatLaw3
import Derived.Test.YtkhcphkdcjimiaaGreatArrM
import Derived.Test.YtkhcphkdcjimiaaGreatAppend
import Derived.Test.YtkhcphkdcjimiaaGreatImplShape0
import Derived.Laws.CopyOwn
import Derived.Test.YtkhcphkdcjimiaaGreatGrow
import Derived.Test.YtkhcphkdcjimiaaGreatImplArr1
import Derived.Test.YtkhcphkdcjimiaaGreatSpecArr
import Derived.Test.YtkhcphkdcjimiaaGreatVarsN
import Derived.Test.YtkhcphkdcjimiaaGreatVarsR
import Derived.Test.YtkhcphkdcjimiaaGreatVarsI2
import Derived.Maps.AppendAt
import Derived.Lib.BufferMore
namespace Go.Proofs.YtkhcphkdcjimiaaGreat
open Go.RowKit
set_option linter.unusedVariables false
set_option linter.unusedSimpArgs false
section
variable {e1 e2 e3 e4 e5 : Int} {l : List Int} {w : World} {xa : Option Addr} {xc : Nat}
set_option maxRecDepth 20000 in
set_option maxHeartbeats 8000000 in
theorem nodeOk1 (h : IntsI w (.slice xa l.length xc) l) (hl : l.length ≤ 1048576) : Calls Tryz.prog 20 #[.agg #[.int .i64 1, .int .i64 e1, .int .i64 e2, .int .i64 e3, .int .i64 e4, .int .i64 e5, .slice xa l.length xc]] w fun r w' => r = .returned (.bool (decide (e1 = 0) && decide (e2 = 0) && noFun e3 e4 e5 && numsB l)) ∧ Below w.heap.size w w' := by
  obtain ⟨_, _, ev, _, hi⟩ := h
  cases ev
  have HN : Hid (∀ W, Below w.heap.size w W → Calls Tryz.prog 30 #[.slice xa l.length xc] W fun e w' => e = .returned (.bool (numsB l)) ∧ w' = W) := fun W hb => numsOk_impl xc (hi.keep hb) hl
  clear hi
  generalize numsB l = q at *
  go_enter Tryz.func20, Tryz.ntmps20
  go_wp2_with (go_at_call 30; refine (HN.out _ one_below).mono ?_; rintro r w1 ⟨rfl, hw⟩; subst w1)
  all_goals
    go_ret
    refine ⟨ret_bool ?_, one_below⟩
    simp_all [noFun]
set_option maxRecDepth 20000 in
set_option maxHeartbeats 8000000 in
theorem nodeOk2 (h : IntsI w (.slice xa l.length xc) l) (hl : l.length ≤ 1048576) : Calls Tryz.prog 20 #[.agg #[.int .i64 2, .int .i64 e1, .int .i64 e2, .int .i64 e3, .int .i64 e4, .int .i64 e5, .slice xa l.length xc]] w fun r w' => r = .returned (.bool (decide (0 ≤ e1 ∧ e1 ≤ 25) && decide (e2 = 0) && noFun e3 e4 e5 && decide (l.length = 0))) ∧ Below w.heap.size w w' := by
  clear h
  generalize l.length = n at *
  have HI : Hid (∀ W, Calls Tryz.prog 31 #[.int .i64 e1] W fun r w' => r = .returned (.bool (decide (0 ≤ e1 ∧ e1 ≤ 25))) ∧ w' = W) := fun W => isLetter_impl e1 W
  generalize decide (0 ≤ e1 ∧ e1 ≤ 25) = q at *
  cases q
  · go_enter Tryz.func20, Tryz.ntmps20
    go_wp2_with (go_at_call 31; refine (HI.out _).mono ?_; rintro r w1 ⟨rfl, hw⟩; subst w1)
    all_goals
      go_ret
      exact ⟨by simp, one_below⟩
  · go_enter Tryz.func20, Tryz.ntmps20
    go_wp2_with (go_at_call 31; refine (HI.out _).mono ?_; rintro r w1 ⟨rfl, hw⟩; subst w1)
    all_goals
      go_ret
      refine ⟨ret_bool ?_, one_below⟩
      first | (simp_all [noFun]; done) | (simp_all [noFun]; rw [Bool.eq_iff_iff]; simp; done) | (simp_all [noFun]; rw [Bool.eq_iff_iff]; simp; omega)
set_option maxRecDepth 20000 in
set_option maxHeartbeats 8000000 in
theorem nodeOk3 (h : IntsI w (.slice xa l.length xc) l) (hl : l.length ≤ 1048576) : Calls Tryz.prog 20 #[.agg #[.int .i64 3, .int .i64 e1, .int .i64 e2, .int .i64 e3, .int .i64 e4, .int .i64 e5, .slice xa l.length xc]] w fun r w' => r = .returned (.bool (decide (0 ≤ e1 ∧ e1 ≤ 25) && noFun e3 e4 e5 && decide (l.length = 0))) ∧ Below w.heap.size w w' := by
  clear h
  generalize l.length = n at *
  have HI : Hid (∀ W, Calls Tryz.prog 31 #[.int .i64 e1] W fun r w' => r = .returned (.bool (decide (0 ≤ e1 ∧ e1 ≤ 25))) ∧ w' = W) := fun W => isLetter_impl e1 W
  generalize decide (0 ≤ e1 ∧ e1 ≤ 25) = q at *
  cases q
  · go_enter Tryz.func20, Tryz.ntmps20
    go_wp2_with (go_at_call 31; refine (HI.out _).mono ?_; rintro r w1 ⟨rfl, hw⟩; subst w1)
    all_goals
      go_ret
      exact ⟨by simp, one_below⟩
  · go_enter Tryz.func20, Tryz.ntmps20
    go_wp2_with (go_at_call 31; refine (HI.out _).mono ?_; rintro r w1 ⟨rfl, hw⟩; subst w1)
    all_goals
      go_ret
      refine ⟨ret_bool ?_, one_below⟩
      first | (simp_all [noFun]; done) | (simp_all [noFun]; rw [Bool.eq_iff_iff]; simp; done) | (simp_all [noFun]; rw [Bool.eq_iff_iff]; simp; omega)
set_option maxRecDepth 20000 in
set_option maxHeartbeats 8000000 in
theorem nodeOk4 (h : IntsI w (.slice xa l.length xc) l) (hl : l.length ≤ 1048576) : Calls Tryz.prog 20 #[.agg #[.int .i64 4, .int .i64 e1, .int .i64 e2, .int .i64 e3, .int .i64 e4, .int .i64 e5, .slice xa l.length xc]] w fun r w' => r = .returned (.bool (decide (e1 = 0) && funOneB e3 e4 e5 && decide (l.length = 0))) ∧ Below w.heap.size w w' := by
  clear h
  generalize l.length = n at *
  by_cases h1 : e1 = 0
  · subst h1
    have HF : Hid (∀ W, Calls Tryz.prog 32 #[.agg #[.int .i64 e3, .int .i64 e4, .int .i64 e5]] W fun e w' => e = .returned (.bool (funOneB e3 e4 e5)) ∧ Below W.heap.size W w') := fun W => funOne_impl _ _ _ _
    generalize funOneB e3 e4 e5 = q at *
    go_enter Tryz.func20, Tryz.ntmps20
    go_wp2_with fail
    refine (HF.out _).mono ?_
    rintro r w1 ⟨rfl, hb⟩
    have B1 : Hid (Below w.heap.size w w1) := bTrans one_below hb
    have c6 : w1.cell? ⟨w.heap.size, 6, none⟩ = some (.slice xa n xc) := (hb.cell (p := ⟨w.heap.size, 6, none⟩) (by simp)).trans (cell_at (heap_alloc_new w (.cells #[.int .i64 4, .int .i64 0, .int .i64 e2, .int .i64 e3, .int .i64 e4, .int .i64 e5, .slice xa n xc] 35)) rfl)
    clear hb HF
    cases q
    · go_wp2
      go_ret
      exact ⟨by simp, B1.out⟩
    · go_wp2
      all_goals
        go_ret
        refine ⟨ret_bool ?_, B1.out⟩
        first | (simp_all [noFun]; done) | (simp_all [noFun]; rw [Bool.eq_iff_iff]; simp; done) | (simp_all [noFun]; rw [Bool.eq_iff_iff]; simp; omega)
  · have b1 : (e1 == 0) = false := by simpa using h1
    have d1 : decide (e1 = 0) = false := decide_eq_false h1
    rw [d1]
    clear h1
    go_enter Tryz.func20, Tryz.ntmps20
    go_wp2
    go_ret
    exact ⟨by simp, one_below⟩
set_option maxRecDepth 20000 in
set_option maxHeartbeats 8000000 in
theorem nodeOk5 (h : IntsI w (.slice xa l.length xc) l) (hl : l.length ≤ 1048576) : Calls Tryz.prog 20 #[.agg #[.int .i64 5, .int .i64 e1, .int .i64 e2, .int .i64 e3, .int .i64 e4, .int .i64 e5, .slice xa l.length xc]] w fun r w' => r = .returned (.bool (funTwoB e3 e4 e5 && decide (l.length = 0))) ∧ Below w.heap.size w w' := by
  clear h
  generalize l.length = n at *
  have HF : Hid (∀ W, Calls Tryz.prog 33 #[.agg #[.int .i64 e3, .int .i64 e4, .int .i64 e5]] W fun e w' => e = .returned (.bool (funTwoB e3 e4 e5)) ∧ Below W.heap.size W w') := fun W => funTwo_impl _ _ _ _
  generalize funTwoB e3 e4 e5 = q at *
  go_enter Tryz.func20, Tryz.ntmps20
  go_wp2_with fail
  refine (HF.out _).mono ?_
  rintro r w1 ⟨rfl, hb⟩
  have B1 : Hid (Below w.heap.size w w1) := bTrans one_below hb
  have c6 : w1.cell? ⟨w.heap.size, 6, none⟩ = some (.slice xa n xc) := (hb.cell (p := ⟨w.heap.size, 6, none⟩) (by simp)).trans (cell_at (heap_alloc_new w (.cells #[.int .i64 5, .int .i64 e1, .int .i64 e2, .int .i64 e3, .int .i64 e4, .int .i64 e5, .slice xa n xc] 35)) rfl)
  clear hb HF
  cases q
  · go_wp2
    go_ret
    exact ⟨by simp, B1.out⟩
  · go_wp2
    all_goals
      go_ret
      refine ⟨ret_bool ?_, B1.out⟩
      first | (simp_all [noFun]; done) | (simp_all [noFun]; rw [Bool.eq_iff_iff]; simp; done) | (simp_all [noFun]; rw [Bool.eq_iff_iff]; simp; omega)
set_option maxRecDepth 20000 in
set_option maxHeartbeats 8000000 in
theorem nodeOk0 {e0 : Int} (h1 : e0 ≠ 1) (h2 : e0 ≠ 2) (h3 : e0 ≠ 3) (h4 : e0 ≠ 4) (h5 : e0 ≠ 5) : Calls Tryz.prog 20 #[.agg #[.int .i64 e0, .int .i64 e1, .int .i64 e2, .int .i64 e3, .int .i64 e4, .int .i64 e5, .slice xa l.length xc]] w fun r w' => r = .returned (.bool false) ∧ Below w.heap.size w w' := by
  have b1 : (e0 == 1) = false := by simpa using h1
  have b2 : (e0 == 2) = false := by simpa using h2
  have b3 : (e0 == 3) = false := by simpa using h3
  have b4 : (e0 == 4) = false := by simpa using h4
  have b5 : (e0 == 5) = false := by simpa using h5
  clear h1 h2 h3 h4 h5
  go_enter Tryz.func20, Tryz.ntmps20
  go_wp2
  go_ret
  exact ⟨rfl, one_below⟩
end
/-- The program's nodeOk. -/
theorem nodeOk_impl (e : Nat → Int) {l : List Int} {w : World} {xa : Option Addr} {xc : Nat} (h : IntsI w (.slice xa l.length xc) l) (hl : l.length ≤ 1048576) : Calls Tryz.prog 20 #[.agg #[.int .i64 (e 0), .int .i64 (e 1), .int .i64 (e 2), .int .i64 (e 3), .int .i64 (e 4), .int .i64 (e 5), .slice xa l.length xc]] w fun r w' => r = .returned (.bool (nodeB e l)) ∧ Below w.heap.size w w' := by
  unfold nodeB
  by_cases h1 : e 0 = 1
  · rw [if_pos h1, h1]; exact nodeOk1 h hl
  rw [if_neg h1]
  by_cases h2 : e 0 = 2
  · rw [if_pos h2, h2]; exact nodeOk2 h hl
  rw [if_neg h2]
  by_cases h3 : e 0 = 3
  · rw [if_pos h3, h3]; exact nodeOk3 h hl
  rw [if_neg h3]
  by_cases h4 : e 0 = 4
  · rw [if_pos h4, h4]; exact nodeOk4 h hl
  rw [if_neg h4]
  by_cases h5 : e 0 = 5
  · rw [if_pos h5, h5]; exact nodeOk5 h hl
  rw [if_neg h5]
  exact nodeOk0 h1 h2 h3 h4 h5
theorem ints_new2 (w : World) (A : Obj) (l : List Int) (t : TypeId) : Ints ((w.alloc A).alloc (.cells (vals l) t)) (some ⟨w.heap.size + 1, 0, none⟩) l := by
  have := ints_new (w.alloc A) l t
  rwa [World.size_alloc] at this
/-- What takenBy answers. -/
def TakPost (w : World) (L : List Int) (r : Ending) (w' : World) : Prop := ∃ a c, r = .returned (.slice a L.length c) ∧ Ints w' a L ∧ Below w.heap.size w w'
section
variable {e0 e1 e2 e3 e4 e5 : Int} {n : Nat} {w : World} {xa : Option Addr} {xc : Nat}
set_option maxRecDepth 20000 in
set_option maxHeartbeats 8000000 in
theorem taken3 : Calls Tryz.prog 19 #[.agg #[.int .i64 3, .int .i64 e1, .int .i64 e2, .int .i64 e3, .int .i64 e4, .int .i64 e5, .slice xa n xc]] w fun r w' => TakPost w [e2] r w' := by
  go_enter Tryz.func19, Tryz.ntmps19
  go_wp2
  go_ret
  exact ⟨_, _, rfl, ints_new2 w _ [e2] _, two_below⟩
set_option maxRecDepth 20000 in
set_option maxHeartbeats 8000000 in
theorem taken4 : Calls Tryz.prog 19 #[.agg #[.int .i64 4, .int .i64 e1, .int .i64 e2, .int .i64 e3, .int .i64 e4, .int .i64 e5, .slice xa n xc]] w fun r w' => TakPost w [e2] r w' := by
  go_enter Tryz.func19, Tryz.ntmps19
  go_wp2
  go_ret
  exact ⟨_, _, rfl, ints_new2 w _ [e2] _, two_below⟩
set_option maxRecDepth 20000 in
set_option maxHeartbeats 8000000 in
theorem taken5 : Calls Tryz.prog 19 #[.agg #[.int .i64 5, .int .i64 e1, .int .i64 e2, .int .i64 e3, .int .i64 e4, .int .i64 e5, .slice xa n xc]] w fun r w' => TakPost w [e2, e1] r w' := by
  go_enter Tryz.func19, Tryz.ntmps19
  go_wp2
  go_ret
  exact ⟨_, _, rfl, ints_new2 w _ [e2, e1] _, two_below⟩
set_option maxRecDepth 20000 in
set_option maxHeartbeats 8000000 in
theorem taken0 (h3 : e0 ≠ 3) (h4 : e0 ≠ 4) (h5 : e0 ≠ 5) : Calls Tryz.prog 19 #[.agg #[.int .i64 e0, .int .i64 e1, .int .i64 e2, .int .i64 e3, .int .i64 e4, .int .i64 e5, .slice xa n xc]] w fun r w' => TakPost w [] r w' := by
  have b3 : (e0 == 3) = false := by simpa using h3
  have b4 : (e0 == 4) = false := by simpa using h4
  have b5 : (e0 == 5) = false := by simpa using h5
  clear h3 h4 h5
  go_enter Tryz.func19, Tryz.ntmps19
  go_wp2
  go_ret
  exact ⟨_, _, rfl, .inl rfl, one_below⟩
end
/-- takenBy. -/
theorem takenBy_impl (e : Nat → Int) {n : Nat} {w : World} {xa : Option Addr} {xc : Nat} : Calls Tryz.prog 19 #[.agg #[.int .i64 (e 0), .int .i64 (e 1), .int .i64 (e 2), .int .i64 (e 3), .int .i64 (e 4), .int .i64 (e 5), .slice xa n xc]] w fun r w' => TakPost w (takL e) r w' := by
  unfold takL
  by_cases h3 : e 0 = 3
  · rw [if_pos (.inl h3), h3]; exact taken3
  by_cases h4 : e 0 = 4
  · rw [if_pos (.inr h4), h4]; exact taken4
  rw [if_neg (fun h => h.elim h3 h4)]
  by_cases h5 : e 0 = 5
  · rw [if_pos h5, h5]; exact taken5
  rw [if_neg h5]
  exact taken0 h3 h4 h5
end Go.Proofs.YtkhcphkdcjimiaaGreat
namespace Go.Proofs.YtkhcphkdcjimiaaGreat
open Go.RowKit
set_option linter.unusedVariables false
set_option linter.unusedSimpArgs false
/-- A list of arrays that can be read: F has the shape and the numbers of each in turn. -/
def ArrsI (w : World) (v : Value) (F : List (List Int)) : Prop :=
  ∃ (a : Option Addr) (n c : Nat), v = .slice a n c ∧ F.length = 2 * n ∧ (n = 0 ∨ ∃ (o off : Nat) (xs : List Value), a = some ⟨o, off, none⟩ ∧ o < w.heap.size ∧ xs.length = F.length ∧ ∀ j, j < xs.length → w.cell? ⟨o, off + j, none⟩ = some (xs.getD j undef) ∧ IntsI w (xs.getD j undef) (F.getD j []))
theorem ArrsI.keep {w w' : World} {v : Value} {F : List (List Int)} (h : ArrsI w v F) (hb : Below w.heap.size w w') : ArrsI w' v F := by
  obtain ⟨a, n, c, rfl, hF, h⟩ := h
  refine ⟨a, n, c, rfl, hF, ?_⟩
  rcases h with h | ⟨o, off, xs, e, ho, hx, hj⟩
  · exact .inl h
  · refine .inr ⟨o, off, xs, e, Nat.lt_of_lt_of_le ho hb.size, hx, fun j h => ⟨?_, (hj j h).2.keep hb⟩⟩
    rw [hb.cell (p := ⟨o, off + j, none⟩) ho]; exact (hj j h).1
theorem ArrsI.at {w : World} {a : Option Addr} {n c k : Nat} {F : List (List Int)} (h : ArrsI w (.slice a n c) F) (hk : k < n) :
    ∃ o off x y, a = some ⟨o, off, none⟩ ∧ o < w.heap.size ∧ w.cell? ⟨o, off + k * 2, none⟩ = some x ∧ w.cell? ⟨o, off + k * 2 + 1, none⟩ = some y ∧ IntsI w x (F.getD (2 * k) []) ∧ IntsI w y (F.getD (2 * k + 1) []) := by
  obtain ⟨a', n', c', e, hF, h⟩ := h
  cases e
  rcases h with h | ⟨o, off, xs, rfl, ho, hx, hj⟩
  · omega
  · have j0 := hj (2 * k) (by omega)
    have j1 := hj (2 * k + 1) (by omega)
    refine ⟨o, off, _, _, rfl, ho, ?_, ?_, j0.2, j1.2⟩
    · rw [Nat.mul_comm k 2]; exact j0.1
    · rw [Nat.mul_comm k 2, Nat.add_assoc]; exact j1.1
/-- A slice has no cell in a block. -/
def NotAt (o : Nat) (v : Value) : Prop := ∀ off n c, v = .slice (some ⟨o, off, none⟩) n c → n = 0
structure ArrsBody (B C o off : Nat) (w : World) (xs : List Value) (F : List (List Int)) : Prop where
  len : xs.length = F.length
  lo : B ≤ o
  hi : o < C
  outer : ∃ (cur : Array Value) (t : TypeId) (fr : Nat × Nat), w.heap[o]? = some (.cells cur t fr) ∧ ∀ j, j < xs.length → cur[off + j]? = some (xs.getD j undef)
  piece : ∀ j, j < xs.length → Piece B C w (xs.getD j undef) (F.getD j [])
  apart : ∀ i j, i < j → j < xs.length → Apart (xs.getD i undef) (xs.getD j undef)
  far : ∀ j, j < xs.length → NotAt o (xs.getD j undef)
/-- A list of arrays in memory of its own, in blocks from B on and below C, no two lists with a cell together. -/
def Arrs (B C : Nat) (w : World) (v : Value) (F : List (List Int)) : Prop :=
  ∃ (a : Option Addr) (n c : Nat), v = .slice a n c ∧ F.length = 2 * n ∧ (n = 0 ∨ ∃ (o off : Nat) (xs : List Value), a = some ⟨o, off, none⟩ ∧ ArrsBody B C o off w xs F)
theorem ArrsBody.lt {B C o off : Nat} {w : World} {xs : List Value} {F : List (List Int)} (h : ArrsBody B C o off w xs F) : o < w.heap.size := by
  obtain ⟨cur, t, fr, hg, _⟩ := h.outer
  exact lt_of_heapA hg
theorem ArrsBody.cell {B C o off j : Nat} {w : World} {xs : List Value} {F : List (List Int)} (h : ArrsBody B C o off w xs F) (hj : j < xs.length) : w.cell? ⟨o, off + j, none⟩ = some (xs.getD j undef) := by
  obtain ⟨cur, t, fr, hg, hc⟩ := h.outer
  exact cell_at hg (hc j hj)
theorem Arrs.arrsI {B C : Nat} {w : World} {v : Value} {F : List (List Int)} (h : Arrs B C w v F) : ArrsI w v F := by
  obtain ⟨a, n, c, rfl, hF, h⟩ := h
  refine ⟨a, n, c, rfl, hF, ?_⟩
  rcases h with h | ⟨o, off, xs, rfl, h⟩
  · exact .inl h
  · exact .inr ⟨o, off, xs, rfl, h.lt, h.len, fun j hj => ⟨h.cell hj, (h.piece j hj).intsI⟩⟩
theorem ArrsBody.keep {B C o off : Nat} {w w' : World} {xs : List Value} {F : List (List Int)} (h : ArrsBody B C o off w xs F) (hb : Below w.heap.size w w') : ArrsBody B C o off w' xs F := by
  obtain ⟨cur, t, fr, hg, hc⟩ := h.outer
  exact ⟨h.len, h.lo, h.hi, ⟨cur, t, fr, by rw [hb.block o h.lt]; exact hg, hc⟩, fun j hj => (h.piece j hj).keep hb, h.apart, h.far⟩
theorem ArrsBody.win {B C B' C' o off : Nat} {w w' : World} {xs : List Value} {F : List (List Int)} (h : ArrsBody B' C' o off w xs F) (hw : Win B C w w') (hd : C' ≤ B ∨ C ≤ B') : ArrsBody B' C' o off w' xs F := by
  obtain ⟨cur, t, fr, hg, hc⟩ := h.outer
  have h1 := h.lo
  have h2 := h.hi
  exact ⟨h.len, h.lo, h.hi, ⟨cur, t, fr, by rw [hw.block o h.lt (by omega)]; exact hg, hc⟩, fun j hj => (h.piece j hj).win hw hd, h.apart, h.far⟩
theorem Arrs.keep {B C : Nat} {w w' : World} {v : Value} {F : List (List Int)} (h : Arrs B C w v F) (hb : Below w.heap.size w w') : Arrs B C w' v F := by
  obtain ⟨a, n, c, rfl, hF, h⟩ := h
  refine ⟨a, n, c, rfl, hF, ?_⟩
  rcases h with h | ⟨o, off, xs, rfl, h⟩
  · exact .inl h
  · exact .inr ⟨o, off, xs, rfl, h.keep hb⟩
theorem Arrs.win {B C B' C' : Nat} {w w' : World} {v : Value} {F : List (List Int)} (h : Arrs B' C' w v F) (hw : Win B C w w') (hd : C' ≤ B ∨ C ≤ B') : Arrs B' C' w' v F := by
  obtain ⟨a, n, c, rfl, hF, h⟩ := h
  refine ⟨a, n, c, rfl, hF, ?_⟩
  rcases h with h | ⟨o, off, xs, rfl, h⟩
  · exact .inl h
  · exact .inr ⟨o, off, xs, rfl, h.win hw hd⟩
theorem Arrs.mono {B C B' C' : Nat} {w : World} {v : Value} {F : List (List Int)} (h : Arrs B C w v F) (hB : B' ≤ B) (hC : C ≤ C') : Arrs B' C' w v F := by
  obtain ⟨a, n, c, rfl, hF, h⟩ := h
  refine ⟨a, n, c, rfl, hF, ?_⟩
  rcases h with h | ⟨o, off, xs, rfl, h⟩
  · exact .inl h
  · have h1 := h.lo
    have h2 := h.hi
    exact .inr ⟨o, off, xs, rfl, h.len, by omega, by omega, h.outer, fun j hj => (h.piece j hj).mono hB hC, h.apart, h.far⟩
/-- How many numbers the first j lists have. -/
def sumTo (F : List (List Int)) (j : Nat) : Nat := ((F.take j).map List.length).sum
theorem sumTo_zero (F : List (List Int)) : sumTo F 0 = 0 := by simp [sumTo]
theorem sumTo_succ (F : List (List Int)) (j : Nat) : sumTo F (j + 1) = sumTo F j + (F.getD j []).length := by
  unfold sumTo
  by_cases h : j < F.length
  · have e : F.getD j [] = F[j] := by simp [h]
    rw [List.take_succ_eq_append_getElem h, e]
    simp only [List.map_append, List.sum_append, List.map_cons, List.map_nil, List.sum_cons, List.sum_nil, Nat.add_zero]
  · rw [List.take_of_length_le (by omega), List.take_of_length_le (by omega)]
    simp [List.getD, List.getElem?_eq_none (Nat.le_of_not_lt h)]
theorem sumTo_le (F : List (List Int)) (i j : Nat) (h : i ≤ j) : sumTo F i ≤ sumTo F j := by
  induction j with
  | zero => obtain rfl : i = 0 := by omega
            exact Nat.le_refl _
  | succ j ih =>
    by_cases e : i = j + 1
    · subst e; exact Nat.le_refl _
    · have := ih (by omega)
      rw [sumTo_succ]
      omega
theorem sumTo_all (F : List (List Int)) (j : Nat) : sumTo F j ≤ sumTo F F.length := by
  by_cases h : j ≤ F.length
  · exact sumTo_le F j _ h
  · unfold sumTo
    rw [List.take_of_length_le (by omega), List.take_of_length_le (by omega)]
    exact Nat.le_refl _
/-- The lists, the first j of them marked. -/
def mkF (F : List (List Int)) (k0 : Int) (j i : Nat) : List Int := if i < j then upFrom (k0 + sumTo F i) (F.getD i []).length else F.getD i []
def markF (F : List (List Int)) (k0 : Int) (j : Nat) : List (List Int) := (List.range F.length).map (mkF F k0 j)
theorem markF_length (F : List (List Int)) (k0 : Int) (j : Nat) : (markF F k0 j).length = F.length := by simp [markF]
theorem markF_at {F : List (List Int)} {k0 : Int} {j i : Nat} (h : i < F.length) : (markF F k0 j).getD i [] = mkF F k0 j i := by simp [markF, h]
theorem markF_zero (F : List (List Int)) (k0 : Int) : markF F k0 0 = F := by
  apply List.ext_getElem
  · simp [markF]
  · intro i h1 h2
    simp [markF, mkF, h2]
theorem ArrsBody.mark {B C o off j : Nat} {w w' : World} {xs : List Value} {F : List (List Int)} {k0 : Int} (h : ArrsBody B C o off w xs (markF F k0 j)) (hj : j < xs.length) (hp : Piece B C w' (xs.getD j undef) (upFrom (k0 + sumTo F j) (F.getD j []).length)) (ho : Only (xs.getD j undef) w w') :
    ArrsBody B C o off w' xs (markF F k0 (j + 1)) := by
  have hl : xs.length = F.length := by rw [h.len, markF_length]
  obtain ⟨cur, t, fr, hg, hc⟩ := h.outer
  refine ⟨by rw [markF_length]; exact hl, h.lo, h.hi, ⟨cur, t, fr, by rw [ho.block o h.lt (h.far j hj)]; exact hg, hc⟩, fun i hi => ?_, h.apart, h.far⟩
  rw [markF_at (by omega)]
  by_cases e : i = j
  · subst e
    unfold mkF
    rw [if_pos (by omega)]
    exact hp
  · have q := h.piece i hi
    rw [markF_at (by omega)] at q
    have e2 : mkF F k0 (j + 1) i = mkF F k0 j i := by
      unfold mkF
      by_cases e3 : i < j
      · rw [if_pos e3, if_pos (by omega)]
      · rw [if_neg e3, if_neg (by omega)]
    rw [e2]
    refine q.only ho ?_
    by_cases e4 : i < j
    · exact (h.apart i j e4 hj).symm
    · exact h.apart j i (by omega) hi
theorem ArrsBody.onlyWin {B C o off j : Nat} {w w' : World} {xs : List Value} {F : List (List Int)} (h : ArrsBody B C o off w xs F) (hj : j < xs.length) (ho : Only (xs.getD j undef) w w') : Win B C w w' := ho.win (h.piece j hj)
end Go.Proofs.YtkhcphkdcjimiaaGreat
namespace Go.Proofs.YtkhcphkdcjimiaaGreat
set_option linter.unusedVariables false
/-- The rows of an array, shape and numbers of each in turn. -/
def rowsF (s d : List Int) : List (List Int) := if arrOk s d = true ∧ s ≠ [] then (List.range (s.getD 0 0).toNat).flatMap (fun i => [s.drop 1, (d.drop (i * (sizeV (s.drop 1)).toNat)).take (sizeV (s.drop 1)).toNat]) else []
theorem flat2_length (n : Nat) (f : Nat → List (List Int)) (hf : ∀ i, (f i).length = 2) : ((List.range n).flatMap f).length = 2 * n := by
  induction n with
  | zero => rfl
  | succ n ih => rw [List.range_succ, List.flatMap_append, List.length_append, ih]; simp [hf]; omega
theorem head_bd {s d : List Int} (h : arrOk s d = true) : 0 ≤ s.getD 0 0 ∧ s.getD 0 0 ≤ 300 := by
  obtain ⟨k1, k2, _, _⟩ := sizeV_ok (arrOk_shape h)
  cases s with
  | nil => simp
  | cons x t =>
    simp only [List.all_cons, Bool.and_eq_true] at k2
    simpa using dimOk_bd k2.1
theorem rowsF_length (s d : List Int) : (rowsF s d).length = if arrOk s d = true ∧ s ≠ [] then 2 * (s.getD 0 0).toNat else 0 := by
  unfold rowsF
  split
  · exact flat2_length _ _ (fun i => rfl)
  · rfl
theorem rowsF_len (s d : List Int) : (rowsF s d).length ≤ 600 := by
  rw [rowsF_length]
  split
  · rename_i h
    have := head_bd h.1
    omega
  · omega
theorem rowsF_mem {s d : List Int} {x : List Int} (h : x ∈ rowsF s d) : x.length ≤ 300 := by
  unfold rowsF at h
  split at h
  · rename_i ho
    obtain ⟨i, _, hx⟩ := List.mem_flatMap.1 h
    have h3 := (sizeV_ok (arrOk_shape ho.1)).1
    have h4 := arrOk_len ho.1
    simp at hx
    rcases hx with rfl | rfl
    · simp; omega
    · simp; omega
  · cases h
theorem rowsF_each (s d : List Int) : ∀ j, ((rowsF s d).getD j []).length ≤ 300 := by
  intro j
  by_cases h : j < (rowsF s d).length
  · have e : (rowsF s d).getD j [] = (rowsF s d)[j] := by simp [h]
    rw [e]
    exact rowsF_mem (List.getElem_mem h)
  · have e : (rowsF s d).getD j [] = [] := by simp [List.getD, List.getElem?_eq_none (Nat.le_of_not_lt h)]
    rw [e]; simp
theorem sumTo_bound (F : List (List Int)) (m j : Nat) (h : ∀ j, (F.getD j []).length ≤ m) : sumTo F j ≤ j * m := by
  induction j with
  | zero => simp [sumTo]
  | succ j ih =>
    rw [sumTo_succ, Nat.succ_mul]
    have := h j
    omega
theorem rowsF_sum (s d : List Int) : sumTo (rowsF s d) (rowsF s d).length ≤ 180000 := by
  have h1 := sumTo_bound (rowsF s d) 300 (rowsF s d).length (rowsF_each s d)
  have h2 := rowsF_len s d
  omega
end Go.Proofs.YtkhcphkdcjimiaaGreat
namespace Go.Proofs.YtkhcphkdcjimiaaGreat
set_option linter.unusedVariables false
/-- An answer: beside a code that is not 0 the array is the empty one. -/
def mkR (c : Int) (s d : List Int) : Int × List Int × List Int := if c = 0 then (0, s, d) else (c, [], [])
theorem mkR_good (s d : List Int) : mkR 0 s d = (0, s, d) := rfl
theorem mkR_bad {c : Int} (h : c ≠ 0) (s d : List Int) : mkR c s d = (c, [], []) := by unfold mkR; rw [if_neg h]
theorem mkR_code (c : Int) (s d : List Int) : (mkR c s d).1 = c := by
  unfold mkR
  split
  · rename_i h; exact h.symm
  · rfl
theorem mkR_len {c : Int} {s d : List Int} {n m : Nat} (hs : c = 0 → s.length ≤ n) (hd : c = 0 → d.length ≤ m) : (mkR c s d).2.1.length ≤ n ∧ (mkR c s d).2.2.length ≤ m := by
  unfold mkR
  split
  · rename_i h; exact ⟨hs h, hd h⟩
  · simp
/-- The shape of an array, or that of the vector of it where it is of rank 0. -/
def vecS (s d : List Int) : List Int := if s = [] then [(d.length : Int)] else s
/-- How many numbers a row has; how many rows there are; one of them. -/
def rowN (s : List Int) : Nat := (sizeV (s.drop 1)).toNat
def rowsN (s : List Int) : Nat := (s.getD 0 0).toNat
def rowAt (s d : List Int) (i : Nat) : List Int := (d.drop (i * rowN s)).take (rowN s)
def okC (s d : List Int) : Int := if arrOk s d = true then 0 else 1
def oneC (s d t e : List Int) : Int := if arrOk s d = true ∧ arrOk t e = true then (if d.length ≠ 1 then 3 else 0) else 1
def iotaC (s d : List Int) : Int := if arrOk s d = true then (if d.length ≠ 1 then 3 else if d.getD 0 0 < 0 then 2 else if 300 < d.getD 0 0 then 6 else 0) else 1
def iotaR (s d : List Int) : Int × List Int × List Int := mkR (iotaC s d) [d.getD 0 0] ((List.range (d.getD 0 0).toNat).map (fun (i : Nat) => (i : Int)))
def shapeOfR (s d : List Int) : Int × List Int × List Int := mkR (okC s d) [(s.length : Int)] s
def ravelR (s d : List Int) : Int × List Int × List Int := mkR (okC s d) [(d.length : Int)] d
def reshapeC (s d t e : List Int) : Int := if arrOk s d = true ∧ arrOk t e = true then (if 1 < s.length then 4 else if d.any (fun x => decide (x < 0)) = true then 2 else if sizeV d < 0 then 6 else 0) else 1
def againD (e : List Int) (n : Nat) : List Int := (List.range n).map (fun i => if e = [] then 0 else e.getD (i % e.length) 0)
def reshapeR (s d t e : List Int) : Int × List Int × List Int := mkR (reshapeC s d t e) d (againD e (sizeV d).toNat)
def joinS (s d t e : List Int) : List Int := ((vecS s d).getD 0 0 + (vecS t e).getD 0 0) :: (vecS s d).drop 1
def joinC (s d t e : List Int) : Int := if arrOk s d = true ∧ arrOk t e = true then (if (vecS s d).length ≠ (vecS t e).length then 4 else if (vecS s d).drop 1 ≠ (vecS t e).drop 1 then 3 else if arrOk (joinS s d t e) (d ++ e) = true then 0 else 6) else 1
def joinR (s d t e : List Int) : Int × List Int × List Int := mkR (joinC s d t e) (joinS s d t e) (d ++ e)
def turnD (s d : List Int) : List Int := if s = [] then d else (List.range (rowsN s)).flatMap (fun i => rowAt s d (rowsN s - 1 - i))
def turnR (s d : List Int) : Int × List Int × List Int := mkR (okC s d) s (turnD s d)
def rotateBy (x : Int) (n : Nat) : Nat := (x % (n : Int)).toNat
def rotateD (x : Int) (t e : List Int) : List Int := if t = [] ∨ t.getD 0 0 = 0 then e else (List.range (rowsN t)).flatMap (fun i => rowAt t e ((i + rotateBy x (rowsN t)) % rowsN t))
def rotateR (s d t e : List Int) : Int × List Int × List Int := mkR (oneC s d t e) t (rotateD (d.getD 0 0) t e)
def flipD (s d : List Int) : List Int := (List.range d.length).map (fun (i : Nat) => d.getD (placeV s (indexV s.reverse (i : Int)).reverse).toNat 0)
def flipR (s d : List Int) : Int × List Int × List Int := mkR (okC s d) s.reverse (flipD s d)
/-- How many rows are asked for. -/
def manyV (x : Int) : Int := if x > 0 - x then x else 0 - x
def takeS (x : Int) (t e : List Int) : List Int := manyV x :: (vecS t e).drop 1
def takeC (s d t e : List Int) : Int := if arrOk s d = true ∧ arrOk t e = true then (if d.length ≠ 1 then 3 else if 0 ≤ sizeV (takeS (d.getD 0 0) t e) then 0 else 6) else 1
def haveN (x : Int) (t e : List Int) : Nat := min (manyV x).toNat (rowsN (vecS t e))
def takeD (x : Int) (t e : List Int) : List Int :=
  if 0 ≤ x then e.take (haveN x t e * rowN (vecS t e)) ++ List.replicate (((manyV x).toNat - haveN x t e) * rowN (vecS t e)) 0
  else List.replicate (((manyV x).toNat - haveN x t e) * rowN (vecS t e)) 0 ++ e.drop ((rowsN (vecS t e) - haveN x t e) * rowN (vecS t e))
def takeR (s d t e : List Int) : Int × List Int × List Int := mkR (takeC s d t e) (takeS (d.getD 0 0) t e) (takeD (d.getD 0 0) t e)
def dropS (x : Int) (t e : List Int) : List Int := (((rowsN (vecS t e) - haveN x t e : Nat)) : Int) :: (vecS t e).drop 1
def dropD (x : Int) (t e : List Int) : List Int := if 0 ≤ x then e.drop (haveN x t e * rowN (vecS t e)) else e.take ((rowsN (vecS t e) - haveN x t e) * rowN (vecS t e))
def dropR (s d t e : List Int) : Int × List Int × List Int := mkR (oneC s d t e) (dropS (d.getD 0 0) t e) (dropD (d.getD 0 0) t e)
end Go.Proofs.YtkhcphkdcjimiaaGreat
namespace Go.Proofs.YtkhcphkdcjimiaaGreat
set_option linter.unusedVariables false
/-- The first code that is not 0 of the first n. -/
def firstC (g : Nat → Int) : Nat → Int
  | 0 => 0
  | n + 1 => if firstC g n = 0 then g n else firstC g n
theorem firstC_go {g : Nat → Int} {k : Nat} (h : firstC g k = 0) (hk : g k = 0) : firstC g (k + 1) = 0 := by simp [firstC, h, hk]
theorem firstC_stop {g : Nat → Int} {k n : Nat} (h : firstC g k = 0) (hk : g k ≠ 0) (hn : k < n) : firstC g n = g k := by
  induction n with
  | zero => omega
  | succ n ih =>
    by_cases e : k = n
    · subst e; simp [firstC, h]
    · have := ih (by omega)
      simp only [firstC]
      rw [if_neg (by rw [this]; exact hk), this]
theorem firstC_all {g : Nat → Int} {n : Nat} (h : firstC g n = 0) : ∀ i, i < n → g i = 0 := by
  induction n with
  | zero => intro i hi; omega
  | succ n ih =>
    simp only [firstC] at h
    by_cases e : firstC g n = 0
    · rw [if_pos e] at h
      intro i hi
      by_cases e2 : i = n
      · subst e2; exact h
      · exact ih e i (by omega)
    · rw [if_neg e] at h; exact absurd h e
theorem firstC_eq {g h : Nat → Int} {n : Nat} (e : ∀ i, i < n → g i = h i) : firstC g n = firstC h n := by
  induction n with
  | zero => rfl
  | succ n ih => simp only [firstC]; rw [ih (fun i hi => e i (by omega)), e n (by omega)]
/-- The first k numbers are told anew, the others stand. -/
def setTo (f : Nat → Int) (d : List Int) (k : Nat) : List Int := (List.range d.length).map fun i => if i < k then f i else d.getD i 0
theorem setTo_length (f : Nat → Int) (d : List Int) (k : Nat) : (setTo f d k).length = d.length := by simp [setTo]
theorem setTo_zero (f : Nat → Int) (d : List Int) : setTo f d 0 = d := by
  apply List.ext_getElem
  · simp [setTo]
  · intro i h1 h2
    simp [setTo, h2]
theorem setTo_all (f : Nat → Int) (d : List Int) {n : Nat} (h : d.length = n) : setTo f d n = (List.range n).map f := by
  subst h
  apply List.ext_getElem
  · simp [setTo]
  · intro i h1 h2
    have : i < d.length := by simpa using h2
    simp [setTo, this]
theorem setTo_set (f : Nat → Int) (d : List Int) {k : Nat} (h : k < d.length) : (setTo f d k).set k (f k) = setTo f d (k + 1) := by
  apply List.ext_getElem
  · simp [setTo]
  · intro i h1 h2
    have hi : i < d.length := by simpa [setTo] using h2
    rw [List.getElem_set]
    by_cases e : k = i
    · subst e; simp [setTo]
    · rw [if_neg e]
      simp only [setTo, List.getElem_map, List.getElem_range]
      by_cases e2 : i < k
      · rw [if_pos e2, if_pos (by omega)]
      · rw [if_neg e2, if_neg (by omega)]
/-- What EachOne answers: its code, its shape, its numbers. -/
def eachOneC (g : Int) (s d : List Int) : Int := if arrOk s d = true ∧ sign1 g = true then firstC (fun i => (oneV g (d.getD i 0)).2) d.length else 1
def eachOneS (g : Int) (s d : List Int) : List Int := if eachOneC g s d = 0 then s else []
def eachOneD (g : Int) (s d : List Int) : List Int := if eachOneC g s d = 0 then (List.range d.length).map (fun i => (oneV g (d.getD i 0)).1) else []
/-- What Fit answers. -/
def fitC (s d t e : List Int) : Int := if arrOk s d = true ∧ arrOk t e = true then (if s = [] ∨ t = [] then 0 else if s.length ≠ t.length then 4 else if s ≠ t then 3 else 0) else 1
def fitS (s d t e : List Int) : List Int := if fitC s d t e = 0 then (if s = [] then t else s) else []
/-- The number of an array at a place, or its only one. -/
def numOf (s d : List Int) (i : Nat) : Int := if s = [] then d.getD 0 0 else d.getD i 0
/-- How many numbers EachTwo tells, where Fit goes well. -/
def eachN (s d t e : List Int) : Nat := (sizeV (fitS s d t e)).toNat
def eachTwoC (g : Int) (s d t e : List Int) : Int := if arrOk s d = true ∧ arrOk t e = true ∧ sign2 g = true then (if fitC s d t e = 0 then firstC (fun i => (twoV g (numOf s d i) (numOf t e i)).2) (eachN s d t e) else fitC s d t e) else 1
def eachTwoS (g : Int) (s d t e : List Int) : List Int := if eachTwoC g s d t e = 0 then fitS s d t e else []
def eachTwoD (g : Int) (s d t e : List Int) : List Int := if eachTwoC g s d t e = 0 then (List.range (eachN s d t e)).map (fun i => (twoV g (numOf s d i) (numOf t e i)).1) else []
theorem fitS_bad {s d t e : List Int} (h : fitC s d t e ≠ 0) : fitS s d t e = [] := by unfold fitS; rw [if_neg h]
theorem fitC_ok {s d t e : List Int} (h : fitC s d t e = 0) : arrOk s d = true ∧ arrOk t e = true := by
  unfold fitC at h
  by_cases ho : arrOk s d = true ∧ arrOk t e = true
  · exact ho
  · rw [if_neg ho] at h; cases h
theorem fit_cases {s d t e : List Int} (h : fitC s d t e = 0) : (s = [] ∧ fitS s d t e = t) ∨ (s ≠ [] ∧ t = [] ∧ fitS s d t e = s) ∨ (s ≠ [] ∧ t ≠ [] ∧ s = t ∧ fitS s d t e = s) := by
  have hS : fitS s d t e = if s = [] then t else s := by unfold fitS; rw [if_pos h]
  have h' := h
  unfold fitC at h'
  rw [if_pos (fitC_ok h)] at h'
  by_cases e1 : s = []
  · exact .inl ⟨e1, by rw [hS, if_pos e1]⟩
  · by_cases e2 : t = []
    · exact .inr (.inl ⟨e1, e2, by rw [hS, if_neg e1]⟩)
    · rw [if_neg (by simp [e1, e2])] at h'
      by_cases e3 : s = t
      · exact .inr (.inr ⟨e1, e2, e3, by rw [hS, if_neg e1]⟩)
      · by_cases e4 : s.length ≠ t.length
        · rw [if_pos e4] at h'; cases h'
        · rw [if_neg e4, if_pos e3] at h'; cases h'
theorem fit_size {s d t e : List Int} (h : fitC s d t e = 0) : (eachN s d t e : Int) = sizeV (fitS s d t e) ∧ eachN s d t e ≤ 300 ∧ (∀ i, i < eachN s d t e → (s = [] → 0 < d.length) ∧ (s ≠ [] → i < d.length) ∧ (t = [] → 0 < e.length) ∧ (t ≠ [] → i < e.length)) := by
  obtain ⟨o1, o2⟩ := fitC_ok h
  have z1 := arrOk_size o1
  have z2 := arrOk_size o2
  have l1 := arrOk_len o1
  have l2 := arrOk_len o2
  have k1 : s = [] → d.length = 1 := by rintro rfl; rw [sizeV_0'] at z1; omega
  have k2 : t = [] → e.length = 1 := by rintro rfl; rw [sizeV_0'] at z2; omega
  unfold eachN
  rcases fit_cases h with ⟨a1, a2⟩ | ⟨a1, a2, a3⟩ | ⟨a1, a2, a3, a4⟩
  · rw [a2]
    refine ⟨by omega, by omega, fun i hi => ⟨fun _ => by have := k1 a1; omega, fun q => absurd a1 q, fun q => by have := k2 q; omega, fun _ => by omega⟩⟩
  · rw [a3]
    refine ⟨by omega, by omega, fun i hi => ⟨fun q => absurd q a1, fun _ => by omega, fun q => by have := k2 q; omega, fun q => absurd a2 q⟩⟩
  · rw [a4]
    subst a3
    refine ⟨by omega, by omega, fun i hi => ⟨fun q => absurd q a1, fun _ => by omega, fun q => absurd q a1, fun _ => by omega⟩⟩
theorem fitS_len (s d t e : List Int) : (fitS s d t e).length ≤ 3 := by
  by_cases h : fitC s d t e = 0
  · obtain ⟨o1, o2⟩ := fitC_ok h
    have k1 := (sizeV_ok (arrOk_shape o1)).1
    have k2 := (sizeV_ok (arrOk_shape o2)).1
    unfold fitS
    rw [if_pos h]
    split <;> assumption
  · rw [fitS_bad h]; simp
theorem eachTwoS_len (g : Int) (s d t e : List Int) : (eachTwoS g s d t e).length ≤ 3 := by
  unfold eachTwoS
  split
  · exact fitS_len s d t e
  · simp
theorem eachTwoD_len (g : Int) (s d t e : List Int) : (eachTwoD g s d t e).length ≤ 300 := by
  unfold eachTwoD
  split
  · rename_i h
    have hf : fitC s d t e = 0 := by
      unfold eachTwoC at h
      by_cases ho : arrOk s d = true ∧ arrOk t e = true ∧ sign2 g = true
      · rw [if_pos ho] at h
        by_cases h2 : fitC s d t e = 0
        · exact h2
        · rw [if_neg h2] at h; exact h
      · rw [if_neg ho] at h; cases h
    have := (fit_size hf).2.1
    simpa using this
  · simp
end Go.Proofs.YtkhcphkdcjimiaaGreat
namespace Go.Proofs.YtkhcphkdcjimiaaGreat
open Go.RowKit
set_option linter.unusedVariables false
set_option linter.unusedSimpArgs false
theorem only_setCell (w : World) (g off n c k : Nat) (u : Value) (hk : k < n) : Only (.slice (some ⟨g, off, none⟩) n c) w (w.setCell ⟨g, off + k, none⟩ u) := by
  refine ⟨rfl, rfl, rfl, size_setCell _ _ _, fun j hj hq => Below.heap_setCell _ _ _ _ (fun e => ?_), fun g' off' n' c' e cur t hg => ?_⟩
  · have := hq off n c (by rw [show j = g from e])
    omega
  · cases e
    refine ⟨_, heap_setCell_same w g (off + k) _ _ u hg, fun i hi => ?_⟩
    rw [Array.getElem?_setIfInBounds, if_neg (by omega)]
theorem Piece.set {B C g off c k : Nat} {w : World} {l : List Int} (h : Piece B C w (.slice (Option.some ⟨g, off, none⟩) l.length c) l) (hk : k < l.length) (x : Int) : Piece B C (w.setCell ⟨g, off + k, none⟩ (.int .i64 x)) (.slice (Option.some ⟨g, off, none⟩) l.length c) (l.set k x) := by
  obtain ⟨a, c', e, hle, h⟩ := h
  cases e
  refine ⟨_, _, by rw [List.length_set], by rw [List.length_set]; exact hle, ?_⟩
  rcases h with rfl | ⟨g', off', cur, t, e, h1, h2, hg, r⟩
  · simp at hk
  · cases e
    have hs : off + k < cur.size := by
      have := (Array.getElem?_eq_some_iff.1 (r k hk)).1
      exact this
    refine .inr ⟨g, off, _, t, rfl, h1, h2, heap_setCell_same w g (off + k) _ _ _ hg, fun j hj => ?_⟩
    rw [List.length_set] at hj
    rw [Array.getElem?_setIfInBounds]
    by_cases e : k = j
    · subst e
      rw [if_pos rfl, if_pos hs]
      simp [List.getD, hk]
    · rw [if_neg (by omega), r j hj]
      simp [List.getD, e]
/-- The cell of a number of a piece, and that it may be written. -/
theorem Piece.cellAt {B C g off n c k : Nat} {w : World} {l : List Int} (h : Piece B C w (.slice (Option.some ⟨g, off, none⟩) n c) l) (hk : k < l.length) : w.cell? ⟨g, off + k, none⟩ = Option.some (.int .i64 (l.getD k 0)) ∧ w.frozen? ⟨g, off + k, none⟩ = false ∧ B ≤ g ∧ g < C ∧ g < w.heap.size := by
  obtain ⟨a, c', e, _, h⟩ := h
  cases e
  rcases h with rfl | ⟨g', off', cur, t, e, h1, h2, hg, r⟩
  · simp at hk
  · cases e
    exact ⟨cell_at hg (r k hk), free_at hg _, h1, h2, lt_of_heapA hg⟩
theorem Piece.some {B C n c : Nat} {a : Option Addr} {w : World} {l : List Int} (h : Piece B C w (.slice a n c) l) (hl : 0 < l.length) : ∃ g off, a = .some ⟨g, off, none⟩ := by
  obtain ⟨a', c', e, _, h⟩ := h
  cases e
  rcases h with rfl | ⟨g', off', cur, t, e, _⟩
  · simp at hl
  · exact ⟨g', off', e⟩
end Go.Proofs.YtkhcphkdcjimiaaGreat
namespace Go.Proofs.YtkhcphkdcjimiaaGreat
open Go.RowKit
set_option linter.unusedVariables false
set_option linter.unusedSimpArgs false
theorem ints_tail {w : World} {b off : Nat} {l : List Int} (m : Nat) (h : Ints w (some ⟨b, off, none⟩) l) : Ints w (some ⟨b, off + m, none⟩) (l.drop m) := by
  rcases h with rfl | ⟨b', off', e, hb, hc⟩
  · exact .inl (by simp)
  · cases e
    refine .inr ⟨b, off + m, rfl, hb, fun k hk => ?_⟩
    have := hc (m + k) (by simp at hk; omega)
    rw [Nat.add_assoc, this]
    simp
/-- A list from one number on, and between two, whatever its memory. -/
theorem run_from {a : Option Addr} {n c M : Nat} (hM : M ≤ n) (hc : n ≤ c) (W : World) : (Instr.slice 27 (.slice a n c) (some (.int .i64 (M : Int))) none none).run Tryz.prog W = .ok (.slice (if c - M = 0 then a else a.map (·.add (M * 1))) (n - M) (c - M)) W := by
  have hs : (sizeOf 3).run Tryz.prog W = .ok 1 W := by kernel_rfl
  have he : Tryz.prog.elem 27 = 3 := by kernel_rfl
  rw [run_slice_l (P := Tryz.prog) (w := W) 27 a n c (by rw [he]; exact Tryz.underlying27) .i64 (M : Int) (by omega) (by omega), he, hs]
  have e : (c = M) = (c - M = 0) := by apply propext; omega
  simp [Result.andThen, sliced, e]
/-- What a copy makes of a list: m numbers of e from place k on. -/
def paste (l : List Int) (k : Nat) (e : List Int) (m : Nat) : List Int := l.take k ++ e.take m ++ l.drop (k + m)
theorem paste_zero (l : List Int) (k : Nat) (e : List Int) : paste l k e 0 = l := by simp [paste]
theorem paste_length {l e : List Int} {k m : Nat} (h : k + m ≤ l.length) (hm : m ≤ e.length) : (paste l k e m).length = l.length := by simp [paste]; omega
theorem paste_at {l e : List Int} {k m : Nat} (h : k + m ≤ l.length) (hm : m ≤ e.length) (i : Nat) : (paste l k e m).getD i 0 = if i < k then l.getD i 0 else if i < k + m then e.getD (i - k) 0 else l.getD i 0 := by
  have lk : (l.take k).length = k := by simp; omega
  have lm : (e.take m).length = m := by simp; omega
  unfold paste
  simp only [List.getD_eq_getElem?_getD, List.append_assoc]
  by_cases h1 : i < k
  · rw [if_pos h1, List.getElem?_append_left (by omega), List.getElem?_take_of_lt h1]
  · rw [if_neg h1, List.getElem?_append_right (by omega), lk]
    by_cases h2 : i < k + m
    · rw [if_pos h2, List.getElem?_append_left (by omega), List.getElem?_take_of_lt (by omega)]
    · rw [if_neg h2, List.getElem?_append_right (by omega), lm, List.getElem?_drop]
      congr 2
      omega
theorem copy_paste {w : World} {g : Nat} {l e : List Int} {a : Option Addr} {k n : Nat} (h : OwnInts w g l) (hs : Ints w a e) (hfit : k + min e.length n ≤ l.length) (ty : TypeId) (dC c : Nat) :
    (Builtin.copy_ #[27, 27] ty #[.slice (some ⟨g, k, none⟩) n dC, .slice a e.length c]).run Tryz.prog w = .ok (.int .i64 ((min e.length n : Nat) : Int)) (w.setRow g (vals (paste l k e (min e.length n)))) := by
  by_cases h0 : min e.length n = 0
  · rw [h0, paste_zero, setRow_self w g (vals l) _ _ h]
    exact run_copy_none (P := Tryz.prog) _ 27 27 ty 3 _ _ _ _ _ _ Tryz.underlying27 int_size h0
  · rcases hs with rfl | ⟨b, off, rfl, hb, hc⟩
    · simp at h0
    · have hc' : ∀ j, j < (e.take (min e.length n)).length → w.cell? ⟨b, off + j, none⟩ = some (.int .i64 ((e.take (min e.length n)).getD j 0)) := by
        intro j hj
        have hj' : j < min e.length n := by simp at hj; omega
        rw [hc j (by omega)]
        simp only [List.getD_eq_getElem?_getD, List.getElem?_take_of_lt hj']
      have q := run_copy_row Tryz.prog w 27 27 ty 3 g k n dC ⟨b, off, none⟩ e.length c (vals l) 3 ((e.take (min e.length n)).map (Value.int .i64)) Tryz.underlying27 int_size h (by simp) (ints_src hc') (by simp [vals]; omega) (by intro v hv; obtain ⟨x, _, rfl⟩ := List.mem_map.1 hv; rfl)
      rw [q, List.length_map, List.length_take, Nat.min_eq_left (Nat.min_le_left _ _)]
      simp [paste, vals, goInt]
theorem OwnInts.setRow {w : World} {g : Nat} {l : List Int} (h : OwnInts w g l) (l' : List Int) : OwnInts (w.setRow g (vals l')) g l' := setRow_heap w g _ _ _ _ h
end Go.Proofs.YtkhcphkdcjimiaaGreat
namespace Go.Proofs.YtkhcphkdcjimiaaGreat
open Go.RowKit
set_option linter.unusedVariables false
/-- A list of numbers from one on. -/
theorem intsJ_from {w : World} {a : Option Addr} {l : List Int} {c M : Nat} (h : Ints w a l) (hc : l.length ≤ c) (hM : M ≤ l.length) :
    ∃ a' c', (∀ W, (Instr.slice 27 (.slice a l.length c) (some (.int .i64 (M : Int))) none none).run Tryz.prog W = .ok (.slice a' (l.drop M).length c') W) ∧ Ints w a' (l.drop M) := by
  rw [show (l.drop M).length = l.length - M from by simp]
  refine ⟨_, _, fun W => run_from hM hc W, ?_⟩
  by_cases h0 : l.length - M = 0
  · exact .inl (List.eq_nil_of_length_eq_zero (by simpa using h0))
  · obtain ⟨b, o, rfl, _, _⟩ := h.at (k := 0) (by omega)
    rw [if_neg (by omega)]
    have := ints_tail M h
    by_cases hM0 : M = 0 <;> simpa [Addr.add, hM0] using this
/-- The beginning of a list of one's own is one's own. -/
theorem NewInts.upto {B : Nat} {w : World} {a : Option Addr} {l : List Int} {c M : Nat} (h : NewInts B w (.slice a l.length c) l) (hM : M ≤ l.length) : NewInts B w (.slice a M c) (l.take M) := by
  obtain ⟨h1, h2⟩ := h
  refine ⟨by simp, ?_⟩
  have ht : (l.take M).length = M := by simp; omega
  rw [ht]
  rcases h2 with ⟨ev, h0⟩ | ⟨g, cap, cur, ev, hB, hg, hc, hm, hs, hx⟩
  · simp only [Value.slice.injEq] at ev
    obtain ⟨e1, e2, e3⟩ := ev
    have : M = 0 := by omega
    subst this
    exact .inl ⟨by rw [e1, e3], rfl⟩
  · simp only [Value.slice.injEq] at ev
    obtain ⟨e1, _, e3⟩ := ev
    subst e1 e3
    refine .inr ⟨g, _, cur, rfl, hB, hg, by omega, hm, hs, ?_⟩
    have e : cur.toList.take (M * 1) = (cur.toList.take (l.length * 1)).take M := by rw [List.take_take]; congr 1; omega
    rw [e, hx, List.map_take]
theorem newJ_upto {B : Nat} {w : World} {a : Option Addr} {l : List Int} {c M : Nat} (h : NewInts B w (.slice a l.length c) l) (hM : M ≤ l.length) :
    ∃ a' c', (∀ W, (Instr.slice 27 (.slice a l.length c) none (some (.int .i64 (M : Int))) none).run Tryz.prog W = .ok (.slice a' M c') W) ∧ NewInts B w (.slice a' M c') (l.take M) := by
  have hc : l.length ≤ c := by
    obtain ⟨_, h2⟩ := h
    rcases h2 with ⟨ev, h0⟩ | ⟨g, cap, cur, ev, hB, hg, hc, hm, hs, hx⟩
    · omega
    · simp only [Value.slice.injEq] at ev; omega
  have hrun : ∀ W, (Instr.slice 27 (.slice a l.length c) none (some (.int .i64 (M : Int))) none).run Tryz.prog W = .ok (sliced a 0 M c 1) W := by
    intro W
    have hs : (sizeOf 3).run Tryz.prog W = .ok 1 W := by kernel_rfl
    have he : Tryz.prog.elem 27 = 3 := by kernel_rfl
    rw [run_slice_h (P := Tryz.prog) (w := W) 27 a l.length c (by rw [he]; exact Tryz.underlying27) .i64 (M : Int) (by omega) (by omega), he, hs]
    simp [Result.andThen]
  have hsl : sliced a 0 M c 1 = .slice a M c := by
    cases a with
    | none => simp [sliced]
    | some x => simp [sliced, Addr.add]
  rw [hsl] at hrun
  exact ⟨a, c, hrun, h.upto hM⟩
end Go.Proofs.YtkhcphkdcjimiaaGreat
namespace Go.Proofs.YtkhcphkdcjimiaaGreat
open Go.RowKit
set_option linter.unusedVariables false
set_option linter.unusedSimpArgs false
theorem freeS_le (E : Nat → Nat → Int) (k : Nat) : (freeS E k).length ≤ k := by
  induction k with
  | zero => simp [freeS]
  | succ k ih => simp only [freeS, List.length_append, List.length_take, List.length_cons, List.length_nil]; omega
set_option maxRecDepth 20000 in
set_option maxHeartbeats 8000000 in
/-- The program's TreeOk. -/
theorem treeOk_impl {w : World} {v : Value} {n : Nat} {E : Nat → Nat → Int} {N : Nat → List Int} (h : ExprsI w v n E N) (hl : ∀ i, (N i).length ≤ 1048576) (hn : n ≤ 1048576) :
    Calls Tryz.prog 10 #[.agg #[v]] w fun r w' => r = .returned (.bool (treeB n E N)) ∧ Below w.heap.size w w' := by
  have H : Hid (ExprsI w v n E N) := h
  have HL : Hid (∀ i, (N i).length ≤ 1048576) := hl
  clear hl
  obtain ⟨a, c, rfl, _⟩ := h
  by_cases h60 : 60 < (n : Int)
  · rw [treeB_false (fun h => by have := h.2.1; omega)]
    go_enter Tryz.func10, Tryz.ntmps10
    go_wp2
    go_ret
    exact ⟨rfl, one_below⟩
  have n60 : n ≤ 60 := by omega
  have GD : Hid (upTo E N n → treeB n E N = decide ((freeS E n).length = 1)) := fun h1 => by
    by_cases h3 : (freeS E n).length = 1
    · rw [decide_eq_true h3]
      refine treeB_true ⟨?_, n60, h1, h3⟩
      have := freeS_le E n
      omega
    · rw [decide_eq_false h3]; exact treeB_false fun h => h3 h.2.2.2
  have BD : Hid (∀ k, k < n → (nodeB (E k) (N k) && fitsB (freeS E k) (E k)) = false → treeB n E N = false) := fun k hk h => treeB_false fun g => by
    have g1 := g.2.2.1 k hk
    rw [g1.1, g1.2] at h
    exact absurd h (by decide)
  generalize treeB n E N = Q at *
  go_enter Tryz.func10, Tryz.ntmps10
  go_wp2_with fail
  generalize hW : w.alloc (.cells #[.slice a n c] 38) = W0
  have B0 : Hid (Below w.heap.size w W0) := by rw [← hW]; exact one_below
  clear hW
  go_loopw [3, 15] (fun u i w' => ∃ (k : Nat) (ad : Option Addr) (cd : Nat), k ≤ n ∧ u = .slice ad (freeS E k).length cd ∧ i = .int .i64 (k : Int) ∧ upTo E N k ∧ NewInts W0.heap.size w' (.slice ad (freeS E k).length cd) (freeS E k) ∧ Below W0.heap.size W0 w') (fun _ i _ => n - (intOf i).toNat)
  case atStart => exact ⟨0, _, _, by omega, rfl, rfl, fun i hi => absurd hi (by omega), NewInts.nil _ _, Below.refl _ _⟩
  case round =>
    obtain ⟨k, ad, cd, hk, rfl, rfl, hA, hN, hB⟩ := hrel
    have HA : Hid (upTo E N k) := hA
    have NK : Hid (NewInts W0.heap.size wr (.slice ad (freeS E k).length cd) (freeS E k)) := hN
    have BK : Hid (Below W0.heap.size W0 wr) := hB
    clear hA hN hB
    by_cases hlt : (k : Int) < (n : Int)
    · have L : k < n := by omega
      obtain ⟨o, off, xa, xc, rfl, ho, ⟨p0, p1, p2, p3, p4, p5, p6⟩, ar⟩ := (H.out.keep (bTrans B0.out BK.out)).at L
      have CN : Hid (∀ W, Below wr.heap.size wr W → Calls Tryz.prog 20 #[.agg #[.int .i64 (E k 0), .int .i64 (E k 1), .int .i64 (E k 2), .int .i64 (E k 3), .int .i64 (E k 4), .int .i64 (E k 5), .slice xa (N k).length xc]] W fun r w' => r = .returned (.bool (nodeB (E k) (N k))) ∧ Below W.heap.size W w') := fun W hb => nodeOk_impl (E k) (ar.keep hb) (HL.out k)
      have CT : Hid (∀ W, Calls Tryz.prog 19 #[.agg #[.int .i64 (E k 0), .int .i64 (E k 1), .int .i64 (E k 2), .int .i64 (E k 3), .int .i64 (E k 4), .int .i64 (E k 5), .slice xa (N k).length xc]] W fun r w' => TakPost W (takL (E k)) r w') := fun W => takenBy_impl (E k)
      have NX : Hid (nodeB (E k) (N k) = true → fitsB (freeS E k) (E k) = true → upTo E N (k + 1)) := fun h1 h2 i hi => by
        by_cases e : i = k
        · subst e; exact ⟨h1, h2⟩
        · exact HA.out i (by omega)
      have BY : Hid ((nodeB (E k) (N k) && fitsB (freeS E k) (E k)) = false → Q = false) := BD.out k L
      have EF : Hid (fitsB (freeS E k) (E k) = (decide ((takL (E k)).length ≤ (freeS E k).length) && decide ((freeS E k).drop ((freeS E k).length - (takL (E k)).length) = takL (E k)))) := rfl
      have EL : Hid (freeS E (k + 1) = (freeS E k).take ((freeS E k).length - (takL (E k)).length) ++ [(k : Int)]) := rfl
      have LL := freeS_le E k
      have LT : (takL (E k)).length ≤ 2 := by unfold takL; split; simp; split <;> simp
      clear ho ar
      generalize nodeB (E k) (N k) = q at *
      generalize fitsB (freeS E k) (E k) = q' at *
      generalize E k 0 = q0 at *
      generalize E k 1 = q1 at *
      generalize E k 2 = q2 at *
      generalize E k 3 = q3 at *
      generalize E k 4 = q4 at *
      generalize E k 5 = q5 at *
      generalize (N k).length = nl at *
      generalize takL (E k) = T at *
      obtain ⟨F', hF'⟩ : ∃ F', F' = freeS E (k + 1) := ⟨_, rfl⟩
      have HF' : Hid (F' = freeS E (k + 1)) := hF'
      rw [← hF'] at EL
      clear hF'
      generalize freeS E k = F at *
      go_wp2_with fail
      refine (CT.out _).mono ?_
      rintro r w2 ⟨ta, tc, rfl, ti, hb⟩
      have hnew := heap_alloc_new wr (.cells #[.int .i64 q0, .int .i64 q1, .int .i64 q2, .int .i64 q3, .int .i64 q4, .int .i64 q5, .slice xa nl xc] 35)
      have BN : Hid (w2.heap[wr.heap.size]? = some (.cells #[.int .i64 q0, .int .i64 q1, .int .i64 q2, .int .i64 q3, .int .i64 q4, .int .i64 q5, .slice xa nl xc] 35 (0, 0))) := by show _ = _; rw [hb.block _ (by simp)]; exact hnew
      have TI : Hid (Ints w2 ta T) := ti
      have Br2 : Hid (Below wr.heap.size wr w2) := bTrans one_below hb
      have B2 : Hid (Below W0.heap.size W0 w2) := bTrans BK.out Br2.out
      have NK2 : Hid (NewInts W0.heap.size w2 (.slice ad F.length cd) F) := NK.out.keep Br2.out
      clear hb hnew ti p0 p1 p2 p3 p4 p5 p6 NK
      have c0 : w2.cell? ⟨wr.heap.size, 0, none⟩ = some (.int .i64 q0) := cell_at BN.out rfl
      have c1 : w2.cell? ⟨wr.heap.size, 1, none⟩ = some (.int .i64 q1) := cell_at BN.out rfl
      have c2 : w2.cell? ⟨wr.heap.size, 2, none⟩ = some (.int .i64 q2) := cell_at BN.out rfl
      have c3 : w2.cell? ⟨wr.heap.size, 3, none⟩ = some (.int .i64 q3) := cell_at BN.out rfl
      have c4 : w2.cell? ⟨wr.heap.size, 4, none⟩ = some (.int .i64 q4) := cell_at BN.out rfl
      have c5 : w2.cell? ⟨wr.heap.size, 5, none⟩ = some (.int .i64 q5) := cell_at BN.out rfl
      have c6 : w2.cell? ⟨wr.heap.size, 6, none⟩ = some (.slice xa nl xc) := cell_at BN.out rfl
      by_cases hm : T.length ≤ F.length
      · obtain ⟨M, hM⟩ : ∃ M, F.length = M + T.length := ⟨F.length - T.length, by omega⟩
        have hMt : (F.length : Int) - (T.length : Int) = (M : Int) := by omega
        have hMn : F.length - T.length = M := by omega
        rw [hMn] at EF EL
        rw [decide_eq_true hm, Bool.true_and] at EF
        have gz : ¬ ((M : Int) < 0) := by omega
        have gv : IntKind.i64.wrap (M : Int) = (M : Int) := by rw [IntKind.wrap_i64]; omega
        have HM : Hid (F.length = M + T.length) := hM
        clear hM hMn hm
        go_wp2_with fail
        refine (CN.out _ Br2.out).mono ?_
        rintro r w3 ⟨rfl, hb⟩
        have B3 : Hid (Below W0.heap.size W0 w3) := bTrans B2.out hb
        have NK3 : Hid (NewInts W0.heap.size w3 (.slice ad F.length cd) F) := NK2.out.keep hb
        have TI3 : Hid (Ints w3 ta T) := TI.out.keep hb
        clear hb c0 c1 c2 c3 c4 c5 c6 NK2 TI BN
        cases q
        · have QF : Hid (Q = false) := BY.out rfl
          go_wp2
          go_ret
          exact ⟨by rw [QF.out]; rfl, bTrans B0.out B3.out⟩
        · obtain ⟨_, _, ev, hcd, fi⟩ := NK3.out.piece.intsI
          cases ev
          obtain ⟨a', c', hrun, hi⟩ := intsJ_from (M := M) fi hcd (by have := HM.out; omega)
          have HEQ : Hid (Calls Tryz.prog 21 #[.slice a' (F.drop M).length c', .slice ta T.length tc] w3 fun e w' => e = .returned (.bool (decide (F.drop M = T))) ∧ ∃ j, w' = w3.drewN j) := equal_impl c' tc (by have := HM.out; simp; omega) hi TI3.out
          rw [← EF.out] at HEQ
          clear fi hi
          generalize (F.drop M).length = dl at *
          go_wp2_with fail
          refine HEQ.out.mono ?_
          rintro r w4 ⟨rfl, j4, hw4⟩
          have B4 : Hid (Below W0.heap.size W0 w4) := by rw [hw4]; exact bDrewN B3.out _
          have NK4 : Hid (NewInts W0.heap.size w4 (.slice ad F.length cd) F) := by rw [hw4]; exact NK3.out
          clear hw4 NK3
          cases q'
          · have QF : Hid (Q = false) := BY.out rfl
            go_wp2
            go_ret
            exact ⟨by rw [QF.out]; rfl, bTrans B0.out B4.out⟩
          · have NY : Hid (upTo E N (k + 1)) := by first | exact NX.out rfl rfl | exact NX.out trivial rfl | exact NX.out rfl trivial | exact NX.out trivial trivial
            obtain ⟨a6, c6, hrun6, hN6⟩ := newJ_upto (M := M) NK4.out (by have := HM.out; omega)
            have LM : (F.take M).length = M := by have := HM.out; simp; omega
            obtain ⟨a5, c5, w5, hr, h5, hb5⟩ := grow1 (k : Int) hN6 B4.out.size (by rw [LM]; have := HM.out; omega)
            rw [LM] at hr h5
            rw [← EL.out] at h5
            have LF : Hid (F'.length = M + 1) := by have := HM.out; show _ = _; rw [EL.out]; simp; omega
            have R5 : Hid ((Builtin.append_ #[27, 27] 27 #[.slice a6 M c6, .slice (some ⟨w4.heap.size, 0, none⟩) 1 1]).run Tryz.prog (w4.alloc (.cells #[.int .i64 (k : Int)] 3)) = .ok (.slice a5 (M + 1) c5) w5) := hr
            have N5 : Hid (NewInts W0.heap.size w5 (.slice a5 (M + 1) c5) F') := h5
            have B5 : Hid (Below W0.heap.size W0 w5) := B4.out.trans hb5
            clear hr h5 hb5 hN6 LM
            go_wp2_with (at_builtin; refine wpList_append_ty rfl _ _ 27 27 rfl _ _ _ rfl rfl R5.out ?_)
            go_roundw
            case rel => exact ⟨k + 1, a5, c5, by omega, by rw [← HF'.out, LF.out], by go_num, NY.out, by rw [← HF'.out, LF.out]; exact N5.out, B5.out⟩
            case measure => simp [intOf]; omega
      · have QF : Hid (Q = false) := BY.out (by rw [EF.out, decide_eq_false hm, Bool.false_and, Bool.and_false])
        have gz : (F.length : Int) - (T.length : Int) < 0 := by omega
        go_wp2_with fail
        refine (CN.out _ Br2.out).mono ?_
        rintro r w3 ⟨rfl, hb⟩
        have B3 : Hid (Below W0.heap.size W0 w3) := bTrans B2.out hb
        clear hb c0 c1 c2 c3 c4 c5 c6 NK2 TI BN
        cases q
        all_goals
          go_wp2
          go_ret
          exact ⟨by rw [QF.out]; rfl, bTrans B0.out B3.out⟩
    · obtain rfl : k = n := by omega
      have QT : Hid (Q = decide ((freeS E k).length = 1)) := GD.out HA.out
      generalize (freeS E k).length = m at *
      go_wp2
      go_ret
      refine ⟨ret_bool ?_, bTrans B0.out BK.out⟩
      rw [QT.out]
      first | rfl | (rw [Bool.eq_iff_iff]; simp; done) | (rw [Bool.eq_iff_iff]; simp; omega)
end Go.Proofs.YtkhcphkdcjimiaaGreat
namespace Go.Proofs.YtkhcphkdcjimiaaGreat
open Go.RowKit
set_option linter.unusedVariables false
set_option linter.unusedSimpArgs false
set_option maxRecDepth 20000 in
set_option maxHeartbeats 1000000 in
/-- sameArray. -/
theorem same_arr {s d s' d' : List Int} {w : World} {v u : Value} (h : ArrI w v s d) (k : ArrI w u s' d') (hs : s.length ≤ 1048576) (hd : d.length ≤ 1048576) :
    Calls Tryz.prog 18 #[v, u] w fun e w' => e = .returned (.bool (decide (s = s') && decide (d = d'))) ∧ Below w.heap.size w w' := by
  obtain ⟨a, c, b, e, rfl, h1, h2, _, _⟩ := h
  obtain ⟨a', c', b', e', rfl, k1, k2, _, _⟩ := k
  have H1 : Hid (Ints w a s) := h1
  have H2 : Hid (Ints w b d) := h2
  have K1 : Hid (Ints w a' s') := k1
  have K2 : Hid (Ints w b' d') := k2
  have HS : Hid (s.length ≤ 4611686018427387904) := by show _ ≤ _; omega
  have HD : Hid (d.length ≤ 4611686018427387904) := by show _ ≤ _; omega
  clear h1 h2 k1 k2 hs hd
  generalize hp : decide (s = s') = p
  generalize hq : decide (d = d') = q
  have HP : Hid (decide (s = s') = p) := hp
  have HQ : Hid (decide (d = d') = q) := hq
  clear hp hq
  go_enter Tryz.func18, Tryz.ntmps18
  go_wp2_with fail
  refine (same_ints c c' HS.out ((H1.out.alloc _).alloc _) ((K1.out.alloc _).alloc _)).mono ?_
  rintro r w1 ⟨rfl, j, hw⟩
  have HB : Hid (Below w.heap.size w w1) := by rw [hw]; exact bDrewN (bAlloc (bAlloc (Below.refl _ _) _) _) j
  have r1 : w1.cell? ⟨w.heap.size, 1, none⟩ = some (.slice b d.length e) := by rw [hw]; show World.cell? _ _ = _; simp [World.cell?_drewN]
  have r2 : w1.cell? ⟨w.heap.size + 1, 1, none⟩ = some (.slice b' d'.length e') := by rw [hw]; show World.cell? _ _ = _; simp [World.cell?_drewN]
  clear hw j
  rw [HP.out]
  cases p
  · go_wp2
    go_ret
    exact ⟨rfl, HB.out⟩
  · go_wp2_with fail
    refine (same_ints e e' HD.out (H2.out.keep HB.out) (K2.out.keep HB.out)).mono ?_
    rintro r w2 ⟨rfl, j, hw⟩
    have HB2 : Hid (Below w.heap.size w w2) := by rw [hw]; exact bDrewN HB.out j
    clear hw j
    rw [HQ.out]
    cases q
    · go_wp2
      go_ret
      exact ⟨rfl, HB2.out⟩
    · go_wp2
      go_ret
      exact ⟨rfl, HB2.out⟩
end Go.Proofs.YtkhcphkdcjimiaaGreat
namespace Go.Proofs.YtkhcphkdcjimiaaGreat
open Go.RowKit
set_option linter.unusedVariables false
set_option linter.unusedSimpArgs false
/-- Letters none of which is set, anywhere. -/
def VNone (w : World) (a : Option Addr) : Prop :=
  ∃ o off, a = some ⟨o, off, none⟩ ∧ o < w.heap.size ∧ ∀ i, i < 26 → w.cell? ⟨o, off + i * 3, none⟩ = some (.bool false) ∧ w.cell? ⟨o, off + i * 3 + 1, none⟩ = some (.slice none 0 0) ∧ w.cell? ⟨o, off + i * 3 + 2, none⟩ = some (.slice none 0 0)
theorem VNone.keep {w w' : World} {a : Option Addr} (h : VNone w a) (hb : Below w.heap.size w w') : VNone w' a := by
  obtain ⟨o, off, e, ho, h⟩ := h
  refine ⟨o, off, e, Nat.lt_of_lt_of_le ho hb.size, fun i hi => ?_⟩
  obtain ⟨h1, h2, h3⟩ := h i hi
  exact ⟨(hb.cell (p := ⟨o, off + i * 3, none⟩) ho).trans h1, (hb.cell (p := ⟨o, off + i * 3 + 1, none⟩) ho).trans h2, (hb.cell (p := ⟨o, off + i * 3 + 2, none⟩) ho).trans h3⟩
theorem VarB.vnone {w : World} {o : Nat} (h : VarB w o (fun _ => false)) : VNone w (some ⟨o, 0, none⟩) := by
  refine ⟨o, 0, rfl, h.lt, fun i hi => ?_⟩
  have h1 := h.c0 hi
  have h2 := h.c1 hi
  have h3 := h.c2 hi
  simp only [Nat.zero_add]
  exact ⟨h1, h2, h3⟩
theorem ints_none (w : World) : IntsI w (.slice none 0 0) [] := ⟨none, 0, rfl, by simp, .inl rfl⟩
theorem VNone.varsI {w : World} {a : Option Addr} {c : Nat} (h : VNone w a) : VarsI w (.slice a 26 c) 26 (fun _ => false) (fun _ => []) (fun _ => []) := by
  obtain ⟨o, off, rfl, ho, h⟩ := h
  refine ⟨_, c, rfl, .inr ⟨o, off, fun _ => .slice none 0 0, fun _ => .slice none 0 0, rfl, ho, fun i hi => ?_⟩⟩
  obtain ⟨h1, h2, h3⟩ := h i hi
  exact ⟨h1, h2, h3, ints_none _, ints_none _⟩
/-- The words of memory of letters none of which is set. -/
def noneL : List Value := (List.range 78).map fun j => if j % 3 = 0 then Value.bool false else .slice none 0 0
theorem noneL_len : noneL.length = 78 := by simp [noneL]
theorem noneL_at {j : Nat} (h : j < 78) : noneL[j]? = some (if j % 3 = 0 then Value.bool false else .slice none 0 0) := by
  unfold noneL
  rw [List.getElem?_map, List.getElem?_range h]
  rfl
theorem noneL_one : ∀ u ∈ noneL, u.oneCell' = true := by
  intro u hu
  simp only [noneL, List.mem_map, List.mem_range] at hu
  obtain ⟨j, _, rfl⟩ := hu
  split <;> rfl
theorem clone_run {w : World} {o : Nat} (h : VarB w o (fun _ => false)) :
    ∃ g c w', (∀ ty, (Builtin.append_ #[24, 24] ty #[.slice (some ⟨w.heap.size, 0, none⟩) 0 0, .slice (some ⟨o, 0, none⟩) 26 26]).run Tryz.prog (w.alloc (.cells #[] 41)) = .ok (.slice (some ⟨g, 0, none⟩) 26 c) w') ∧ VNone w' (some ⟨g, 0, none⟩) ∧ w.heap.size ≤ g ∧ Below w.heap.size w w' := by
  obtain ⟨i, hq, z1, z2, z3⟩ : ∃ i, Tryz.prog.info? 41 = some i ∧ i.zero = some (.agg #[.bool false, .slice none 0 0, .slice none 0 0]) ∧ i.size = 3 ∧ i.bytes = 56 := by
    have hi := info_var
    cases hq : Tryz.prog.info? 41 with
    | none => rw [hq] at hi; cases hi
    | some i => rw [hq] at hi; simp at hi; exact ⟨i, rfl, hi.1, hi.2.1, hi.2.2⟩
  have hBw := bAlloc (Below.refl w.heap.size w) (.cells #[] 41)
  have hown : (w.alloc (.cells #[] 41)).ownsRow w.heap.size 41 3 (.slice (some ⟨w.heap.size, 0, none⟩) 0 0) 0 [] := ⟨rfl, .inr ⟨w.heap.size, 0, #[], rfl, Nat.le_refl _, heap_alloc_new w _, by simp, by unfold maxLen; omega, rfl, rfl⟩⟩
  have hV := h.keep hBw
  generalize w.alloc (.cells #[] 41) = V at *
  have hnew : ∀ (j : Nat) (u : Value), noneL[j]? = some u → V.cell? ((⟨o, 0, none⟩ : Addr).add j) = some u := by
    intro j u hu
    have e : (⟨o, 0, none⟩ : Addr).add j = ⟨o, 0 + j, none⟩ := by unfold Addr.add; split <;> simp_all
    rw [e, Nat.zero_add]
    have hj : j < 78 := by have := (List.getElem?_eq_some_iff.1 hu).1; rwa [noneL_len] at this
    rw [noneL_at hj] at hu
    have c0 := hV.c0 (i := j / 3) (by omega)
    have c1 := hV.c1 (i := j / 3) (by omega)
    have c2 := hV.c2 (i := j / 3) (by omega)
    have : j % 3 = 0 ∨ j % 3 = 1 ∨ j % 3 = 2 := by omega
    rcases this with h | h | h
    · rw [if_pos h] at hu
      rw [show j / 3 * 3 = j by omega] at c0
      rw [← hu]; exact c0
    · rw [if_neg (by omega)] at hu
      rw [show j / 3 * 3 + 1 = j by omega] at c1
      rw [← hu]; exact c1
    · rw [if_neg (by omega)] at hu
      rw [show j / 3 * 3 + 2 = j by omega] at c2
      rw [← hu]; exact c2
  obtain ⟨v', w', hr, h2, h3, _, _⟩ := run_append_own_at (P := Tryz.prog) V w.heap.size 24 24 41 i _ 3 56 Tryz.underlying24 hq z1 z2 z3 rfl (by decide) _ 0 [] hown ⟨o, 0, none⟩ 26 26 noneL noneL_len hnew noneL_one (by unfold maxLen; omega) (by omega) hBw.size
  have hr' : ∀ ty, (Builtin.append_ #[24, 24] ty #[.slice (some ⟨w.heap.size, 0, none⟩) 0 0, .slice (some ⟨o, 0, none⟩) 26 26]).run Tryz.prog V = .ok v' w' := fun ty => hr
  have hb : Below w.heap.size w w' := hBw.trans (grown_below h3 (fun k e => by cases e; exact Nat.le_refl _) hBw.size)
  rcases h2.2 with ⟨_, h0⟩ | ⟨g, cap, cur, rfl, hB, hg, _, _, _, ht⟩
  · exact absurd h0 (by decide)
  · refine ⟨g, cap, w', hr', ⟨g, 0, rfl, lt_of_heapA hg, fun i hi => ?_⟩, hB, hb⟩
    have e : ∀ j, j < 78 → cur[j]? = noneL[j]? := fun j hj => by
      have h3 : (cur.toList.take ((0 + 26) * 3))[j]? = ([] ++ noneL)[j]? := by rw [ht]
      rw [List.getElem?_take_of_lt (by omega)] at h3
      simpa using h3
    simp only [Nat.zero_add]
    refine ⟨cell_at hg ?_, cell_at hg ?_, cell_at hg ?_⟩
    · rw [e _ (by omega), noneL_at (by omega), if_pos (by omega)]
    · rw [e _ (by omega), noneL_at (by omega), if_neg (by omega)]
    · rw [e _ (by omega), noneL_at (by omega), if_neg (by omega)]
set_option maxRecDepth 20000 in
set_option maxHeartbeats 4000000 in
/-- slices.Clone of letters none of which is set. -/
theorem clone_impl {w : World} {o : Nat} (h : VarB w o (fun _ => false)) :
    Calls Tryz.prog 11 #[.slice (some ⟨o, 0, none⟩) 26 26] w fun e w' => ∃ g c, e = .returned (.slice (some ⟨g, 0, none⟩) 26 c) ∧ VNone w' (some ⟨g, 0, none⟩) ∧ w.heap.size ≤ g ∧ Below w.heap.size w w' := by
  obtain ⟨g, c, w1, r1, v1, hg, b1⟩ := clone_run h
  have V1 : Hid (VNone w1 (some ⟨g, 0, none⟩) ∧ w.heap.size ≤ g ∧ Below w.heap.size w w1) := ⟨v1, hg, b1⟩
  have NN : ∀ W : World, (binOp .eql 24 (.slice (some ⟨o, 0, none⟩) 26 26) (.slice none 0 0)).run Tryz.prog W = .ok (.bool false) W := fun W => Lib.run_eql_slice_some_nil W _ 26 26 Tryz.underlying24
  clear h v1 hg b1
  have R1 : Hid (∀ ty, (Builtin.append_ #[24, 24] ty #[.slice (some ⟨w.heap.size, 0, none⟩) 0 0, .slice (some ⟨o, 0, none⟩) 26 26]).run Tryz.prog (w.alloc (.cells #[] 41)) = .ok (.slice (some ⟨g, 0, none⟩) 26 c) w1) := r1
  clear r1
  go_enter Tryz.func11, Tryz.ntmps11
  go_wp2_with (at_builtin; refine wpList_append_ty rfl _ _ 24 24 rfl _ _ _ rfl rfl (R1.out _) ?_)
  go_ret
  exact ⟨g, c, rfl, V1.out⟩
set_option maxRecDepth 20000 in
set_option maxHeartbeats 4000000 in
/-- nodeOf of a name. -/
theorem nodeOf_name (k e2 e3 e4 e5 : Int) (x : Value) (w : World) :
    Calls Tryz.prog 14 #[.agg #[.int .i64 2, .int .i64 k, .int .i64 e2, .int .i64 e3, .int .i64 e4, .int .i64 e5, x]] w fun e w' => e = .returned (.iface 63 (.agg #[.int .i64 k])) ∧ Below w.heap.size w w' := by
  go_enter Tryz.func14, Tryz.ntmps14
  go_wp2
  go_ret
  exact ⟨rfl, bAlloc (Below.refl _ _) _⟩
set_option maxRecDepth 20000 in
set_option maxHeartbeats 4000000 in
/-- A name takes none. -/
theorem takes_name (k : Int) (w : World) :
    Calls Tryz.prog 194 #[.agg #[.int .i64 k]] w fun e w' => e = .returned (.slice none 0 0) ∧ Below w.heap.size w w' := by
  go_enter Tryz.func194, Tryz.ntmps194
  go_wp2
  go_ret
  exact ⟨rfl, bAlloc (Below.refl _ _) _⟩
set_option maxRecDepth 20000 in
set_option maxHeartbeats 4000000 in
/-- A letter that is not set has no value. -/
theorem valueOf_none {w : World} {a : Option Addr} {c : Nat} (h : VNone w a) (k : Nat) (hk : k < 26) :
    Calls Tryz.prog 22 #[.slice a 26 c, .int .i64 (k : Int)] w fun e w' => e = .returned (.tuple #[.agg #[.slice none 0 0, .slice none 0 0], .int .i64 7]) ∧ Below w.heap.size w w' := by
  obtain ⟨o, off, rfl, ho, h⟩ := h
  obtain ⟨p0, p1, p2⟩ := h k hk
  have HO : Hid (o < w.heap.size) := ho
  have d0 : ∀ O : Obj, (w.alloc O).cell? ⟨o, off + k * 3, none⟩ = some (.bool false) := fun O => ((bAlloc (Below.refl w.heap.size w) O).cell (p := ⟨o, off + k * 3, none⟩) HO.out).trans p0
  have d1 : ∀ O : Obj, (w.alloc O).cell? ⟨o, off + k * 3 + 1, none⟩ = some (.slice none 0 0) := fun O => ((bAlloc (Below.refl w.heap.size w) O).cell (p := ⟨o, off + k * 3 + 1, none⟩) HO.out).trans p1
  have d2 : ∀ O : Obj, (w.alloc O).cell? ⟨o, off + k * 3 + 2, none⟩ = some (.slice none 0 0) := fun O => ((bAlloc (Below.refl w.heap.size w) O).cell (p := ⟨o, off + k * 3 + 2, none⟩) HO.out).trans p2
  have HR : Hid (((w.alloc (.cells #[.slice none 0 0, .slice none 0 0] 29)).alloc (.cells #[.bool false, .slice none 0 0, .slice none 0 0] 41)).heap[w.heap.size]? = some (.cells #[.slice none 0 0, .slice none 0 0] 29 (0, 0))) := by
    show _ = _
    rw [(bAlloc (Below.refl _ (w.alloc (.cells #[.slice none 0 0, .slice none 0 0] 29))) _).block w.heap.size (by simp)]
    exact heap_alloc_new w _
  clear h ho p0 p1 p2
  go_enter Tryz.func22, Tryz.ntmps22
  go_wp2
  refine bodyPost_ret (results_arr_tmp Tryz.results22 _ _ w.heap.size _ _ rfl HR.out) rfl ?_
  exact ⟨rfl, bAlloc (bAlloc (Below.refl _ _) _) _⟩
end Go.Proofs.YtkhcphkdcjimiaaGreat
namespace Go.Proofs.YtkhcphkdcjimiaaGreat
open Go.RowKit
set_option linter.unusedVariables false
set_option linter.unusedSimpArgs false
set_option maxRecDepth 20000 in
set_option maxHeartbeats 4000000 in
/-- Two lists of the same letters. -/
theorem sameVars_same {w : World} {v u : Value} {n : Nat} {B : Nat → Bool} {S D : Nat → List Int} (h : VarsI w v n B S D) (k : VarsI w u n B S D) (hl : ∀ i, (S i).length ≤ 1048576 ∧ (D i).length ≤ 1048576) (hn : n ≤ 1048576) :
    Calls Tryz.prog 9 #[v, u] w fun e w' => e = .returned (.bool true) ∧ Below w.heap.size w w' := by
  have H : Hid (VarsI w v n B S D) := h
  have K : Hid (VarsI w u n B S D) := k
  have HL : Hid (∀ i, (S i).length ≤ 1048576 ∧ (D i).length ≤ 1048576) := hl
  obtain ⟨a, c, rfl, _⟩ := h
  obtain ⟨a', c', rfl, _⟩ := k
  clear hl
  go_enter Tryz.func9, Tryz.ntmps9
  go_wp2
  go_loopw [5] (fun i w' => ∃ k : Nat, k ≤ n ∧ i = .int .i64 (k : Int) ∧ Below w.heap.size w w') (fun i _ => n - (intOf i).toNat)
  case atStart => exact ⟨0, by omega, rfl, Below.refl _ _⟩
  case round =>
    obtain ⟨k, hk, rfl, hb⟩ := hrel
    have HB : Hid (Below w.heap.size w wr) := hb
    clear hb
    by_cases hlt : (k : Int) < (n : Int)
    · have L : k < n := by omega
      obtain ⟨o, off, xa, xc, ya, yc, rfl, ho, p0, p1, p2, ar⟩ := (H.out.keep HB.out).at L
      obtain ⟨o', off', xa', xc', ya', yc', rfl, ho', q0, q1, q2, ar'⟩ := (K.out.keep HB.out).at L
      have SA : Hid (∀ W, Below wr.heap.size wr W → Calls Tryz.prog 18 #[.agg #[.slice xa (S k).length xc, .slice ya (D k).length yc], .agg #[.slice xa' (S k).length xc', .slice ya' (D k).length yc']] W fun e w' => e = .returned (.bool true) ∧ Below W.heap.size W w') := fun W hb => by
        have := same_arr (ar.keep hb) (ar'.keep hb) (HL.out k).1 (HL.out k).2
        simpa using this
      have HO : Hid (o < wr.heap.size ∧ o' < wr.heap.size) := ⟨ho, ho'⟩
      clear ar ar' ho ho'
      generalize (S k).length = s at *
      generalize (D k).length = d at *
      generalize B k = b at *
      have hbb : (b != b) = false := by simp
      have SK : Hid (∀ W, Below wr.heap.size wr W → W.cell? ⟨o, off + k * 3, none⟩ = some (.bool b) ∧ W.cell? ⟨o, off + k * 3 + 1, none⟩ = some (.slice xa s xc) ∧ W.cell? ⟨o, off + k * 3 + 2, none⟩ = some (.slice ya d yc) ∧ W.cell? ⟨o', off' + k * 3, none⟩ = some (.bool b) ∧ W.cell? ⟨o', off' + k * 3 + 1, none⟩ = some (.slice xa' s xc') ∧ W.cell? ⟨o', off' + k * 3 + 2, none⟩ = some (.slice ya' d yc')) := fun W hb =>
        ⟨(hb.cell (p := ⟨o, off + k * 3, none⟩) HO.out.1).trans p0, (hb.cell (p := ⟨o, off + k * 3 + 1, none⟩) HO.out.1).trans p1, (hb.cell (p := ⟨o, off + k * 3 + 2, none⟩) HO.out.1).trans p2, (hb.cell (p := ⟨o', off' + k * 3, none⟩) HO.out.2).trans q0, (hb.cell (p := ⟨o', off' + k * 3 + 1, none⟩) HO.out.2).trans q1, (hb.cell (p := ⟨o', off' + k * 3 + 2, none⟩) HO.out.2).trans q2⟩
      go_wp2_with fail
      go_region_held3 (fun w' => w'.cell? ⟨o, off + k * 3, none⟩ = some (.bool b) ∧ w'.cell? ⟨o, off + k * 3 + 1, none⟩ = some (.slice xa s xc) ∧ w'.cell? ⟨o, off + k * 3 + 2, none⟩ = some (.slice ya d yc) ∧ w'.cell? ⟨o', off' + k * 3, none⟩ = some (.bool b) ∧ w'.cell? ⟨o', off' + k * 3 + 1, none⟩ = some (.slice xa' s xc') ∧ w'.cell? ⟨o', off' + k * 3 + 2, none⟩ = some (.slice ya' d yc'))
        ((refine SK.out _ ?_; (repeat first | with_reducible exact HB2.out | with_reducible exact Below.refl _ _ | with_reducible refine Below.drew ?_)))
        ((go_at_call 18; refine (SA.out _ ((Below.refl wr.heap.size wr).drew)).mono ?_; rintro r w2 ⟨rfl, hb⟩; have HB2 : Hid (Below wr.heap.size wr w2) := bTrans ((Below.refl wr.heap.size wr).drew) hb; clear hb))
      all_goals
        go_wp2
        go_roundw
        case rel => exact ⟨k + 1, by omega, by go_num, bTrans HB.out HB2.out⟩
        case measure => simp [intOf]; omega
    · go_wp2
      go_ret
      exact ⟨rfl, HB.out⟩
theorem is_name (v : Value) (W : World) : (Instr.typeAssert (.iface 63 v) 51 63 true).run Tryz.prog W = .ok (.tuple #[v, .bool true]) W := by kernel_rfl
set_option maxRecDepth 20000 in
set_option maxHeartbeats 4000000 in
/-- A name's node is done: its letter is not set. -/
theorem do_name {w : World} {r g c : Nat} {x : Value} (hr : w.heap[r]? = some (.cells #[.slice (some ⟨g, 0, none⟩) 26 c, x] 47 (0, 0))) (h : VNone w (some ⟨g, 0, none⟩)) (k : Nat) (hk : k < 26) :
    Calls Tryz.prog 13 #[.pointer (some ⟨r, 0, none⟩), .iface 63 (.agg #[.int .i64 (k : Int)])] w fun e w' => e = .returned (.tuple #[.agg #[.slice none 0 0, .slice none 0 0], .int .i64 7]) ∧ Below w.heap.size w w' := by
  have HV : Hid (VNone w (some ⟨g, 0, none⟩)) := h
  have HR : Hid (w.heap[r]? = some (.cells #[.slice (some ⟨g, 0, none⟩) 26 c, x] 47 (0, 0))) := hr
  have hta := is_name
  clear h hr
  go_enter Tryz.func13, Tryz.ntmps13
  go_wp2_with fail
  refine (takes_name _ _).mono ?_
  rintro e w2 ⟨rfl, hb⟩
  have B2 : Hid (Below w.heap.size w w2) := bTrans (bAlloc (Below.refl _ _) _) hb
  have Z2 : Hid (w2.heap[w.heap.size]? = some (.cells #[.slice none 0 0, .slice none 0 0] 29 (0, 0))) := by
    show _ = _
    rw [hb.block w.heap.size (by simp)]
    exact heap_alloc_new w _
  clear hb
  go_wp2
  refine wp_loop_rounds 1 ?_
  rw [rounds_succ]
  go_wp2_with fail
  generalize hW : w2.alloc (.cells #[.int .i64 (k : Int)] 63) = w3
  have B3 : Hid (Below w2.heap.size w2 w3) := by rw [← hW]; exact bAlloc (Below.refl _ _) _
  have n0 : w3.cell? ⟨w2.heap.size, 0, none⟩ = some (.int .i64 (k : Int)) := by rw [← hW]; exact cell_at (heap_alloc_new w2 _) rfl
  have HL : Hid (w2.heap.size < w3.heap.size) := by rw [← hW]; show _ < _; simp
  have Z3 : Hid (w3.heap[w.heap.size]? = some (.cells #[.slice none 0 0, .slice none 0 0] 29 (0, 0))) := by show _ = _; rw [B3.out.block _ (lt_of_heapA Z2.out)]; exact Z2.out
  have R3 : Hid (w3.heap[r]? = some (.cells #[.slice (some ⟨g, 0, none⟩) 26 c, x] 47 (0, 0))) := by
    show _ = _
    have h1 : w2.heap[r]? = w.heap[r]? := B2.out.block r (lt_of_heapA HR.out)
    rw [B3.out.block r (lt_of_heapA (h1.trans HR.out)), h1]
    exact HR.out
  have r0 : w3.cell? ⟨r, 0, none⟩ = some (.slice (some ⟨g, 0, none⟩) 26 c) := cell_at R3.out rfl
  have T3 : Hid (Below w.heap.size w w3) := B2.out.trans (B3.out.mono B2.out.size)
  have VO : Hid (∀ W, Below w3.heap.size w3 W → Calls Tryz.prog 22 #[.slice (some ⟨g, 0, none⟩) 26 c, .int .i64 (k : Int)] W fun e w' => e = .returned (.tuple #[.agg #[.slice none 0 0, .slice none 0 0], .int .i64 7]) ∧ Below W.heap.size W w') := fun W hb => valueOf_none (HV.out.keep (T3.out.trans (hb.mono T3.out.size))) k hk
  have SK : Hid (∀ W, Below w3.heap.size w3 W → W.cell? ⟨r, 0, none⟩ = some (.slice (some ⟨g, 0, none⟩) 26 c) ∧ W.cell? ⟨w2.heap.size, 0, none⟩ = some (.int .i64 (k : Int))) := fun W hb => ⟨(hb.cell (p := ⟨r, 0, none⟩) (lt_of_heapA R3.out)).trans r0, (hb.cell (p := ⟨w2.heap.size, 0, none⟩) HL.out).trans n0⟩
  have ZK : Hid (∀ W, Below w3.heap.size w3 W → W.heap[w.heap.size]? = some (.cells #[.slice none 0 0, .slice none 0 0] 29 (0, 0))) := fun W hb => (hb.block _ (lt_of_heapA Z3.out)).trans Z3.out
  have NE : Hid (r ≠ w.heap.size ∧ w2.heap.size ≠ w.heap.size) := ⟨by have := lt_of_heapA HR.out; omega, by have := lt_of_heapA Z2.out; omega⟩
  clear hW
  go_region_held3 (fun w' => w'.cell? ⟨r, 0, none⟩ = some (.slice (some ⟨g, 0, none⟩) 26 c) ∧ w'.cell? ⟨w2.heap.size, 0, none⟩ = some (.int .i64 (k : Int)))
    ((first | (refine SK.out _ ?_; (repeat first | with_reducible exact HB4.out | with_reducible exact Below.refl _ _ | with_reducible refine Below.drew ?_); done) | exact ⟨(cell_off NE.out.1).trans ((cell_off NE.out.1).trans (SK.out _ HB4.out).1), (cell_off NE.out.2).trans ((cell_off NE.out.2).trans (SK.out _ HB4.out).2)⟩))
    ((go_at_call 22; refine (VO.out _ ((Below.refl w3.heap.size w3).drew)).mono ?_; rintro rr w4 ⟨rfl, hb⟩; have HB4 : Hid (Below w3.heap.size w3 w4) := bTrans ((Below.refl w3.heap.size w3).drew) hb; have zc0 : w4.cell? ⟨w.heap.size, 0, none⟩ = some (.slice none 0 0) := cell_at (ZK.out _ HB4.out) rfl; have zc1 : w4.cell? ⟨w.heap.size, 1, none⟩ = some (.slice none 0 0) := cell_at (ZK.out _ HB4.out) rfl; have zf0 : w4.frozen? ⟨w.heap.size, 0, none⟩ = false := free_at (ZK.out _ HB4.out) _; have zf1 : w4.frozen? ⟨w.heap.size, 1, none⟩ = false := free_at (ZK.out _ HB4.out) _; clear hb))
  all_goals
    go_wp2
    refine bodyPost_ret (results_arr_tmp Tryz.results13 _ _ w.heap.size _ _ rfl (arr_stored (ZK.out _ HB4.out))) rfl ?_
    exact ⟨rfl, below_setCell (below_setCell (T3.out.trans (HB4.out.mono T3.out.size)) (Nat.le_refl _) _ _) (Nat.le_refl _) _ _⟩
theorem results_arr_3 {fn : Func} {p u v x : Tmp} (h : fn.results = #[.cell p 29, .tmp u, .tmp v, .tmp x]) (tmps : Array Value) (w : World) (g : Nat) (y z : Value) (hp : tmps.getD p undef = .pointer (some ⟨g, 0, none⟩))
    (hg : w.heap[g]? = some (.cells #[y, z] 29 (0, 0))) : (results fn tmps).run Tryz.prog w = .ok (.tuple #[.agg #[y, z], tmps.getD u undef, tmps.getD v undef, tmps.getD x undef]) w := by
  have e : (asAddr (.pointer (some ⟨g, 0, none⟩))).run Tryz.prog w = .ok ⟨g, 0, none⟩ w := by simp [asAddr]
  have l := arr_loaded hg
  have hp' : tmps[p]?.getD undef = .pointer (some ⟨g, 0, none⟩) := by simpa using hp
  simp [results, h, hp', e, l, Sem.run_bind, Result.andThen]
/-- The numbers of the tree that is one name. -/
def nameE (k : Nat) : Nat → Nat → Int := fun _ j => if j = 0 then 2 else if j = 1 then (k : Int) else 0
theorem name_tree {k : Nat} (hk : k < 26) : treeB 1 (nameE k) (fun _ => []) = true := by
  refine treeB_true ⟨by omega, by omega, fun i hi => ?_, ?_⟩
  · obtain rfl : i = 0 := by omega
    refine ⟨?_, rfl⟩
    have h : (0 : Int) ≤ (k : Int) ∧ (k : Int) ≤ 25 := by omega
    show (if (2 : Int) = 1 then _ else if (2 : Int) = 2 then decide (0 ≤ (k : Int) ∧ (k : Int) ≤ 25) && decide ((0 : Int) = 0) && noFun 0 0 0 && decide (([] : List Int).length = 0) else _) = true
    rw [if_neg (by decide), if_pos rfl, decide_eq_true h]
    rfl
  · rfl
theorem none_vars : varsB 26 (fun _ => false) (fun _ => []) (fun _ => []) = true := varsB_good fun i hi => by simp [varB]
set_option maxRecDepth 20000 in
set_option maxHeartbeats 4000000 in
/-- Eval of a tree that is one name, whose letter is not set. -/
theorem eval_name {w : World} {b o k : Nat} (hk : k < 26) (hb : w.heap[b]? = some (.cells #[.int .i64 2, .int .i64 (k : Int), .int .i64 0, .int .i64 0, .int .i64 0, .int .i64 0, .slice none 0 0] 35 (0, 0))) (hv : VarB w o (fun _ => false)) :
    Calls Tryz.prog 7 #[.agg #[.slice (some ⟨b, 0, none⟩) 1 1], .slice (some ⟨o, 0, none⟩) 26 26, .int .i64 2] w fun e w' => ∃ o', e = .returned (.tuple #[.agg #[.slice none 0 0, .slice none 0 0], .slice (some ⟨o', 0, none⟩) 26 26, .int .i64 7, .int .i64 1]) ∧ VarsI w' (.slice (some ⟨o', 0, none⟩) 26 26) 26 (fun _ => false) (fun _ => []) (fun _ => []) ∧ Below w.heap.size w w' := by
  have HV : Hid (VarB w o (fun _ => false)) := hv
  have HB : Hid (w.heap[b]? = some (.cells #[.int .i64 2, .int .i64 (k : Int), .int .i64 0, .int .i64 0, .int .i64 0, .int .i64 0, .slice none 0 0] 35 (0, 0))) := hb
  have HE : Hid (ExprsI w (.slice (some ⟨b, 0, none⟩) 1 1) 1 (nameE k) (fun _ => [])) := ⟨_, 1, rfl, .inr ⟨b, 0, fun _ => .slice none 0 0, rfl, lt_of_heapA hb, fun i hi => by
    obtain rfl : i = 0 := by omega
    exact ⟨⟨cell_at hb rfl, cell_at hb rfl, cell_at hb rfl, cell_at hb rfl, cell_at hb rfl, cell_at hb rfl, cell_at hb rfl⟩, ints_none w⟩⟩⟩
  have CT : Hid (∀ W, Below w.heap.size w W → Calls Tryz.prog 10 #[.agg #[.slice (some ⟨b, 0, none⟩) 1 1]] W fun r w' => r = .returned (.bool true) ∧ Below W.heap.size W w') := fun W h => by
    have := treeOk_impl (HE.out.keep h) (fun _ => by simp) (by omega)
    rw [name_tree hk] at this
    exact this
  have CV : Hid (∀ W, Below w.heap.size w W → Calls Tryz.prog 8 #[.slice (some ⟨o, 0, none⟩) 26 26] W fun r w' => r = .returned (.bool true) ∧ Below W.heap.size W w') := fun W h => by
    have := varsOk_impl ((HV.out.keep h).vnone.varsI (c := 26)) (fun _ => by simp) (by omega)
    rw [none_vars] at this
    exact this
  clear hv hb
  go_enter Tryz.func7, Tryz.ntmps7
  go_wp2_with fail
  refine (CT.out _ (bAlloc (bAlloc (Below.refl _ _) _) _)).mono ?_
  rintro e w1 ⟨rfl, hb⟩
  have B1 : Hid (Below w.heap.size w w1) := bTrans (bAlloc (bAlloc (Below.refl _ _) _) _) hb
  have x1 : w1.heap[w.heap.size]? = some (.cells #[.slice (some ⟨b, 0, none⟩) 1 1] 38 (0, 0)) := by
    rw [hb.block w.heap.size (by simp; omega), (bAlloc (Below.refl _ (w.alloc (.cells #[.slice (some ⟨b, 0, none⟩) 1 1] 38))) _).block w.heap.size (by simp)]
    exact heap_alloc_new w _
  have z1 : w1.heap[w.heap.size + 1]? = some (.cells #[.slice none 0 0, .slice none 0 0] 29 (0, 0)) := by
    rw [hb.block (w.heap.size + 1) (by simp)]
    have := heap_alloc_new (w.alloc (.cells #[.slice (some ⟨b, 0, none⟩) 1 1] 38)) (.cells #[.slice none 0 0, .slice none 0 0] 29)
    simpa using this
  have X1 : Hid (w1.heap[w.heap.size]? = some (.cells #[.slice (some ⟨b, 0, none⟩) 1 1] 38 (0, 0)) ∧ w1.heap[w.heap.size + 1]? = some (.cells #[.slice none 0 0, .slice none 0 0] 29 (0, 0))) := ⟨x1, z1⟩
  clear hb x1 z1
  go_wp2_with fail
  refine (CV.out _ B1.out).mono ?_
  rintro e w2 ⟨rfl, hb⟩
  have B2 : Hid (Below w.heap.size w w2) := bTrans B1.out hb
  have X2 : Hid (w2.heap[w.heap.size]? = some (.cells #[.slice (some ⟨b, 0, none⟩) 1 1] 38 (0, 0)) ∧ w2.heap[w.heap.size + 1]? = some (.cells #[.slice none 0 0, .slice none 0 0] 29 (0, 0))) := ⟨(hb.block _ (lt_of_heapA X1.out.1)).trans X1.out.1, (hb.block _ (lt_of_heapA X1.out.2)).trans X1.out.2⟩
  clear hb X1
  go_wp2_with fail
  refine (clone_impl (HV.out.keep B2.out)).mono ?_
  rintro e w3 ⟨g, c, rfl, hn, hg, hb⟩
  have B3 : Hid (Below w.heap.size w w3) := bTrans B2.out hb
  have N3 : Hid (VNone w3 (some ⟨g, 0, none⟩)) := hn
  have X3 : Hid (w3.heap[w.heap.size]? = some (.cells #[.slice (some ⟨b, 0, none⟩) 1 1] 38 (0, 0)) ∧ w3.heap[w.heap.size + 1]? = some (.cells #[.slice none 0 0, .slice none 0 0] 29 (0, 0))) := ⟨(hb.block _ (lt_of_heapA X2.out.1)).trans X2.out.1, (hb.block _ (lt_of_heapA X2.out.2)).trans X2.out.2⟩
  have d0 : ∀ O : Obj, (w3.alloc O).cell? ⟨w.heap.size, 0, none⟩ = some (.slice (some ⟨b, 0, none⟩) 1 1) := fun O => ((bAlloc (Below.refl w3.heap.size w3) O).cell (p := ⟨w.heap.size, 0, none⟩) (lt_of_heapA X3.out.1)).trans (cell_at X3.out.1 rfl)
  have E3 : w3.heap[b]? = some (.cells #[.int .i64 2, .int .i64 (k : Int), .int .i64 0, .int .i64 0, .int .i64 0, .int .i64 0, .slice none 0 0] 35 (0, 0)) := (B3.out.block _ (lt_of_heapA HB.out)).trans HB.out
  have q : ∀ (O : Obj) (j : Nat) (u : Value), #[Value.int .i64 2, .int .i64 (k : Int), .int .i64 0, .int .i64 0, .int .i64 0, .int .i64 0, .slice none 0 0][j]? = some u → (w3.alloc O).cell? ⟨b, j, none⟩ = some u := fun O j u h => ((bAlloc (Below.refl w3.heap.size w3) O).cell (p := ⟨b, j, none⟩) (lt_of_heapA E3)).trans (cell_at E3 h)
  have q0 := fun O => q O 0 _ rfl
  have q1 := fun O => q O 1 _ rfl
  have q2 := fun O => q O 2 _ rfl
  have q3 := fun O => q O 3 _ rfl
  have q4 := fun O => q O 4 _ rfl
  have q5 := fun O => q O 5 _ rfl
  have q6 := fun O => q O 6 _ rfl
  clear hb hn hg q E3
  go_wp2
  refine wp_loop_rounds 1 ?_
  rw [rounds_succ]
  go_wp2_with fail
  generalize hW : (w3.alloc (.cells #[.slice (some ⟨g, 0, none⟩) 26 c, .slice none 0 0] 47)).alloc (.cells #[.int .i64 2, .int .i64 (k : Int), .int .i64 0, .int .i64 0, .int .i64 0, .int .i64 0, .slice none 0 0] 35) = w4
  have B34 : Hid (Below w3.heap.size w3 w4) := by rw [← hW]; exact bAlloc (bAlloc (Below.refl _ _) _) _
  have R4 : Hid (w4.heap[w3.heap.size]? = some (.cells #[.slice (some ⟨g, 0, none⟩) 26 c, .slice none 0 0] 47 (0, 0))) := by
    show _ = _
    rw [← hW, (bAlloc (Below.refl _ (w3.alloc (.cells #[.slice (some ⟨g, 0, none⟩) 26 c, .slice none 0 0] 47))) _).block w3.heap.size (by simp)]
    exact heap_alloc_new w3 _
  have B4 : Hid (Below w.heap.size w w4) := B3.out.trans (B34.out.mono B3.out.size)
  have N4 : Hid (VNone w4 (some ⟨g, 0, none⟩)) := N3.out.keep B34.out
  have X4 : Hid (w4.heap[w.heap.size + 1]? = some (.cells #[.slice none 0 0, .slice none 0 0] 29 (0, 0))) := (B34.out.block _ (lt_of_heapA X3.out.2)).trans X3.out.2
  clear hW d0 q0 q1 q2 q3 q4 q5 q6 X3 X2 N3
  refine (nodeOf_name _ _ _ _ _ _ _).mono ?_
  rintro e w5 ⟨rfl, hb⟩
  have B45 : Hid (Below w4.heap.size w4 w5) := hb
  clear hb
  go_wp2_with fail
  refine (do_name ((B45.out.block _ (lt_of_heapA R4.out)).trans R4.out) (N4.out.keep B45.out) k hk).mono ?_
  rintro e w6 ⟨rfl, hb⟩
  have B46 : Hid (Below w4.heap.size w4 w6) := B45.out.trans (hb.mono B45.out.size)
  have B6 : Hid (Below w.heap.size w w6) := B4.out.trans (B46.out.mono B4.out.size)
  have X6 : Hid (w6.heap[w.heap.size + 1]? = some (.cells #[.slice none 0 0, .slice none 0 0] 29 (0, 0))) := (B46.out.block _ (lt_of_heapA X4.out)).trans X4.out
  clear hb
  go_wp2_with fail
  refine (copiedVars_impl ((HV.out.keep (bAlloc B6.out _)).vnone.varsI (c := 26)) (fun _ => by simp) (by omega)).mono ?_
  rintro e w7 ⟨o7, rfl, ho7, hv, hb⟩
  have B67 : Hid (Below w6.heap.size w6 w7) := bTrans (bAlloc (Below.refl _ _) _) hb
  have O7 : Hid (OwnVars o7 w7.heap.size 26 26 w7 (fun _ => false) (fun _ => []) (fun _ => [])) := hv
  have X7 : Hid (w7.heap[w.heap.size + 1]? = some (.cells #[.slice none 0 0, .slice none 0 0] 29 (0, 0))) := (B67.out.block _ (lt_of_heapA X6.out)).trans X6.out
  have H7 : Hid (w.heap.size + 1 + 1 ≤ o7) := by
    have h1 := lt_of_heapA X6.out
    have h2 : w6.heap.size ≤ (w6.alloc (.cells #[.slice none 0 0, .slice none 0 0] 29)).heap.size := by simp
    show _ ≤ _
    omega
  have B7 : Hid (Below w.heap.size w w7) := B6.out.trans (B67.out.mono B6.out.size)
  have zc0 : w7.cell? ⟨w.heap.size + 1, 0, none⟩ = some (.slice none 0 0) := cell_at X7.out rfl
  have zc1 : w7.cell? ⟨w.heap.size + 1, 1, none⟩ = some (.slice none 0 0) := cell_at X7.out rfl
  have zf0 : w7.frozen? ⟨w.heap.size + 1, 0, none⟩ = false := free_at X7.out _
  have zf1 : w7.frozen? ⟨w.heap.size + 1, 1, none⟩ = false := free_at X7.out _
  clear hb hv ho7
  go_wp2
  refine bodyPost_ret (results_arr_3 Tryz.results7 _ _ (w.heap.size + 1) _ _ rfl (arr_stored X7.out)) rfl ?_
  refine ⟨o7, rfl, ?_, below_setCell (below_setCell B7.out (by omega) _ _) (by omega) _ _⟩
  exact (O7.out.win ((win_setCell _ (w.heap.size + 1) _ _).trans (win_setCell _ (w.heap.size + 1) _ _)) (.inl H7.out)).list
end Go.Proofs.YtkhcphkdcjimiaaGreat
